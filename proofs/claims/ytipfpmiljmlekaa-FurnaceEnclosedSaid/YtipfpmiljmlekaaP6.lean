/- Texts of the proof, put together: GjEG4, GjEG5, AbsRngD, AbsRng, AbsRngR, AbsRngJ, GjTK3, GjEG6, GjEG7, GjEG8, AbsShort2, GjJEG9, GjJE1, GjJE2, GjEHA. -/
import Derived.Test.YtipfpmiljmlekaaP5
import Derived.Test.YtipfpmiljmlekaaP3
import Derived.Test.YtipfpmiljmlekaaP4
/- Chapter 2, heating: ranges of nodes, and whether they lie in a target, in data. -/
namespace Go.Proofs.G5j
open Go Go.Abs Go.Proofs Go.Proofs.G2
set_option maxRecDepth 100000
theorem vp_snoc {l : List (Int × Int)} {i : Nat} (h : i < l.length) : vp (l.take i) ++ [vI l[i].1, vI l[i].2] = vp (l.take (i + 1)) := by
  rw [List.take_succ_eq_append_getElem h]
  induction l.take i with
  | nil => rfl
  | cons p r ih => show vI p.1 :: vI p.2 :: (vp r ++ _) = vI p.1 :: vI p.2 :: vp (r ++ _); rw [ih]
theorem vp_tk {l : List (Int × Int)} {n : Nat} (h : l.length = n) : List.take (n * 2) (List.drop 0 (vp l)) = vp l := by subst h; exact vp_whole l
/-- an enclosure, in data -/
abbrev dEn (n0 : Nat) (l0 : List Value) (mi a b : Int) (lo hi : List Int) (bo : Int) : D := .agg [.sl n0 2 l0, dI mi, dI a, dI b, .sl lo.length 1 (vi lo), dI bo, .sl n0 2 l0, dI mi, dI a, dI b, .sl hi.length 1 (vi hi), dI bo]
theorem conrg (n0 : Nat) (l0 : List Value) (mi a b : Int) {lo hi : List Int} (h1 : 1 ≤ lo.length) (hh : hi.length = lo.length) (h3 : lo.length ≤ 1000) (bo : Int) : C5 44 [dEn n0 l0 mi a b lo hi bo] [.sl lo.length 2 (vp (lo.zip hi))] := by
  have hz : (lo.zip hi).length = lo.length := by rw [List.length_zip, hh, Nat.min_self]
  let inv : Nat × (Nat → Nat) → Prop := fun x => x.1 ≤ lo.length
  let st : Nat × (Nat → Nat) → Slots × Blocks := fun x => match x.1 with
    | 0 => zrg1 lo.length (x.2 501) lo.length ((0 : Nat) : Int) n0 (x.2 500) mi a b lo.length (x.2 501) bo n0 (x.2 502) mi a b hi.length (x.2 503) bo (vi lo) l0 l0 (vi hi)
    | i + 1 => zrg2 (i + 1) lo.length (x.2 501) lo.length ((i + 1 : Nat) : Int) n0 (x.2 500) mi a b lo.length (x.2 501) bo n0 (x.2 502) mi a b hi.length (x.2 503) bo (vp ((lo.zip hi).take (i + 1))) (vi lo) l0 l0 (vi hi)
  refine con_of (L := fun _ s b => ∃ x, inv x ∧ st x = (s, b)) hokZ mixed Try.func44 rfl (by show 4 ≤ 400; omega) rfl (ids := [0]) (by kernel_rfl) rfl (fun caps => ?_) (fun id hid => ?_)
  · show grg _ _ n0 (caps 500) l0 mi a b lo.length (caps 501) (vi lo) bo n0 (caps 502) l0 mi a b hi.length (caps 503) (vi hi) bo _
    rw [grg_text]
    exact ⟨(0, caps), Nat.zero_le _, rfl⟩
  · obtain rfl := List.mem_singleton.1 hid
    refine ⟨_, st, inv, fun x => lo.length - x.1, ⟨fun s b h => h, by kernel_rfl, ?_⟩⟩
    rintro ⟨i, c⟩ hi'
    have hi' : i ≤ lo.length := hi'
    cases i with
    | zero =>
      show rrg1 _ _ lo.length (c 501) lo.length ((0 : Nat) : Int) n0 (c 500) mi a b lo.length (c 501) bo n0 (c 502) mi a b hi.length (c 503) bo (vi lo) l0 l0 (vi hi) _ _ _
      rw [rrg1_text]
      have p0 : (0 : Int) ≤ ((0 : Nat) : Int) := by omega
      have p1 : ((0 : Nat) : Int) < (lo.length : Int) := by omega
      have p2 : ((0 : Nat) : Int) < (hi.length : Int) := by omega
      simp only [bc_t p0, bc_t p1, bc_t p2, Int.toNat_natCast]
      refine ⟨_, vi_at lo 0 (by omega), _, vi_at hi 0 (by omega), (1, c), by show 1 ≤ lo.length; omega, by show lo.length - 1 < lo.length - 0; omega, ?_⟩
      have e := vp_snoc (l := lo.zip hi) (i := 0) (by omega)
      rw [List.getElem_zip] at e
      show zrg2 _ _ _ _ _ _ _ _ _ _ _ _ _ _ _ _ _ _ _ _ _ (vp ((lo.zip hi).take (0 + 1))) _ _ _ _ = _
      rw [← e, w64 (by omega) (by omega)]; rfl
    | succ i =>
      show rrg2 _ _ (i + 1) lo.length (c 501) lo.length ((i + 1 : Nat) : Int) n0 (c 500) mi a b lo.length (c 501) bo n0 (c 502) mi a b hi.length (c 503) bo (vp ((lo.zip hi).take (i + 1))) (vi lo) l0 l0 (vi hi) _ _ _
      rw [rrg2_text]
      have hT : ((lo.zip hi).take (i + 1)).length = i + 1 := by rw [List.length_take, hz]; omega
      refine bc_dec (fun h => ?_) (fun h => ?_)
      · have h2 : i + 1 < lo.length := by omega
        have p0 : (0 : Int) ≤ ((i + 1 : Nat) : Int) := by omega
        have p2 : ((i + 1 : Nat) : Int) < (hi.length : Int) := by omega
        simp only [bc_t p0, bc_t h, bc_t p2, Int.toNat_natCast]
        refine ⟨_, vi_at lo (i + 1) h2, _, vi_at hi (i + 1) (by omega), bc_yes (by omega) (bc_yes (by omega) (bc_yes (by omega) (bc_yes (by rw [vp_length, hT]; omega) (bc_yes (by rw [vp_length, hT]; omega) ?_))))⟩
        refine ⟨(i + 2, c), by show i + 2 ≤ lo.length; omega, by show lo.length - (i + 2) < lo.length - (i + 1); omega, ?_⟩
        have e := vp_snoc (l := lo.zip hi) (i := i + 1) (by omega)
        rw [List.getElem_zip] at e
        show zrg2 _ _ _ _ _ _ _ _ _ _ _ _ _ _ _ _ _ _ _ _ _ (vp ((lo.zip hi).take (i + 1 + 1))) _ _ _ _ = _
        rw [← e, vp_tk hT, w64 (by omega) (by omega)]; rfl
      · show (if 0 = 0 then _ else _)
        rw [if_pos rfl]
        show nrg4 _ _ (i + 1) (vp ((lo.zip hi).take (i + 1))) _
        rw [nrg4_text]
        have e : i + 1 = lo.length := by omega
        rw [e, List.take_of_length_le (by omega)]
        exact ⟨⟨rfl, by rw [vp_length, hz]⟩, rfl⟩
/-- whether ranges lie in a target: 2 yes, 1 perhaps, 0 no -/
def rdy (a b : Int) : Int → List (Int × Int) → Int
  | o, [] => o
  | o, p :: r => if p.2 < a ∨ p.1 > b then 0 else if p.1 < a ∨ p.2 > b then rdy a b 1 r else rdy a b o r
theorem conan (n0 : Nat) {l0 : List Value} (hl : l0.length = n0 * 2) (mi a b : Int) {lo hi : List Int} (h1 : 1 ≤ lo.length) (hh : hi.length = lo.length) (h3 : lo.length ≤ 1000) (bo ta tb : Int) : C5 63 [dEn n0 l0 mi a b lo hi bo, .agg [dI ta, dI tb]] [dI (rdy ta tb 2 (lo.zip hi))] := by
  have hz : (lo.zip hi).length = lo.length := by rw [List.length_zip, hh, Nat.min_self]
  let inv : Nat × Int → Prop := fun x => x.1 ≤ lo.length ∧ rdy ta tb 2 (lo.zip hi) = rdy ta tb x.2 ((lo.zip hi).drop x.1)
  let st : Nat × Int → Slots × Blocks := fun x => zan2 x.2 lo.length lo.length x.1 ta tb (vp (lo.zip hi))
  have hT : List.take (n0 * 2) (List.drop 0 l0) = l0 := by rw [List.drop_zero, ← hl, List.take_length]
  have hl0 : 0 + n0 * 2 ≤ l0.length := by omega
  refine con_of (L := fun _ s b => ∃ x, inv x ∧ st x = (s, b)) hokZ mixed Try.func63 rfl (by show 4 ≤ 400; omega) rfl (ids := [0]) (by kernel_rfl) rfl (fun caps => ?_) (fun id hid => ?_)
  · show gan _ _ n0 (caps 500) l0 mi a b lo.length (caps 501) (vi lo) bo n0 (caps 502) l0 mi a b hi.length (caps 503) (vi hi) bo ta tb _
    rw [gan_text]
    simp only [hT, bc_t hl0, bc_t (v1le lo), bc_t (v1le hi), vi_whole]
    exact .inr ⟨_, _, ⟨conrg n0 l0 mi a b h1 hh h3 bo⟩, (0, 2), ⟨Nat.zero_le _, rfl⟩, rfl⟩
  · obtain rfl := List.mem_singleton.1 hid
    refine ⟨_, st, inv, fun x => lo.length - x.1, ⟨fun s b h => h, by kernel_rfl, ?_⟩⟩
    rintro ⟨i, o⟩ ⟨hi', hr⟩
    have hi' : i ≤ lo.length := hi'
    show ran2 _ _ o lo.length lo.length (i : Int) ta tb (vp (lo.zip hi)) _ _ _
    rw [ran2_text]
    refine bc_dec (fun h => ?_) (fun h => ?_)
    · have h2 : i < (lo.zip hi).length := by omega
      have p0 : (0 : Int) ≤ (i : Int) := by omega
      simp only [bc_t p0, bc_t h, Int.toNat_natCast]
      rw [List.drop_eq_getElem_cons h2, rdy] at hr
      have go : ∀ o' : Int, rdy ta tb 2 (lo.zip hi) = rdy ta tb o' ((lo.zip hi).drop (i + 1)) → ∃ x, inv x ∧ lo.length - x.1 < lo.length - i ∧ st x = (zan2 o' lo.length lo.length (IntKind.wrap .i64 ((i : Int) + 1)) ta tb (vp (lo.zip hi))) := fun o' ho =>
        ⟨(i + 1, o'), ⟨by show i + 1 ≤ lo.length; omega, ho⟩, by show lo.length - (i + 1) < lo.length - i; omega, by rw [w64 (by omega) (by omega)]; rfl⟩
      refine ⟨_, _, vp_two (lo.zip hi) i h2, bc_dec (fun q1 => ?_) (fun q1 => bc_dec (fun q2 => ?_) (fun q2 => bc_dec (fun q3 => ?_) (fun q3 => bc_dec (fun q4 => ?_) (fun q4 => ?_))))⟩
      · rw [if_pos (.inl q1)] at hr; show [dI _] = [dI _]; rw [hr]
      · rw [if_pos (.inr q2)] at hr; show [dI _] = [dI _]; rw [hr]
      · rw [if_neg (by omega), if_pos (.inl q3)] at hr; exact go 1 hr
      · rw [if_neg (by omega), if_pos (.inr q4)] at hr; exact go 1 hr
      · rw [if_neg (by omega), if_neg (by omega)] at hr; exact go o hr
    · show (if 0 = 0 then _ else _)
      rw [if_pos rfl]
      show nan3 _ _ o _
      rw [nan3_text]
      rw [List.drop_eq_nil_of_le (by omega)] at hr
      show [dI _] = [dI _]
      rw [hr]; rfl
end Go.Proofs.G5j

/- Chapter 2, heating: the enclosure after a route, by the program; copies, comparison. -/
namespace Go.Proofs.G5j
open Go Go.Abs Go.Proofs Go.Proofs.G2
set_option maxRecDepth 100000
theorem half_ok {ps : List Pt} (hv : OkT ps) {em : Int} (he : 0 ≤ em ∧ em ≤ 1000) {set s x : Int} (hs : 0 ≤ set ∧ set ≤ 20000) (h1 : 0 ≤ s ∧ s ≤ 1000) (hx : 0 ≤ x ∧ x ≤ 20000) : 0 ≤ half ps em set s x ∧ half ps em set s x ≤ 20000 := by
  have := first_in (T := ps) (mix := 0) (em := em) (bo := s) ⟨hv, by decide, he, h1⟩ (lo := 0) (hi := 20000) (set := set) hs (l := [x, x]) (fun i hi => by
    match i, hi with
    | 0, _ => exact hx
    | 1, _ => exact hx) (i := 0) (by simp)
  rwa [gd_first (by simp), if_neg (by simp), if_pos rfl] at this
theorem radOK {ps : List Pt} {m lo hi bo : Int} (hv : OkT ps) (hl : ps.length ≤ 10) (hm : 0 ≤ m ∧ m ≤ 50) (ha : 0 ≤ lo ∧ lo ≤ 1000) (hb : 0 ≤ hi ∧ hi ≤ 1000) (hbo : 0 ≤ bo ∧ bo ≤ 1000) : RadOK C5 57 (vp ps) ps.length m lo hi bo (fun x => rad x ps) where
  len := by simp
  says x := ⟨conrI hv hl x⟩
  rdb x := rad_in hv x
  fmi := hm
  fa := ha
  fb := hb
  fbo := hbo
  half em set s x he hs h1 hx := by
    have : 0 ≤ em ∧ em ≤ 1000 := by rcases he with rfl | rfl <;> first | exact ha | exact hb
    exact half_ok hv this hs h1 hx
theorem rul_all {ps : List Pt} {m lo hi : Int} (h : rulE ps m lo hi = 0) : (OkT ps ∧ ps.length ≤ 10) ∧ (0 ≤ m ∧ m ≤ 50) ∧ (0 ≤ lo ∧ lo ≤ 1000) ∧ (0 ≤ hi ∧ hi ≤ 1000) := by
  have h0 := rul_ok h
  refine ⟨h0.1, h0.2, ?_⟩
  unfold rulE at h
  repeat' split at h
  all_goals first | omega | (simp_all; done)
/-- both ends of the enclosure after a route -/
def encR (ps : List Pt) (up : Bool) (m lo hi bo : Int) (z : List (Int × Int)) (l : List Int) : List Int := encZ (fun x => rad x ps) up m lo hi bo z l
abbrev encP (ps : List Pt) (m lo hi bo : Int) (z : List (Int × Int)) (l : List Int) : List (Int × Int) := (encR ps false m lo hi bo z l).zip (encR ps true m lo hi bo z l)
/-- the error of rules, a slab and a route -/
def eoE (ps : List Pt) (m lo hi : Int) (l : List Int) (bo : Int) (z : List (Int × Int)) : Int := fst0 [fst0 [rulE ps m lo hi, slE l bo], rtE z]
theorem vi_tk {l : List Int} {n : Nat} (h : l.length = n) : List.take (n * 1) (List.drop 0 (vi l)) = vi l := by subst h; exact vi_whole l
theorem conEO (ps : List Pt) (hp : ps.length < 1000000000) (m lo hi : Int) (l : List Int) (hl : l.length < 1000000) (bo : Int) (z : List (Int × Int)) (hz : z.length < 1000000000) :
    C5 14 [dRu ps m lo hi, dSl l bo, .sl z.length 2 (vp z)] (if eoE ps m lo hi l bo z = 0 then [.sl l.length 2 (vp (encP ps m lo hi bo z l)), dI 0] else [.nil, dI (eoE ps m lo hi l bo z)]) := by
  refine con_walk hokZ mixed (u := 8) (by decide) Try.func14 rfl (by show 3 ≤ 400; omega) (fun caps => ?_)
  show gEO _ ps.length (caps 500) (vp ps) m lo hi l.length (caps 501) (vi l) bo z.length (caps 502) (vp z) _
  rw [gEO_text]
  simp only [vp_whole, vi_whole, bc_t (v2le ps), bc_t (v1le l), bc_t (v2le z), Qv, eq_self, true_and, and_true]
  refine ⟨_, ⟨conCR ps hp m lo hi⟩, _, ⟨conCS l (by omega) bo⟩, _, ⟨conFE [rulE ps m lo hi, slE l bo] (by simp)⟩, ?_⟩
  refine bc_bne (fun h => ?_) (fun h => ?_)
  · refine ⟨_, _, ⟨conCk z hz⟩, _, ⟨conFE [fst0 [rulE ps m lo hi, slE l bo], (rtR z).2] (by simp)⟩, ?_⟩
    have hne : eoE ps m lo hi l bo z ≠ 0 := by unfold eoE; rw [fst0_two, if_neg h]; exact h
    refine bc_bne (fun _ => ?_) (fun h0 => absurd h0 hne)
    show _ = _; rw [if_neg hne]; rfl
  · refine ⟨⟨conCl l (by omega)⟩, ?_⟩
    refine ⟨_, _, ⟨conCk z hz⟩, _, ⟨conFE [0, (rtR z).2] (by simp)⟩, ?_⟩
    have hE : eoE ps m lo hi l bo z = fst0 [0, (rtR z).2] := by unfold eoE; rw [h]; rfl
    refine bc_bne (fun h1 => ?_) (fun h1 => ?_)
    · show _ = _; rw [if_neg (by rw [hE]; exact h1), hE]
    · rw [← hE] at h1
      have h2 : rulE ps m lo hi = 0 ∧ slE l bo = 0 := by
        rw [fst0_two] at h
        by_cases q : rulE ps m lo hi = 0
        · rw [if_pos q] at h; exact ⟨q, h⟩
        · rw [if_neg q] at h; exact absurd h q
      have h3 : rtE z = 0 := by rw [eoE, h, fst0_two, if_pos rfl] at h1; exact h1
      obtain ⟨⟨hv, hl10⟩, hm, ha, hb⟩ := rul_all h2.1
      obtain ⟨q2, q8, hg, hbo⟩ := sl_ok h2.2
      obtain ⟨hz5, hzz⟩ := rt_ok h3
      have R := radOK hv hl10 hm ha hb hbo
      have N : NodOK l := ⟨q2, q8, hg⟩
      have n1 : (encR ps false m lo hi bo z l).length = l.length := encZ_length ..
      have n2 : (encR ps true m lo hi bo z l).length = l.length := encZ_length ..
      refine ⟨⟨conCl l (by omega)⟩, ⟨conCl l (by omega)⟩, ?_⟩
      refine ⟨_, _, ⟨_, l, l, z, R, N, N, rfl, rfl, rfl, rfl, (vp_flat z).symm, rfl, by omega, hzz, rfl, rfl⟩, ?_⟩
      refine bc_yes (by rw [List.length_map, encZ_length]; omega) (bc_yes (by rw [List.length_map, encZ_length]; omega) ?_)
      have c := conrg ps.length (vp ps) m lo hi (lo := encR ps false m lo hi bo z l) (hi := encR ps true m lo hi bo z l) (by omega) (by omega) (by omega) bo
      simp only [dEn, n1, n2] at c
      have t1 := vi_tk n1
      have t2 := vi_tk n2
      refine .inr ⟨l.length, vp (encP ps m lo hi bo z l), ?_, ?_⟩
      · show Says C5 _ [.agg [_, _, _, _, .sl l.length 1 (List.take (l.length * 1) (List.drop 0 (vi (encR ps false m lo hi bo z l)))), _, _, _, _, _, .sl l.length 1 (List.take (l.length * 1) (List.drop 0 (vi (encR ps true m lo hi bo z l)))), _]] _
        rw [t1, t2]; exact ⟨c⟩
      · refine ⟨by rw [vp_length, List.length_zip, n1, n2, Nat.min_self], ?_⟩
        show _ = _; rw [if_pos h1]
end Go.Proofs.G5j

/- A range over a function: definitions. -/
namespace Go.Abs
/-- The blocks that the function that is ranged over reaches, each with its number within: they are only read. -/
def reachV (H : Heap) : Nat → List Nat → Mu → Nat → Mu
  | 0, _, μ, _ => μ
  | _, [], μ, _ => μ
  | f + 1, i :: work, μ, ro =>
    match μ.find i with
    | some _ => reachV H f work μ ro
    | none =>
      match H.get i with
      | none => reachV H f work μ ro
      | some o => reachV H f (work ++ blocksO o) (μ ++ [(i, ro)]) (ro + 1)
def iterMu (fv : Value) (H : Heap) : Mu := reachV H 1000 (blocksV 8 fv) [] hbase
def aliveIn (μ : Mu) (H : Heap) (i : Nat) : Bool := match H.get i with | some o => (match mapO μ o with | some (.taken) => false | some _ => true | none => false) | none => false
def iterGood (μ : Mu) (H : Heap) : Bool :=
  nodupB (μ.map (·.1)) && nodupB (μ.map (·.2)) && μ.all fun p => decide (abase ≤ p.1) && (decide (p.1 < mbase) || decide (gbase ≤ p.1)) && decide (hbase ≤ p.2) && decide (p.2 < mbase) && aliveIn μ H p.1
def iterArgs (fv : Value) (H : Heap) : List Value :=
  match fv with
  | .func (.func _) a b => a.toList.map (mapV (iterMu fv H) 8) ++ [.func (.yield ynum) #[] #[]] ++ b.toList.map (mapV (iterMu fv H) 8)
  | _ => []
def iterBlocks (fv : Value) (H : Heap) (rows : List (List D)) : Blocks := (ynum, .yld false (some rows)) :: gcB H (iterMu fv H) (iterMu fv H)
/-- The caller's own view while the rounds run: what the function that is ranged over reaches is only looked at. -/
def wbase : Nat := 460
def reachD (H : Heap) (Z : List Nat) : Nat → List Nat → Mu → Nat → Nat → Mu
  | 0, _, μ, _, _ => μ
  | _, [], μ, _, _ => μ
  | f + 1, i :: work, μ, next, view =>
    match μ.find i with
    | some _ => reachD H Z f work μ next view
    | none =>
      match H.get i with
      | none => reachD H Z f work μ next view
      | some o => if i < gbase then reachD H Z f (work ++ blocksO o) (μ ++ [(i, i)]) next view else if Z.contains i then reachD H Z f (work ++ blocksO o) (μ ++ [(i, view)]) next (view + 1) else reachD H Z f (work ++ blocksO o) (μ ++ [(i, next)]) (next + 1) view
def demGood (Z : List Nat) (μ : Mu) (H : Heap) (b : Blocks) : Bool :=
  nodupB (μ.map (·.1)) && nodupB (μ.map (·.2)) && μ.all fun p => aliveIn μ H p.1 && (decide (p.1 < wbase) || decide (hbase ≤ p.1)) && (if p.1 < gbase then p.2 == p.1 && (decide (p.1 < mbase) || !Z.contains p.1) else if Z.contains p.1 then decide (abase ≤ p.2) && decide (p.2 < wbase) else decide (gbase ≤ p.2) && decide (p.2 < (heapOf b).next))
/-- What is read in the rounds and behind them. -/
def liveR (ps : Array Tmp) (x y : Code) (l : Lv) : List Tmp := sortT (uni l.normal (uni ((liveIn x { l with normal := liveIn y l }).filter fun t => !ps.contains t) l.ret))
/-- With the mark of deferred calls. -/
def markA (s : Slots) (b : Blocks) (sz : Nat) : AAct := { actOf sz s with defers := (heapOf b).next :: (actOf sz s).defers }
def markH (b : Blocks) : Heap := (heapOf b).new .deferred
def demMu (fv : Value) (keep : List Tmp) (sz : Nat) (s : Slots) (b : Blocks) : Mu :=
  reachD (markH b) ((iterMu fv (heapOf b)).map (·.1)) 1000 ((keep.flatMap fun k => blocksV 8 ((markA s b sz).slot k)) ++ mroots (markH b) ++ (markA s b sz).defers) [] gbase abase
def enterS (fv : Value) (keep : List Tmp) (sz : Nat) (s : Slots) (b : Blocks) : Slots := gcS (demMu fv keep sz s b) keep (markA s b sz)
def enterB (fv : Value) (keep : List Tmp) (sz : Nat) (s : Slots) (b : Blocks) : Blocks := gcB (markH b) (demMu fv keep sz s b) (demMu fv keep sz s b)
def enterGood (fv : Value) (keep : List Tmp) (sz : Nat) (s : Slots) (b : Blocks) : Bool :=
  iterGood (iterMu fv (heapOf b)) (heapOf b) && demGood ((iterMu fv (heapOf b)).map (·.1)) (demMu fv keep sz s b) (markH b) (enterB fv keep sz s b) && gcDef (demMu fv keep sz s b) keep (markA s b sz)
/-- The end of a round: the slots are what they were. -/
def rowGood (μ : Mu) (keep : List Tmp) (A : AAct) (b : Blocks) : Bool := gcAll μ keep A b && μ.all fun p => decide (p.1 < wbase) || decide (hbase ≤ p.1)
def rendK (keep : List Tmp) (A : AAct) (B : Slots → Blocks → Prop) (X : Exit → Slots → Blocks → Prop) : Exit → AAct → Heap → Prop := fun e _ H =>
  match e with
  | .normal => bcase (rowGood (gcMu keep A H) keep A (gcB H (gcMu keep A H) (gcMu keep A H))) (B (gcS (gcMu keep A H) keep A) (gcB H (gcMu keep A H) (gcMu keep A H))) False
  | .exit i => bcase (rowGood (gcMu keep A H) keep A (gcB H (gcMu keep A H) (gcMu keep A H))) (X (.exit i) (gcS (gcMu keep A H) keep A) (gcB H (gcMu keep A H) (gcMu keep A H))) False
  | .ret => bcase (rowGood (gcMu keep A H) keep A (gcB H (gcMu keep A H) (gcMu keep A H))) (X .ret (gcS (gcMu keep A H) keep A) (gcB H (gcMu keep A H) (gcMu keep A H))) False
  | _ => False
def onlyN (k : AAct → Heap → Prop) : Exit → AAct → Heap → Prop := fun e A H =>
  match e with
  | .normal => k A H
  | _ => False
/-- A round: what is handed on lies behind the caller's blocks. -/
def roundR (P : Program) (h : Handler) (u : Nat) (sz : Nat) (ps : Array Tmp) (x y : Code) (l : Lv) (keep : List Tmp) (s : Slots) (b : Blocks) (row : List D) (B : Slots → Blocks → Prop) (X : Exit → Slots → Blocks → Prop) : Prop :=
  bcase (decide (countV row ≤ 40) && decide (row.length = ps.size)) (∀ caps,
    wpT P h (fun _ _ _ => False) u x { l with normal := liveIn y l } (AAct.putAll { actOf sz s with defers := [] } (ps.toList.zip (layVals caps wbase row).1)) (heapOf (b ++ (layVals caps wbase row).2))
      (onlyN fun A1 H1 => wpT P h (fun _ _ _ => False) u y l A1 H1 (rendK keep (actOf sz s) B X))) False
/-- A range over a function of the function: its head. -/
def headOf (P : Program) (sz : Nat) (r : Code × Lv) (s : Slots) (b : Blocks) (k : FuncId → List Value → Blocks → Slots → Blocks → Prop) : Prop :=
  match r with
  | (.rangeFunc f ps x y, l) =>
    match (actOf sz s).eval f with
    | .func (.func g) first captured =>
      bcase (enterable P g && enterGood (.func (.func g) first captured) (liveR ps x y l) sz s b)
        (k g (iterArgs (.func (.func g) first captured) (heapOf b)) (gcB (heapOf b) (iterMu (.func (.func g) first captured) (heapOf b)) (iterMu (.func (.func g) first captured) (heapOf b)))
          (enterS (.func (.func g) first captured) (liveR ps x y l) sz s b) (enterB (.func (.func g) first captured) (liveR ps x y l) sz s b)) False
    | _ => False
  | _ => False
def rowOfR (P : Program) (h : Handler) (sz : Nat) (r : Code × Lv) (s : Slots) (b : Blocks) (row : List D) (B : Slots → Blocks → Prop) (X : Exit → Slots → Blocks → Prop) : Prop :=
  match r with
  | (.rangeFunc _ ps x y, l) => roundR P h 8 sz ps x y l (liveR ps x y l) s b row B X
  | _ => False
/-- (at the top of the function) -/
def rHead (P : Program) (f : FuncId) (id : Nat) (s : Slots) (b : Blocks) (k : FuncId → List Value → Blocks → Slots → Blocks → Prop) : Prop :=
  match P.funcs[f]? with
  | some fn => match fn.body with
    | some c => match findLoop c (fnLv fn) id with
      | some r => headOf P (fnSize fn) r s b k
      | none => False
    | none => False
  | none => False
def rRound (P : Program) (h : Handler) (f : FuncId) (id : Nat) (s : Slots) (b : Blocks) (row : List D) (B : Slots → Blocks → Prop) (X : Exit → Slots → Blocks → Prop) : Prop :=
  match P.funcs[f]? with
  | some fn => match fn.body with
    | some c => match findLoop c (fnLv fn) id with
      | some r => rowOfR P h (fnSize fn) r s b row B X
      | none => False
    | none => False
  | none => False
/-- (within a loop) -/
def rHead2 (P : Program) (f : FuncId) (id id2 : Nat) (s : Slots) (b : Blocks) (k : FuncId → List Value → Blocks → Slots → Blocks → Prop) : Prop :=
  match P.funcs[f]? with
  | some fn => match fn.body with
    | some c => match findLoop c (fnLv fn) id with
      | some (body, l) => match findLoop body l id2 with
        | some r => headOf P (fnSize fn) r s b k
        | none => False
      | none => False
    | none => False
  | none => False
def rRound2 (P : Program) (h : Handler) (f : FuncId) (id id2 : Nat) (s : Slots) (b : Blocks) (row : List D) (B : Slots → Blocks → Prop) (X : Exit → Slots → Blocks → Prop) : Prop :=
  match P.funcs[f]? with
  | some fn => match fn.body with
    | some c => match findLoop c (fnLv fn) id with
      | some (body, l) => match findLoop body l id2 with
        | some r => rowOfR P h (fnSize fn) r s b row B X
        | none => False
      | none => False
    | none => False
  | none => False
end Go.Abs

/- A range over a function: it is sound. -/
namespace Go.Abs
open Go.RowKit
variable {P : Program} {ρ : Ren} {w0 : Start P} {w : World} {H : Heap} {h : Handler}

/-! ### The same call, seen from a later world -/
/-- What the rounds of an outer range may change, named. -/
structure Wit (w0 : Start P) (ρ : Ren) (H : Heap) (w : World) (Fo : Nat → Prop) : Prop where
  is : ∀ own rest, H.get ynum = some (.yld own rest) → ∃ m, ρ ynum = some m ∧ w0.it own rest Fo m.b w ∧ ∀ j n, ρ j = some n → H.live j → j ≠ ynum → ¬ Fo n.b
  no : (∀ own rest, H.get ynum ≠ some (.yld own rest)) → ∀ k, ¬ Fo k
theorem Gam.wit (g : Gam w0 ρ H w) : ∃ Fo, Wit w0 ρ H w Fo := by
  by_cases hy : ∃ own rest, H.get ynum = some (.yld own rest)
  · obtain ⟨own, rest, hget⟩ := hy
    obtain ⟨m, F, h1, h2, h3⟩ := g.yld own rest hget
    refine ⟨F, ⟨fun own' rest' h => ?_, fun h => absurd hget (h own rest)⟩⟩
    rw [hget] at h
    cases h
    exact ⟨m, h1, h2, h3⟩
  · exact ⟨fun _ => False, ⟨fun own rest h => absurd ⟨own, rest, h⟩ hy, fun _ _ h => h⟩⟩
variable {Fo : Nat → Prop}
theorem Wit.bound (wt : Wit w0 ρ H w Fo) (g : Gam w0 ρ H w) {k : Nat} (hk : Fo k) : k < w.heap.size := by
  by_cases hy : ∃ own rest, H.get ynum = some (.yld own rest)
  · obtain ⟨own, rest, hget⟩ := hy
    obtain ⟨m, h1, h2, h3⟩ := wt.is own rest hget
    exact g.itok.bound h2 k hk
  · exact absurd hk (wt.no (fun own rest h => hy ⟨own, rest, h⟩) k)
theorem Wit.free (wt : Wit w0 ρ H w Fo) (g : Gam w0 ρ H w) {k : Nat} (hk : Fo k) (hlt : k < w0.w.heap.size) : w0.free k := by
  by_cases hy : ∃ own rest, H.get ynum = some (.yld own rest)
  · obtain ⟨own, rest, hget⟩ := hy
    obtain ⟨m, h1, h2, h3⟩ := wt.is own rest hget
    exact g.itok.free h2 k hk hlt
  · exact absurd hk (wt.no (fun own rest h => hy ⟨own, rest, h⟩) k)
theorem Wit.yld (wt : Wit w0 ρ H w Fo) : YldR w0 ρ H w := fun own rest h => let ⟨m, h1, h2, h3⟩ := wt.is own rest h; ⟨m, Fo, h1, h2, h3⟩

def startAt (w0 : Start P) (ρ : Ren) (w : World) (Fo : Nat → Prop) : Start P :=
  { w := w, pin := ρ, mine := fun k => ∃ i m, gbase ≤ i ∧ ρ i = some m ∧ m.b = k, free := Fo, it := fun own rest F l w' => w0.it own rest F l w' ∧ w.heap.size ≤ w'.heap.size ∧ ∀ k, F k → k < w.heap.size → Fo k }
theorem at_own (g : Gam w0 ρ H w) {k : Nat} (h : (startAt w0 ρ w Fo).own k) (hk : k < w0.w.heap.size) : w0.own k := by
  rcases h with ⟨i, m, h1, h2, h3, h4⟩ | ⟨i, m, h1, h3, h4⟩
  · exact .inl ⟨i, m, h1, h2, g.pins i m (Nat.le_trans (by decide) h1) h2 h3, h4⟩
  · rcases (g.own i m h3).2 h1 with h | h
    · omega
    · exact .inr (h4 ▸ h)
theorem at_itok (g : Gam w0 ρ H w) (wt : Wit w0 ρ H w Fo) : ItOK (startAt w0 ρ w Fo) := by
  refine ⟨?_, ?_, ?_, ?_⟩
  · intro own rest F' l w' h; exact g.itok.bound h.1
  · intro own rest F' l w' h k hk hlt; exact h.2.2 k hk hlt
  · intro own rest F' l w1 w2 h h1 h2 h3 hs hk
    refine ⟨g.itok.stable h.1 h1 h2 h3 hs (fun k hk1 hc => hk k hk1 ?_), Nat.le_trans h.2.1 hs, h.2.2⟩
    rcases hc with ⟨c1, c2⟩ | hc
    · exact .inl ⟨Nat.lt_of_lt_of_le c1 g.below.size, fun ho => c2 (ho.elim (fun ho => .inl (at_own g ho c1)) (fun ho => .inr (wt.free g ho c1)))⟩
    · exact .inr hc
  · intro row rest F' l w1 h args' ha
    obtain ⟨L, hL, hsz, hr⟩ := g.itok.round h.1 args' ha
    refine ⟨L, hL, hsz, fun rC n => (hr rC n).mono ?_⟩
    rintro e w2 ⟨b, F2, rfl, q1, q2, q3, q4, q5, q6, q7⟩
    refine ⟨b, F2, rfl, ⟨q1, Nat.le_trans h.2.1 q5, fun k hk hlt => ?_⟩, q2, q3, q4, q5, q6, q7⟩
    rcases q7 k hk with h7 | h7
    · exact h.2.2 k h7 hlt
    · have := h.2.1; omega
theorem Gam.atNow (g : Gam w0 ρ H w) (wt : Wit w0 ρ H w Fo) : Gam (startAt w0 ρ w Fo) ρ H w := by
  refine ⟨g.gb, g.fresh, Kept.refl (startAt w0 ρ w Fo), fun i m hm => ⟨(g.own i m hm).1, fun hi => .inr ⟨i, m, hi, hm, rfl⟩⟩, g.glob, g.inj, g.obj, g.gmap, fun _ _ _ _ h => h, ?_, at_itok g wt, ?_⟩
  · intro q hq
    obtain ⟨v1, v2⟩ := g.vars q hq
    have h6 := VarKind.ok_some v1
    have h7 : q.1 < w0.w.heap.size := by
      rcases Nat.lt_or_ge q.1 w0.w.heap.size with h | h
      · exact h
      · rw [Array.getElem?_eq_none h] at h6; cases h6
    refine ⟨g.good q hq, fun h => ?_⟩
    rcases h with h | h
    · exact v2 (.inl (at_own g h h7))
    · exact v2 (.inr (wt.free g h h7))
  · intro own rest hget
    obtain ⟨m, h1, h2, h3⟩ := wt.is own rest hget
    exact ⟨m, Fo, h1, ⟨h2, Nat.le_refl _, fun _ hk _ => hk⟩, h3⟩
/-- The blocks that a call may change from here on. -/
def Foot (ρ : Ren) (Fo : Nat → Prop) (k : Nat) : Prop := (∃ i m, mbase ≤ i ∧ ρ i = some m ∧ m.b = k) ∨ Fo k
theorem at_foot {k : Nat} (h : (startAt w0 ρ w Fo).may k) : Foot ρ Fo k := by
  rcases h with (⟨i, m, h1, h2, h3, h4⟩ | ⟨i, m, h1, h3, h4⟩) | h
  · exact .inl ⟨i, m, h1, h3, h4⟩
  · exact .inl ⟨i, m, mb_of h1, h3, h4⟩
  · exact .inr h
/-- Back at the call's own beginning. -/
theorem Gam.atBack (g : Gam w0 ρ H w) (wt : Wit w0 ρ H w Fo) {ρ2 : Ren} {H2 : Heap} {w2 : World} (g2 : Gam (startAt w0 ρ w Fo) ρ2 H2 w2) :
    Gam w0 ρ2 H2 w2 ∧ (∀ k, k < w.heap.size → ¬ Foot ρ Fo k → w2.heap[k]? = w.heap[k]?) ∧ (∃ Fo2, Wit w0 ρ2 H2 w2 Fo2 ∧ ∀ k, Fo2 k → Fo k ∨ w.heap.size ≤ k) ∧ (∀ i m, mbase ≤ i → ρ2 i = some m → Foot ρ Fo m.b ∨ w.heap.size ≤ m.b) := by
  have hsz : w.heap.size ≤ w2.heap.size := g2.below.size
  have key : ∀ k, k < w.heap.size → ¬ Foot ρ Fo k → w2.heap[k]? = w.heap[k]? := fun k hk hf => g2.below.block k hk (fun h => hf (at_foot h))
  have own2 : ∀ i m, gbase ≤ i → ρ2 i = some m → w.heap.size ≤ m.b ∨ ∃ j n, gbase ≤ j ∧ ρ j = some n ∧ n.b = m.b := fun i m hi hm => (g2.own i m hm).2 hi
  have hit : ∀ {own rest F l w'}, (startAt w0 ρ w Fo).it own rest F l w' → w0.it own rest F l w' ∧ ∀ k, F k → Fo k ∨ w.heap.size ≤ k := fun {own rest F l w'} h =>
    ⟨h.1, fun k hk => by
      rcases Nat.lt_or_ge k w.heap.size with hl | hl
      · exact .inl (h.2.2 k hk hl)
      · exact .inr hl⟩
  refine ⟨⟨g2.gb, g2.fresh, ⟨g2.below.os.trans g.below.os, g2.below.tape.trans g.below.tape, g2.below.output.trans g.below.output, Nat.le_trans g.below.size hsz, fun k hk hm => ?_⟩, fun i m hm => ⟨(g2.own i m hm).1, fun hi => ?_⟩, g2.glob, g2.inj, g2.obj, g2.gmap, fun i m h1 h2 hm => g.pins i m h1 h2 (g2.pins i m h1 h2 hm), g.vars, g.itok, ?_⟩, key, ?_, ?_⟩
  · refine (g2.below.block k (Nat.lt_of_lt_of_le hk g.below.size) (fun h => ?_)).trans (g.below.block k hk hm)
    rcases h with h | h
    · exact hm (.inl (at_own g h hk))
    · exact hm (.inr (wt.free g h hk))
  · rcases own2 i m hi hm with h | ⟨j, n, hj, hn, hb⟩
    · exact .inl (Nat.le_trans g.below.size h)
    · rw [← hb]; exact (g.own j n hn).2 hj
  · intro own rest hget
    obtain ⟨m, F, h1, h2, h3⟩ := g2.yld own rest hget
    exact ⟨m, F, h1, h2.1, h3⟩
  · by_cases hy : ∃ own rest, H2.get ynum = some (.yld own rest)
    · obtain ⟨own, rest, hget⟩ := hy
      obtain ⟨m, F, h1, h2, h3⟩ := g2.yld own rest hget
      refine ⟨F, ⟨fun own' rest' h => ?_, fun h => absurd hget (h own rest)⟩, (hit h2).2⟩
      rw [hget] at h
      cases h
      exact ⟨m, h1, h2.1, h3⟩
    · exact ⟨fun _ => False, ⟨fun own rest h => absurd ⟨own, rest, h⟩ hy, fun _ _ h => h⟩, fun _ h => h.elim⟩
  · intro i m hi hm
    rcases Nat.lt_or_ge i gbase with hl | hl
    · exact .inl (.inl ⟨i, m, hi, g2.pins i m (Nat.le_trans (by decide) hi) hl hm, rfl⟩)
    · rcases own2 i m hl hm with h | ⟨j, n, hj, hn, hb⟩
      · exact .inr h
      · exact .inl (.inl ⟨j, n, mb_of hj, hn, hb⟩)

/-- The world changes elsewhere. -/
theorem Gam.same (g : Gam w0 ρ H w) (wt : Wit w0 ρ H w Fo) {w' : World} (h1 : w'.os = w.os) (h2 : w'.tape = w.tape) (h3 : w'.output = w.output) (hs : w.heap.size ≤ w'.heap.size)
    (hw : ∀ k, k < w0.w.heap.size → ¬ w0.may k → w'.heap[k]? = w.heap[k]?) (hb : ∀ i m, ρ i = some m → H.live i → w'.heap[m.b]? = w.heap[m.b]?) (hf : ∀ k, Fo k → w'.heap[k]? = w.heap[k]?) : Gam w0 ρ H w' ∧ Wit w0 ρ H w' Fo := by
  have wt' : Wit w0 ρ H w' Fo := by
    refine ⟨fun own rest hget => ?_, wt.no⟩
    obtain ⟨m, q1, q2, q3⟩ := wt.is own rest hget
    refine ⟨m, q1, g.itok.stable q2 h1 h2 h3 hs (fun k hk hc => ?_), q3⟩
    rcases hc with ⟨c1, c2⟩ | hc
    · exact hw k c1 c2
    · exact hf k hc
  exact ⟨⟨g.gb, g.fresh, ⟨h1.trans g.below.os, h2.trans g.below.tape, h3.trans g.below.output, Nat.le_trans g.below.size hs, fun k hk hm => (hw k hk hm).trans (g.below.block k hk hm)⟩, fun i m hm => ⟨Nat.lt_of_lt_of_le (g.own i m hm).1 hs, (g.own i m hm).2⟩, g.glob, g.inj,
    fun i m o hm ho => (g.obj i m o hm ho).mono ρ.le_refl (fun hal => hb i m hm ⟨o, ho, hal⟩), g.gmap, g.pins, g.vars, g.itok, wt'.yld⟩, wt'⟩

/-! ### What is handed on is laid -/
theorem heapOf_next {b r : Blocks} (h : ∀ p ∈ r, p.1 < gbase) : (heapOf (b ++ r)).next = (heapOf b).next := by
  have e : r.filter (fun p => decide (gbase ≤ p.1)) = [] := List.filter_eq_nil_iff.2 (fun p hp => by have := h p hp; simp; omega)
  simp [heapOf, List.filter_append, e]
theorem foldl_set_out (r : Blocks) : ∀ (t : Tree AObj) (i : Nat), (∀ p ∈ r, p.1 ≠ i) → (r.foldl (fun t (p : Nat × AObj) => t.set (p.1 + 1) p.1 p.2) t).get i = t.get i := by
  induction r with
  | nil => intro t i _; rfl
  | cons p r ih =>
    intro t i h
    simp only [List.foldl_cons]
    rw [ih _ i (fun q hq => h q (List.mem_cons_of_mem _ hq)), Tree.get_set _ _ _ _ _ (by omega), if_neg (fun e => h p (List.mem_cons_self ..) e.symm)]
theorem heapOf_out {b r : Blocks} {i : Nat} (h : ∀ p ∈ r, p.1 ≠ i) : (heapOf (b ++ r)).get i = (heapOf b).get i := by
  simp only [heapOf, Heap.get, List.foldl_append]
  exact foldl_set_out r _ i h
theorem Gam.layRow {b : Blocks} (g : Gam w0 ρ (heapOf b) w) (wt : Wit w0 ρ (heapOf b) w Fo) (hno : ∀ q, wbase ≤ q → q < hbase → ρ q = none ∧ ∀ o, (q, o) ∉ b) {F : Nat → Prop} (hF : ∀ k, Foot ρ Fo k → F k)
    {row : List D} {vs' : List Value} (h : ReadsL (hide F w) row vs') (hc : countV row ≤ 40) :
    ∃ caps ρ3, Gam w0 ρ3 (heapOf (b ++ (layVals caps wbase row).2)) w ∧ LR ρ3 (layVals caps wbase row).1 vs' ∧ ρ.le ρ3 ∧ (∀ i m, ρ3 i = some m → ρ i = some m ∨ (wbase ≤ i ∧ i < hbase ∧ ¬ F m.b)) ∧ Wit w0 ρ3 (heapOf (b ++ (layVals caps wbase row).2)) w Fo := by
  obtain ⟨pl, h1, h2, h3⟩ := layVals_ok row wbase h
  let caps : Nat → Nat := fun q => ((pl q).map (·.1)).getD 0
  let ρ3 : Ren := fun q => if wbase ≤ q ∧ q < wbase + countV row then (pl q).map (·.2) else ρ q
  have hhi : wbase + countV row ≤ hbase := by unfold wbase hbase; omega
  have hρ : ∀ q m, ρ3 q = some m → (wbase ≤ q ∧ q < wbase + countV row ∧ (m.b < w.heap.size ∧ ¬ F m.b) ∧ ∃ c, pl q = some (c, m)) ∨ (¬ (wbase ≤ q ∧ q < wbase + countV row) ∧ ρ q = some m) := by
    intro q m hm
    simp only [ρ3] at hm
    split at hm
    · rename_i hq
      obtain ⟨⟨c, m'⟩, hx, e⟩ := Option.map_eq_some_iff.1 hm
      cases e
      obtain ⟨c2, m2, hx2, hb⟩ := h2 q hq.1 hq.2
      rw [hx] at hx2; cases hx2
      exact .inl ⟨hq.1, hq.2, ⟨by rw [hide_size] at hb; exact hb.1, let ⟨_, _, _, hcl⟩ := hb.2; (hide_cells hcl).1⟩, c, hx⟩
    · rename_i hq; exact .inr ⟨hq, hm⟩
  have hbl := h1 caps
  have hle : ρ.le ρ3 := by
    intro q m hm
    have : ¬ (wbase ≤ q ∧ q < wbase + countV row) := fun hq => by
      rw [(hno q hq.1 (by omega)).1] at hm; cases hm
    simp only [ρ3]; rw [if_neg this]; exact hm
  have hlow : ∀ p ∈ (layVals caps wbase row).2, wbase ≤ p.1 ∧ p.1 < wbase + countV row := fun p hp => let ⟨a, c, _⟩ := hbl p.1 p.2 hp; ⟨a, c⟩
  have hgb : ∀ p ∈ (layVals caps wbase row).2, p.1 < gbase := fun p hp => by have := (hlow p hp).2; unfold hbase at hhi; unfold gbase; omega
  have hn := heapOf_next (b := b) hgb
  have hold : ∀ {i : Nat}, ¬ (wbase ≤ i ∧ i < wbase + countV row) → (heapOf (b ++ (layVals caps wbase row).2)).get i = (heapOf b).get i := fun {i} hi => heapOf_out (fun p hp e => hi (by rw [← e]; exact hlow p hp))
  have hnew : ∀ {i : Nat} {o : AObj}, wbase ≤ i → i < wbase + countV row → (heapOf (b ++ (layVals caps wbase row).2)).get i = some o → (i, o) ∈ (layVals caps wbase row).2 := by
    intro i o h1 h2 h
    rcases List.mem_append.1 (heapOf_get h) with h | h
    · exact absurd h ((hno i h1 (by omega)).2 o)
    · exact h
  have hmbn : ∀ {i : Nat}, mbase ≤ i → ¬ (wbase ≤ i ∧ i < wbase + countV row) := fun {i} hi h => by unfold mbase at hi; unfold hbase at hhi; omega
  have hobj : ∀ {q : Nat} {m : Meta} {o : AObj}, wbase ≤ q → q < wbase + countV row → ρ3 q = some m → (heapOf (b ++ (layVals caps wbase row).2)).get q = some o → ObjR ρ3 w m o ∧ ¬ F m.b := by
    intro q m o q1 q2 hm ho
    obtain ⟨_, _, c', m', hx, hb, cs, es, rfl, r1, r2, r3, ⟨a, ty, fz, r4, r5, r6⟩, r7⟩ := hbl q o (hnew q1 q2 ho)
    rcases hρ q m hm with ⟨_, _, _, c, hx2⟩ | ⟨hq, _⟩
    · rw [hx] at hx2
      cases hx2
      obtain ⟨r8, r9⟩ := hide_cells r4
      refine ⟨⟨⟨r1, r2, r3, a, ty, fz, ⟨r9, fun h => by cases h⟩, r5, ?_⟩, r7⟩, r8⟩
      rw [r6]
      exact LR.plain (fun v => plain_refl _ 8 v) cs (List.all_eq_true.2 (fun v hv => cellP_plain (r7 v hv)))
    · exact absurd ⟨q1, q2⟩ hq
  have live3 : ∀ {i : Nat}, ¬ (wbase ≤ i ∧ i < wbase + countV row) → (heapOf (b ++ (layVals caps wbase row).2)).live i → (heapOf b).live i := fun {i} hi ⟨o, ho, ha⟩ => ⟨o, by rw [← hold hi]; exact ho, ha⟩
  have hyn : ¬ (wbase ≤ ynum ∧ ynum < wbase + countV row) := hmbn (by decide)
  have wt3 : Wit w0 ρ3 (heapOf (b ++ (layVals caps wbase row).2)) w Fo := by
    refine ⟨fun own rest hget => ?_, fun h => wt.no (fun own rest h' => h own rest (by rw [hold hyn]; exact h'))⟩
    rw [hold hyn] at hget
    obtain ⟨m, q1, q2, q3⟩ := wt.is own rest hget
    refine ⟨m, hle _ _ q1, q2, fun j n hj hl hne hf => ?_⟩
    by_cases hj2 : wbase ≤ j ∧ j < wbase + countV row
    · obtain ⟨o, ho, _⟩ := hl
      exact (hobj hj2.1 hj2.2 hj ho).2 (hF _ (.inr hf))
    · rcases hρ j n hj with ⟨a, c, _⟩ | ⟨_, hj3⟩
      · exact hj2 ⟨a, c⟩
      · exact q3 j n hj3 (live3 hj2 hl) hne hf
  refine ⟨caps, ρ3, ⟨by rw [hn]; exact g.gb, ?_, g.below, ?_, ?_, ?_, ?_, ?_, ?_, g.vars, g.itok, wt3.yld⟩, h3 caps ρ3 ⟨fun q q1 q2 => ?_⟩, hle, ?_, wt3⟩
  · intro i hi
    rw [hn] at hi
    have := g.gb
    have hni : ¬ (wbase ≤ i ∧ i < wbase + countV row) := hmbn (by unfold gbase at this; unfold mbase; omega)
    simp only [ρ3]; rw [if_neg hni]; exact g.fresh i hi
  · intro i m hm
    rcases hρ i m hm with ⟨a, c, hb, _⟩ | ⟨_, hm⟩
    · exact ⟨hb.1, fun hg => absurd ⟨a, c⟩ (hmbn (mb_of hg))⟩
    · exact g.own i m hm
  · intro i m hm hi
    rcases hρ i m hm with ⟨a, c, hb, _⟩ | ⟨_, hm⟩
    · unfold wbase at a; unfold abase at hi; omega
    · exact g.glob i m hm hi
  · intro i j mi mj hgi hi hj ei ej hbb
    have hi2 := hmbn hgi
    rcases hρ i mi ei with ⟨a, c, _⟩ | ⟨_, ei⟩
    · exact absurd ⟨a, c⟩ hi2
    · rcases hρ j mj ej with ⟨a, c, _⟩ | ⟨hj2, ej⟩
      · obtain ⟨o, ho, _⟩ := hj
        exact absurd (hF _ (.inl ⟨i, mi, hgi, ei, hbb⟩)) (hobj a c (by simp only [ρ3]; rw [if_pos ⟨a, c⟩]; obtain ⟨c2, m2, hx, _⟩ := h2 j a c; have := ‹ρ3 j = some mj›; simp only [ρ3] at this; rw [if_pos ⟨a, c⟩] at this; exact this) ho).2
      · exact g.inj i j mi mj hgi (live3 hi2 hi) (live3 hj2 hj) ei ej hbb
  · intro i m o hm ho
    rcases hρ i m hm with ⟨a, c, _⟩ | ⟨hi2, hm2⟩
    · exact (hobj a c hm ho).1
    · rw [hold hi2] at ho
      exact (g.obj i m o hm2 ho).mono hle (fun _ => rfl)
  · intro i hi hne
    have hi2 : ¬ (wbase ≤ i ∧ i < wbase + countV row) := by
      rcases hi with h | h
      · intro h2; unfold abase at h; unfold wbase at h2; omega
      · exact hmbn h.1
    rw [hold hi2] at hne
    obtain ⟨m, hm⟩ := g.gmap i hi hne
    exact ⟨m, hle _ _ hm⟩
  · intro i m ha hi hm
    rcases hρ i m hm with ⟨a, c, _⟩ | ⟨_, hm⟩
    · omega
    · exact g.pins i m ha hi hm
  · obtain ⟨c, m, hx, _⟩ := h2 q q1 q2
    exact ⟨c, m, hx, by simp [caps, hx], by simp [ρ3, q1, q2, hx]⟩
  · intro i m hm
    rcases hρ i m hm with ⟨a, c, hb, _⟩ | ⟨_, hm⟩
    · exact .inr ⟨a, by omega, hb.2⟩
    · exact .inl hm

/-! ### The caller's view while the rounds run -/
theorem aliveIn_out {μ : Mu} {H : Heap} {i : Nat} (h : aliveIn μ H i = true) : ∃ o o2, H.get i = some o ∧ mapO μ o = some o2 ∧ o.alive = true := by
  unfold aliveIn at h
  cases hg : H.get i with
  | none => simp [hg] at h
  | some o =>
    simp only [hg] at h
    cases hm : mapO μ o with
    | none => simp [hm] at h
    | some o2 =>
      refine ⟨o, o2, rfl, hm, mapO_alive hm (fun e => ?_)⟩
      subst e
      simp [hm] at h
structure DemOK (Z : List Nat) (μ : Mu) (H : Heap) (nx : Nat) : Prop where
  fst : (μ.map (·.1)).Nodup
  snd : (μ.map (·.2)).Nodup
  live : ∀ i j, (i, j) ∈ μ → ∃ o o2, H.get i = some o ∧ mapO μ o = some o2 ∧ o.alive = true
  win : ∀ i j, (i, j) ∈ μ → i < wbase ∨ hbase ≤ i
  cls : ∀ i j, (i, j) ∈ μ → (i < gbase ∧ j = i ∧ (i < mbase ∨ i ∉ Z)) ∨ (gbase ≤ i ∧ i ∈ Z ∧ abase ≤ j ∧ j < wbase) ∨ (gbase ≤ i ∧ i ∉ Z ∧ gbase ≤ j ∧ j < nx)
theorem demGood_ok {Z : List Nat} {μ : Mu} {H : Heap} {b : Blocks} (h : demGood Z μ H b = true) : DemOK Z μ H (heapOf b).next := by
  simp only [demGood, Bool.and_eq_true] at h
  have hall := fun p hp => List.all_eq_true.1 h.2 p hp
  refine ⟨nodupB_spec h.1.1, nodupB_spec h.1.2, fun i j hij => ?_, fun i j hij => ?_, fun i j hij => ?_⟩
  all_goals
    have := hall _ hij
    simp only [Bool.and_eq_true, Bool.or_eq_true, decide_eq_true_eq] at this
    obtain ⟨⟨h1, h2⟩, h3⟩ := this
  · exact aliveIn_out h1
  · exact h2
  · split at h3
    · rename_i hlt
      simp only [Bool.and_eq_true, Bool.or_eq_true, decide_eq_true_eq, beq_iff_eq, Bool.not_eq_true', List.contains_eq_mem, decide_eq_false_iff_not] at h3
      exact .inl ⟨hlt, h3.1, h3.2⟩
    · rename_i hge
      split at h3
      · rename_i hz
        simp only [Bool.and_eq_true, decide_eq_true_eq] at h3
        exact .inr (.inl ⟨by omega, by simpa using hz, h3⟩)
      · rename_i hz
        simp only [Bool.and_eq_true, decide_eq_true_eq] at h3
        exact .inr (.inr ⟨by omega, by simpa using hz, h3⟩)
theorem mu_eq_snd {μ : Mu} (h : (μ.map (·.2)).Nodup) {i i' j : Nat} (h1 : (i, j) ∈ μ) (h2 : (i', j) ∈ μ) : i = i' := by have := nodup_inj h h1 h2 rfl; cases this; rfl
theorem mu_eq_fst {μ : Mu} (h : (μ.map (·.1)).Nodup) {i j j' : Nat} (h1 : (i, j) ∈ μ) (h2 : (i, j') ∈ μ) : j = j' := by have := nodup_inj h h1 h2 rfl; cases this; rfl
theorem ren_obj {μ : Mu} (ok : MuS μ) (g : Gam w0 ρ H w) {i : Nat} {m : Meta} {o : AObj} (hm : μ.ren ρ i = some m) (ho : (heapOf (gcB H μ μ)).get i = some o) : ObjR (μ.ren ρ) w m o ∧ ∃ i0 o0, (i0, i) ∈ μ ∧ ρ i0 = some m ∧ H.get i0 = some o0 ∧ mapO μ o0 = some o ∧ o.alive = o0.alive := by
  obtain ⟨i0, hi0, hr0⟩ := Mu.ren_some hm
  obtain ⟨i1, o1, hi1, hg1, hmo⟩ := gcB_mem (heapOf_get ho)
  obtain rfl := mu_eq_snd ok.snd hi0 hi1
  obtain ⟨r1, r2⟩ := mapO_S ok hmo (g.obj _ m _ hr0 hg1)
  exact ⟨r1, i0, o1, hi0, hr0, hg1, hmo, r2⟩
theorem act_S {μ : Mu} (ok : MuS μ) {A : AAct} {a : Act} (ra : ActR ρ A a) {keep : List Tmp} (hdef : gcDef μ keep A = true) : ActR (μ.ren ρ) (actOf A.size (gcS μ keep A)) a := by
  refine ⟨ra.size, ?_, ?_⟩
  · intro t
    unfold AAct.slot actOf
    simp only
    rcases foldlS_tree (gcS μ keep A) (blank A.size) t with h | ⟨p, hp, h0, h1, h2⟩
    · rw [h, blank_get]
      by_cases ht : t < A.size
      · rw [if_pos ht]; exact .unknown _ _
      · rw [if_neg ht]
        have : a.tmps.getD t undef = undef := by
          rw [Array.getD_eq_getD_getElem?, Array.getElem?_eq_none (by rw [ra.size]; exact Nat.le_of_not_lt ht)]
          rfl
        rw [this]
        exact VR.undef _
    · rw [h2]
      unfold gcS at hp
      rcases List.mem_append.1 hp with hp | hp
      · obtain ⟨k, _, rfl⟩ := List.mem_map.1 hp
        simp only at h1
        subst h1
        exact mapV_S ok 8 _ _ (ra.slot k)
      · obtain ⟨D, _, rfl⟩ := List.mem_map.1 hp
        exact absurd h0 (Nat.lt_irrefl _)
  · have hde : (actOf A.size (gcS μ keep A)).defers = A.defers.map fun D => (μ.find D).getD 0 := defOf_gcS hdef
    rw [hde]
    refine ⟨by rw [List.length_map]; exact ra.defers.1, fun j D' h => ?_⟩
    rw [List.getElem?_map] at h
    obtain ⟨D, hD, rfl⟩ := Option.map_eq_some_iff.1 h
    obtain ⟨m, h1, h2⟩ := ra.defers.2 j D hD
    simp only [gcDef, Bool.and_eq_true] at hdef
    obtain ⟨q, hq⟩ := Option.isSome_iff_exists.1 (List.all_eq_true.1 hdef.2 D (List.mem_of_getElem? hD))
    exact ⟨m, by rw [hq]; simp only [Option.getD_some]; rw [Mu.ren_of ok.snd (Mu.find_mem hq)]; exact h1, h2⟩
theorem DemOK.toS {Z : List Nat} {μ : Mu} {nx : Nat} (ok : DemOK Z μ H nx) : MuS μ := ⟨ok.snd, fun i j hij hlt => by
  rcases ok.cls i j hij with h | h | h
  · exact h.2.1
  · have := h.1; unfold gbase at this; unfold abase at hlt; omega
  · have := h.1; unfold gbase at this; unfold abase at hlt; omega⟩
theorem dem_gam {Z : List Nat} {μ : Mu} (g : Gam w0 ρ H w) (wt : Wit w0 ρ H w Fo) (ok : DemOK Z μ H (heapOf (gcB H μ μ)).next) :
    Gam w0 (μ.ren ρ) (heapOf (gcB H μ μ)) w ∧ Wit w0 (μ.ren ρ) (heapOf (gcB H μ μ)) w (fun k => (∃ own rest, (heapOf (gcB H μ μ)).get ynum = some (.yld own rest)) ∧ Fo k) ∧
    (∀ j m, mbase ≤ j → μ.ren ρ j = some m → ∃ i, (i, j) ∈ μ ∧ ρ i = some m ∧ H.live i ∧ mbase ≤ i ∧ i ∉ Z) ∧ (∀ j m, j < mbase → μ.ren ρ j = some m → ∃ i, (i, j) ∈ μ ∧ ρ i = some m ∧ H.live i ∧ (i < mbase ∨ i ∈ Z)) ∧
    (∀ q, wbase ≤ q → q < hbase → μ.ren ρ q = none ∧ ∀ o, (q, o) ∉ gcB H μ μ) := by
  have okS := ok.toS
  have big : ∀ {i j : Nat}, (i, j) ∈ μ → mbase ≤ j → mbase ≤ i ∧ i ∉ Z := by
    intro i j hij hj
    rcases ok.cls i j hij with ⟨h1, h2, h3⟩ | h | h
    · subst h2; exact ⟨hj, h3.resolve_left (by omega)⟩
    · have := h.2.2.2; unfold wbase at this; unfold mbase at hj; omega
    · exact ⟨mb_of h.1, h.2.1⟩
  have big' : ∀ {i j : Nat}, (i, j) ∈ μ → gbase ≤ j → gbase ≤ i := by
    intro i j hij hj
    rcases ok.cls i j hij with ⟨h1, h2, h3⟩ | h | h
    · omega
    · exact h.1
    · exact h.1
  have same : ∀ {i j : Nat}, (i, j) ∈ μ → (j < abase ∨ (hbase ≤ j ∧ j < gbase)) → j = i := by
    intro i j hij hj
    rcases ok.cls i j hij with h | h | h
    · exact h.2.1
    · have h1 := h.2.2.1; have h2 := h.2.2.2; unfold wbase at h2; unfold hbase at hj; omega
    · have h1 := h.2.2.1; unfold gbase at h1 hj; unfold abase at hj; omega
  have liveOf : ∀ {i j : Nat}, (i, j) ∈ μ → H.live i := fun hij => let ⟨o, _, h1, _, h2⟩ := ok.live _ _ hij; ⟨o, h1, h2⟩
  have obj := fun {i : Nat} {m : Meta} {o : AObj} (hm : μ.ren ρ i = some m) (ho : (heapOf (gcB H μ μ)).get i = some o) => ren_obj okS g hm ho
  have wt2 : Wit w0 (μ.ren ρ) (heapOf (gcB H μ μ)) w (fun k => (∃ own rest, (heapOf (gcB H μ μ)).get ynum = some (.yld own rest)) ∧ Fo k) := by
    refine ⟨fun own rest hget => ?_, fun h k hk => let ⟨⟨own, rest, h'⟩, _⟩ := hk; h own rest h'⟩
    obtain ⟨i, o', hi, hg, hmo⟩ := gcB_mem (heapOf_get hget)
    have ho' := isYld_of hmo
    subst ho'
    obtain rfl : ynum = i := same hi (.inr (by decide))
    obtain ⟨m, q1, q2, q3⟩ := wt.is own rest hg
    have eF : (fun k => (∃ own rest, (heapOf (gcB H μ μ)).get ynum = some (.yld own rest)) ∧ Fo k) = Fo := by
      funext k
      exact propext ⟨fun h => h.2, fun h => ⟨⟨own, rest, hget⟩, h⟩⟩
    refine ⟨m, by rw [Mu.ren_of ok.snd hi]; exact q1, by rw [eF]; exact q2, fun j n hj hl hne hF => ?_⟩
    obtain ⟨oj, gj, aj⟩ := hl
    obtain ⟨_, j0, oj0, hj0, rj0, gj0, _, haj⟩ := obj hj gj
    exact q3 j0 n rj0 ⟨oj0, gj0, by rw [← haj]; exact aj⟩ (fun e => by subst e; exact hne (mu_eq_fst ok.fst hj0 hi)) hF.2
  refine ⟨⟨Nat.le_add_right _ _, ?_, g.below, ?_, ?_, ?_, fun i m o hm ho => (obj hm ho).1, ?_, ?_, g.vars, g.itok, wt2.yld⟩, wt2, ?_, ?_, ?_⟩
  · intro i hi
    cases hr : μ.ren ρ i with
    | none => rfl
    | some m =>
      obtain ⟨i0, hi0, _⟩ := Mu.ren_some hr
      have hgb : gbase ≤ (heapOf (gcB H μ μ)).next := Nat.le_add_right _ _
      rcases ok.cls _ _ hi0 with h | h | h
      · omega
      · have := h.2.2.2; unfold wbase at this; unfold gbase at hgb; omega
      · omega
  · intro j m hm
    obtain ⟨i, hi, hr⟩ := Mu.ren_some hm
    exact ⟨(g.own i m hr).1, fun hj => (g.own i m hr).2 (big' hi hj)⟩
  · intro j m hm hj
    obtain ⟨i, hi, hr⟩ := Mu.ren_some hm
    have := same hi (.inl hj)
    subst this
    exact g.glob _ m hr hj
  · rintro i j mi mj hgi ⟨oi, gi, ai⟩ ⟨oj, gj, aj⟩ ei ej hb
    obtain ⟨_, i0, oi0, hi0, ri0, gi0, _, hai⟩ := obj ei gi
    obtain ⟨_, j0, oj0, hj0, rj0, gj0, _, haj⟩ := obj ej gj
    have := g.inj i0 j0 mi mj (big hi0 hgi).1 ⟨oi0, gi0, by rw [← hai]; exact ai⟩ ⟨oj0, gj0, by rw [← haj]; exact aj⟩ ri0 rj0 hb
    subst this
    exact mu_eq_fst ok.fst hi0 hj0
  · intro j hj hn
    cases ho : (heapOf (gcB H μ μ)).get j with
    | none => exact absurd ho hn
    | some o =>
      obtain ⟨i, o', hi, hg, _⟩ := gcB_mem (heapOf_get ho)
      have := same hi (hj.imp id (fun h => ⟨Nat.le_trans (by decide) h.1, h.2⟩))
      subst this
      obtain ⟨m, hm⟩ := g.gmap j hj (by rw [hg]; simp)
      exact ⟨m, by rw [Mu.ren_of ok.snd hi]; exact hm⟩
  · intro j m ha hj hm
    obtain ⟨i, hi, hr⟩ := Mu.ren_some hm
    have := same hi (.inr ⟨ha, hj⟩)
    subst this
    exact g.pins _ m ha hj hr
  · intro j m hj hm
    obtain ⟨i, hi, hr⟩ := Mu.ren_some hm
    exact ⟨i, hi, hr, liveOf hi, big hi hj⟩
  · intro j m hj hm
    obtain ⟨i, hi, hr⟩ := Mu.ren_some hm
    refine ⟨i, hi, hr, liveOf hi, ?_⟩
    rcases ok.cls i j hi with ⟨h1, h2, h3⟩ | h | h
    · subst h2; exact .inl hj
    · exact .inr h.2.1
    · have := h.2.2.1; unfold gbase at this; unfold mbase at hj; omega
  · intro q q1 q2
    have no : ∀ i, (i, q) ∉ μ := by
      intro i hi
      rcases ok.cls i q hi with ⟨h1, h2, h3⟩ | h | h
      · subst h2; rcases ok.win _ _ hi with h | h <;> omega
      · omega
      · have := h.2.2.1; unfold gbase at this; unfold hbase at q2; omega
    refine ⟨?_, fun o ho => ?_⟩
    · cases hr : μ.ren ρ q with
      | none => rfl
      | some m => obtain ⟨i, hi, _⟩ := Mu.ren_some hr; exact absurd hi (no i)
    · obtain ⟨i, _, hi, _⟩ := gcB_mem ho
      exact no i hi

/-! ### The view of the function that is ranged over -/
structure IterOK (μ : Mu) (H : Heap) : Prop where
  fst : (μ.map (·.1)).Nodup
  snd : (μ.map (·.2)).Nodup
  cls : ∀ i j, (i, j) ∈ μ → abase ≤ i ∧ (i < mbase ∨ gbase ≤ i) ∧ hbase ≤ j ∧ j < mbase
  live : ∀ i j, (i, j) ∈ μ → ∃ o o2, H.get i = some o ∧ mapO μ o = some o2 ∧ o.alive = true
theorem iterGood_ok {μ : Mu} {H : Heap} (h : iterGood μ H = true) : IterOK μ H := by
  simp only [iterGood, Bool.and_eq_true] at h
  have hall := fun p hp => List.all_eq_true.1 h.2 p hp
  refine ⟨nodupB_spec h.1.1, nodupB_spec h.1.2, fun i j hij => ?_, fun i j hij => ?_⟩
  all_goals
    have := hall _ hij
    simp only [Bool.and_eq_true, Bool.or_eq_true, decide_eq_true_eq] at this
    obtain ⟨⟨⟨⟨h1, h2⟩, h3⟩, h4⟩, h5⟩ := this
  · exact ⟨h1, h2, h3, h4⟩
  · exact aliveIn_out h5
theorem IterOK.toS {μ : Mu} (ok : IterOK μ H) : MuS μ := ⟨ok.snd, fun i j hij hlt => by have := (ok.cls i j hij).1; omega⟩
theorem reachV_placed (g : Gam w0 ρ H w) : ∀ (f : Nat) (work : List Nat) (μ : Mu) (ro : Nat), (∀ i ∈ work, Placed ρ i) → (∀ p ∈ μ, Placed ρ p.1) → ∀ p ∈ reachV H f work μ ro, Placed ρ p.1
  | 0, _, μ, _, _, h => by simpa [reachV] using h
  | f + 1, [], μ, _, _, h => by simpa [reachV] using h
  | f + 1, i :: work, μ, ro, hw, h => by
    have hw2 : ∀ j ∈ work, Placed ρ j := fun j hj => hw j (List.mem_cons_of_mem _ hj)
    have hi := hw i (List.mem_cons_self ..)
    unfold reachV
    split
    · exact reachV_placed g f work μ ro hw2 h
    · split
      · exact reachV_placed g f work μ ro hw2 h
      · rename_i o ho
        have hm : ∃ m, ρ i = some m := by
          rcases hi with hlt | hm
          · exact g.gmap i (.inl hlt) (by rw [ho]; simp)
          · exact hm
        obtain ⟨m, hm⟩ := hm
        refine reachV_placed g f _ _ _ (fun j hj => ?_) (fun p hp => ?_)
        · rcases List.mem_append.1 hj with hj | hj
          · exact hw2 j hj
          · exact blocksO_placed (g.obj i m o hm ho) j hj
        · rcases List.mem_append.1 hp with hp | hp
          · exact h p hp
          · rw [List.mem_singleton.1 hp]; exact hi
def iterRen (μ : Mu) (ρ : Ren) (ml : Meta) : Ren := fun j => if j = ynum then some ml else μ.ren ρ j
theorem iter_gam {μ : Mu} (g : Gam w0 ρ H w) (ok : IterOK μ H) {rows : List (List D)} {ml : Meta} (hml : w.heap.size ≤ ml.b) (hml2 : ml.b < w.heap.size + 2) {w1 : World} (hbl : Below w.heap.size w w1) (hsz1 : ml.b < w1.heap.size) {s : Start P} (hsw : s.w = w1) (hsp : s.pin = iterRen μ ρ ml) (hmine : ∀ k, ¬ s.mine k)
    (hvars : ∀ q ∈ varsOf P, ¬ s.free q.1) (hok : ItOK s) {F0 : Nat → Prop} (hit : s.it false (some rows) F0 ml.b w1) (hd : ∀ i j n, (i, j) ∈ μ → ρ i = some n → ¬ F0 n.b) : Gam s (iterRen μ ρ ml) (heapOf ((ynum, .yld false (some rows)) :: gcB H μ μ)) w1 := by
  have okS := ok.toS
  have g1 : Gam w0 ρ H w1 := g.grow hbl
  have ine : ∀ {i j : Nat}, (i, j) ∈ μ → j ≠ ynum := fun hij e => by have := (ok.cls _ _ hij).2.2.2; subst e; exact absurd this (by decide)
  have rOf : ∀ {j : Nat} {m : Meta}, iterRen μ ρ ml j = some m → (j = ynum ∧ m = ml) ∨ (j ≠ ynum ∧ ∃ i, (i, j) ∈ μ ∧ ρ i = some m) := by
    intro j m h
    unfold iterRen at h
    split at h
    · rename_i e; cases h; exact .inl ⟨e, rfl⟩
    · rename_i e
      obtain ⟨i, hi, hr⟩ := Mu.ren_some h
      exact .inr ⟨e, i, hi, hr⟩
  have hle : (μ.ren ρ).le (iterRen μ ρ ml) := by
    intro j m h
    obtain ⟨i, hi, _⟩ := Mu.ren_some h
    unfold iterRen
    rw [if_neg (ine hi)]; exact h
  have getY : ∀ {j : Nat} {o : AObj}, (heapOf ((ynum, .yld false (some rows)) :: gcB H μ μ)).get j = some o → (j = ynum ∧ o = .yld false (some rows)) ∨ (j ≠ ynum ∧ ∃ i o0, (i, j) ∈ μ ∧ H.get i = some o0 ∧ mapO μ o0 = some o) := by
    intro j o h
    rcases List.mem_cons.1 (heapOf_get h) with e | h
    · cases e; exact .inl ⟨rfl, rfl⟩
    · obtain ⟨i, o0, hi, hg, hmo⟩ := gcB_mem h
      exact .inr ⟨ine hi, i, o0, hi, hg, hmo⟩
  have hs1 := hbl.size
  refine ⟨Nat.le_add_right _ _, ?_, ?_, ?_, ?_, ?_, ?_, ?_, fun i m _ _ h => by rw [hsp]; exact h, ?_, hok, ?_⟩
  · intro i hi
    have hgb : gbase ≤ i := Nat.le_trans (Nat.le_add_right _ _) hi
    cases hr : iterRen μ ρ ml i with
    | none => rfl
    | some m =>
      rcases rOf hr with ⟨e, _⟩ | ⟨_, i0, hi0, _⟩
      · subst e; exact absurd hgb (by decide)
      · have := (ok.cls _ _ hi0).2.2.2; unfold mbase at this; unfold gbase at hgb; omega
  · have := Kept.refl s
    rwa [hsw] at this
  · intro j m hm
    rcases rOf hm with ⟨e, rfl⟩ | ⟨_, i, hi, hr⟩
    · exact ⟨hsz1, fun h => by subst e; exact absurd h (by decide)⟩
    · exact ⟨(g1.own i m hr).1, fun h => by have := (ok.cls _ _ hi).2.2.2; unfold mbase at this; unfold gbase at h; omega⟩
  · intro j m hm hj
    rcases rOf hm with ⟨e, _⟩ | ⟨_, i, hi, hr⟩
    · subst e; exact absurd hj (by decide)
    · have := (ok.cls _ _ hi).2.2.1; unfold hbase at this; unfold abase at hj; omega
  · intro i j mi mj hgi hi hj ei ej hb
    rcases rOf ei with ⟨e, rfl⟩ | ⟨_, i0, hi0, _⟩
    · rcases rOf ej with ⟨e2, _⟩ | ⟨_, j0, hj0, rj0⟩
      · rw [e, e2]
      · have := (g.own j0 mj rj0).1; omega
    · have := (ok.cls _ _ hi0).2.2.2; omega
  · intro j m o hm ho
    rcases getY ho with ⟨_, rfl⟩ | ⟨hne, i, o0, hi, hg, hmo⟩
    · trivial
    · rcases rOf hm with ⟨e, _⟩ | ⟨_, i2, hi2, hr2⟩
      · exact absurd e hne
      · obtain rfl := mu_eq_snd ok.snd hi hi2
        exact (mapO_S okS hmo (g1.obj _ m _ hr2 hg)).1.mono hle (fun _ => rfl)
  · intro j hj hn
    cases ho : (heapOf ((ynum, .yld false (some rows)) :: gcB H μ μ)).get j with
    | none => exact absurd ho hn
    | some o =>
      rcases getY ho with ⟨e, _⟩ | ⟨_, i, o0, hi, _⟩
      · exact ⟨ml, by simp [iterRen, e]⟩
      · have := (ok.cls _ _ hi).2.2; unfold hbase mbase at this; unfold abase mbase at hj; omega
  · intro q hq
    refine ⟨by rw [hsw]; exact g1.good q hq, ?_⟩
    have h6 := VarKind.ok_some (g.good q hq)
    have h7 : q.1 < w.heap.size := by
      rcases Nat.lt_or_ge q.1 w.heap.size with h | h
      · exact h
      · rw [Array.getElem?_eq_none h] at h6; cases h6
    rintro ((⟨j, m, h1, h2, h3, h4⟩ | h) | h)
    · rw [hsp] at h3
      rcases rOf h3 with ⟨_, rfl⟩ | ⟨_, i, hi, _⟩
      · omega
      · have := (ok.cls _ _ hi).2.2.2; omega
    · exact hmine _ h
    · exact hvars q hq h
  · intro own rest hget
    rcases getY hget with ⟨_, e⟩ | ⟨hne, _⟩
    · cases e
      refine ⟨ml, F0, by simp [iterRen], hit, fun j n hj hl hne hF => ?_⟩
      rcases rOf hj with ⟨e, _⟩ | ⟨_, i, hi, hr⟩
      · exact hne e
      · exact hd i j n hi hr hF
    · exact absurd rfl hne
end Go.Abs

/- A range over a function: the rule. -/
namespace Go.Abs
open Go.RowKit
variable {P : Program} {ρ : Ren} {w0 : Start P} {w : World} {H : Heap} {h : Handler} {Fo : Nat → Prop}

theorem readsL_len {ds : List D} {vs : List Value} (h : ReadsL w ds vs) : ds.length = vs.length := by
  induction ds generalizing vs with
  | nil => cases h; rfl
  | cons d r ih => cases h with | cons h t => simp [ih t]
theorem putAll_size : ∀ (l : List (Tmp × Value)) (A : AAct), (A.putAll l).size = A.size
  | [], _ => rfl
  | (t, v) :: l, A => by
    simp only [AAct.putAll]
    rw [putAll_size l]
    unfold AAct.put1
    split <;> rfl
theorem Foot.mono {ρ2 : Ren} {Fo2 : Nat → Prop} {k : Nat} (hr : ∀ i m, mbase ≤ i → ρ i = some m → ρ2 i = some m) (hf : Fo k → Fo2 k) (h : Foot ρ Fo k) : Foot ρ2 Fo2 k := by
  rcases h with ⟨i, m, h1, h2, h3⟩ | h
  · exact .inl ⟨i, m, h1, hr i m h1 h2, h3⟩
  · exact .inr (hf h)
theorem foot_may (g : Gam w0 ρ H w) (wt : Wit w0 ρ H w Fo) {k : Nat} (h : Foot ρ Fo k) (hk : k < w0.w.heap.size) : w0.may k := by
  rcases h with ⟨i, m, h1, h2, rfl⟩ | h
  · rcases Nat.lt_or_ge i gbase with hl | hl
    · exact .inl (.inl ⟨i, m, h1, hl, g.pins i m (Nat.le_trans (by decide) h1) hl h2, rfl⟩)
    · rcases (g.own i m h2).2 hl with h | h
      · omega
      · exact .inl (.inr h)
  · exact .inr (wt.free g h hk)
theorem foot_lt (g : Gam w0 ρ H w) (wt : Wit w0 ρ H w Fo) {k : Nat} (h : Foot ρ Fo k) : k < w.heap.size := by
  rcases h with ⟨i, m, h1, h2, rfl⟩ | h
  · exact (g.own i m h2).1
  · exact wt.bound g h
theorem gc_wit {μ : Mu} (g : Gam w0 ρ H w) (wt : Wit w0 ρ H w Fo) (ok : MuOK μ (heapOf (gcB H μ μ)).next) : Wit w0 (μ.ren ρ) (heapOf (gcB H μ μ)) w (fun k => (∃ own rest, (heapOf (gcB H μ μ)).get ynum = some (.yld own rest)) ∧ Fo k) := by
  have okS : MuS μ := ⟨ok.snd, fun i j hij hlt => by
    rcases ok.cls i j hij with h | h
    · exact h.2
    · have := h.1; unfold gbase at this; unfold abase at hlt; omega⟩
  refine ⟨fun own rest hget => ?_, fun h k hk => let ⟨⟨own, rest, h'⟩, _⟩ := hk; h own rest h'⟩
  obtain ⟨i, o', hi, hg, hmo⟩ := gcB_mem (heapOf_get hget)
  have ho' := isYld_of hmo
  subst ho'
  have hiy : ynum = i := by
    rcases ok.cls _ _ hi with h | h
    · exact h.2
    · exact absurd h.2.1 (by decide)
  subst hiy
  obtain ⟨m, q1, q2, q3⟩ := wt.is own rest hg
  have eF : (fun k => (∃ own rest, (heapOf (gcB H μ μ)).get ynum = some (.yld own rest)) ∧ Fo k) = Fo := by
    funext k
    exact propext ⟨fun h => h.2, fun h => ⟨⟨own, rest, hget⟩, h⟩⟩
  refine ⟨m, by rw [Mu.ren_of ok.snd hi]; exact q1, by rw [eF]; exact q2, fun j n hj hl hne hF => ?_⟩
  obtain ⟨oj, gj, aj⟩ := hl
  obtain ⟨_, j0, oj0, hj0, rj0, gj0, _, haj⟩ := ren_obj okS g hj gj
  exact q3 j0 n rj0 ⟨oj0, gj0, by rw [← haj]; exact aj⟩ (fun e => by subst e; exact hne (mu_eq_fst ok.fst hj0 hi)) hF.2

/-- The record of a loop changes: nothing else. -/
theorem Gam.record (g : Gam w0 ρ H w) (wt : Wit w0 ρ H w Fo) {lr : Nat} (h0 : w0.w.heap.size ≤ lr) (hm : ∀ i m, ρ i = some m → m.b ≠ lr) (hf : ¬ Fo lr) (o : Obj) : Gam w0 ρ H (w.putObj lr o) ∧ Wit w0 ρ H (w.putObj lr o) Fo := by
  have hput : ∀ k, k ≠ lr → (w.putObj lr o).heap[k]? = w.heap[k]? := fun k hk => World.putObj_heap_other hk
  exact g.same wt rfl rfl rfl (by simp [World.putObj]) (fun k hk _ => hput k (by omega)) (fun i m h _ => hput _ (hm i m h)) (fun k hk => hput k (fun e => hf (e ▸ hk)))

/-- What a round leaves. -/
def Left (B : Slots → Blocks → Prop) (X : Exit → Slots → Blocks → Prop) (e : Exit) (s : Slots) (b : Blocks) : Prop :=
  match e with
  | .normal => B s b
  | .ret => X .ret s b
  | .exit i => X (.exit i) s b
  | _ => False
theorem rend_out {keep : List Tmp} {A A1 : AAct} {B : Slots → Blocks → Prop} {X : Exit → Slots → Blocks → Prop} {e : Exit} (hk : rendK keep A B X e A1 H) : ∃ μ, rowGood μ keep A (gcB H μ μ) = true ∧ Left B X e (gcS μ keep A) (gcB H μ μ) := by
  cases e with
  | normal => obtain ⟨h1, h2⟩ := bcase_out hk; exact ⟨_, h1, h2⟩
  | ret => obtain ⟨h1, h2⟩ := bcase_out hk; exact ⟨_, h1, h2⟩
  | exit i => obtain ⟨h1, h2⟩ := bcase_out hk; exact ⟨_, h1, h2⟩
  | _ => exact hk.elim

def JumpIs (e : Exit) (jump : Option Code) : Prop := match e with | .normal => jump = none | .ret => jump = some .ret | .exit i => jump = some (.exit i) | _ => False
/-- What is known behind a round. -/
def RoundQ (sz : Nat) (B : Slots → Blocks → Prop) (X : Exit → Slots → Blocks → Prop) (w0 : Start P) (ρ : Ren) (Fo : Nat → Prop) (w : World) (a : Act) (lr : Nat) (L : Loop) (e : Ending) (w' : World) : Prop :=
      ∃ (jump : Option Code) (ex : Exit) (ρ' : Ren) (s' : Slots) (b' : Blocks) (Fo' : Nat → Prop) (L' : Loop), e = .returned (.bool jump.isNone) ∧ Left B X ex s' b' ∧ JumpIs ex jump ∧
        Gam w0 ρ' (heapOf b') w' ∧ Wit w0 ρ' (heapOf b') w' Fo' ∧ ActR ρ' (actOf sz s') a ∧ w'.heap[lr]? = some (.loop L') ∧ L' = { L with state := if jump.isNone then .ready else .done, pending := jump } ∧
        w'.os = w.os ∧ w'.tape = w.tape ∧ w'.output = w.output ∧ w.heap.size ≤ w'.heap.size ∧ (∀ k, k < w.heap.size → k ≠ lr → ¬ Foot ρ Fo k → w'.heap[k]? = w.heap[k]?) ∧ (∀ k, Foot ρ' Fo' k → Foot ρ Fo k ∨ w.heap.size ≤ k) ∧
        (∀ i m, ρ' i = some m → m.b ≠ lr) ∧ ¬ Fo' lr ∧ (∀ i m, i < mbase → ρ' i = some m → ρ i = some m) ∧ (∀ q, wbase ≤ q → q < hbase → ρ' q = none ∧ ∀ o, (q, o) ∉ b')

/-- A ROUND, from the caller's view. lr: the loop's record. -/
theorem round_run (hh : HandlerOK P h) (hmix : P.follows .mixedOrders = true) {u : Nat} (hu : u ≠ 0) {sz : Nat} {ps : Array Tmp} {x y : Code} {l : Lv} {keep : List Tmp} {s : Slots} {b : Blocks} {row : List D} {B : Slots → Blocks → Prop} {X : Exit → Slots → Blocks → Prop}
    (hr : roundR P h u sz ps x y l keep s b row B X) (g : Gam w0 ρ (heapOf b) w) (wt : Wit w0 ρ (heapOf b) w Fo) {a : Act} (ra : ActR ρ (actOf sz s) a) {lr : Nat} {L : Loop} (hL : w.heap[lr]? = some (.loop L)) (h0 : w0.w.heap.size ≤ lr)
    (hLt : L.tmps = a.tmps) (hLp : L.params = ps) (hLa : L.assign = x) (hLb : L.body = y) (hLs : L.state = .ready) (hm : ∀ i m, ρ i = some m → m.b ≠ lr) (hf : ¬ Fo lr) (hno : ∀ q, wbase ≤ q → q < hbase → ρ q = none ∧ ∀ o, (q, o) ∉ b)
    {F : Nat → Prop} (hFl : F lr) (hF : ∀ k, Foot ρ Fo k → F k) {args' : Array Value} (hrd : ReadsL (hide F w) row args'.toList) (rC : Option Nat) (n : Nat) :
    L.params.size = args'.size ∧ RoundIn (Fr rC) n P lr L.fn ((L.params.zip args').foldl (fun tmps (t, a) => tmps.setIfInBounds t a) L.tmps) L.assign L.body w (RoundQ sz B X w0 ρ Fo w a lr L) := by
  have hlr : lr < w.heap.size := by
    rcases Nat.lt_or_ge lr w.heap.size with h | h
    · exact h
    · rw [Array.getElem?_eq_none h] at hL; cases hL
  unfold roundR at hr
  obtain ⟨hcnt, hwp⟩ := bcase_out hr
  simp only [Bool.and_eq_true, decide_eq_true_eq] at hcnt
  have hlen := readsL_len hrd
  refine ⟨by rw [hLp, ← hcnt.2, hlen]; simp, ?_⟩
  obtain ⟨caps, ρ3, g3, hl3, hle3, hnew3, wt3⟩ := g.layRow wt hno hF hrd hcnt.1
  have hwp := hwp caps
  -- numbers that may be written are the caller's
  have big3 : ∀ i m, mbase ≤ i → ρ3 i = some m → ρ i = some m := fun i m hi h => (hnew3 i m h).resolve_right (fun h2 => by have := h2.2.1; unfold mbase at hi; unfold hbase at this; omega)
  have foot3 : ∀ k, Foot ρ3 Fo k → Foot ρ Fo k := fun k hk => hk.mono big3 id
  have lr3 : ∀ i m, ρ3 i = some m → m.b ≠ lr := fun i m h e => by
    rcases hnew3 i m h with h | ⟨_, _, h⟩
    · exact hm i m h e
    · exact h (e ▸ hFl)
  refine roundIn_of_wpIn (Fr_fn _ _) ?_
  rw [Fr_inRound, hLa, hLb, hLp, hLt]
  have raA : ActR ρ3 (AAct.putAll { actOf sz s with defers := [] } (ps.toList.zip (layVals caps wbase row).1)) { tmps := (ps.zip args').foldl (fun tmps (t, a) => tmps.setIfInBounds t a) a.tmps, defers := [] } := by
    have base : ActR ρ3 { actOf sz s with defers := [] } { tmps := a.tmps, defers := [] } := ⟨ra.size, fun t => (ra.slot t).mono hle3, rfl, fun j D e => by simp at e⟩
    have := putAll_R ps.toList hl3 base
    have e : (ps.zip args').foldl (fun tmps (t, a) => tmps.setIfInBounds t a) a.tmps = (ps.toList.zip args'.toList).foldl (fun tmps (p : Tmp × Value) => tmps.setIfInBounds p.1 p.2) a.tmps := by
      rw [← Array.foldl_toList, Array.toList_zip]
    rw [e]
    exact this
  have hx := wpT_soundR (b := true) (rC := some lr) (sz := sz) hh hmix (fun h0 => absurd h0 hu) (fun h0 => absurd h0 hu) x hwp (fun h0 => absurd h0 hu) _ ρ3 w _ n (g3.atNow wt3) raA (putAll_size _ _)
  refine wpIn_mono hx ?_
  rintro e1 a1 w1 ⟨A1, H1, ρ4, k1, s1, ra4, g4, ext4⟩
  cases e1 with
  | normal =>
    obtain ⟨g4', key4, ⟨Fo4, wt4, hFo4⟩, foot4⟩ := g3.atBack wt3 g4
    have hs1 : w.heap.size ≤ w1.heap.size := g4.below.size
    have e4 := ext4 rfl
    have small4 : ∀ i m, i < mbase → ρ4 i = some m → ρ3 i = some m := by
      intro i m hi h
      have hnx : i < (heapOf (b ++ (layVals caps wbase row).2)).next := by have := g3.gb; unfold gbase at this; unfold mbase at hi; omega
      cases hr3 : ρ3 i with
      | none => rw [(e4.keep i hnx hr3).1] at h; cases h
      | some m' => rw [e4.le i m' hr3] at h; exact h
    have nfl : ¬ Foot ρ3 Fo lr := by
      rintro (⟨i, m, h1, h2, h3⟩ | h)
      · exact lr3 i m h2 h3
      · exact hf h
    have foot4' : ∀ k, Foot ρ4 Fo4 k → Foot ρ Fo k ∨ w.heap.size ≤ k := by
      rintro k (⟨i, m, h1, h2, rfl⟩ | h)
      · exact (foot4 i m h1 h2).imp (foot3 _) id
      · exact (hFo4 k h).imp .inr id
    have lr4 : ∀ i m, ρ4 i = some m → m.b ≠ lr := by
      intro i m h e
      rcases Nat.lt_or_ge i mbase with hl | hl
      · exact lr3 i m (small4 i m hl h) e
      · rcases foot4 i m hl h with h1 | h1
        · exact nfl (e ▸ h1)
        · omega
    have f4 : ¬ Fo4 lr := fun h => by
      rcases hFo4 lr h with h | h
      · exact hf h
      · omega
    have hL1 : w1.heap[lr]? = some (.loop L) := (key4 lr hlr nfl).trans hL
    have hlr1 : lr < w1.heap.size := by omega
    refine ⟨_, run_beginRound hL1 hLs, ?_⟩
    obtain ⟨gb, wtb⟩ := g4'.record wt4 h0 lr4 f4 (.loop { L with state := .busy })
    have hsb : (w1.putObj lr (.loop { L with state := .busy })).heap.size = w1.heap.size := by simp [World.putObj]
    have hLb1 : (w1.putObj lr (.loop { L with state := .busy })).heap[lr]? = some (.loop { L with state := .busy }) := World.putObj_heap_same hlr1
    have hy := wpT_soundR (b := true) (rC := some lr) (sz := sz) hh hmix (fun h0 => absurd h0 hu) (fun h0 => absurd h0 hu) y k1 (fun h0 => absurd h0 hu) _ ρ4 _ a1 n (gb.atNow wtb) ra4 s1
    refine wpIn_mono hy ?_
    rintro e2 a2 w2 ⟨A2, H2, ρ5, k2, s2, ra5, g5, ext5⟩
    obtain ⟨g5', key5, ⟨Fo5, wt5, hFo5⟩, foot5⟩ := gb.atBack wtb g5
    have hs2 : w1.heap.size ≤ w2.heap.size := by have := g5.below.size; simp only [startAt] at this; omega
    have e5 := ext5 rfl
    have small5 : ∀ i m, i < mbase → ρ5 i = some m → ρ4 i = some m := by
      intro i m hi h
      have hnx : i < H1.next := by have := g4.gb; unfold gbase at this; unfold mbase at hi; omega
      cases hr3 : ρ4 i with
      | none => rw [(e5.keep i hnx hr3).1] at h; cases h
      | some m' => rw [e5.le i m' hr3] at h; exact h
    have nfl4 : ¬ Foot ρ4 Fo4 lr := by
      rintro (⟨i, m, h1, h2, h3⟩ | h)
      · exact lr4 i m h2 h3
      · exact f4 h
    have foot5' : ∀ k, Foot ρ5 Fo5 k → Foot ρ Fo k ∨ w.heap.size ≤ k := by
      rintro k (⟨i, m, h1, h2, rfl⟩ | h)
      · rcases foot5 i m h1 h2 with h | h
        · exact foot4' _ h
        · exact .inr (by omega)
      · rcases hFo5 k h with h | h
        · exact foot4' _ (.inr h)
        · exact .inr (by omega)
    have hL2 : w2.heap[lr]? = some (.loop { L with state := .busy }) := (key5 lr (by omega) nfl4).trans hLb1
    have hlr2 : lr < w2.heap.size := by omega
    obtain ⟨μ, hgood, hleft⟩ := rend_out k2
    simp only [rowGood, Bool.and_eq_true] at hgood
    obtain ⟨hall, hrow⟩ := hgood
    have hok : MuOK μ (heapOf (gcB H2 μ μ)).next := by simp only [gcAll, Bool.and_eq_true] at hall; exact gcGood_ok hall.1
    have ra0 : ActR ρ5 (actOf sz s) a := ra.mono (Ren.le_trans hle3 (Ren.le_trans e4.le e5.le))
    obtain ⟨g6, ra6⟩ := gc_sub g5' ra0 hall
    have wt6 := gc_wit g5' wt5 hok
    have hrow' : ∀ i j, (i, j) ∈ μ → i < wbase ∨ hbase ≤ i := fun i j hij => by
      have := List.all_eq_true.1 hrow _ hij
      simpa using this
    have muBig : ∀ i j, (i, j) ∈ μ → mbase ≤ j → mbase ≤ i := fun i j hij hj => by
      rcases hok.cls i j hij with h | h
      · omega
      · exact mb_of h.1
    have muSmall : ∀ i j, (i, j) ∈ μ → j < mbase → i = j := fun i j hij hj => by
      rcases hok.cls i j hij with h | h
      · exact h.2.symm
      · have := h.2.1; unfold gbase at this; unfold mbase at hj; omega
    have small6 : ∀ i m, i < mbase → μ.ren ρ5 i = some m → ρ i = some m := by
      intro i m hi h
      obtain ⟨i0, hi0, hr0⟩ := Mu.ren_some h
      obtain rfl := muSmall _ _ hi0 hi
      rcases hnew3 _ m (small4 _ m hi (small5 _ m hi hr0)) with h | ⟨q1, q2, _⟩
      · exact h
      · rcases hrow' _ _ hi0 with h | h <;> omega
    have foot6 : ∀ k, Foot (μ.ren ρ5) (fun k => (∃ own rest, (heapOf (gcB H2 μ μ)).get ynum = some (.yld own rest)) ∧ Fo5 k) k → Foot ρ5 Fo5 k := by
      rintro k (⟨i, m, h1, h2, h3⟩ | h)
      · obtain ⟨i0, hi0, hr0⟩ := Mu.ren_some h2
        exact .inl ⟨i0, m, muBig _ _ hi0 h1, hr0, h3⟩
      · exact .inr h.2
    have nfl5 : ¬ Foot ρ5 Fo5 lr := fun h => by
      rcases foot5' lr h with h | h
      · rcases h with ⟨i, m, h1, h2, h3⟩ | h
        · exact hm i m h2 h3
        · exact hf h
      · omega
    have lr6 : ∀ i m, μ.ren ρ5 i = some m → m.b ≠ lr := by
      intro i m h e
      rcases Nat.lt_or_ge i mbase with hl | hl
      · exact hm i m (small6 i m hl h) e
      · exact nfl5 (foot6 _ (.inl ⟨i, m, hl, h, e⟩))
    have f6 : ¬ ((∃ own rest, (heapOf (gcB H2 μ μ)).get ynum = some (.yld own rest)) ∧ Fo5 lr) := fun h => nfl5 (.inr h.2)
    have fin : ∀ (jump : Option Code), JumpIs e2 jump → ∃ v w', (Instr.endRound lr jump).run P w2 = .ok v w' ∧ RoundQ sz B X w0 ρ Fo w a lr L (.returned v) w' := fun jump hj => by
      obtain ⟨g7, wt7⟩ := g6.record wt6 h0 lr6 f6 (.loop { ({ L with state := .busy } : Loop) with state := if jump.isNone then .ready else .done, pending := jump })
      refine ⟨_, _, run_endRound jump hL2, ?_⟩
      refine ⟨jump, e2, _, _, _, _, _, rfl, hleft, hj, g7, wt7, ra6, World.putObj_heap_same hlr2, rfl, g5.below.os.trans g4.below.os, g5.below.tape.trans g4.below.tape, g5.below.output.trans g4.below.output, (by simp [World.putObj]; omega), (fun k hk hkl hkf => by
          have nf3 : ¬ Foot ρ3 Fo k := fun h => hkf (foot3 k h)
          have nf4 : ¬ Foot ρ4 Fo4 k := fun h => by
            rcases foot4' k h with h | h
            · exact hkf h
            · omega
          rw [World.putObj_heap_other hkl, key5 k (by omega) nf4, World.putObj_heap_other hkl, key4 k hk nf3]), (fun k hk => foot5' k (foot6 k hk)), lr6, f6, small6, (fun q q1 q2 => ?_)⟩
      have no : ∀ i, (i, q) ∉ μ := by
        intro i hi
        have := muSmall _ _ hi (by unfold hbase at q2; unfold mbase; omega)
        subst this
        rcases hrow' _ _ hi with h | h <;> omega
      refine ⟨?_, fun o ho => ?_⟩
      · cases hr : μ.ren ρ5 q with
        | none => rfl
        | some m => obtain ⟨i, hi, _⟩ := Mu.ren_some hr; exact absurd hi (no i)
      · obtain ⟨i, _, hi, _⟩ := gcB_mem ho
        exact no i hi
    cases e2 with
    | normal => exact fin none rfl
    | ret => exact fin (some .ret) rfl
    | exit i => exact fin (some (.exit i)) rfl
    | _ => exact hleft.elim
  | _ => exact k1.elim

/-- The end of a function that is ranged over: all has been handed on, or the rounds have stopped. -/
def EndY : Value → Blocks → Prop := fun _ bs => ∃ r, (heapOf bs).get ynum = some (.yld false r) ∧ (r = some [] ∨ r = none)
/-- Where the caller stands between two rounds. -/
def StandsAt (J : List (List D) → Slots → Blocks → Prop) (X : Exit → Slots → Blocks → Prop) (rest : Option (List (List D))) (L : Loop) (s : Slots) (b : Blocks) : Prop :=
  match rest with
  | some r => L.state = .ready ∧ L.pending = none ∧ J r s b
  | none => L.state = .done ∧ ∃ e c, L.pending = some c ∧ X e s b ∧ ((e = .ret ∧ c = .ret) ∨ ∃ i, e = .exit i ∧ c = .exit i)
structure Stands (w0 : Start P) (sz : Nat) (fn : FuncId) (ps : Array Tmp) (x y : Code) (tmps : Array Value) (a : Act) (D0 lr N : Nat) (F0 : Nat → Prop) (J : List (List D) → Slots → Blocks → Prop) (X : Exit → Slots → Blocks → Prop)
    (rest : Option (List (List D))) (F : Nat → Prop) (w' : World) (ρ' : Ren) (s' : Slots) (b' : Blocks) (Fo' : Nat → Prop) (L : Loop) : Prop where
  gam : Gam w0 ρ' (heapOf b') w'
  wit : Wit w0 ρ' (heapOf b') w' Fo'
  act : ActR ρ' (actOf sz s') a
  hL : w'.heap[lr]? = some (.loop L)
  lp : L.fn = fn ∧ L.tmps = tmps ∧ L.params = ps ∧ L.assign = x ∧ L.body = y ∧ L.defers = D0
  st : StandsAt J X rest L s' b'
  foot : ∀ k, F k ↔ (k = lr ∨ Foot ρ' Fo' k)
  sub : ∀ k, F k → k < N → F0 k
  lrn : ∀ i m, ρ' i = some m → m.b ≠ lr
  lrf : ¬ Fo' lr
  low : ∀ i m, i < mbase → ρ' i = some m → m.b < N ∧ ¬ F0 m.b
  win : ∀ q, wbase ≤ q → q < hbase → ρ' q = none ∧ ∀ o, (q, o) ∉ b'

/-- THE RULE OF A RANGE OVER A FUNCTION. rows: what the function hands on; J: what is known of the caller while such a rest is still to come; X: where a round leaves the statement. -/
theorem range_rule (hh : HandlerOK P h) (hmix : P.follows .mixedOrders = true) {u : Nat} (hu : u ≠ 0) {sz : Nat} {f : Operand} {ps : Array Tmp} {x y : Code} {l : Lv} {keep : List Tmp} {s : Slots} {b : Blocks} {K : Cont} {gf : FuncId} {first captured : Array Value}
    (hfv : (actOf sz s).eval f = .func (.func gf) first captured) (hen : enterable P gf = true) (hgood : enterGood (.func (.func gf) first captured) keep sz s b = true) {rows : List (List D)}
    (hit : CallS P gf (iterArgs (.func (.func gf) first captured) (heapOf b)) (iterBlocks (.func (.func gf) first captured) (heapOf b) rows) EndY)
    (J : List (List D) → Slots → Blocks → Prop) (X : Exit → Slots → Blocks → Prop) (h0 : J rows (enterS (.func (.func gf) first captured) keep sz s b) (enterB (.func (.func gf) first captured) keep sz s b))
    (hround : ∀ row rest s b, J (row :: rest) s b → roundR P h u sz ps x y l keep s b row (J rest) X)
    (hend : ∀ s b, J [] s b → K .normal (actOf sz s) (heapOf b)) (hX : ∀ e s b, X e s b → K e (actOf sz s) (heapOf b)) :
    Holds P false sz (.rangeFunc f ps x y) (actOf sz s) (heapOf b) K := by
  intro w0 ρ w a n g ra _
  simp only [enterGood, Bool.and_eq_true] at hgood
  obtain ⟨⟨hig, hdg⟩, hdef⟩ := hgood
  have iok := iterGood_ok hig
  have dok := demGood_ok hdg
  refine wpIn_rangeFunc fun fn _ => ?_
  have hrun := run_enterLoop_outer (P := P) (w := w) fn a.tmps ps x y
  -- the worlds
  let W1 : World := w.alloc (.deferred (some []))
  let L0 : Loop := { state := .ready, pending := none, fn, tmps := a.tmps, params := ps, assign := x, body := y, defers := w.heap.size }
  let W2 : World := W1.alloc (.loop L0)
  let lr : Nat := w.heap.size + 1
  have hW1 : W1.heap.size = w.heap.size + 1 := by simp [W1]
  have hW2 : W2.heap.size = w.heap.size + 2 := by simp [W2, W1]
  have hL2 : W2.heap[lr]? = some (.loop L0) := by
    have := alloc_get W1 (.loop L0)
    rw [hW1] at this
    exact this
  -- the caller
  let mD : Meta := ⟨w.heap.size, 0, 0, false, 0, 0, by omega⟩
  obtain ⟨g1, ext1⟩ := g.new .deferred (.deferred (some [])) mD rfl (alloc_get _ _)
  let ρ1 : Ren := ρ.put (heapOf b).next mD
  let a' : Act := { a with defers := { target := .collected w.heap.size, args := #[] } :: a.defers }
  have ra1 : ActR ρ1 (markA s b sz) a' := by
    refine ⟨ra.size, fun t => (ra.slot t).mono ext1.le, ?_, ?_⟩
    · simp [a', markA, ra.defers.1]
    · intro j D hj
      cases j with
      | zero =>
        simp only [markA, List.getElem?_cons_zero, Option.some.injEq] at hj
        subst hj
        exact ⟨mD, by simp [ρ1, Ren.put], rfl⟩
      | succ j =>
        simp only [markA, List.getElem?_cons_succ] at hj
        obtain ⟨m, h1, h2⟩ := ra.defers.2 j D hj
        exact ⟨m, ext1.le _ _ h1, h2⟩
  have hb12 : Below W1.heap.size W1 W2 := (Below.refl _ W1).alloc (Nat.le_refl _) _
  have g1' : Gam w0 ρ1 (markH b) W1 := g1
  obtain ⟨Fo, wt1⟩ := g1'.wit
  obtain ⟨g2, wt⟩ := g1'.same wt1 hb12.os hb12.tape hb12.output hb12.size (fun k hk _ => hb12.block k (Nat.lt_of_lt_of_le hk g1'.below.size)) (fun i m hm _ => hb12.block _ (g1'.own i m hm).1) (fun k hk => hb12.block k (wt1.bound g1' hk))
  have hFo : ∀ k, Fo k → k < lr := fun k hk => by have := wt1.bound g1' hk; rwa [hW1] at this
  have h0s : w0.w.heap.size ≤ w.heap.size := g.below.size
  obtain ⟨gd, wtd, big, small, win⟩ := dem_gam g2 wt dok
  have rad := act_S dok.toS ra1 hdef
  -- names
  let fv : Value := .func (.func gf) first captured
  let μd := demMu fv keep sz s b
  let ρd : Ren := μd.ren ρ1
  let Fd : Nat → Prop := fun k => (∃ own rest, (heapOf (gcB (markH b) μd μd)).get ynum = some (.yld own rest)) ∧ Fo k
  let F0 : Nat → Prop := fun k => k = lr ∨ Foot ρd Fd k
  have lt1 : ∀ i m, ρ1 i = some m → m.b < lr := fun i m hm => by have := (g1'.own i m hm).1; rwa [hW1] at this
  have lrd : ∀ i m, ρd i = some m → m.b ≠ lr := fun i m hm => by
    obtain ⟨i0, _, hr0⟩ := Mu.ren_some hm
    exact Nat.ne_of_lt (lt1 i0 m hr0)
  have offZ : ∀ i m, ρ1 i = some m → (markH b).live i → (i < mbase ∨ i ∈ (iterMu fv (heapOf b)).map (·.1)) → i ≠ ynum → ¬ F0 m.b := by
    intro i m hm hl hz hy hF
    rcases hF with e | ⟨j, mj, h1, h2, h3⟩ | hF
    · exact Nat.ne_of_lt (lt1 i m hm) e
    · obtain ⟨j0, _, hr0, hl0, hb0, hz0⟩ := big j mj h1 h2
      have := g2.inj j0 i mj m hb0 hl0 hl hr0 hm h3
      subst this
      rcases hz with hz | hz
      · omega
      · exact hz0 hz
    · have hF := hF.2
      by_cases hyl : ∃ own rest, (markH b).get ynum = some (.yld own rest)
      · obtain ⟨own, rest, hget⟩ := hyl
        obtain ⟨my, q1, q2, q3⟩ := wt.is own rest hget
        exact q3 i m hm hl hy hF
      · exact wt.no (fun own rest h => hyl ⟨own, rest, h⟩) _ hF
  have frd : ¬ Fd lr := fun h => Nat.lt_irrefl _ (hFo lr h.2)
  -- where the rounds stand
  let IT : Bool → Option (List (List D)) → (Nat → Prop) → Nat → World → Prop := fun own rest F l' w' => own = false ∧ l' = lr ∧ W2.heap.size ≤ w'.heap.size ∧ ∃ ρ' s' b' Fo' L, Stands w0 sz fn ps x y a.tmps a' w.heap.size lr W2.heap.size F0 J X rest F w' ρ' s' b' Fo' L
  let ml : Meta := ⟨lr, 0, 0, false, 0, 0, by omega⟩
  let μi := iterMu fv (heapOf b)
  let si : Start P := { w := W2, pin := iterRen μi ρ ml, free := F0, it := IT }
  have F0may : ∀ k, F0 k → k < w0.w.heap.size → w0.may k := fun k hk hlt => by
    rcases hk with e | hk
    · simp only [lr] at e; omega
    · exact foot_may gd wtd hk hlt
  have siown : ∀ k, si.own k → k = lr := by
    rintro k (⟨j, m, h1, h2, h3, h4⟩ | h)
    · simp only [si, iterRen] at h3
      split at h3
      · cases h3; exact h4.symm
      · obtain ⟨i, hi, _⟩ := Mu.ren_some h3
        have := (iok.cls _ _ hi).2.2.2; omega
    · exact h.elim
  have siok : ItOK si := by
    refine ⟨?_, ?_, ?_, ?_⟩
    · rintro own rest F l' w' ⟨_, rfl, _, ρ', s', b', Fo', L, S⟩ k hk
      rcases (S.foot k).1 hk with e | hk
      · rw [e]
        rcases Nat.lt_or_ge lr w'.heap.size with h | h
        · exact h
        · have := S.hL; rw [Array.getElem?_eq_none h] at this; cases this
      · exact foot_lt S.gam S.wit hk
    · rintro own rest F l' w' ⟨_, rfl, _, ρ', s', b', Fo', L, S⟩ k hk hlt
      exact S.sub k hk hlt
    · rintro own rest F l' w' w'' ⟨ho, rfl, hsz, ρ', s', b', Fo', L, S⟩ h1 h2 h3 hs hk
      have hF : ∀ k, F k → w''.heap[k]? = w'.heap[k]? := fun k hf => by
        rcases (S.foot k).1 hf with e | hf2
        · refine hk k ?_ (.inr hf)
          rw [e]
          rcases Nat.lt_or_ge lr w'.heap.size with h | h
          · exact h
          · have := S.hL; rw [Array.getElem?_eq_none h] at this; cases this
        · exact hk k (foot_lt S.gam S.wit hf2) (.inr hf)
      obtain ⟨g', wt'⟩ := S.gam.same S.wit h1 h2 h3 hs (fun k hlt hm => by
          refine hk k (by omega) (.inl ⟨by show k < W2.heap.size; omega, fun hmay => ?_⟩)
          rcases hmay with hmay | hmay
          · have := siown k hmay; simp only [lr] at this; omega
          · exact hm (F0may k hmay hlt)) (fun i m hm _ => by
          rcases Nat.lt_or_ge i mbase with hl | hl
          · obtain ⟨q1, q2⟩ := S.low i m hl hm
            refine hk _ (S.gam.own i m hm).1 (.inl ⟨q1, fun hmay => ?_⟩)
            rcases hmay with hmay | hmay
            · exact S.lrn i m hm (siown _ hmay)
            · exact q2 hmay
          · exact hF _ ((S.foot _).2 (.inr (.inl ⟨i, m, hl, hm, rfl⟩)))) (fun k hfo => hF k ((S.foot k).2 (.inr (.inr hfo))))
      exact ⟨ho, rfl, Nat.le_trans hsz hs, ρ', s', b', Fo', L, g', wt', S.act, (hF lr ((S.foot lr).2 (.inl rfl))).trans S.hL, S.lp, S.st, S.foot, S.sub, S.lrn, S.lrf, S.low, S.win⟩
    · rintro row rest F l' w' ⟨_, rfl, hsz, ρ', s', b', Fo', L, S⟩ args' hrd
      obtain ⟨l1, l2, l3, l4, l5, l6⟩ := S.lp
      obtain ⟨st1, st2, st3⟩ := S.st
      have hr := hround row rest s' b' st3
      have hR := fun rC n => round_run (P := P) (Fo := Fo') hh hmix hu hr S.gam S.wit S.act S.hL (by simp only [lr]; omega) (l2.trans rfl) l3 l4 l5 st1 S.lrn S.lrf S.win (F := F) ((S.foot lr).2 (.inl rfl)) (fun k hk => (S.foot k).2 (.inr hk)) hrd rC n
      refine ⟨L, S.hL, (hR none 0).1, fun rC n => (hR rC n).2.mono ?_⟩
      rintro e w3 ⟨jump, ex, ρ3, s3, b3, Fo3, L3, rfl, hleft, hj, g3, wt3, ra3, hL3, hLe, q1, q2, q3, q4, q5, q6, q7, q8, q9, q10⟩
      refine ⟨jump.isNone, fun k => k = lr ∨ Foot ρ3 Fo3 k, rfl, ⟨rfl, rfl, Nat.le_trans hsz q4, ρ3, s3, b3, Fo3, L3, g3, wt3, ra3, hL3, ?_, ?_, fun k => Iff.rfl, ?_, q7, q8, ?_, q10⟩, q1, q2, q3, q4, ?_, ?_⟩
      · rw [hLe]; exact ⟨l1, l2, l3, l4, l5, l6⟩
      · cases ex with
        | normal =>
          have hj' : jump = none := hj
          subst hj'
          rw [hLe]
          exact ⟨rfl, rfl, hleft⟩
        | ret =>
          have hj' : jump = some .ret := hj
          subst hj'
          rw [hLe]
          exact ⟨rfl, .ret, .ret, rfl, hleft, .inl ⟨rfl, rfl⟩⟩
        | exit i =>
          have hj' : jump = some (.exit i) := hj
          subst hj'
          rw [hLe]
          exact ⟨rfl, .exit i, .exit i, rfl, hleft, .inr ⟨i, rfl, rfl⟩⟩
        | _ => exact hleft.elim
      · rintro k (e | hk) hlt
        · exact .inl e
        · rcases q6 k hk with h | h
          · exact S.sub k ((S.foot k).2 (.inr h)) hlt
          · omega
      · intro i m hi hm
        exact S.low i m hi (q9 i m hi hm)
      · intro k hk hnf
        exact q5 k hk (fun e => hnf ((S.foot k).2 (.inl e))) (fun hf => hnf ((S.foot k).2 (.inr hf)))
      · rintro k (e | hk)
        · exact .inl ((S.foot k).2 (.inl e))
        · exact (q6 k hk).imp (fun h => (S.foot k).2 (.inr h)) id
  have hit0 : si.it false (some rows) F0 ml.b W2 := by
    refine ⟨rfl, rfl, Nat.le_refl _, ρd, _, _, Fd, L0, gd, wtd, rad, hL2, ⟨rfl, rfl, rfl, rfl, rfl, rfl⟩, ⟨rfl, rfl, h0⟩, fun k => Iff.rfl, fun k hk _ => hk, lrd, frd, ?_, win⟩
    intro i m hi hm
    obtain ⟨i0, hi0, hr0, hl0, hz0⟩ := small i m hi hm
    refine ⟨(g2.own i0 m hr0).1, offZ i0 m hr0 hl0 hz0 (fun e => ?_)⟩
    subst e
    rcases hz0 with h | h
    · exact absurd h (by decide)
    · obtain ⟨p, hp, e⟩ := List.mem_map.1 h
      obtain ⟨p1, p2⟩ := p
      simp only at e
      subst e
      rcases (iok.cls _ _ hp).2.1 with h | h
      · exact absurd h (by decide)
      · exact absurd h (by decide)
  -- the function that is ranged over
  have hbl : Below w.heap.size w W2 := ((Below.refl _ w).alloc (Nat.le_refl _) _).alloc (by simp) _
  have hgetm : ∀ i o, (heapOf b).get i = some o → (∃ m, ρ i = some m) → (markH b).get i = some o := fun i o ho ⟨m, hm⟩ => by
    have := g.lt hm
    show ((heapOf b).new .deferred).get i = _
    rw [Heap.get_new, if_neg (by omega)]; exact ho
  have hplaced : ∀ p ∈ μi, Placed ρ p.1 := by
    have hf := ra.eval f
    rw [hfv] at hf
    exact reachV_placed g _ _ _ _ (fun i hi => blocksV_placed 8 _ _ hf i hi) (fun p hp => by cases hp)
  have gi : Gam si (iterRen μi ρ ml) (heapOf ((ynum, .yld false (some rows)) :: gcB (heapOf b) μi μi)) W2 := by
    refine iter_gam g iok (ml := ml) (by simp only [ml, lr]; omega) (by simp only [ml, lr]; omega) hbl (by simp only [ml, lr]; omega) rfl rfl (fun k h => h) (fun q hq hF => ?_) siok hit0 (fun i j m hij hr => ?_)
    · obtain ⟨v1, v2⟩ := g.vars q hq
      have h6 := VarKind.ok_some v1
      have h7 : q.1 < w0.w.heap.size := by
        rcases Nat.lt_or_ge q.1 w0.w.heap.size with h | h
        · exact h
        · rw [Array.getElem?_eq_none h] at h6; cases h6
      exact v2 (F0may _ hF h7)
    · obtain ⟨o, _, ho, _, hal⟩ := iok.live i j hij
      refine offZ i m (ext1.le _ _ hr) ⟨o, hgetm i o ho ⟨m, hr⟩, hal⟩ (.inr (List.mem_map.2 ⟨_, hij, rfl⟩)) (fun e => ?_)
      subst e
      rcases (iok.cls _ _ hij).2.1 with h | h
      · exact absurd h (by decide)
      · exact absurd h (by decide)
  have hf := ra.eval f
  rw [hfv] at hf
  obtain ⟨fvC, hfvC⟩ : ∃ fvC, a.eval f = fvC := ⟨_, rfl⟩
  rw [hfvC] at hf
  cases hf with
  | func _ _ _ first' captured' ha hb rfa rfb =>
    have hres : (resolve a.eval (rangeCall f lr) 0).run P W2 = .ok { target := .fn (.func gf) captured', args := first' ++ #[.func (.yield lr) #[] #[]] } W2 := by
      have hmap : (#[Operand.const (Value.func (.yield lr) #[] #[])]).map a.eval = #[Value.func (.yield lr) #[] #[]] := by simp [Act.eval]
      simp only [resolve, hfvC, Deferred.ofValue, hmap]
      rfl
    have hinv : (invoke (.fn (.func gf) captured') (first' ++ #[.func (.yield lr) #[] #[]])).run P W2 = .ok (.enter gf (first' ++ #[.func (.yield lr) #[] #[]] ++ captured')) W2 := enterable_run hen _ W2
    refine ⟨lr, _, W2, _, W2, gf, _, W2, by rw [Fr_round]; exact hrun, hres, fun f' _ => Fr_fn _ _, hinv, by rw [Fr_depth]; simp, ?_⟩
    have hle : (μi.ren ρ).le (iterRen μi ρ ml) := by
      intro j m h
      obtain ⟨i, hi, _⟩ := Mu.ren_some h
      unfold iterRen
      rw [if_neg (fun e => by have := (iok.cls _ _ hi).2.2.2; subst e; exact absurd this (by decide))]; exact h
    have hargs : LR (iterRen μi ρ ml) (iterArgs fv (heapOf b)) (first' ++ #[Value.func (.yield lr) #[] #[]] ++ captured').toList := by
      simp only [Array.toList_append]
      refine LR.append (LR.append ?_ (.cons ?_ .nil)) ?_
      · exact (LR.map_S iok.toS (LR.of_arr ha rfa)).mono hle
      · exact .yield ynum ml (by simp [iterRen])
      · exact (LR.map_S iok.toS (LR.of_arr hb rfb)).mono hle
    refine (Fr_calls (hit si _ W2 _ (n - 1) gi hargs)).mono ?_
    rintro e2 w3 ⟨v, bs, ρ3, v', ⟨r, hget, hr⟩, rfl, hv, g3⟩
    obtain ⟨m, F, hm, ⟨_, hmb, hsz, ρ', s', b', Fo', L, S⟩, _⟩ := g3.yld false r hget
    have hb' : L.state ≠ .busy := by
      rcases hr with rfl | rfl
      · rw [S.st.1]; simp
      · rw [S.st.1]; simp
    refine ⟨_, _, run_endLoop (P := P) S.hL hb', ?_⟩
    obtain ⟨g4, _⟩ := S.gam.record S.wit (by simp only [lr]; omega) S.lrn S.lrf (.loop { L with state := .exhausted })
    rcases hr with rfl | rfl
    · obtain ⟨_, hp, hJ⟩ := S.st
      simp only [hp]
      exact ⟨_, _, ρ', hend _ _ hJ, rfl, S.act, by simpa only [hp] using g4, fun h => by cases h⟩
    · obtain ⟨_, e, c, hp, hXe, hec⟩ := S.st
      simp only [hp]
      rcases hec with ⟨rfl, rfl⟩ | ⟨i, rfl, rfl⟩
      · exact wpIn_ret ⟨_, _, ρ', hX _ _ _ hXe, rfl, S.act, by simpa only [hp] using g4, fun h => by cases h⟩
      · exact wpIn_exit ⟨_, _, ρ', hX _ _ _ hXe, rfl, S.act, by simpa only [hp] using g4, fun h => by cases h⟩
end Go.Abs

/- Functions with ranges over functions, loops, cuts, and ranges within loops. -/
namespace Go.Abs
open Go.RowKit
variable {P : Program} {ρ : Ren} {w0 : Start P} {w : World} {H : Heap} {h : Handler} {L : AtLoop} {J : List Nat}

/-- What must be shown of a range at one of its heads. -/
def RangeAt (P : Program) (head : (FuncId → List Value → Blocks → Slots → Blocks → Prop) → Prop) (round : Slots → Blocks → List D → Kx → (Exit → Kx) → Prop) (N : Kx) (X : Exit → Kx) : Prop :=
  head fun g args bl s' b' => ∃ (rows : List (List D)) (Jr : List (List D) → Kx), CallS P g args ((ynum, .yld false (some rows)) :: bl) EndY ∧ Jr rows s' b' ∧
    (∀ row rest s b, Jr (row :: rest) s b → round s b row (Jr rest) X) ∧ ∀ s b, Jr [] s b → N s b
/-- A range over a function, at the top of a function. -/
structure RangeJ (P : Program) (h : Handler) (J : List Nat) (f : FuncId) (id : Nat) (L : AtLoop) (F : Value → Heap → Prop) : Type 1 where
  at_ : ∀ s b, L id s b → RangeAt P (rHead P f id s b) (rRound P h f id) (fun s b => jNext P h L J f id .normal s b F) (fun e s b => jNext P h L J f id e s b F)
/-- A range over a function, within a loop. -/
structure RangeJ2 (P : Program) (h : Handler) (J : List Nat) (f : FuncId) (id id2 : Nat) (L : AtLoop) (B : Kx) (X : Xk) (F : Value → Heap → Prop) : Type 1 where
  at_ : ∀ s b, L id2 s b → RangeAt P (rHead2 P f id id2 s b) (rRound2 P h f id id2) (fun s b => jIn P h L J f id id2 .normal s b B X F) (fun e s b => jIn P h L J f id id2 e s b B X F)

theorem headOf_holds (hh : HandlerOK P h) (hmix : P.follows .mixedOrders = true) {sz : Nat} {body : Code} {l : Lv} {s : Slots} {b : Blocks} {N : Kx} {X : Exit → Kx} {K : Cont} (hN : ∀ s b, N s b → K .normal (actOf sz s) (heapOf b)) (hX : ∀ e s b, X e s b → K e (actOf sz s) (heapOf b))
    (hk : RangeAt P (headOf P sz (body, l) s b) (rowOfR P h sz (body, l)) N X) : Holds P false sz body (actOf sz s) (heapOf b) K := by
  unfold RangeAt headOf at hk
  cases body with
  | rangeFunc f ps x y =>
    simp only at hk
    split at hk
    · rename_i g first captured hfv
      obtain ⟨hgood, rows, Jr, hit, h0, hround, hend⟩ := bcase_out hk
      simp only [Bool.and_eq_true] at hgood
      exact range_rule hh hmix (u := 8) (by decide) hfv hgood.1 hgood.2 (rows := rows) hit Jr X h0 (fun row rest s b hJ => hround row rest s b hJ) (fun s b hJ => hN _ _ (hend s b hJ)) hX
    · exact hk.elim
  | _ => exact hk.elim

theorem rangeJ_holds (hh : HandlerOK P h) (hmix : P.follows .mixedOrders = true) {f : FuncId} {fn : Func} {c : Code} (hf : P.funcs[f]? = some fn) (hc : fn.body = some c) {id : Nat} {F : Value → Heap → Prop} {body : Code} {l' : Lv} (hfl : findLoop c (fnLv fn) id = some (body, l'))
    (g : RangeJ P h J f id L F) {s : Slots} {b : Blocks} (hs : L id s b) :
    Holds P false (fnSize fn) body (actOf (fnSize fn) s) (heapOf b) (fun e A H => aftJ P h L J c (fnLv fn) id e A H (fnK P fn F)) := by
  have := g.at_ s b hs
  unfold rHead rRound at this
  simp only [hf, hc, hfl] at this
  exact headOf_holds hh hmix (fun s b hN => by simpa only [jNext, hf, hc] using hN) (fun e s b hX => by simpa only [jNext, hf, hc] using hX) this
theorem rangeJ2_holds (hh : HandlerOK P h) (hmix : P.follows .mixedOrders = true) {f : FuncId} {fn : Func} {c : Code} (hf : P.funcs[f]? = some fn) (hc : fn.body = some c) {id id2 : Nat} {F : Value → Heap → Prop} {B : Kx} {X : Xk} {body : Code} {l' : Lv} (hfl : findLoop c (fnLv fn) id = some (body, l')) {body2 : Code} {l2 : Lv} (hf2 : findLoop body l' id2 = some (body2, l2))
    (g : RangeJ2 P h J f id id2 L B X F) {s : Slots} {b : Blocks} (hs : L id2 s b) :
    Holds P false (fnSize fn) body2 (actOf (fnSize fn) s) (heapOf b) (fun e A H => aftJ P h L J body l' id2 e A H (roundK body l' B X (fnK P fn F))) := by
  have := g.at_ s b hs
  unfold rHead2 rRound2 at this
  simp only [hf, hc, hfl, hf2] at this
  exact headOf_holds hh hmix (fun s b hN => by simpa only [jIn, hf, hc, hfl] using hN) (fun e s b hX => by simpa only [jIn, hf, hc, hfl] using hX) this
theorem isRange_stmt {id : Nat} {body : Code} (h : ¬ id < rbase) : stmtOf id body = body := by simp [stmtOf, h]

/-- A loop of a function, with loops and ranges within. -/
structure LoopJR (P : Program) (h : Handler) (J : List Nat) (f : FuncId) (c : Code) (lv : Lv) (id : Nat) (L : AtLoop) (F : Value → Heap → Prop) : Type 1 where
  Y : Type
  st : Y → Slots × Blocks
  inv : Y → Prop
  m : Y → Nat
  head : ∀ s b, L id s b → ∃ y, inv y ∧ st y = (s, b)
  pts : List Nat
  loops : List Nat
  is : ((findLoop c lv id).map fun r => (ptIds J r.1, loopIds r.1)) = some (pts, loops)
  nd : nodupB pts = true
  lt : id < rbase
  round : ∀ y, inv y → ∃ L2 : AtLoop,
    jRound P h L2 J f id (st y).1 (st y).2 (fun s b => ∃ z, inv z ∧ m z < m y ∧ st z = (s, b)) (fun i s b => if i = id then jNext P h L J f id .normal s b F else jNext P h L J f id (.exit i) s b F) F ∧
    (∀ id2 ∈ pts, id2 ∉ loops → ∀ s b, L2 id2 s b → jIn P h L2 J f id id2 .normal s b (fun s b => ∃ z, inv z ∧ m z < m y ∧ st z = (s, b)) (fun i s b => if i = id then jNext P h L J f id .normal s b F else jNext P h L J f id (.exit i) s b F) F) ∧
    (∀ id2 ∈ loops, id2 < rbase → Nonempty (LoopJ2 P h J f c lv id id2 L2 (fun s b => ∃ z, inv z ∧ m z < m y ∧ st z = (s, b)) (fun i s b => if i = id then jNext P h L J f id .normal s b F else jNext P h L J f id (.exit i) s b F) F)) ∧
    (∀ id2 ∈ loops, ¬ id2 < rbase → Nonempty (RangeJ2 P h J f id id2 L2 (fun s b => ∃ z, inv z ∧ m z < m y ∧ st z = (s, b)) (fun i s b => if i = id then jNext P h L J f id .normal s b F else jNext P h L J f id (.exit i) s b F) F))
theorem loopJR_holds (hh : HandlerOK P h) (hmix : P.follows .mixedOrders = true) {f : FuncId} {fn : Func} {c : Code} (hf : P.funcs[f]? = some fn) (hc : fn.body = some c) {id : Nat} {F : Value → Heap → Prop} {body : Code} {l' : Lv} (hfl : findLoop c (fnLv fn) id = some (body, l'))
    (g : LoopJR P h J f c (fnLv fn) id L F) {s : Slots} {b : Blocks} (hs : L id s b) :
    Holds P false (fnSize fn) (stmtOf id body) (actOf (fnSize fn) s) (heapOf b) (fun e A H => aftJ P h L J c (fnLv fn) id e A H (fnK P fn F)) := by
  obtain ⟨y, hy, he⟩ := g.head s b hs
  have e1 : (g.st y).1 = s := congrArg Prod.fst he
  have e2 : (g.st y).2 = b := congrArg Prod.snd he
  have his := g.is
  rw [hfl] at his
  simp only [Option.map_some, Option.some.injEq, Prod.mk.injEq] at his
  have hst : stmtOf id body = .block id (.loop body) := by simp [stmtOf, g.lt]
  rw [hst]
  have eqX : ∀ i s b, (if i = id then jNext P h L J f id .normal s b F else jNext P h L J f id (.exit i) s b F) = (if i = id then aftJ P h L J c (fnLv fn) id .normal (actOf (fnSize fn) s) (heapOf b) (fnK P fn F) else aftJ P h L J c (fnLv fn) id (.exit i) (actOf (fnSize fn) s) (heapOf b) (fnK P fn F)) := by
    intro i s b
    simp only [jNext, hf, hc]
  have := loop_ruleJ (P := P) (h := h) (J := J) (sz := fnSize fn) hh hmix g.st g.inv g.m (id := id) (body := body) (l' := l') (k := fun e A H => aftJ P h L J c (fnLv fn) id e A H (fnK P fn F)) (R := fnK P fn F)
    (fun y hy => by
      obtain ⟨L2, h1, h2, h3, h3r⟩ := g.round y hy
      refine ⟨L2, ?_, ptsOK_of body (by rw [his.1]; exact g.nd) (fun id2 b2 l2 hf2 hr2 s b hs2 => ?_) (fun id2 hi2 hf2 s b hs2 => ?_)⟩
      · unfold jRound at h1
        simp only [hf, hc, hfl, eqX] at h1
        exact h1
      · have hm : id2 ∈ g.loops := by rw [← his.2]; exact findLoop_ids _ _ _ hf2
        by_cases hlt : id2 < rbase
        · obtain ⟨g2⟩ := h3 id2 hm hlt
          have := loopJ2_holds hh hmix hf hc hfl hf2 g2 hr2 hs2
          simp only [eqX] at this
          exact this
        · obtain ⟨g2⟩ := h3r id2 hm hlt
          rw [isRange_stmt hlt]
          have := rangeJ2_holds hh hmix hf hc hfl hf2 g2 hs2
          simp only [eqX] at this
          exact this
      · have hnl : id2 ∉ g.loops := by
          intro hm
          rw [← his.2] at hm
          have := findLoop_some body l' id2 hm
          rw [hf2] at this
          cases this
        have h4 := h2 id2 (by rw [his.1] at hi2; exact hi2) hnl s b hs2
        unfold jIn at h4
        simp only [hf, hc, hfl, eqX] at h4
        exact h4)
    (fun e A H he hR => by subst he; exact aftJ_ret c (findLoop_pt c _ id hfl) hR)
    (fun e A H h1 h2 hR => by cases e <;> first | exact h1 rfl | exact h2 rfl | exact hR)
    y hy
  rw [e1, e2] at this
  exact this

theorem ptsOK_goodR (hh : HandlerOK P h) (hmix : P.follows .mixedOrders = true) {f : FuncId} {fn : Func} {c : Code} (hf : P.funcs[f]? = some fn) (hc : fn.body = some c) {F : Value → Heap → Prop} {pts loops : List Nat} (his : (ptIds J c, loopIds c) = (pts, loops)) (hn : nodupB pts = true)
    (hcut : ∀ id ∈ pts, id ∉ loops → ∀ s b, L id s b → jNext P h L J f id .normal s b F)
    (hl : ∀ id ∈ loops, id < rbase → Nonempty (LoopJR P h J f c (fnLv fn) id L F)) (hr : ∀ id ∈ loops, ¬ id < rbase → Nonempty (RangeJ P h J f id L F)) : ptsOK P h L J (fnSize fn) c (fnLv fn) (fnK P fn F) := by
  simp only [Prod.mk.injEq] at his
  refine ptsOK_of c (by rw [his.1]; exact hn) (fun id body l' hfl _ s b hs => ?_) (fun id hi hfl s b hs => ?_)
  · have hm : id ∈ loops := by rw [← his.2]; exact findLoop_ids _ _ _ hfl
    by_cases hlt : id < rbase
    · obtain ⟨g⟩ := hl id hm hlt
      exact loopJR_holds hh hmix hf hc hfl g hs
    · obtain ⟨g⟩ := hr id hm hlt
      rw [isRange_stmt hlt]
      exact rangeJ_holds hh hmix hf hc hfl g hs
  · have hnl : id ∉ loops := by
      intro hm
      rw [← his.2] at hm
      have := findLoop_some c (fnLv fn) id hm
      rw [hfl] at this
      cases this
    have h4 := hcut id (by rw [his.1] at hi; exact hi) hnl s b hs
    unfold jNext at h4
    simp only [hf, hc] at h4
    exact h4

/-- A FUNCTION IS PROVED, with ranges over functions: a contract in data. -/
theorem con_JR (hh : HandlerOK P h) (hmix : P.follows .mixedOrders = true) (J : List Nat) {L : AtLoop} {f : FuncId} {fn : Func} {c : Code} (hf : P.funcs[f]? = some fn) (hc : fn.body = some c) {ds rs : List D} (hcount : countV ds ≤ 400) (hsz : ds.length = fn.params.size) {pts loops : List Nat} (his : (ptIds J c, loopIds c) = (pts, loops)) (hn : nodupB pts = true)
    (hk : ∀ caps, capsL 40 (layVals caps 500 ds).1 → jFn P h L J f (layVals caps 500 ds).1.toArray (heapOf (layVals caps 500 ds).2) (dataK (· = rs)))
    (hcut : ∀ id ∈ pts, id ∉ loops → ∀ s b, L id s b → jNext P h L J f id .normal s b (dataK (· = rs)))
    (hl : ∀ id ∈ loops, id < rbase → Nonempty (LoopJR P h J f c (fnLv fn) id L (dataK (· = rs)))) (hr : ∀ id ∈ loops, ¬ id < rbase → Nonempty (RangeJ P h J f id L (dataK (· = rs)))) : Con P f ds rs := by
  intro w args hgood hrd
  obtain ⟨caps, ρ, hst, g, ha⟩ := lay_gam hgood hrd hcount
  have hsz2 : max (layVals caps 500 ds).1.toArray.size fn.ntmps = fnSize fn := by simp [fnSize, layVals_len, hsz]
  refine callsIn_wide.1 ((jFn_run hh hmix hf hc (hk caps (capsL_of 40 ha)) (by rw [hsz2]; exact ptsOK_goodR hh hmix hf hc his hn hcut hl hr) g 0 (by simpa using ha)).mono ?_)
  rintro e w' ⟨v, H', ρ', v', hkv, rfl, hv, g'⟩
  obtain ⟨vs, ds', u, rfl, h1, rfl⟩ := dataK_out g' hst hv hkv
  exact ⟨⟨vs, u, rfl, h1⟩, g'.below.below hst⟩
/-- A FUNCTION IS PROVED, with ranges over functions: by what it does to the blocks that it reaches. -/
theorem callS_JR (hh : HandlerOK P h) (hmix : P.follows .mixedOrders = true) (J : List Nat) {L : AtLoop} {f : FuncId} {fn : Func} {c : Code} (hf : P.funcs[f]? = some fn) (hc : fn.body = some c) {args : List Value} {bs : Blocks} {K : Value → Blocks → Prop} (hsz : args.toArray.size = fn.params.size ∨ max args.toArray.size fn.ntmps = fnSize fn) {pts loops : List Nat} (his : (ptIds J c, loopIds c) = (pts, loops)) (hn : nodupB pts = true)
    (hk : jFn P h L J f args.toArray (heapOf bs) (stateK K))
    (hcut : ∀ id ∈ pts, id ∉ loops → ∀ s b, L id s b → jNext P h L J f id .normal s b (stateK K))
    (hl : ∀ id ∈ loops, id < rbase → Nonempty (LoopJR P h J f c (fnLv fn) id L (stateK K))) (hr : ∀ id ∈ loops, ¬ id < rbase → Nonempty (RangeJ P h J f id L (stateK K))) : CallS P f args bs K := by
  intro w0 ρ w args' n g ha
  have hsz2 : max args.toArray.size fn.ntmps = fnSize fn := hsz.elim (fun e => by simp only [fnSize, e]) id
  refine (jFn_run hh hmix hf hc hk (by rw [hsz2]; exact ptsOK_goodR hh hmix hf hc his hn hcut hl hr) g n (by simpa using ha)).mono ?_
  rintro e w' ⟨v, H', ρ', v', hkv, rfl, hv, g'⟩
  obtain ⟨v2, bs', ρ2, h1, h2, h3⟩ := stateK_out g' hv hkv
  exact ⟨v2, bs', ρ2, v', h1, rfl, h2, h3⟩
#print axioms con_JR
end Go.Abs

/- What is left to show of each function, written out; the kernel reckons it. -/
namespace Go.Proofs.G5j
open Go Go.Abs Go.Proofs
set_option maxRecDepth 100000
set_option linter.unusedVariables false
abbrev Ex := Exit → Slots → Blocks → Prop
abbrev Kh := FuncId → List Value → Blocks → Slots → Blocks → Prop
def gIs (C : Ct) (L : AtLoop) (n0 : Nat) (c0 : Nat) (l0 : List Value) (x1 : Int) (x2 : Int) (x3 : Int) (n4 : Nat) (c4 : Nat) (l4 : List Value) (x5 : Int) (n6 : Nat) (c6 : Nat) (l6 : List Value) (x7 : Int) (x8 : Int) (k : List D → Prop) : Prop := jFn Try.prog (hZ C) L [] 17 #[.agg #[.slice (some ⟨500, 0, none⟩) n0 c0, .int .i64 x1, .int .i64 x2, .int .i64 x3], .agg #[.slice (some ⟨501, 0, none⟩) n4 c4, .int .i64 x5], .agg #[.slice (some ⟨502, 0, none⟩) n6 c6, .int .i64 x7, .int .i64 x8]] (heapOf [(500, .sym l0 false 2), (501, .sym l4 false 1), (502, .sym l6 false 2)]) (dataK k)
theorem gIs_text (C : Ct) (L : AtLoop) (n0 : Nat) (c0 : Nat) (l0 : List Go.Value) (x1 : Int) (x2 : Int) (x3 : Int) (n4 : Nat) (c4 : Nat) (l4 : List Go.Value) (x5 : Int) (n6 : Nat) (c6 : Nat) (l6 : List Go.Value) (x7 : Int) (x8 : Int) (k : List D → Prop) : gIs C L n0 c0 l0 x1 x2 x3 n4 c4 l4 x5 n6 c6 l6 x7 x8 k =
 (((Qv (Value.agg [(Sl 501 (n4) (c4)), (vI x5)].toArray)) ∧
 ((Qv (Value.agg [(Sl 500 (n0) (c0)), (vI x1), (vI x2), (vI x3)].toArray)) ∧
 True)) ∧
 (bcase (decide (0 + n0 * 2 ≤ List.length l0))
 (∃ n1 : Int,
 ((Says C 52 [(D.agg [(D.sl (n0) 2 (List.take (n0 * 2) (List.drop 0 l0))), (D.val (vI x1)), (D.val (vI x2)), (D.val (vI x3))])] [(D.val (vI n1))]) ∧
 (((Qv (Value.agg [(Sl 501 (n4) (c4)), (vI x5)].toArray)) ∧
 True) ∧
 (bcase (decide (0 + n4 * 1 ≤ List.length l4))
 (∃ n2 : Int,
 ((Says C 53 [(D.agg [(D.sl (n4) 1 (List.take (n4 * 1) (List.drop 0 l4))), (D.val (vI x5))])] [(D.val (vI n2))]) ∧
 ((((Qv (Sl 1009 2 2)) ∧
 (Qv (some (AObj.cells [(vI n1), (vI n2)] 43 false 1)))) ∧
 True) ∧
 (∃ n3 : Int,
 ((Says C 34 [(D.sl 2 1 [(vI n1), (vI n2)])] [(D.val (vI n3))]) ∧
 (True ∧
 (True ∧
 (bcase (n3 != 0)
 (bcase (decide (0 + n6 * 2 ≤ List.length l6))
 (∃ n5 : Int,
 ((Says C 61 [(D.agg [(D.sl (n6) 2 (List.take (n6 * 2) (List.drop 0 l6))), (D.val (vI x7)), (D.val (vI x8))])] [(D.val (vI n5))]) ∧
 (∃ n7 : Int,
 ((Says C 34 [(D.sl 2 1 [(vI n3), (vI n5)])] [(D.val (vI n7))]) ∧
 (bcase (n7 != 0)
 (bcase (n7 != 0)
 (k [(D.val (vI 0)), (D.val (vI n7))])
 (L 50006 [(Prod.mk 6 (vI 0)), (Prod.mk 7 (vI 0)), (Prod.mk 10 (Pt 1000 0)), (Prod.mk 23 Value.nilFunc)] [(Prod.mk 1000 (AObj.cells [(vI 0)] 3 false 1))]))
 (bcase (decide (0 ≤ IntKind.wrap .i64 ((↑n6 : Int) - 1)))
 (bcase (decide (IntKind.wrap .i64 ((↑n6 : Int) - 1) < (↑n6 : Int)))
 (∃ n8 : Int,
 ((At (l6) (0 + Int.toNat (IntKind.wrap .i64 ((↑n6 : Int) - 1)) * 2) 1 [(vI n8)]) ∧
 (L 50006 [(Prod.mk 6 (vI 0)), (Prod.mk 7 (vI 0)), (Prod.mk 10 (Pt 1000 0)), (Prod.mk 23 (Value.func (Go.Fn.func 62) [].toArray [(Pt 1001 0), (Pt 1002 0), (Pt 1003 0)].toArray))] [(Prod.mk 1000 (AObj.cells [(vI 0)] 3 false 1)), (Prod.mk 1001 (AObj.cells [(Value.slice none 0 0), (vI 0), (vI 0), (vI 0), (Value.slice none 0 0), (vI 0)] 78 false 6)), (Prod.mk 1002 (AObj.cells [(Sl 502 (n6) (c6)), (vI x7), (vI x8)] 58 false 1)), (Prod.mk 1003 (AObj.cells [(vI n8), (vI 1)] 40 false 2)), (Prod.mk 502 (AObj.sym (l6) false 2))])))
 False)
 False))))))
 False)
 (bcase (decide (0 + n4 * 1 ≤ List.length l4))
 ((Says C 70 [(D.sl (n4) 1 (List.take (n4 * 1) (List.drop 0 l4)))] [(D.sl (n4) 1 (List.take (n4 * 1) (List.drop 0 l4)))]) ∧
 (bcase (decide (0 + n6 * 2 ≤ List.length l6))
 (∃ n5 : Int,
 ((Says C 61 [(D.agg [(D.sl (n6) 2 (List.take (n6 * 2) (List.drop 0 l6))), (D.val (vI x7)), (D.val (vI x8))])] [(D.val (vI n5))]) ∧
 (∃ n7 : Int,
 ((Says C 34 [(D.sl 2 1 [(vI 0), (vI n5)])] [(D.val (vI n7))]) ∧
 (bcase (n7 != 0)
 (bcase (n7 != 0)
 (k [(D.val (vI 0)), (D.val (vI n7))])
 (L 50006 [(Prod.mk 6 (vI 0)), (Prod.mk 7 (vI 0)), (Prod.mk 10 (Pt 1000 0)), (Prod.mk 23 Value.nilFunc)] [(Prod.mk 1000 (AObj.cells [(vI 0)] 3 false 1))]))
 (bcase (decide (0 ≤ IntKind.wrap .i64 ((↑n6 : Int) - 1)))
 (bcase (decide (IntKind.wrap .i64 ((↑n6 : Int) - 1) < (↑n6 : Int)))
 (∃ n8 : Int,
 ((At (l6) (0 + Int.toNat (IntKind.wrap .i64 ((↑n6 : Int) - 1)) * 2) 1 [(vI n8)]) ∧
 (L 50006 [(Prod.mk 6 (vI 0)), (Prod.mk 7 (vI 0)), (Prod.mk 10 (Pt 1000 0)), (Prod.mk 23 (Value.func (Go.Fn.func 62) [].toArray [(Pt 1001 0), (Pt 1002 0), (Pt 1003 0)].toArray))] [(Prod.mk 1000 (AObj.cells [(vI 0)] 3 false 1)), (Prod.mk 1001 (AObj.cells [(Sl 500 (n0) (c0)), (vI x1), (vI x2), (vI x3), (Sl 1004 (n4) (n4)), (vI x5)] 78 false 6)), (Prod.mk 1002 (AObj.cells [(Sl 502 (n6) (c6)), (vI x7), (vI x8)] 58 false 1)), (Prod.mk 1003 (AObj.cells [(vI n8), (vI 1)] 40 false 2)), (Prod.mk 500 (AObj.sym (l0) false 2)), (Prod.mk 1004 (AObj.sym (List.take (n4 * 1) (List.drop 0 l4)) true 1)), (Prod.mk 502 (AObj.sym (l6) false 2))])))
 False)
 False))))))
 False))
 False)))))))))
 False))))
 False)) := by kernel_rfl
abbrev zIs3 (x0 : Int) (x1 : Int) (x2 : Int) (n3 : Nat) (c4 : Nat) (x5 : Int) (x6 : Int) (x7 : Int) (n8 : Nat) (x9 : Int) (n10 : Nat) (c11 : Nat) (x12 : Int) (x13 : Int) (x14 : Int) (x15 : Int) (l16 : List Value) (l17 : List Value) (l18 : List Value) : Slots × Blocks := ([(6, (Value.int .i64 x0)), (7, (Value.int .i64 x1)), (10, (Value.pointer (some ⟨1000, 0, none⟩))), (23, (Value.func (.func 62) #[] #[(Value.pointer (some ⟨1001, 0, none⟩)), (Value.pointer (some ⟨1002, 0, none⟩)), (Value.pointer (some ⟨1003, 0, none⟩))]))], [(1000, (AObj.cells [(Value.int .i64 x2)] 3 false 1)), (1001, (AObj.cells [(Value.slice (some ⟨500, 0, none⟩) n3 c4), (Value.int .i64 x5), (Value.int .i64 x6), (Value.int .i64 x7), (Value.slice (some ⟨1004, 0, none⟩) n8 n8), (Value.int .i64 x9)] 78 false 6)), (1002, (AObj.cells [(Value.slice (some ⟨502, 0, none⟩) n10 c11), (Value.int .i64 x12), (Value.int .i64 x13)] 58 false 1)), (1003, (AObj.cells [(Value.int .i64 x14), (Value.int .i64 x15)] 40 false 2)), (500, (AObj.sym l16 false 2)), (1004, (AObj.sym l17 true 1)), (502, (AObj.sym l18 false 2))])
def hIs3 (x0 : Int) (x1 : Int) (x2 : Int) (n3 : Nat) (c4 : Nat) (x5 : Int) (x6 : Int) (x7 : Int) (n8 : Nat) (x9 : Int) (n10 : Nat) (c11 : Nat) (x12 : Int) (x13 : Int) (x14 : Int) (x15 : Int) (l16 : List Value) (l17 : List Value) (l18 : List Value) (Kr : Kh) : Prop := rHead Try.prog 17 50006 [(6, (Value.int .i64 x0)), (7, (Value.int .i64 x1)), (10, (Value.pointer (some ⟨1000, 0, none⟩))), (23, (Value.func (.func 62) #[] #[(Value.pointer (some ⟨1001, 0, none⟩)), (Value.pointer (some ⟨1002, 0, none⟩)), (Value.pointer (some ⟨1003, 0, none⟩))]))] [(1000, (AObj.cells [(Value.int .i64 x2)] 3 false 1)), (1001, (AObj.cells [(Value.slice (some ⟨500, 0, none⟩) n3 c4), (Value.int .i64 x5), (Value.int .i64 x6), (Value.int .i64 x7), (Value.slice (some ⟨1004, 0, none⟩) n8 n8), (Value.int .i64 x9)] 78 false 6)), (1002, (AObj.cells [(Value.slice (some ⟨502, 0, none⟩) n10 c11), (Value.int .i64 x12), (Value.int .i64 x13)] 58 false 1)), (1003, (AObj.cells [(Value.int .i64 x14), (Value.int .i64 x15)] 40 false 2)), (500, (AObj.sym l16 false 2)), (1004, (AObj.sym l17 true 1)), (502, (AObj.sym l18 false 2))] Kr
theorem hIs3_text (x0 : Int) (x1 : Int) (x2 : Int) (n3 : Nat) (c4 : Nat) (x5 : Int) (x6 : Int) (x7 : Int) (n8 : Nat) (x9 : Int) (n10 : Nat) (c11 : Nat) (x12 : Int) (x13 : Int) (x14 : Int) (x15 : Int) (l16 : List Go.Value) (l17 : List Go.Value) (l18 : List Go.Value) (Kr : Kh) : hIs3 x0 x1 x2 n3 c4 x5 x6 x7 n8 x9 n10 c11 x12 x13 x14 x15 l16 l17 l18 Kr =
 (Kr 62 [(Value.func (Go.Fn.yield 915) [].toArray [].toArray), (Pt 500 0), (Pt 501 0), (Pt 502 0)] [(Prod.mk 500 (AObj.cells [(Sl 503 (n3) (c4)), (vI x5), (vI x6), (vI x7), (Sl 504 (n8) (n8)), (vI x9)] 78 false 6)), (Prod.mk 501 (AObj.cells [(Sl 505 (n10) (c11)), (vI x12), (vI x13)] 58 false 1)), (Prod.mk 502 (AObj.cells [(vI x14), (vI x15)] 40 false 2)), (Prod.mk 503 (AObj.sym (l16) false 2)), (Prod.mk 504 (AObj.sym (l17) true 1)), (Prod.mk 505 (AObj.sym (l18) false 2))] [(Prod.mk 6 (vI x0)), (Prod.mk 7 (vI x1)), (Prod.mk 10 (Pt 1000 0)), (Prod.mk 1000000 (Value.map (some 1001)))] [(Prod.mk 1000 (AObj.cells [(vI x2)] 3 false 1)), (Prod.mk 1001 AObj.deferred)]) := by kernel_rfl
abbrev zIs4 (x0 : Int) (x1 : Int) (x2 : Int) : Slots × Blocks := ([(6, (Value.int .i64 x0)), (7, (Value.int .i64 x1)), (10, (Value.pointer (some ⟨1000, 0, none⟩))), (1000000, (Go.Value.map (Option.some 1001)))], [(1000, (AObj.cells [(Value.int .i64 x2)] 3 false 1)), (1001, AObj.deferred)])
def wIs4 (C : Ct) (x0 : Int) (x1 : Int) (x2 : Int) (y0 : Int) (y1 : Int) (B : Bx) (X : Ex) : Prop := rRound Try.prog (hZ C) 17 50006 [(6, (Value.int .i64 x0)), (7, (Value.int .i64 x1)), (10, (Value.pointer (some ⟨1000, 0, none⟩))), (1000000, (Go.Value.map (Option.some 1001)))] [(1000, (AObj.cells [(Value.int .i64 x2)] 3 false 1)), (1001, AObj.deferred)] [(.val (.int .i64 y0)), (.val (.int .i64 y1))] B X
theorem wIs4_text (C : Ct) (x0 : Int) (x1 : Int) (x2 : Int) (y0 : Int) (y1 : Int) (B : Bx) (X : Ex) : wIs4 C x0 x1 x2 y0 y1 B X =
 (∀ caps : Nat → Nat,
 (X (Go.Exit.exit 0) [(Prod.mk 6 (vI x0)), (Prod.mk 7 (vI x1)), (Prod.mk 10 (Pt 1000 0)), (Prod.mk 1000000 (Value.map (some 1001)))] [(Prod.mk 1000 (AObj.cells [(vI y1)] 3 false 1)), (Prod.mk 1001 AObj.deferred)])) := by kernel_rfl
def nIs6 (C : Ct) (L : AtLoop) (x0 : Int) (x1 : Int) (x2 : Int) (k : List D → Prop) : Prop := jNext Try.prog (hZ C) L [] 17 50006 (.exit 0) [(6, (Value.int .i64 x0)), (7, (Value.int .i64 x1)), (10, (Value.pointer (some ⟨1000, 0, none⟩))), (1000000, (Go.Value.map (Option.some 1001)))] [(1000, (AObj.cells [(Value.int .i64 x2)] 3 false 1)), (1001, AObj.deferred)] (dataK k)
theorem nIs6_text (C : Ct) (L : AtLoop) (x0 : Int) (x1 : Int) (x2 : Int) (k : List D → Prop) : nIs6 C L x0 x1 x2 k =
 (k [(D.val (vI x2)), (D.val (vI 0))]) := by kernel_rfl
def git (C : Ct) (L : AtLoop) (rs : List (List D)) (mi : Int) (a : Int) (b : Int) (bo : Int) (n0 : Nat) (c0 : Nat) (l0 : List Value) (n1 : Nat) (c1 : Nat) (l1 : List Value) (n2 : Nat) (c2 : Nat) (l2 : List Value) (ta : Int) (tb : Int) (zs : Int) (zt : Int) (K : Value → Blocks → Prop) : Prop := jFn Try.prog (hZ C) L [] 62 #[.func (.yield 915) #[] #[], .pointer (some ⟨500, 0, none⟩), .pointer (some ⟨501, 0, none⟩), .pointer (some ⟨502, 0, none⟩)] (heapOf [(915, .yld false (some rs)), (500, .cells [.slice (some ⟨503, 0, none⟩) n0 c0, .int .i64 mi, .int .i64 a, .int .i64 b, .slice (some ⟨504, 0, none⟩) n1 c1, .int .i64 bo] 78 false 6), (501, .cells [.slice (some ⟨505, 0, none⟩) n2 c2, .int .i64 ta, .int .i64 tb] 58 false 1), (502, .cells [.int .i64 zs, .int .i64 zt] 40 false 2), (503, .sym l0 false 2), (504, .sym l1 true 1), (505, .sym l2 false 2)]) (stateK K)
theorem git_text (C : Ct) (L : AtLoop) (rs : List (List D)) (mi : Int) (a : Int) (b : Int) (bo : Int) (n0 : Nat) (c0 : Nat) (l0 : List Go.Value) (n1 : Nat) (c1 : Nat) (l1 : List Go.Value) (n2 : Nat) (c2 : Nat) (l2 : List Go.Value) (ta : Int) (tb : Int) (zs : Int) (zt : Int) (K : Go.Value → Blocks → Prop) : git C L rs mi a b bo n0 c0 l0 n1 c1 l1 n2 c2 l2 ta tb zs zt K =
 (((Qv (Value.agg [(Sl 503 (n0) (c0)), (vI mi), (vI a), (vI b), (Sl 504 (n1) (c1)), (vI bo)].toArray)) ∧
 ((Qv (Value.agg [(Sl 503 (n0) (c0)), (vI mi), (vI a), (vI b), (Sl 504 (n1) (c1)), (vI bo)].toArray)) ∧
 True)) ∧
 (bcase (decide (0 + n1 * 1 ≤ List.length l1))
 ((Says C 70 [(D.sl (n1) 1 (List.take (n1 * 1) (List.drop 0 l1)))] [(D.sl (n1) 1 (List.take (n1 * 1) (List.drop 0 l1)))]) ∧
 (((Qv (Value.agg [(Sl 503 (n0) (c0)), (vI mi), (vI a), (vI b), (Sl 504 (n1) (c1)), (vI bo)].toArray)) ∧
 True) ∧
 (bcase (decide (0 + n1 * 1 ≤ List.length l1))
 ((Says C 70 [(D.sl (n1) 1 (List.take (n1 * 1) (List.drop 0 l1)))] [(D.sl (n1) 1 (List.take (n1 * 1) (List.drop 0 l1)))]) ∧
 (((Qv (Value.agg [(Sl 503 (n0) (c0)), (vI mi), (vI a), (vI b), (Sl 1004 (n1) (n1)), (vI bo), (Sl 503 (n0) (c0)), (vI mi), (vI a), (vI b), (Sl 1007 (n1) (n1)), (vI bo)].toArray)) ∧
 True) ∧
 (True ∧
 (((Qv (Value.agg [(Sl 500 (n0) (c0)), (vI mi), (vI a), (vI b), (Sl 900 (n1) (n1)), (vI bo), (Sl 500 (n0) (c0)), (vI mi), (vI a), (vI b), (Sl 901 (n1) (n1)), (vI bo)].toArray)) ∧
 ((Qv (Sl 501 (n2) (c2))) ∧
 True)) ∧
 ((((Qv (vI 500)) ∧
 (Qv (some (AObj.sym (l0) false 2)))) ∧
 (((Qv (vI 900)) ∧
 (Qv (some (AObj.sym (List.take (n1 * 1) (List.drop 0 l1)) true 1)))) ∧
 (((Qv (vI 901)) ∧
 (Qv (some (AObj.sym (List.take (n1 * 1) (List.drop 0 l1)) true 1)))) ∧
 (((Qv (vI 501)) ∧
 (Qv (some (AObj.sym (l2) false 2)))) ∧
 True)))) ∧
 (∃ o11 : List Go.Value,
 (∃ o21 : List Go.Value,
 ((GoodRoute C 57 l0 n0 mi a b bo (List.take (n1 * 1) (List.drop 0 l1)) n1 (List.take (n1 * 1) (List.drop 0 l1)) n1 l2 n2 o11 o21) ∧
 (L 0 [(Prod.mk 0 (Value.func (Go.Fn.yield 915) [].toArray [].toArray)), (Prod.mk 2 (Pt 501 0)), (Prod.mk 3 (Pt 502 0)), (Prod.mk 5 (Pt 1000 0)), (Prod.mk 13 (vI 0))] [(Prod.mk 915 (AObj.yld false (some (rs)))), (Prod.mk 501 (AObj.cells [(Sl 505 (n2) (c2)), (vI ta), (vI tb)] 58 false 1)), (Prod.mk 502 (AObj.cells [(vI zs), (vI zt)] 40 false 2)), (Prod.mk 1000 (AObj.cells [(Sl 503 (n0) (c0)), (vI mi), (vI a), (vI b), (Sl 1001 (n1) (n1)), (vI bo), (Sl 503 (n0) (c0)), (vI mi), (vI a), (vI b), (Sl 1002 (n1) (n1)), (vI bo)] 90 false 12)), (Prod.mk 505 (AObj.sym (l2) false 2)), (Prod.mk 503 (AObj.sym (l0) false 2)), (Prod.mk 1001 (AObj.sym (o11) true 1)), (Prod.mk 1002 (AObj.sym (o21) true 1))])))))))))
 False)))
 False)) := by kernel_rfl
abbrev zit1 (x0 : Int) (rs1 : List (List D)) (n2 : Nat) (c3 : Nat) (x4 : Int) (x5 : Int) (x6 : Int) (x7 : Int) (n8 : Nat) (c9 : Nat) (x10 : Int) (x11 : Int) (x12 : Int) (n13 : Nat) (x14 : Int) (n15 : Nat) (c16 : Nat) (x17 : Int) (x18 : Int) (x19 : Int) (n20 : Nat) (x21 : Int) (l22 : List Value) (l23 : List Value) (l24 : List Value) (l25 : List Value) : Slots × Blocks := ([(0, (Value.func (.yield 915) #[] #[])), (2, (Value.pointer (some ⟨501, 0, none⟩))), (3, (Value.pointer (some ⟨502, 0, none⟩))), (5, (Value.pointer (some ⟨1000, 0, none⟩))), (13, (Value.int .i64 x0))], [(915, (AObj.yld false (some rs1))), (501, (AObj.cells [(Value.slice (some ⟨505, 0, none⟩) n2 c3), (Value.int .i64 x4), (Value.int .i64 x5)] 58 false 1)), (502, (AObj.cells [(Value.int .i64 x6), (Value.int .i64 x7)] 40 false 2)), (1000, (AObj.cells [(Value.slice (some ⟨503, 0, none⟩) n8 c9), (Value.int .i64 x10), (Value.int .i64 x11), (Value.int .i64 x12), (Value.slice (some ⟨1001, 0, none⟩) n13 n13), (Value.int .i64 x14), (Value.slice (some ⟨503, 0, none⟩) n15 c16), (Value.int .i64 x17), (Value.int .i64 x18), (Value.int .i64 x19), (Value.slice (some ⟨1002, 0, none⟩) n20 n20), (Value.int .i64 x21)] 90 false 12)), (505, (AObj.sym l22 false 2)), (503, (AObj.sym l23 false 2)), (1001, (AObj.sym l24 true 1)), (1002, (AObj.sym l25 true 1))])
def rit1 (C : Ct) (L : AtLoop) (x0 : Int) (rs1 : List (List D)) (n2 : Nat) (c3 : Nat) (x4 : Int) (x5 : Int) (x6 : Int) (x7 : Int) (n8 : Nat) (c9 : Nat) (x10 : Int) (x11 : Int) (x12 : Int) (n13 : Nat) (x14 : Int) (n15 : Nat) (c16 : Nat) (x17 : Int) (x18 : Int) (x19 : Int) (n20 : Nat) (x21 : Int) (l22 : List Value) (l23 : List Value) (l24 : List Value) (l25 : List Value) (B : Bx) (X : Xx) (K : Value → Blocks → Prop) : Prop := jRound Try.prog (hZ C) L [] 62 0 [(0, (Value.func (.yield 915) #[] #[])), (2, (Value.pointer (some ⟨501, 0, none⟩))), (3, (Value.pointer (some ⟨502, 0, none⟩))), (5, (Value.pointer (some ⟨1000, 0, none⟩))), (13, (Value.int .i64 x0))] [(915, (AObj.yld false (some rs1))), (501, (AObj.cells [(Value.slice (some ⟨505, 0, none⟩) n2 c3), (Value.int .i64 x4), (Value.int .i64 x5)] 58 false 1)), (502, (AObj.cells [(Value.int .i64 x6), (Value.int .i64 x7)] 40 false 2)), (1000, (AObj.cells [(Value.slice (some ⟨503, 0, none⟩) n8 c9), (Value.int .i64 x10), (Value.int .i64 x11), (Value.int .i64 x12), (Value.slice (some ⟨1001, 0, none⟩) n13 n13), (Value.int .i64 x14), (Value.slice (some ⟨503, 0, none⟩) n15 c16), (Value.int .i64 x17), (Value.int .i64 x18), (Value.int .i64 x19), (Value.slice (some ⟨1002, 0, none⟩) n20 n20), (Value.int .i64 x21)] 90 false 12)), (505, (AObj.sym l22 false 2)), (503, (AObj.sym l23 false 2)), (1001, (AObj.sym l24 true 1)), (1002, (AObj.sym l25 true 1))] B X (stateK K)
theorem rit1_text (C : Ct) (L : AtLoop) (x0 : Int) (rs1 : List (List D)) (n2 : Nat) (c3 : Nat) (x4 : Int) (x5 : Int) (x6 : Int) (x7 : Int) (n8 : Nat) (c9 : Nat) (x10 : Int) (x11 : Int) (x12 : Int) (n13 : Nat) (x14 : Int) (n15 : Nat) (c16 : Nat) (x17 : Int) (x18 : Int) (x19 : Int) (n20 : Nat) (x21 : Int) (l22 : List Go.Value) (l23 : List Go.Value) (l24 : List Go.Value) (l25 : List Go.Value) (B : Bx) (X : Xx) (K : Go.Value → Blocks → Prop) : rit1 C L x0 rs1 n2 c3 x4 x5 x6 x7 n8 c9 x10 x11 x12 n13 x14 n15 c16 x17 x18 x19 n20 x21 l22 l23 l24 l25 B X K =
 (bcase (decide (x0 < 201))
 (bcase (decide (0 + n8 * 2 ≤ List.length l23))
 (bcase (decide (0 + n13 * 1 ≤ List.length l24))
 (bcase (decide (0 + n15 * 2 ≤ List.length l23))
 (bcase (decide (0 + n20 * 1 ≤ List.length l25))
 (∃ n1 : Int,
 ((Says C 63 [(D.agg [(D.sl (n8) 2 (List.take (n8 * 2) (List.drop 0 l23))), (D.val (vI x10)), (D.val (vI x11)), (D.val (vI x12)), (D.sl (n13) 1 (List.take (n13 * 1) (List.drop 0 l24))), (D.val (vI x14)), (D.sl (n15) 2 (List.take (n15 * 2) (List.drop 0 l23))), (D.val (vI x17)), (D.val (vI x18)), (D.val (vI x19)), (D.sl (n20) 1 (List.take (n20 * 1) (List.drop 0 l25))), (D.val (vI x21))]), (D.agg [(D.val (vI x4)), (D.val (vI x5))])] [(D.val (vI n1))]) ∧
 (∃ rest'1 : List (List D),
 ((NextIs (rs1) [(D.val (vI x0)), (D.val (vI n1))] (rest'1)) ∧
 (((((Value.agg [(Sl 500 (n8) (c9)), (vI x10), (vI x11), (vI x12), (Sl 900 (n13) (n13)), (vI x14), (Sl 500 (n15) (c16)), (vI x17), (vI x18), (vI x19), (Sl 901 (n20) (n20)), (vI x21)].toArray) = (Value.agg [(Sl 500 (n8) (c9)), (vI x10), (vI x11), (vI x12), (Sl 900 (n13) (n13)), (vI x14), (Sl 500 (n8) (c9)), (vI x10), (vI x11), (vI x12), (Sl 901 (n20) (n20)), (vI x14)].toArray)) ∧
 ((Qv (Value.agg [(vI x6), (vI x7)].toArray)) ∧
 True)) ∧
 ((((Qv (vI 500)) ∧
 (Qv (some (AObj.sym (l23) false 2)))) ∧
 (((Qv (vI 900)) ∧
 (Qv (some (AObj.sym (l24) true 1)))) ∧
 (((Qv (vI 901)) ∧
 (Qv (some (AObj.sym (l25) true 1)))) ∧
 True))) ∧
 (∃ o11 : List Go.Value,
 (∃ o21 : List Go.Value,
 ((GoodZone C 57 l23 n8 x10 x11 x12 x14 l24 n13 l25 n20 x6 x7 o11 o21) ∧
 (B [(Prod.mk 0 (Value.func (Go.Fn.yield 915) [].toArray [].toArray)), (Prod.mk 2 (Pt 501 0)), (Prod.mk 3 (Pt 502 0)), (Prod.mk 5 (Pt 1000 0)), (Prod.mk 13 (vI (IntKind.wrap .i64 (x0 + 1))))] [(Prod.mk 915 (AObj.yld false (some (rest'1)))), (Prod.mk 501 (AObj.cells [(Sl 505 (n2) (c3)), (vI x4), (vI x5)] 58 false 1)), (Prod.mk 502 (AObj.cells [(vI x6), (vI x7)] 40 false 2)), (Prod.mk 1000 (AObj.cells [(Sl 503 (n8) (c9)), (vI x10), (vI x11), (vI x12), (Sl 1001 (n13) (n13)), (vI x14), (Sl 503 (n15) (c16)), (vI x17), (vI x18), (vI x19), (Sl 1002 (n20) (n20)), (vI x21)] 90 false 12)), (Prod.mk 505 (AObj.sym (l22) false 2)), (Prod.mk 503 (AObj.sym (l23) false 2)), (Prod.mk 1001 (AObj.sym (o11) true 1)), (Prod.mk 1002 (AObj.sym (o21) true 1))])))))) ∧
 (K (Value.tuple [].toArray) [(Prod.mk 915 (AObj.yld false none))]))))))
 False)
 False)
 False)
 False)
 (X 0 [] [(Prod.mk 915 (AObj.yld false (some (rs1))))])) := by kernel_rfl
def nit2 (C : Ct) (L : AtLoop) (rs0 : List (List D)) (K : Value → Blocks → Prop) : Prop := jNext Try.prog (hZ C) L [] 62 0 .normal [] [(915, (AObj.yld false (some rs0)))] (stateK K)
theorem nit2_text (C : Ct) (L : AtLoop) (rs0 : List (List D)) (K : Go.Value → Blocks → Prop) : nit2 C L rs0 K =
 (K (Value.tuple [].toArray) [(Prod.mk 915 (AObj.yld false (some (rs0))))]) := by kernel_rfl
end Go.Proofs.G5j

/- Chapter 2, heating: the answers after further steps, and whether a slab is ready, by the program. -/
namespace Go.Proofs.G5j
open Go Go.Abs Go.Proofs Go.Proofs.G2
set_option maxRecDepth 100000
/-- further steps -/
def ser (rd : Int → Int) (up : Bool) (mi a b bo zs zt : Int) : Nat → List Int → List Int
  | 0, l => l
  | n + 1, l => encN rd up mi a b (rd zs) (rd zs) bo zt.toNat (ser rd up mi a b bo zs zt n l)
theorem ser_length (rd : Int → Int) (up : Bool) (mi a b bo zs zt : Int) : ∀ (n : Nat) (l : List Int), (ser rd up mi a b bo zs zt n l).length = l.length
  | 0, _ => rfl
  | n + 1, l => by rw [ser, encN_length, ser_length rd up mi a b bo zs zt n]
theorem ser_ok {C : FuncId → List D → List D → Prop} {fr : FuncId} {l0 : List Value} {n0 : Nat} {mi a b bo : Int} {rd : Int → Int} (R : RadOK C fr l0 n0 mi a b bo rd) (up : Bool) {zs zt : Int} (hs : 0 ≤ zs ∧ zs ≤ 20000) : ∀ (n : Nat) {l : List Int}, NodOK l → NodOK (ser rd up mi a b bo zs zt n l)
  | 0, _, N => N
  | n + 1, _, N => encN_ok R hs _ (ser_ok R up hs n N)
def ansRow (rd : Int → Int) (mi a b bo zs zt ta tb : Int) (lo hi : List Int) (i : Nat) : List D := [dI (i : Int), dI (rdy ta tb 2 ((ser rd false mi a b bo zs zt i lo).zip (ser rd true mi a b bo zs zt i hi)))]
def ansRows (rd : Int → Int) (mi a b bo zs zt ta tb : Int) (lo hi : List Int) (i : Nat) : List (List D) := (List.range' i (201 - i)).map (ansRow rd mi a b bo zs zt ta tb lo hi)
theorem ansRows_drop {rd : Int → Int} {mi a b bo zs zt ta tb : Int} {lo hi : List Int} {i : Nat} (h : i < 201) : ansRows rd mi a b bo zs zt ta tb lo hi i = ansRow rd mi a b bo zs zt ta tb lo hi i :: ansRows rd mi a b bo zs zt ta tb lo hi (i + 1) := by
  unfold ansRows
  rw [show 201 - i = (201 - (i + 1)) + 1 by omega, List.range'_succ]; rfl
theorem runIt {l0 : List Value} {n0 : Nat} {mi a b bo : Int} {rd : Int → Int} (R : RadOK C5 57 l0 n0 mi a b bo rd) {l : List Int} (N : NodOK l) {z : List (Int × Int)} (hz : z.length ≤ 1000) (hzz : OkZ z) {zs zt : Int} (hs : 0 ≤ zs ∧ zs ≤ 20000) (ht : 0 ≤ zt ∧ zt ≤ 1000) (ta tb : Int) (c0 c2 : Nat) :
    CallS Try.prog 62 [.func (.yield 915) #[] #[], .pointer (some ⟨500, 0, none⟩), .pointer (some ⟨501, 0, none⟩), .pointer (some ⟨502, 0, none⟩)] [(915, .yld false (some (ansRows rd mi a b bo zs zt ta tb (encZ rd false mi a b bo z l) (encZ rd true mi a b bo z l) 0))), (500, .cells [.slice (some ⟨503, 0, none⟩) n0 c0, .int .i64 mi, .int .i64 a, .int .i64 b, .slice (some ⟨504, 0, none⟩) l.length l.length, .int .i64 bo] 78 false 6), (501, .cells [.slice (some ⟨505, 0, none⟩) z.length c2, .int .i64 ta, .int .i64 tb] 58 false 1), (502, .cells [.int .i64 zs, .int .i64 zt] 40 false 2), (503, .sym l0 false 2), (504, .sym (vi l) true 1), (505, .sym (vp z) false 2)] EndY := by
  have hT : List.take (n0 * 2) (List.drop 0 l0) = l0 := by rw [List.drop_zero, ← R.len, List.take_length]
  have hl0 : 0 + n0 * 2 ≤ l0.length := by have := R.len; omega
  have h2 := N.two
  have h8 := N.few
  let L0 := encZ rd false mi a b bo z l
  let H0 := encZ rd true mi a b bo z l
  have NL : NodOK L0 := encZ_ok R false _ hzz N
  have NH : NodOK H0 := encZ_ok R true _ hzz N
  have eL0 : L0.length = l.length := encZ_length ..
  have eH0 : H0.length = l.length := encZ_length ..
  let lo : Nat → List Int := fun i => ser rd false mi a b bo zs zt i L0
  let hi : Nat → List Int := fun i => ser rd true mi a b bo zs zt i H0
  let st : Nat → Slots × Blocks := fun i => zit1 i (ansRows rd mi a b bo zs zt ta tb L0 H0 i) z.length c2 ta tb zs zt n0 c0 mi a b l.length bo n0 c0 mi a b l.length bo (vp z) l0 (vi (lo i)) (vi (hi i))
  refine callS_JR hokZ mixed [] (L := fun _ x bl => ∃ i, i ≤ 201 ∧ st i = (x, bl)) Try.func62 rfl (.inr rfl) (pts := [0]) (loops := [0]) (by kernel_rfl) (by kernel_rfl) ?_ (fun id q1 q2 => absurd q1 q2) (fun id hid hlt => ?_) (fun id hid hlt => absurd (by obtain rfl := List.mem_singleton.1 hid; decide) hlt)
  · show git C5 _ (ansRows rd mi a b bo zs zt ta tb L0 H0 0) mi a b bo n0 c0 l0 l.length l.length (vi l) z.length c2 (vp z) ta tb zs zt _
    rw [git_text]
    simp only [vi_whole, bc_t (v1le l), Qv, eq_self, true_and, and_true]
    refine ⟨⟨conCl l (by omega)⟩, ⟨conCl l (by omega)⟩, ?_⟩
    exact ⟨_, _, ⟨rd, l, l, z, R, N, N, rfl, rfl, rfl, rfl, (vp_flat z).symm, rfl, hz, hzz, rfl, rfl⟩, 0, by omega, rfl⟩
  · obtain rfl := List.mem_singleton.1 hid
    refine ⟨⟨Nat, st, fun i => i ≤ 201, fun i => 201 - i, fun s bl h => h, [], [], by kernel_rfl, by kernel_rfl, by decide, ?_⟩⟩
    intro i hi'
    refine ⟨fun _ _ _ => False, ?_, (fun id2 q1 _ => by cases q1), (fun id2 q1 => by cases q1), (fun id2 q1 => by cases q1)⟩
    show rit1 C5 _ i (ansRows rd mi a b bo zs zt ta tb L0 H0 i) z.length c2 ta tb zs zt n0 c0 mi a b l.length bo n0 c0 mi a b l.length bo (vp z) l0 (vi (lo i)) (vi (hi i)) _ _ _
    rw [rit1_text]
    have Nl : NodOK (lo i) := ser_ok R false hs i NL
    have Nh : NodOK (hi i) := ser_ok R true hs i NH
    have el : (lo i).length = l.length := by rw [← eL0]; exact ser_length ..
    have eh : (hi i).length = l.length := by rw [← eH0]; exact ser_length ..
    refine bc_dec (fun h => ?_) (fun h => ?_)
    · have hi2 : i < 201 := by omega
      have q1 : 0 + l.length * 1 ≤ (vi (lo i)).length := by have := v1le (lo i); rwa [el] at this
      have q2 : 0 + l.length * 1 ≤ (vi (hi i)).length := by have := v1le (hi i); rwa [eh] at this
      have c := conan n0 R.len mi a b (lo := lo i) (hi := hi i) (by omega) (by omega) (by omega) bo ta tb
      simp only [dEn, el, eh] at c
      simp only [hT, bc_t hl0, bc_t q1, bc_t q2, vi_tk el, vi_tk eh, Qv, eq_self, true_and, and_true]
      refine ⟨_, ⟨c⟩, _, ⟨ansRows_drop hi2⟩, ⟨_, _, ⟨rd, lo i, hi i, R, Nl, Nh, rfl, el.symm, rfl, eh.symm, hs, ht, rfl, rfl⟩, i + 1, hi2, by omega, ?_⟩, ⟨none, rfl, .inr rfl⟩⟩
      rw [w64 (z := (i : Int) + 1) (by omega) (by omega)]; rfl
    · show (if 0 = 0 then _ else _)
      rw [if_pos rfl]
      show nit2 C5 _ (ansRows rd mi a b bo zs zt ta tb L0 H0 i) _
      rw [nit2_text]
      have e : i = 201 := by omega
      rw [e, show ansRows rd mi a b bo zs zt ta tb L0 H0 201 = [] from rfl]
      exact ⟨some [], rfl, .inl rfl⟩
/-- the error of rules, a slab and a goal -/
def isE (ps : List Pt) (m lo hi : Int) (l : List Int) (bo : Int) (z : List (Int × Int)) (ta tb : Int) : Int := fst0 [fst0 [rulE ps m lo hi, slE l bo], goE z ta tb]
theorem go_ok {z : List (Int × Int)} {a b : Int} (h : goE z a b = 0) : rtE z = 0 ∧ 1 ≤ z.length := by
  unfold goE at h
  by_cases h1 : rtE z = 0
  · rw [if_neg (fun hh => hh h1)] at h
    by_cases h2 : z.length = 0
    · rw [if_pos h2] at h; exact absurd h (by decide)
    · exact ⟨h1, by omega⟩
  · rw [if_pos h1] at h; exact absurd h h1
theorem conIsV (ps : List Pt) (hp : ps.length < 1000000000) (m lo hi : Int) (l : List Int) (hl : l.length < 1000000) (bo : Int) (z : List (Int × Int)) (hz : z.length < 1000000000) (ta tb : Int) (h0 : isE ps m lo hi l bo z ta tb = 0) :
    C5 17 [dRu ps m lo hi, dSl l bo, dGo z ta tb] [dI (rdy ta tb 2 (encP ps m lo hi bo z l)), dI 0] := by
  have h2 : rulE ps m lo hi = 0 ∧ slE l bo = 0 ∧ goE z ta tb = 0 := by
    unfold isE at h0
    rw [fst0_two, fst0_two] at h0
    by_cases q : rulE ps m lo hi = 0
    · by_cases q2 : slE l bo = 0
      · rw [if_pos q, if_pos q2] at h0; exact ⟨q, q2, h0⟩
      · rw [if_pos q, if_neg q2] at h0; exact absurd h0 q2
    · rw [if_neg q, if_neg q] at h0; exact absurd h0 q
  obtain ⟨e1, e2, e3⟩ := h2
  obtain ⟨⟨hv, hl10⟩, hm, ha, hb⟩ := rul_all e1
  obtain ⟨q2, q8, hg, hbo⟩ := sl_ok e2
  obtain ⟨e4, hz1⟩ := go_ok e3
  obtain ⟨hz5, hzz⟩ := rt_ok e4
  have R := radOK hv hl10 hm ha hb hbo
  have N : NodOK l := ⟨q2, q8, hg⟩
  have hlast : z.length - 1 < z.length := by omega
  obtain ⟨hs, -⟩ := hzz z[z.length - 1] (List.getElem_mem hlast)
  refine con_JR hokZ mixed [] (L := fun _ s b => ∃ c0 c2, zIs3 0 0 0 ps.length c0 m lo hi l.length bo z.length c2 ta tb z[z.length - 1].1 1 (vp ps) (vi l) (vp z) = (s, b)) Try.func17 rfl (by show 3 ≤ 400; omega) rfl (pts := [50006]) (loops := [50006]) (by kernel_rfl) (by kernel_rfl) (fun caps _ => ?_) (fun id q1 q2 => absurd q1 q2) (fun id hid hlt => absurd hlt (by obtain rfl := List.mem_singleton.1 hid; decide)) (fun id hid hlt => ?_)
  · show gIs C5 _ ps.length (caps 500) (vp ps) m lo hi l.length (caps 501) (vi l) bo z.length (caps 502) (vp z) ta tb _
    rw [gIs_text]
    simp only [vp_whole, vi_whole, bc_t (v2le ps), bc_t (v1le l), bc_t (v2le z), Qv, eq_self, true_and, and_true]
    refine ⟨_, ⟨conCR ps hp m lo hi⟩, _, ⟨conCS l (by omega) bo⟩, _, ⟨conFE [rulE ps m lo hi, slE l bo] (by simp)⟩, ?_⟩
    have z1 : fst0 [rulE ps m lo hi, slE l bo] = 0 := by rw [fst0_two, if_pos e1]; exact e2
    have z2 : fst0 [0, goE z ta tb] = 0 := by rw [fst0_two, if_pos rfl]; exact e3
    refine bc_bne (fun h => absurd z1 h) (fun _ => ?_)
    refine ⟨⟨conCl l (by omega)⟩, _, ⟨concG z hz ta tb⟩, _, ⟨conFE [0, goE z ta tb] (by simp)⟩, ?_⟩
    refine bc_bne (fun h => absurd z2 h) (fun _ => ?_)
    have hw := w_last (n := z.length) (by omega) (by omega)
    rw [hw]
    refine bc_yes (by omega) (bc_yes (by omega) ⟨_, vp_one z (z.length - 1) hlast, caps 500, caps 502, ?_⟩)
    rfl
  · obtain rfl := List.mem_singleton.1 hid
    refine ⟨⟨?_⟩⟩
    rintro s b ⟨c0, c2, e⟩
    cases e
    show hIs3 0 0 0 ps.length c0 m lo hi l.length bo z.length c2 ta tb z[z.length - 1].1 1 (vp ps) (vi l) (vp z) _
    rw [hIs3_text]
    let rows := ansRows (fun x => rad x ps) m lo hi bo z[z.length - 1].1 1 ta tb (encZ (fun x => rad x ps) false m lo hi bo z l) (encZ (fun x => rad x ps) true m lo hi bo z l) 0
    refine ⟨rows, fun rest s b => rest = rows ∧ zIs4 0 0 0 = (s, b), runIt R N (by omega) hzz hs (by decide) ta tb c0 c2, ⟨rfl, rfl⟩, ?_, ?_⟩
    · rintro row rest s b ⟨e1, e2⟩
      have e1 : row :: rest = ansRows _ _ _ _ _ _ _ _ _ _ _ 0 := e1
      rw [ansRows_drop (by decide)] at e1
      obtain ⟨rfl, rfl⟩ := List.cons.inj e1
      cases e2
      show wIs4 C5 0 0 0 _ _ _ _
      rw [wIs4_text]
      intro caps
      show nIs6 C5 _ 0 0 _ _
      rw [nIs6_text]
      rfl
    · rintro s b ⟨e1, e2⟩
      have e1 : [] = ansRows _ _ _ _ _ _ _ _ _ _ _ 0 := e1
      rw [ansRows_drop (by decide)] at e1
      cases e1
end Go.Proofs.G5j

/- Chapter 2, heating: the reference's enclosure after a step, in data. -/
namespace Go.Proofs.G5j
open Go Go.Abs Go.Proofs Go.Proofs.G2
set_option maxRecDepth 100000
end Go.Proofs.G5j

/- Chapter 2, heating: the reference's enclosure after a route, in data. -/
namespace Go.Proofs.G5j
open Go Go.Abs Go.Proofs Go.Proofs.G2
set_option maxRecDepth 100000
end Go.Proofs.G5j

/- Short names for what stands often in printed texts of laws. -/
namespace Go.Abs
abbrev Tk (n k : Nat) (l : List Value) : List Value := List.take (n * k) (List.drop 0 l)
abbrev Dw (n k : Nat) (l : List Value) : D := .sl n k (Tk n k l)
abbrev dL (n k : Nat) (l : List Value) : Bool := decide (0 + n * k ≤ List.length l)
abbrev kT : List D := [.val (.bool true)]
abbrev kF : List D := [.val (.bool false)]
abbrev Qu : Prop := Value.tuple [].toArray = Value.tuple [].toArray
abbrev Qf : Prop := Value.bool false = Value.bool false
abbrev Qb : Prop := Value.bool true = Value.bool true
end Go.Abs

/- Chapter 2, heating: the reference's answer; comparison, copies. -/
namespace Go.Proofs.G5j
open Go Go.Abs Go.Proofs Go.Proofs.G2
set_option maxRecDepth 100000
theorem bc_nf {a : Int} {x y : Prop} : bcase (a != a) x y = y := by rw [show (a != a) = false by simp]; rfl
theorem bc_qt {a : Int} {x y : Prop} : bcase (a == a) x y = x := by rw [show (a == a) = true by simp]; rfl
theorem conyR (z : List (Int × Int)) (hl : z.length ≤ 1000000) : C5 15 [.sl z.length 2 (vp z)] [.sl z.length 2 (vp z)] := by
  refine con_flat hokE mixed Try.func15 rfl (by show 1 ≤ 400; omega) rfl (by kernel_rfl) (fun caps => ?_)
  show gyR _ _ z.length (caps 500) (vp z) _
  rw [gyR_text]
  try simp only [eq_self, true_and, and_true]
  refine bc_yes (by simp) (bc_beq (fun h0 => ?_) (fun h0 => bc_yes (by omega) (bc_yes (by omega) (bc_yes (by omega) ⟨by simp, ?_⟩))))
  · obtain rfl : z = [] := List.length_eq_zero_iff.1 h0
    rfl
  · rw [vp_whole, Nat.zero_add, List.nil_append]
end Go.Proofs.G5j

/- Chapter 2, heating: the earliest discharge, the maximum delay. -/
namespace Go.Proofs.G5j
open Go Go.Abs Go.Proofs Go.Proofs.G2
set_option maxRecDepth 100000
structure ValJ (ps : List Pt) (m lo hi : Int) (l : List Int) (bo : Int) (z : List (Int × Int)) : Prop where
  tab : OkT ps
  few : ps.length ≤ 10
  mi : 0 ≤ m ∧ m ≤ 50
  a : 0 ≤ lo ∧ lo ≤ 1000
  b : 0 ≤ hi ∧ hi ≤ 1000
  bo : 0 ≤ bo ∧ bo ≤ 1000
  nod : NodOK l
  z1 : 1 ≤ z.length
  z5 : z.length ≤ 5
  zz : OkZ z
end Go.Proofs.G5j

/- Chapter 2, heating: the reference's answers. -/
namespace Go.Proofs.G5j
open Go Go.Abs Go.Proofs Go.Proofs.G2
set_option maxRecDepth 100000
theorem preL2OK : PreOK Try.prog (preL C5) := by
  intro g h he args ats H k hk
  unfold preL at he
  rcases ite_so he with ⟨e, rfl⟩ | he
  · exact fixH_ok (fun _ _ _ h => h) _ _ _ _ _ hk
  rcases ite_so he with ⟨e, rfl⟩ | he
  · exact fixH_ok (fun _ _ _ h => h) _ _ _ _ _ hk
  rcases ite_so he with ⟨e, rfl⟩ | he
  · exact saidH_ok (fun _ _ _ h => h) _ _ _ _ _ hk
  · exact preZOK g h he args ats H k hk
theorem hokL2 : HandlerOK Try.prog (hL C5) := handlerX_ok mixed preL2OK (by decide) 6
theorem conMo (a n : Int) (hn : 0 < n ∧ n ≤ 4611686018427387904) : C5 10 [dI a, dI n] [dI (a % n)] := by
  refine con_flat hokE mixed Try.func10 rfl (by show 0 ≤ 400; omega) rfl (by kernel_rfl) (fun caps => ?_)
  show gMo _ _ a n _
  rw [gMo_text]
  refine bc_bne (fun _ => ?_) (fun h => by omega)
  have e := Int.mul_tdiv_add_tmod a n
  have h1 := Int.tmod_lt_of_pos a hn.1
  have h2 : -n < Int.tmod a n := by
    rcases Int.le_total 0 a with h | h
    · have := Int.tmod_nonneg n h; omega
    · have := Int.tmod_nonneg n (a := -a) (by omega)
      have h3 := Int.tmod_lt_of_pos (-a) hn.1
      rw [Int.neg_tmod] at h3; omega
  refine bc_dec (fun h => ?_) (fun h => ?_)
  · rw [w64 (by omega) (by omega)]
    have : a % n = Int.tmod a n + n := by
      have : a = (Int.tmod a n + n) + n * (Int.tdiv a n - 1) := by rw [Int.mul_sub]; omega
      rw [this, Int.add_mul_emod_self_left, Int.emod_eq_of_lt (by omega) (by omega)]
      rw [← this]
    rw [this]
  · have : a % n = Int.tmod a n := by
      have e2 : a = Int.tmod a n + n * Int.tdiv a n := by omega
      rw [e2, Int.add_mul_emod_self_left, Int.emod_eq_of_lt (by omega) (by omega), ← e2]
    rw [this]
end Go.Proofs.G5j

/- awake of chapter 2, for every tape. -/
namespace Go.Proofs.G5j
open Go Go.Abs Go.Proofs
set_option maxRecDepth 100000
theorem tab0_ok : TabOK Try.prog (fun _ => none) := fun _ _ h => by cases h
theorem runA : ∀ caps, runOK Try.prog (fun _ => none) 1000 5 [] [.val (.bool true)] caps = true := by intro caps; kernel_rfl
theorem conA : C5 5 [] [.val (.bool true)] := con_run tab0_ok mixed (by show 0 ≤ 400; omega) runA
end Go.Proofs.G5j
