/- Texts of the proof, put together: G2I, GhH1, AbsGood, GhHK0, GhH2, GhH3, GhH4, GhH5, GhHA, AbsShort2. -/
import Derived.Test.YtoelmajokkdeoaaP4
import Derived.Test.YtoelmajokkdeoaaP3
import Derived.Lib.LaidTab
import Derived.Lib.ItoaNum
import Derived.Test.YtoelmajokkdeoaaRows
import Derived.Handed
import Derived.JoinedCond
/- A step of a slab (no program in it). -/
namespace Go.Proofs.G2
open Go.Abs
abbrev gd (l : List Int) (i : Nat) : Int := l.getD i 0
theorem gd_at {l : List Int} {i : Nat} (h : i < l.length) : l[i] = gd l i := by rw [gd, List.getD_eq_getElem?_getD, List.getElem?_eq_getElem h]; rfl
theorem gd_mem {l : List Int} {i : Nat} (h : i < l.length) : gd l i ∈ l := by rw [← gd_at h]; exact List.getElem_mem h
theorem gd_set {l : List Int} {k i : Nat} {v : Int} (h : i < l.length) : gd (l.set k v) i = if k = i then v else gd l i := by
  rw [← gd_at (show i < (l.set k v).length by simpa using h), List.getElem_set, ← gd_at h]
theorem gd_map {f : Nat → Int} {n i : Nat} (h : i < n) : gd ((List.range n).map f) i = f i := by
  rw [← gd_at (show i < ((List.range n).map f).length by simpa using h)]; simp
theorem gd_ext {l m : List Int} (hl : l.length = m.length) (h : ∀ i, i < l.length → gd l i = gd m i) : l = m :=
  List.ext_getElem hl fun i h1 h2 => by rw [gd_at h1, gd_at h2]; exact h i h1
@[simp] theorem mixL_length (mix : Int) (l : List Int) : (mixL mix l).length = l.length := by simp [mixL]
theorem gd_mix {mix : Int} {l : List Int} {i : Nat} (h : i < l.length) : gd (mixL mix l) i = mixAt mix l i := gd_map h
/-- nodes after the first half of a step -/
def firstL (T : List Pt) (em set bo : Int) (l : List Int) : List Int := (l.set 0 (half T em set bo (gd l 0))).set (l.length - 1) (half T em set 1000 (gd l (l.length - 1)))
@[simp] theorem firstL_length (T : List Pt) (em set bo : Int) (l : List Int) : (firstL T em set bo l).length = l.length := by simp [firstL]
theorem gd_first {T : List Pt} {em set bo : Int} {l : List Int} {i : Nat} (hi : i < l.length) : gd (firstL T em set bo l) i = if l.length - 1 = i then half T em set 1000 (gd l i) else if 0 = i then half T em set bo (gd l i) else gd l i := by
  rw [firstL, gd_set (by simpa using hi), gd_set hi]
  by_cases h1 : l.length - 1 = i
  · rw [if_pos h1, if_pos h1, h1]
  · rw [if_neg h1, if_neg h1]
    by_cases h2 : 0 = i
    · rw [if_pos h2, if_pos h2, h2]
    · rw [if_neg h2, if_neg h2]
/-- nodes after a step -/
def stepL (T : List Pt) (mix em set bo : Int) (l : List Int) : List Int := mixL mix (firstL T em set bo l)
@[simp] theorem stepL_length (T : List Pt) (mix em set bo : Int) (l : List Int) : (stepL T mix em set bo l).length = l.length := by simp [stepL]
variable {T : List Pt} {mix em bo : Int}
structure OkS (T : List Pt) (mix em bo : Int) : Prop where
  tab : OkT T
  mix : 0 ≤ mix ∧ mix ≤ 50
  em : 0 ≤ em ∧ em ≤ 1000
  bo : 0 ≤ bo ∧ bo ≤ 1000
theorem first_in (o : OkS T mix em bo) {lo hi set : Int} (hs : lo ≤ set ∧ set ≤ hi) {l : List Int} (h : ∀ i, i < l.length → lo ≤ gd l i ∧ gd l i ≤ hi) {i : Nat} (hi' : i < l.length) : lo ≤ gd (firstL T em set bo l) i ∧ gd (firstL T em set bo l) i ≤ hi := by
  rw [gd_first hi']
  split
  · exact half_in o.tab o.em (by decide) (h i hi') hs
  · split
    · exact half_in o.tab o.em o.bo (h i hi') hs
    · exact h i hi'
end Go.Proofs.G2

/- Chapter 2, heating: what small functions do, in data. -/
namespace Go.Proofs.G5h
open Go Go.Abs Go.Proofs Go.Proofs.G2
set_option maxRecDepth 100000
theorem mixed : Try.prog.follows .mixedOrders = true := by kernel_rfl
abbrev C5 : FuncId → List D → List D → Prop := Con Try.prog
theorem hokE : HandlerOK Try.prog (hE C5) := handlerX_ok mixed (fun g h he => by cases he) (by decide) 6
theorem ite_so {c : Prop} [Decidable c] {α : Type} {x h : α} {r : Option α} (e : (if c then some x else r) = some h) : (c ∧ x = h) ∨ r = some h := by
  by_cases hc : c
  · rw [if_pos hc] at e; exact .inl ⟨hc, Option.some.inj e⟩
  · rw [if_neg hc] at e; exact .inr e
theorem limE1 (lo hi a : Int) : limE lo hi [.int .i64 a] = if lo ≤ a ∧ a ≤ hi then 0 else 2 := by
  simp only [limE]; split <;> split <;> first | rfl | omega
theorem limE2 (lo hi a b : Int) : limE lo hi [.int .i64 a, .int .i64 b] = if (lo ≤ a ∧ a ≤ hi) ∧ lo ≤ b ∧ b ≤ hi then 0 else 2 := by
  simp only [limE]; repeat' split
  all_goals first | rfl | omega
theorem limE4 (lo hi a b c d : Int) : limE lo hi [.int .i64 a, .int .i64 b, .int .i64 c, .int .i64 d] = if (lo ≤ a ∧ a ≤ hi) ∧ (lo ≤ b ∧ b ≤ hi) ∧ (lo ≤ c ∧ c ≤ hi) ∧ lo ≤ d ∧ d ≤ hi then 0 else 2 := by
  simp only [limE]; repeat' split
  all_goals first | rfl | omega
theorem limGood : LimGood Try.prog 60 3 := by
  refine ⟨mixed, ⟨_, _, Try.func60, rfl⟩, fun cap lo hi x => ?_, fun cap lo hi x y => ?_, fun cap lo hi x y z => ?_, fun cap lo hi x y z u => ?_⟩
  · show lm1 cap lo hi x _
    rw [lm1_text, limE1]
    repeat' first | refine bc_dec (fun _ => ?_) (fun _ => ?_) | exact ⟨by rw [if_neg (by omega)], rfl⟩ | exact ⟨by rw [if_pos (by omega)], rfl⟩
  · show lm2 cap lo hi x y _
    rw [lm2_text, limE2]
    repeat' first | refine bc_dec (fun _ => ?_) (fun _ => ?_) | exact ⟨by rw [if_neg (by omega)], rfl⟩ | exact ⟨by rw [if_pos (by omega)], rfl⟩
  · show lm3 cap lo hi x y z _
    rw [lm3_text]
    have e : limE lo hi [.int .i64 x, .int .i64 y, .int .i64 z] = if (lo ≤ x ∧ x ≤ hi) ∧ (lo ≤ y ∧ y ≤ hi) ∧ lo ≤ z ∧ z ≤ hi then 0 else 2 := by
      simp only [limE]; repeat' split
      all_goals first | rfl | omega
    rw [e]
    repeat' first | refine bc_dec (fun _ => ?_) (fun _ => ?_) | exact ⟨by rw [if_neg (by omega)], rfl⟩ | exact ⟨by rw [if_pos (by omega)], rfl⟩
  · show lm4 cap lo hi x y z u _
    rw [lm4_text, limE4]
    repeat' first | refine bc_dec (fun _ => ?_) (fun _ => ?_) | exact ⟨by rw [if_neg (by omega)], rfl⟩ | exact ⟨by rw [if_pos (by omega)], rfl⟩

theorem limE_drop {lo hi : Int} (l : List Int) (i : Nat) (h : i < l.length) : limE lo hi (vi (l.drop i)) = if l[i] < lo ∨ l[i] > hi then 2 else limE lo hi (vi (l.drop (i + 1))) := by
  rw [List.drop_eq_getElem_cons h]; rfl
abbrev lW (lo hi : Int) : Blocks := [(900, .cells [.int .i64 lo] 3 false 1), (901, .cells [.int .i64 hi] 3 false 1)]
theorem limH (cap : Nat) (lo hi : Int) (l : List Int) (hlen : l.length < 1000000000) : CallS Try.prog 60 [.slice (some ⟨500, 0, none⟩) l.length cap, P1 900 0, P1 901 0] ((500, .sym (vi l) false 1) :: lW lo hi) (fun v b => v = .int .i64 (limE lo hi (vi l)) ∧ b = lW lo hi) := by
  let inv : Nat → Prop := fun i => i ≤ l.length ∧ limE lo hi (vi l) = limE lo hi (vi (l.drop i))
  let st : Nat → Slots × Blocks := fun i => zLo1 l.length cap l.length i lo hi (vi l)
  refine callS_ofG (L := fun _ s b => ∃ x, inv x ∧ st x = (s, b)) hokE mixed Try.func60 rfl rfl (ids := [0]) (by kernel_rfl) rfl ?_ (fun id hid => ?_)
  · show gLo _ _ lo hi l.length cap (vi l) _
    rw [gLo_text]
    exact ⟨0, ⟨Nat.zero_le _, rfl⟩, rfl⟩
  · obtain rfl := List.mem_singleton.1 hid
    refine ⟨_, st, inv, fun i => l.length - i, ⟨fun s b h => h, by kernel_rfl, ?_⟩⟩
    rintro i ⟨hi', hm⟩
    show rLo1 _ _ l.length cap l.length (i : Int) lo hi (vi l) _ _ _
    rw [rLo1_text]
    refine bc_dec (fun h => ?_) (fun h => ?_)
    · have hi2 : i < l.length := by omega
      rw [limE_drop l i hi2] at hm
      simp only [bc_t h, bc_t (show (0 : Int) ≤ (i : Int) by omega), Int.toNat_natCast, at1 (vi_at l i hi2)]
      refine bc_dec (fun h1 => ?_) (fun h1 => bc_dec (fun h2 => ?_) (fun h2 => ?_))
      · rw [if_pos (.inl h1)] at hm; exact ⟨by rw [hm], by first | trivial | rfl⟩
      · rw [if_pos (.inr h2)] at hm; exact ⟨by rw [hm], by first | trivial | rfl⟩
      · rw [if_neg (by omega)] at hm
        refine ⟨i + 1, ⟨hi2, hm⟩, by omega, ?_⟩
        rw [w64 (by omega) (by omega)]; rfl
    · show (if 0 = 0 then _ else _)
      rw [if_pos rfl]
      show nLo2 _ _ lo hi _
      rw [nLo2_text]
      have : i = l.length := by omega
      rw [this, List.drop_length] at hm
      exact ⟨by rw [hm]; rfl, rfl⟩
theorem limL_ok {args : List Value} {bs : Blocks} {K : Value → Blocks → Prop} (hk : limL 3 args bs K) : CallS Try.prog 60 args bs K := by
  unfold limL at hk
  split at hk
  · split at hk
    · rename_i hc
      simp only [Bool.and_eq_true, beq_iff_eq] at hc
      obtain ⟨⟨⟨⟨⟨⟨⟨⟨⟨⟨⟨⟨⟨rfl, rfl⟩, rfl⟩, rfl⟩, rfl⟩, rfl⟩, rfl⟩, rfl⟩, rfl⟩, rfl⟩, rfl⟩, rfl⟩, rfl⟩, rfl⟩ := hc
      obtain ⟨l, rfl, rfl, hl, e, he, hK⟩ := hk
      refine callS_mono (limH _ _ _ l hl) ?_
      rintro v b ⟨rfl, rfl⟩
      have e1 : e = limE _ _ (vi l) := limC_out he
      rw [← e1]; exact hK
    · exact hk.elim
  · exact lim_ok limGood hk
/-- nodes of which some have changed -/
def part (mix : Int) (l : List Int) (i : Nat) : List Int := (List.range l.length).map fun k => if k < i then mixAt mix l k else gd l k
@[simp] theorem part_length (mix : Int) (l : List Int) (i : Nat) : (part mix l i).length = l.length := by simp [part]
theorem gd_part {mix : Int} {l : List Int} {i k : Nat} (h : k < l.length) : gd (part mix l i) k = if k < i then mixAt mix l k else gd l k := gd_map h
theorem part_zero (mix : Int) (l : List Int) : part mix l 0 = l := gd_ext (by simp) fun i hi => by rw [gd_part (by simpa using hi), if_neg (by omega)]
theorem part_all (mix : Int) (l : List Int) : part mix l l.length = mixL mix l := gd_ext (by simp) fun i hi => by
  rw [part_length] at hi; rw [gd_part hi, if_pos hi, gd_mix hi]
theorem part_set {mix : Int} {l : List Int} {i : Nat} (h : i < l.length) : (part mix l i).set i (mixAt mix l i) = part mix l (i + 1) := gd_ext (by simp) fun k hk => by
  have hk : k < l.length := by simpa using hk
  rw [gd_set (by simpa using hk), gd_part hk, gd_part hk]
  by_cases h1 : i = k
  · subst h1; rw [if_pos rfl, if_pos (by omega)]
  · rw [if_neg h1]
    by_cases h2 : k < i
    · rw [if_pos h2, if_pos (by omega)]
    · rw [if_neg h2, if_neg (by omega)]
theorem listSet_vi (l : List Int) (i : Nat) (v : Int) (h : i < l.length) : listSet (vi l) (0 + i * 1) [vI v] = vi (l.set i v) := by
  rw [Nat.zero_add, Nat.mul_one]
  show listSet (l.map _) i [vI v] = (l.set i v).map _
  induction l generalizing i with
  | nil => simp at h
  | cons x r ih =>
    cases i with
    | zero => simp [listSet]
    | succ j =>
      have := ih j (by simpa using h)
      simp only [listSet, List.map_cons, List.set_cons_succ] at this ⊢
      simpa using this
theorem at_gd {l : List Int} {i : Nat} (h : i < l.length) : At (vi l) (0 + i * 1) 1 [vI (gd l i)] := by
  rw [← gd_at h]; exact vi_at l i h
theorem condC (mi a b bo : Int) (n0 c0 : Nat) (l0 : List Value) (c1 : Nat) (l : List Int) (h2 : 2 ≤ l.length) (h3 : l.length ≤ 1000) (hm : 0 ≤ mi ∧ mi ≤ 50) (hg : GoodNums l) :
    CallS Try.prog 55 [.agg #[.slice (some ⟨500, 0, none⟩) n0 c0, .int .i64 mi, .int .i64 a, .int .i64 b, .slice (some ⟨900, 0, none⟩) l.length c1, .int .i64 bo]] [(500, .sym l0 false 2), (900, .sym (vi l) true 1)] (fun v bs => v = .tuple #[] ∧ bs = [(900, .sym (vi (mixL mi l)) true 1)]) := by
  let inv : Nat → Prop := fun i => i ≤ l.length
  let st : Nat → Slots × Blocks := fun i => zCo1 (gd l (i - 1)) l.length c1 l.length i n0 c0 mi a b l.length c1 bo (vi (part mi l i)) l0
  have hG : ∀ i, i < l.length → 0 ≤ gd l i ∧ gd l i ≤ 100000 := fun i hi => hg.all _ (gd_mem hi)
  refine callS_ofG (L := fun _ s b => ∃ x, inv x ∧ st x = (s, b)) hokE mixed Try.func55 rfl rfl (ids := [0]) (by kernel_rfl) rfl ?_ (fun id hid => ?_)
  · show gCo _ _ mi a b bo n0 c0 l0 l.length c1 (vi l) _
    rw [gCo_text]
    refine bc_yes (by omega) ⟨_, at_gd (i := 0) (by omega), 0, Nat.zero_le _, ?_⟩
    show zCo1 _ _ _ _ _ _ _ _ _ _ _ _ _ (vi (part mi l 0)) _ = _
    rw [part_zero]; rfl
  · obtain rfl := List.mem_singleton.1 hid
    refine ⟨_, st, inv, fun i => l.length - i, ⟨fun s b h => h, by kernel_rfl, ?_⟩⟩
    intro i hi
    have hi : i ≤ l.length := hi
    show rCo1 _ _ (gd l (i - 1)) l.length c1 l.length (i : Int) n0 c0 mi a b l.length c1 bo (vi (part mi l i)) l0 _ _ _
    rw [rCo1_text]
    refine bc_dec (fun h => ?_) (fun h => ?_)
    · have hi2 : i < l.length := by omega
      have hz0 : (0 : Int) ≤ (i : Int) := by omega
      have ew : (if IntKind.wrap .i64 ((l.length : Int) - 1) < IntKind.wrap .i64 ((i : Int) + 1) then IntKind.wrap .i64 ((l.length : Int) - 1) else IntKind.wrap .i64 ((i : Int) + 1)) = ((min (i + 1) (l.length - 1) : Nat) : Int) := by
        rw [w64 (z := (l.length : Int) - 1) (by omega) (by omega), w64 (z := (i : Int) + 1) (by omega) (by omega)]
        split <;> omega
      have hj : min (i + 1) (l.length - 1) < l.length := by omega
      have hj0 : (0 : Int) ≤ ((min (i + 1) (l.length - 1) : Nat) : Int) := by omega
      have hj1 : ((min (i + 1) (l.length - 1) : Nat) : Int) < (l.length : Int) := by omega
      have a1 : At (vi (part mi l i)) (0 + i * 1) 1 [vI (gd l i)] := by
        have := at_gd (l := part mi l i) (i := i) (by simpa using hi2)
        rwa [gd_part hi2, if_neg (by omega)] at this
      have a2 : At (vi (part mi l i)) (0 + min (i + 1) (l.length - 1) * 1) 1 [vI (gd l (min (i + 1) (l.length - 1)))] := by
        have := at_gd (l := part mi l i) (i := min (i + 1) (l.length - 1)) (by simpa using hj)
        rwa [gd_part hj, if_neg (by omega)] at this
      simp only [ew, bc_t h, bc_t hz0, bc_t hj0, bc_t hj1, Int.toNat_natCast, at1 a1, at1 a2]
      refine bc_yes (by simp; omega) ?_
      have b1 := hG i hi2
      have b2 := hG (i - 1) (by omega)
      have b3 := hG _ hj
      have p1 := Int.mul_le_mul_of_nonneg_left (show gd l (i - 1) + gd l (min (i + 1) (l.length - 1)) ≤ 200000 by omega) hm.1
      have p2 := Int.mul_nonneg hm.1 (show 0 ≤ gd l (i - 1) + gd l (min (i + 1) (l.length - 1)) by omega)
      have p3 := Int.mul_nonneg (show 0 ≤ 100 - 2 * mi by omega) b1.1
      have p4 := Int.mul_le_mul_of_nonneg_left b1.2 (show 0 ≤ 100 - 2 * mi by omega)
      have ev : IntKind.wrap .i64 (Int.tdiv (IntKind.wrap .i64 (IntKind.wrap .i64 (mi * IntKind.wrap .i64 (gd l (i - 1) + gd l (min (i + 1) (l.length - 1)))) + IntKind.wrap .i64 (IntKind.wrap .i64 (100 - IntKind.wrap .i64 (2 * mi)) * gd l i))) 100) = mixAt mi l i := by
        rw [w64 (z := gd l (i - 1) + gd l (min (i + 1) (l.length - 1))) (by omega) (by omega), w64 (z := 2 * mi) (by omega) (by omega), w64 (z := 100 - 2 * mi) (by omega) (by omega), w64 (z := mi * _) (by omega) (by omega), w64 (z := (100 - 2 * mi) * gd l i) (by omega) (by omega), w64 (z := mi * (gd l (i - 1) + gd l (min (i + 1) (l.length - 1))) + (100 - 2 * mi) * gd l i) (by omega) (by omega), tdiv_nn (by omega)]
        have q1 := Int.ediv_nonneg (show 0 ≤ mi * (gd l (i - 1) + gd l (min (i + 1) (l.length - 1))) + (100 - 2 * mi) * gd l i by omega) (by decide : (0 : Int) ≤ 100)
        have q2 := Int.ediv_le_self 100 (show 0 ≤ mi * (gd l (i - 1) + gd l (min (i + 1) (l.length - 1))) + (100 - 2 * mi) * gd l i by omega)
        rw [w64 (by omega) (by omega)]; rfl
      refine ⟨i + 1, hi2, by omega, ?_⟩
      rw [ev, listSet_vi _ _ _ (by simpa using hi2), part_set hi2, w64 (z := (i : Int) + 1) (by omega) (by omega)]
      rfl
    · show (if 0 = 0 then _ else _)
      rw [if_pos rfl]
      show nCo2 _ _ (vi (part mi l i)) _
      rw [nCo2_text]
      have : i = l.length := by omega
      rw [this, part_all]
      exact ⟨rfl, rfl⟩
theorem condP_ok {args : List Value} {bs : Blocks} {K : Value → Blocks → Prop} (hk : condP args bs K) : CallS Try.prog 55 args bs K := by
  unfold condP at hk
  split at hk
  · rename_i cells _ _ _ _ _ _ _ _
    split at hk
    · rename_i hcells
      split at hk
      · rename_i hc
        simp only [Bool.and_eq_true, beq_iff_eq] at hc
        obtain ⟨⟨⟨⟨⟨⟨⟨rfl, rfl⟩, rfl⟩, rfl⟩, rfl⟩, rfl⟩, rfl⟩, rfl⟩ := hc
        obtain ⟨l, rfl, rfl, h2, h3, h4, h5, h6, hK⟩ := hk
        obtain rfl := Array.toList_inj.1 (show cells.toList = (#[_, _, _, _, _, _] : Array Value).toList from hcells)
        refine callS_mono (condC _ _ _ _ _ _ _ _ l h2 h3 ⟨h4, h5⟩ h6) ?_
        rintro v b ⟨rfl, rfl⟩
        exact hK
      · exact hk.elim
    · exact hk.elim
  · exact hk.elim
theorem preHOK : PreOK Try.prog (preH C5) := by
  intro g h he args ats H k hk
  unfold preH at he
  rcases ite_so he with ⟨e, rfl⟩ | he
  · rw [beq_iff_eq] at e; subst e
    exact wpState_call (fun args bs K hk => limL_ok hk) hk
  rcases ite_so he with ⟨e, rfl⟩ | he
  · rw [beq_iff_eq] at e; subst e
    exact wpState_call (fun args bs K hk => condP_ok hk) hk
  rcases ite_so he with ⟨e, rfl⟩ | he
  · exact fixH_ok (fun _ _ _ h => h) _ _ _ _ _ hk
  rcases ite_so he with ⟨e, rfl⟩ | he
  · exact fixH_ok (fun _ _ _ h => h) _ _ _ _ _ hk
  rcases ite_so he with ⟨e, rfl⟩ | he
  · exact fixH_ok (fun _ _ _ h => h) _ _ _ _ _ hk
  rcases ite_so he with ⟨e, rfl⟩ | he
  · exact fixH_ok (fun _ _ _ h => h) _ _ _ _ _ hk
  rcases ite_so he with ⟨e, rfl⟩ | he
  · exact saidH_ok (fun _ _ _ h => h) _ _ _ _ _ hk
  · cases he
theorem hokH : HandlerOK Try.prog (hH C5) := handlerX_ok mixed preHOK (by decide) 6
end Go.Proofs.G5h

/- What a good world's variables hold, as the library's contracts ask it. -/
namespace Go.Abs
variable {P : Program} {w : World}
end Go.Abs

/- Chapter 2, heating: what the frames of the laws share. -/
namespace Go.Proofs.Ytoelmajokkdeoaa.K
open Go Go.Abs Go.RowKit Go.ChangeShapes Go.WideShapes Go.ChangeAt Go.Proofs Go.Flat
set_option maxRecDepth 100000
theorem own : ownKnob Try.prog.godebug = none := by kernel_rfl
theorem laidP : laidOutB Try.prog = true := by kernel_rfl
theorem mapsP : mapsRowed Try.prog = true := by kernel_rfl
theorem slicesP : ∀ t e, t < Try.prog.types.size → Try.prog.underlying t = some (.slice e) → 0 < Try.prog.cellsOf e := slices_full_of Try.prog (by kernel_rfl)
theorem tsP {l : List TypeId} (h : l.all (fun t => decide (t < Try.prog.types.size)) = true) : ∀ t ∈ l, t < Try.prog.types.size := fun t ht => of_decide_eq_true (List.all_eq_true.1 h t ht)
theorem flat_vi : ∀ l : List Int, (l.flatMap fun a => [Value.int .i64 a]) = vi l
  | [] => rfl
  | a :: r => by rw [List.flatMap_cons, flat_vi r]; rfl
/-- lists of whole numbers -/
theorem leaf_ints {t e : TypeId} {d : D} (ht : Try.prog.underlying t = some (.slice e)) (he : leaves Try.prog 10 e = some [.int .i64]) (h : LeafD Try.prog t d) : d = .nil ∨ ∃ l : List Int, d = .sl l.length 1 (vi l) := by
  unfold LeafD at h
  rw [ht] at h
  simp only at h
  rcases h with h | ⟨n, cs, L, rfl, hL, hn, hl, hc⟩
  · exact .inl h
  · rw [he] at hL
    obtain rfl := Option.some.inj hL
    simp only [List.length_cons, List.length_nil, Nat.zero_add] at hl hc ⊢
    obtain ⟨ps, hp, rfl⟩ := chunks_of (f := fun a : Int => [Value.int .i64 a]) (k := 1) (fun _ => rfl) n cs hl (fun i hi => by
      have := hc i hi
      generalize (cs.drop (i * 1)).take 1 = x at this ⊢
      cases this with
      | cons h t => cases t; obtain ⟨a, rfl, _⟩ := h; exact ⟨a, rfl⟩)
    refine .inr ⟨ps, ?_⟩
    rw [hp]
    rw [flat_vi]
theorem leaf_int {t : TypeId} {d : D} (ht : Try.prog.underlying t = some (.int .i64)) (h : LeafD Try.prog t d) : ∃ n : Int, d = dI n ∧ (-9223372036854775808 ≤ n ∧ n ≤ 9223372036854775807) := by
  unfold LeafD at h
  rw [ht] at h
  obtain ⟨n, rfl, hw⟩ := h
  exact ⟨n, rfl, wf64 hw⟩
end Go.Proofs.Ytoelmajokkdeoaa.K
namespace Go.Proofs.Ytoelmajokkdeoaa.K
open Go Go.Abs Go.RowKit Go.ChangeShapes Go.WideShapes Go.ChangeAt Go.Proofs Go.Flat
set_option maxRecDepth 100000
theorem flat_vp : ∀ l : List (Int × Int), (l.flatMap fun p => [Value.int .i64 p.1, Value.int .i64 p.2]) = vp l
  | [] => rfl
  | a :: r => by rw [List.flatMap_cons, flat_vp r]; rfl
/-- lists of pairs of whole numbers, each of them of 64 bits -/
theorem leaf_prs {t e : TypeId} {d : D} (ht : Try.prog.underlying t = some (.slice e)) (he : leaves Try.prog 10 e = some [.int .i64, .int .i64]) (h : LeafD Try.prog t d) : d = .nil ∨ ∃ l : List (Int × Int), d = .sl l.length 2 (vp l) ∧ ∀ f ∈ l, (-9223372036854775808 ≤ f.1 ∧ f.1 ≤ 9223372036854775807) ∧ (-9223372036854775808 ≤ f.2 ∧ f.2 ≤ 9223372036854775807) := by
  unfold LeafD at h
  rw [ht] at h
  simp only at h
  rcases h with h | ⟨n, cs, L, rfl, hL, hn, hl, hc⟩
  · exact .inl h
  · rw [he] at hL
    obtain rfl := Option.some.inj hL
    simp only [List.length_cons, List.length_nil, Nat.zero_add] at hl hc ⊢
    have hc2 : ∀ i, i < n → ∃ p : Int × Int, (cs.drop (i * 2)).take 2 = [Value.int .i64 p.1, Value.int .i64 p.2] ∧ (-9223372036854775808 ≤ p.1 ∧ p.1 ≤ 9223372036854775807) ∧ (-9223372036854775808 ≤ p.2 ∧ p.2 ≤ 9223372036854775807) := by
      intro i hi
      have := hc i hi
      generalize (cs.drop (i * 2)).take 2 = x at this ⊢
      cases this with
      | cons h1 t =>
        cases t with
        | cons h2 t =>
          cases t
          obtain ⟨a, rfl, ha⟩ := h1
          obtain ⟨b, rfl, hb⟩ := h2
          exact ⟨(a, b), rfl, wf64 ha, wf64 hb⟩
    obtain ⟨ps, hp, rfl⟩ := chunks_of (f := fun p : Int × Int => [Value.int .i64 p.1, Value.int .i64 p.2]) (k := 2) (fun _ => rfl) n cs hl (fun i hi => by
      obtain ⟨p, hp, _⟩ := hc2 i hi
      exact ⟨p, hp⟩)
    refine .inr ⟨ps, by rw [hp, flat_vp], ?_⟩
    intro f hf
    obtain ⟨i, hi, rfl⟩ := List.mem_iff_getElem.1 hf
    obtain ⟨p, hp2, hw⟩ := hc2 i (by omega)
    rw [flat_vp] at hp2
    have := vp_two ps i hi
    rw [Nat.zero_add] at this
    have e := this.eq.symm.trans hp2
    simp only [List.cons.injEq, Value.int.injEq, true_and, and_true] at e
    rw [e.1, e.2]; exact hw
theorem good0 (W : World) : GoodW Try.prog W := fun p hp => by
  rw [show varsOf Try.prog = [] by kernel_rfl] at hp
  cases hp
end Go.Proofs.Ytoelmajokkdeoaa.K

/- Chapter 2, heating: small functions and tables, in data. -/
namespace Go.Proofs.G5h
open Go Go.Abs Go.Proofs Go.Proofs.G2
set_option maxRecDepth 100000
theorem conFE (l : List Int) (hlen : l.length < 1000000000) : C5 31 [.sl l.length 1 (vi l)] [dI (fst0 l)] := by
  let inv : Nat × Nat → Prop := fun x => x.1 ≤ l.length ∧ fst0 l = fst0 (l.drop x.1)
  let st : Nat × Nat → Slots × Blocks := fun x => zFE1 l.length x.2 l.length x.1 (vi l)
  refine con_of (L := fun _ s b => ∃ x, inv x ∧ st x = (s, b)) hokE mixed Try.func31 rfl (by show 1 ≤ 400; omega) rfl (ids := [0]) (by kernel_rfl) rfl (fun caps => ?_) (fun id hid => ?_)
  · show gFE _ _ l.length (caps 500) (vi l) _
    rw [gFE_text]
    exact ⟨(0, caps 500), ⟨by simp, rfl⟩, rfl⟩
  · obtain rfl := List.mem_singleton.1 hid
    refine ⟨Nat × Nat, st, inv, fun x => l.length - x.1, ⟨fun s b h => h, by kernel_rfl, ?_⟩⟩
    rintro ⟨i, cap⟩ ⟨hi, hr⟩
    simp only at hi hr
    show rFE1 _ _ l.length cap l.length i (vi l) _ _ _
    rw [rFE1_text]
    refine bc_dec (fun h => ?_) (fun h => ?_)
    · have hi' : i < l.length := by omega
      rw [List.drop_eq_getElem_cons hi', fst0] at hr
      simp only [bc_t h, bc_t (show (0 : Int) ≤ (i : Int) by omega), Int.toNat_natCast, at1 (vi_at l i hi')]
      refine bc_bne (fun hc => ?_) (fun hc => ?_)
      · rw [if_neg hc] at hr
        show [dI l[i]] = [dI (fst0 l)]
        rw [hr]
      · rw [if_pos hc] at hr
        refine ⟨(i + 1, cap), ⟨by show i + 1 ≤ l.length; omega, hr⟩, by show l.length - (i + 1) < l.length - i; omega, ?_⟩
        rw [w64 (by omega) (by omega)]; rfl
    · show (if 0 = 0 then _ else _)
      rw [if_pos rfl]
      show nFE2 _ _ _
      rw [nFE2_text]
      have : i = l.length := by omega
      rw [this, List.drop_length] at hr
      show [dI 0] = [dI (fst0 l)]
      rw [hr]; rfl
theorem conWi (a b c : Int) : C5 21 [dI a, dI b, dI c] [.val (.bool (decide (b ≤ a ∧ a ≤ c)))] := by
  refine con_flat hokE mixed Try.func21 rfl (by show 0 ≤ 400; omega) rfl (by kernel_rfl) (fun caps => ?_)
  show gWi _ _ a b c _
  rw [gWi_text]
  refine bc_dec (fun h => bc_dec (fun h2 => ?_) (fun h2 => ?_)) (fun h => ?_)
  · show _ = _; rw [decide_eq_true (show b ≤ a ∧ a ≤ c from ⟨h, h2⟩)]
  · show _ = _; rw [decide_eq_false (show ¬ (b ≤ a ∧ a ≤ c) by omega)]
  · show _ = _; rw [decide_eq_false (show ¬ (b ≤ a ∧ a ≤ c) by omega)]
theorem sayWt {a b c : Int} (h : b ≤ a ∧ a ≤ c) : Says C5 21 [dI a, dI b, dI c] [.val (.bool true)] := by
  have := conWi a b c
  rw [decide_eq_true h] at this
  exact ⟨this⟩
theorem sayWf {a b c : Int} (h : ¬ (b ≤ a ∧ a ≤ c)) : Says C5 21 [dI a, dI b, dI c] [.val (.bool false)] := by
  have := conWi a b c
  rw [decide_eq_false h] at this
  exact ⟨this⟩
def szI (a : Int) : Int := if -a > a then -a else a
theorem conSi (a : Int) (h : -9223372036854775807 ≤ a ∧ a ≤ 9223372036854775807) : C5 67 [dI a] [dI (szI a)] := by
  refine con_flat hokE mixed Try.func67 rfl (by show 0 ≤ 400; omega) rfl (by kernel_rfl) (fun caps => ?_)
  show gSi _ _ a _
  rw [gSi_text, w64 (by omega) (by omega)]
  show [dI _] = [dI _]
  rw [show (0 : Int) - a = -a by omega]; rfl
theorem div_bd {n b : Int} (hb : 0 < b) (hn : -4611686018427387904 ≤ n ∧ n ≤ 4611686018427387904) : (-4611686018427387905 ≤ n.tdiv b ∧ n.tdiv b ≤ 4611686018427387904) := by
  have h := Int.natAbs_tdiv_le_natAbs n b
  omega
theorem conFl (n b : Int) (hb : 0 < b) (hn : -4611686018427387904 ≤ n ∧ n ≤ 4611686018427387904) : C5 64 [dI n, dI b] [dI (n / b)] := by
  refine con_flat hokE mixed Try.func64 rfl (by show 0 ≤ 400; omega) rfl (by kernel_rfl) (fun caps => ?_)
  show gFl _ _ n b _
  have hd := div_bd hb hn
  rw [gFl_text, bc_n (show b ≠ 0 by omega), bc_n (show b ≠ 0 by omega), w64 (z := n.tdiv b) (by omega) (by omega), w64 (by omega) (by omega), ← floor_eq hb]
  refine bc_dec (fun h => ?_) (fun h => ?_)
  · show _ = _; rw [if_pos h]
  · show _ = _; rw [if_neg h]
theorem conIn (l m : List Int) (hl : l.length < 1000000000) : C5 23 [.sl l.length 1 (vi l), .sl m.length 1 (vi m)] [.val (.bool (decide (l = m)))] := by
  let inv : Nat × Nat × Nat → Prop := fun x => x.1 ≤ l.length ∧ l.length = m.length ∧ (l = m ↔ l.drop x.1 = m.drop x.1)
  let st : Nat × Nat × Nat → Slots × Blocks := fun x => zIn1 l.length x.2.1 m.length x.2.2 x.1 (vi l) (vi m)
  refine con_of (L := fun _ s b => ∃ x, inv x ∧ st x = (s, b)) hokE mixed Try.func23 rfl (by show 2 ≤ 400; omega) rfl (ids := [0]) (by kernel_rfl) rfl (fun caps => ?_) (fun id hid => ?_)
  · show gIn _ _ l.length (caps 500) (vi l) m.length (caps 501) (vi m) _
    rw [gIn_text]
    refine bc_bne (fun h => ?_) (fun h => ?_)
    · show _ = _
      rw [decide_eq_false (fun e => h (by rw [e]))]
    · exact ⟨(0, caps 500, caps 501), ⟨Nat.zero_le _, by show l.length = m.length; omega, Iff.rfl⟩, rfl⟩
  · obtain rfl := List.mem_singleton.1 hid
    refine ⟨Nat × Nat × Nat, st, inv, fun x => l.length - x.1, ⟨fun s b h => h, by kernel_rfl, ?_⟩⟩
    rintro ⟨i, c1, c2⟩ ⟨hi, hlm, hr⟩
    simp only at hi hr
    show rIn1 _ _ l.length c1 m.length c2 (i : Int) (vi l) (vi m) _ _ _
    rw [rIn1_text]
    refine bc_dec (fun h => ?_) (fun h => ?_)
    · have h1 : i < l.length := by omega
      have h2 : i < m.length := by omega
      rw [List.drop_eq_getElem_cons h1, List.drop_eq_getElem_cons h2] at hr
      simp only [bc_t h, bc_t (show (i : Int) < (m.length : Int) by omega), bc_t (show (0 : Int) ≤ (i : Int) by omega), Int.toNat_natCast, at1 (vi_at l i h1), at1 (vi_at m i h2), eq_self, true_and, and_true]
      refine bc_bne (fun hc => ?_) (fun hc => ?_)
      · rw [bc_n hc]
        refine ⟨trivial, ?_⟩
        show _ = _
        rw [decide_eq_false (fun e => hc (List.cons.inj (hr.1 e)).1)]
      · refine ⟨bc_bne (fun h' => absurd hc h') (fun _ => trivial), ⟨i + 1, c1, c2⟩, ⟨by show i + 1 ≤ l.length; omega, hlm, ?_⟩, by show l.length - (i + 1) < l.length - i; omega, ?_⟩
        · show l = m ↔ l.drop (i + 1) = m.drop (i + 1)
          refine hr.trans ?_
          rw [hc]
          exact ⟨fun e => (List.cons.inj e).2, fun e => by rw [e]⟩
        · rw [w64 (by omega) (by omega)]; rfl
    · show (if 0 = 0 then _ else _)
      rw [if_pos rfl]
      show nIn2 _ _ _
      rw [nIn2_text]
      show _ = _
      have e1 : l.drop i = [] := List.drop_eq_nil_of_le (by omega)
      have e2 : m.drop i = [] := List.drop_eq_nil_of_le (by omega)
      rw [decide_eq_true (hr.2 (by rw [e1, e2]))]
theorem conCI (l : List Int) (hl : l.length ≤ 1000000) : C5 22 [.sl l.length 1 (vi l)] [.sl l.length 1 (vi l)] := by
  refine con_flat hokE mixed Try.func22 rfl (by show 1 ≤ 400; omega) rfl (by kernel_rfl) (fun caps => ?_)
  show gCI _ _ l.length (caps 500) (vi l) _
  rw [gCI_text]
  refine bc_yes (by simp) (bc_beq (fun h0 => ⟨⟨rfl, rfl⟩, ?_⟩) (fun h0 => bc_yes (by omega) (bc_yes (by omega) (bc_yes (by omega) ⟨⟨rfl, by simp⟩, ?_⟩))))
  · obtain rfl : l = [] := List.length_eq_zero_iff.1 h0
    rfl
  · rw [vi_whole, Nat.zero_add, List.nil_append]
theorem conCl (l : List Int) (hl : l.length ≤ 1000000) : C5 66 [.sl l.length 1 (vi l)] [.sl l.length 1 (vi l)] := by
  refine con_flat hokE mixed Try.func66 rfl (by show 1 ≤ 400; omega) rfl (by kernel_rfl) (fun caps => ?_)
  show gCl _ _ l.length (caps 500) (vi l) _
  rw [gCl_text]
  refine bc_yes (by simp) (bc_beq (fun h0 => ⟨⟨rfl, rfl⟩, ?_⟩) (fun h0 => bc_yes (by omega) (bc_yes (by omega) (bc_yes (by omega) ⟨⟨rfl, by simp⟩, ?_⟩))))
  · obtain rfl : l = [] := List.length_eq_zero_iff.1 h0
    rfl
  · rw [vi_whole, Nat.zero_add, List.nil_append]
theorem conGc (a b : Int) (ha : -9223372036854775808 ≤ a ∧ a ≤ 9223372036854775807) (hb : -9223372036854775807 ≤ b ∧ b ≤ 9223372036854775807) (h0 : b = 0 → -9223372036854775807 ≤ a) : C5 62 [dI a, dI b] [dI (Int.gcd a b)] := by
  let inv : Int × Int → Prop := fun x => (-9223372036854775808 ≤ x.1 ∧ x.1 ≤ 9223372036854775807) ∧ (-9223372036854775807 ≤ x.2 ∧ x.2 ≤ 9223372036854775807) ∧ (x.2 = 0 → -9223372036854775807 ≤ x.1) ∧ Int.gcd x.1 x.2 = Int.gcd a b
  let st : Int × Int → Slots × Blocks := fun x => zGc1 x.1 x.2
  refine con_of (L := fun _ s b => ∃ x, inv x ∧ st x = (s, b)) hokH mixed Try.func62 rfl (by show 0 ≤ 400; omega) rfl (ids := [0]) (by kernel_rfl) rfl (fun caps => ?_) (fun id hid => ?_)
  · show gGc _ _ a b _
    rw [gGc_text]
    exact ⟨(a, b), ⟨ha, hb, h0, rfl⟩, rfl⟩
  · obtain rfl := List.mem_singleton.1 hid
    refine ⟨Int × Int, st, inv, fun x => x.2.natAbs, ⟨fun s b h => h, by kernel_rfl, ?_⟩⟩
    rintro ⟨x, y⟩ ⟨hx, hy, hxy, hg⟩
    simp only at hx hy hxy hg
    show rGc1 _ _ x y _ _ _
    rw [rGc1_text]
    refine bc_bne (fun h => ?_) (fun h => ?_)
    · simp only [bc_n h, true_and, and_true]
      have hlt := gcd_step_lt (a := x) h
      have hst := gcd_step x y
      refine ⟨(y, x.tmod y), ⟨⟨by show -9223372036854775808 ≤ y; omega, hy.2⟩, ?_, fun _ => hy.1, by show Int.gcd y (x.tmod y) = _; omega⟩, hlt, rfl⟩
      show -9223372036854775807 ≤ x.tmod y ∧ x.tmod y ≤ 9223372036854775807
      have : (x.tmod y).natAbs < y.natAbs := hlt
      omega
    · show (if 0 = 0 then _ else _)
      rw [if_pos rfl]
      show nGc2 _ _ x _
      have hxl := hxy h
      rw [nGc2_text]
      refine ⟨_, ⟨conSi x (by omega)⟩, ?_⟩
      subst h
      have := gcd_end x
      show [dI _] = [dI _]
      rw [show ((Int.gcd a b : Nat) : Int) = (Int.gcd x 0 : Nat) by rw [hg], this]
      have e : szI x = (if x < 0 then -x else x) := by unfold szI; split <;> split <;> omega
      rw [e]
theorem conLe (n d : Int) (hn : -4611686018427387904 ≤ n ∧ n ≤ 4611686018427387904) (hd : -4611686018427387904 ≤ d ∧ d ≤ 4611686018427387904) (h0 : d ≠ 0) : C5 43 [dI n, dI d] [.agg [dI (low n d).1, dI (low n d).2]] := by
  refine con_flat hokH mixed Try.func43 rfl (by show 0 ≤ 400; omega) rfl (by kernel_rfl) (fun caps => ?_)
  show gLe _ _ n d _
  rw [gLe_text]
  have hg := gcd_pos (a := n) (b := d) (.inr h0)
  have hg' : ((Int.gcd n d : Nat) : Int) ≠ 0 := by omega
  have hgl : ((Int.gcd n d : Nat) : Int) ≤ 4611686018427387904 := by
    have : Int.gcd n d ≤ d.natAbs := Nat.le_of_dvd (by omega) (Nat.gcd_dvd_right ..)
    omega
  refine ⟨_, ⟨conGc n d (by omega) (by omega) (by omega)⟩, bc_dec (fun h => ?_) (fun h => ?_)⟩
  · rw [w64 (z := 0 - ((Int.gcd n d : Nat) : Int)) (by omega) (by omega)]
    have hg2 : 0 - ((Int.gcd n d : Nat) : Int) ≠ 0 := by omega
    have b1 := tdiv_small (n := 0 - n) (g := Int.gcd n d) (by omega) hg
    have b2 := tdiv_small (n := 0 - d) (g := Int.gcd n d) (by omega) hg
    simp only [bc_n hg2, true_and, and_true, tdiv_neg']
    rw [w64 (by omega) (by omega), w64 (by omega) (by omega)]
    show _ = _
    rw [low, if_pos h]
  · have b1 := tdiv_small (n := n) (g := Int.gcd n d) hn hg
    have b2 := tdiv_small (n := d) (g := Int.gcd n d) hd hg
    simp only [bc_n hg', true_and, and_true]
    rw [w64 (by omega) (by omega), w64 (by omega) (by omega)]
    show _ = _
    rw [low, if_neg h]
theorem conQu (n b : Int) (hb : 0 < b) (hn : -4611686018427387904 ≤ n ∧ n ≤ 4611686018427387904) : C5 58 [dI n, dI b] [dI (n / b)] := by
  refine con_flat hokH mixed Try.func58 rfl (by show 0 ≤ 400; omega) rfl (by kernel_rfl) (fun caps => ?_)
  show gQu _ _ n b _
  have hd := div_bd hb hn
  rw [gQu_text, bc_n (show b ≠ 0 by omega), bc_n (show b ≠ 0 by omega), w64 (z := n.tdiv b) (by omega) (by omega), w64 (by omega) (by omega), ← floor_eq hb]
  refine bc_dec (fun h => ?_) (fun h => ?_)
  · show _ = _; rw [if_pos h]
  · show _ = _; rw [if_neg h]

theorem v2le (l : List Pt) : 0 + l.length * 2 ≤ (vp l).length := by simp
theorem v1le (l : List Int) : 0 + l.length * 1 ≤ (vi l).length := by simp
theorem conInn : C5 23 [.nil, .nil] [.val (.bool true)] := by
  refine con_of (L := fun _ s b => ∃ x : Unit, True ∧ zInn1 0 = (s, b)) hokE mixed Try.func23 rfl (by show 0 ≤ 400; omega) rfl (ids := [0]) (by kernel_rfl) rfl (fun caps => ?_) (fun id hid => ?_)
  · show gInn _ _ _
    rw [gInn_text]
    exact ⟨(), trivial, rfl⟩
  · obtain rfl := List.mem_singleton.1 hid
    refine ⟨Unit, fun _ => zInn1 0, fun _ => True, fun _ => 0, ⟨fun s b h => h, by kernel_rfl, ?_⟩⟩
    rintro _ _
    show rInn1 _ _ 0 _ _ _
    rw [rInn1_text]
    refine bc_no (by omega) ?_
    show (if 0 = 0 then _ else _)
    rw [if_pos rfl]
    show nInn2 _ _ _
    rw [nInn2_text]
/-- the error of a temperature, of a part of a thousand -/
def tErr (a : Int) : Int := if 0 ≤ a ∧ a ≤ 20000 then 0 else 2
def eErr (a : Int) : Int := if 0 ≤ a ∧ a ≤ 1000 then 0 else 2
theorem tErr0 {a : Int} : tErr a = 0 ↔ 0 ≤ a ∧ a ≤ 20000 := by unfold tErr; split <;> simp_all
theorem eErr0 {a : Int} : eErr a = 0 ↔ 0 ≤ a ∧ a ≤ 1000 := by unfold eErr; split <;> simp_all
/-- all numbers lie in a range -/
theorem limE_all {lo hi : Int} : ∀ l : List Int, limE lo hi (vi l) = if ∀ z ∈ l, lo ≤ z ∧ z ≤ hi then 0 else 2
  | [] => by simp [vi, limE]
  | x :: r => by
    have ih := limE_all (lo := lo) (hi := hi) r
    show (if x < lo ∨ x > hi then 2 else limE lo hi (vi r)) = _
    by_cases h : lo ≤ x ∧ x ≤ hi
    · rw [if_neg (by omega), ih]
      by_cases h2 : ∀ z ∈ r, lo ≤ z ∧ z ≤ hi
      · rw [if_pos h2, if_pos ((List.forall_mem_cons (p := fun z => lo ≤ z ∧ z ≤ hi)).2 ⟨h, h2⟩)]
      · rw [if_neg h2, if_neg (fun hh => h2 fun z hz => hh z (List.mem_cons_of_mem _ hz))]
    · rw [if_pos (by omega), if_neg (fun hh => h (hh x (List.mem_cons_self ..)))]
theorem concT (l : List Int) (hl : l.length < 1000000000) : C5 33 [.sl l.length 1 (vi l)] [dI (limE 0 20000 (vi l))] := by
  refine con_flat hokH mixed Try.func33 rfl (by show 1 ≤ 400; omega) rfl (by kernel_rfl) (fun caps => ?_)
  show gcT _ _ l.length (caps 500) (vi l) _
  rw [gcT_text]
  exact ⟨l, rfl, rfl, hl, _, ⟨limC_of rfl⟩, rfl⟩
theorem concP (l : List Int) (hl : l.length < 1000000000) : C5 32 [.sl l.length 1 (vi l)] [dI (limE 0 1000 (vi l))] := by
  refine con_flat hokH mixed Try.func32 rfl (by show 1 ≤ 400; omega) rfl (by kernel_rfl) (fun caps => ?_)
  show gcP _ _ l.length (caps 500) (vi l) _
  rw [gcP_text]
  exact ⟨l, rfl, rfl, hl, _, ⟨limC_of rfl⟩, rfl⟩
theorem concT1 (a : Int) : C5 33 [.sl 1 1 [vI a]] [dI (tErr a)] := by
  have := concT [a] (by simp)
  rw [show limE 0 20000 (vi [a]) = tErr a from limE1 ..] at this; exact this
theorem concP1 (a : Int) : C5 32 [.sl 1 1 [vI a]] [dI (eErr a)] := by
  have := concP [a] (by simp)
  rw [show limE 0 1000 (vi [a]) = eErr a from limE1 ..] at this; exact this
theorem concE (a b : Int) : C5 41 [.agg [dI a, dI b]] [dI (if a > b then 9 else 0)] := by
  refine con_flat hokH mixed Try.func41 rfl (by show 0 ≤ 400; omega) rfl (by kernel_rfl) (fun caps => ?_)
  show gcE _ _ a b _
  rw [gcE_text]
  refine bc_dec (fun h => ?_) (fun h => ?_)
  · show _ = _; rw [if_pos h]
  · show _ = _; rw [if_neg h]
theorem conTE (a : Int) : C5 18 [dI a] [dI (tErr a)] := by
  refine con_flat hokH mixed Try.func18 rfl (by show 0 ≤ 400; omega) rfl (by kernel_rfl) (fun caps => ?_)
  show gTE _ _ a _
  rw [gTE_text]
  by_cases h : 0 ≤ a ∧ a ≤ 20000
  · exact .inl ⟨sayWt h, by rw [tErr, if_pos h]⟩
  · exact .inr ⟨sayWf h, by rw [tErr, if_neg h]⟩
theorem conEE (a : Int) : C5 17 [dI a] [dI (eErr a)] := by
  refine con_flat hokH mixed Try.func17 rfl (by show 0 ≤ 400; omega) rfl (by kernel_rfl) (fun caps => ?_)
  show gEE _ _ a _
  rw [gEE_text]
  by_cases h : 0 ≤ a ∧ a ≤ 1000
  · exact .inl ⟨sayWt h, by rw [eErr, if_pos h]⟩
  · exact .inr ⟨sayWf h, by rw [eErr, if_neg h]⟩
/-- the error of a point after another one -/
def rise (q p : Pt) : Int := if p.1 ≤ q.1 ∨ p.2 < q.2 then 9 else if IntKind.wrap .i64 (p.2 - q.2) > IntKind.wrap .i64 (p.1 - q.1) then 22 else 0
theorem conRs (q p : Pt) : C5 59 [.agg [dI q.1, dI q.2], .agg [dI p.1, dI p.2]] [dI (rise q p)] := by
  refine con_flat hokH mixed Try.func59 rfl (by show 0 ≤ 400; omega) rfl (by kernel_rfl) (fun caps => ?_)
  show gRs _ _ q.1 q.2 p.1 p.2 _
  rw [gRs_text]
  refine bc_dec (fun h => ?_) (fun h1 => bc_dec (fun h => ?_) (fun h2 => bc_dec (fun h => ?_) (fun h3 => ?_)))
  · show [dI 9] = _; rw [rise, if_pos (by omega)]
  · show [dI 9] = _; rw [rise, if_pos (by omega)]
  · show [dI 22] = _; rw [rise, if_neg (by omega), if_pos h]
  · show [dI 0] = _; rw [rise, if_neg (by omega), if_neg h3]
/-- a table's check: what is left of it, the point before, the index -/
def tchk : List Pt → Option Pt → Int → List D
  | [], _, _ => [dI 0, dI 0]
  | p :: r, q, i => if tErr p.1 = 0 ∧ tErr p.2 = 0 then (match q with
    | none => tchk r (some p) (i + 1)
    | some q => if rise q p = 0 then tchk r (some p) (i + 1) else [dI i, dI (rise q p)]) else [dI i, dI 2]
theorem tchk_cons (p : Pt) (r : List Pt) (q : Option Pt) (i : Int) : tchk (p :: r) q i = if tErr p.1 = 0 ∧ tErr p.2 = 0 then (match q with
    | none => tchk r (some p) (i + 1)
    | some q => if rise q p = 0 then tchk r (some p) (i + 1) else [dI i, dI (rise q p)]) else [dI i, dI 2] := by cases q <;> rfl
def prev (ps : List Pt) : Nat → Option Pt
  | 0 => none
  | j + 1 => ps[j]?
def tabRes (ps : List Pt) : List D := if ps.length = 0 then [dI 0, dI 10] else if 10 < ps.length then [dI 0, dI 8] else tchk ps none 0
abbrev dTab (ps : List Pt) : D := .agg [.sl ps.length 2 (vp ps)]
theorem tErr_or (a : Int) : tErr a = 0 ∨ tErr a = 2 := by unfold tErr; split <;> simp
theorem lim20 {a : Int} : Says limC 0 [dI 0, dI 20000, .sl 1 1 [vI a]] [dI (tErr a)] := ⟨limC_of (limE1 0 20000 a).symm⟩
theorem conCT (ps : List Pt) (hlen : ps.length < 1000000000) : C5 39 [dTab ps] (tabRes ps) := by
  let inv : Nat × Nat × Nat → Prop := fun x => x.1 ≤ ps.length ∧ tabRes ps = tchk (ps.drop x.1) (prev ps x.1) x.1
  let st : Nat × Nat × Nat → Slots × Blocks := fun x => zCT1 ps.length x.2.1 ps.length x.1 ps.length x.2.2 (vp ps)
  refine con_of (L := fun _ s b => ∃ x, inv x ∧ st x = (s, b)) hokH mixed Try.func39 rfl (by show 1 ≤ 400; omega) rfl (ids := [1]) (by kernel_rfl) rfl (fun caps => ?_) (fun id hid => ?_)
  · show gCT _ _ ps.length (caps 500) (vp ps) _
    rw [gCT_text]
    refine bc_beq (fun h => ?_) (fun h0 => bc_dec (fun h => ?_) (fun h5 => ?_))
    · show _ = _; rw [tabRes, if_pos (by omega)]
    · show _ = _; rw [tabRes, if_neg (by omega), if_pos (by omega)]
    · exact ⟨(0, caps 500, caps 500), ⟨by simp, by rw [tabRes, if_neg (by omega), if_neg (by omega)]; rfl⟩, rfl⟩
  · obtain rfl := List.mem_singleton.1 hid
    refine ⟨Nat × Nat × Nat, st, inv, fun x => ps.length - x.1, ⟨fun s b h => h, by kernel_rfl, ?_⟩⟩
    rintro ⟨i, c1, c2⟩ ⟨hi, hr⟩
    simp only at hi hr
    show rCT1 _ _ ps.length c1 ps.length i ps.length c2 (vp ps) _ _ _
    rw [rCT1_text]
    refine bc_dec (fun h => ?_) (fun h => ?_)
    · have hi' : i < ps.length := by omega
      rw [List.drop_eq_getElem_cons hi', tchk_cons] at hr
      obtain ⟨e0, he0⟩ : ∃ e, e = fst0 [tErr ps[i].1, tErr ps[i].2] := ⟨_, rfl⟩
      have c88 : C5 31 [.sl 2 1 [.int .i64 (tErr ps[i].1), .int .i64 (tErr ps[i].2)]] [dI e0] := by rw [he0]; exact conFE [tErr ps[i].1, tErr ps[i].2] (by simp)
      rw [fst0_two] at he0
      have hbad : e0 ≠ 0 → [dI i, dI e0] = tabRes ps := fun hb => by
        have h1 : ¬ (tErr ps[i].1 = 0 ∧ tErr ps[i].2 = 0) := by
          rintro ⟨h1, h2⟩
          rw [if_pos h1] at he0
          omega
        have h2 : e0 = 2 := by
          have := tErr_or ps[i].1
          have := tErr_or ps[i].2
          split at he0 <;> omega
        rw [hr, if_neg h1, h2]
      have hgood : e0 = 0 → tErr ps[i].1 = 0 ∧ tErr ps[i].2 = 0 := fun hb => by
        split at he0
        · rename_i h; exact ⟨h, by omega⟩
        · rename_i h; omega
      refine bc_yes (by omega) (bc_yes h ⟨_, _, vp_two ps i hi', ?_⟩)
      simp only [eq_self, true_and]
      refine ⟨tErr ps[i].1, ⟨concT1 _⟩, tErr ps[i].2, lim20, e0, ⟨c88⟩, ?_⟩
      cases i with
      | zero =>
        refine bc_no (by omega) (bc_bne hbad (fun hz => ?_))
        have h12 := hgood hz
        rw [if_pos h12] at hr
        refine ⟨(1, c1, c2), ⟨by show 1 ≤ ps.length; omega, ?_⟩, by show ps.length - 1 < ps.length - 0; omega, ?_⟩
        · rw [hr]; simp only [prev, List.getElem?_eq_getElem hi']; rfl
        · rw [w64 (by omega) (by omega)]; rfl
      | succ j =>
        have hj : j < ps.length := by omega
        have hw : IntKind.wrap .i64 (((j + 1 : Nat) : Int) - 1) = (j : Int) := by rw [w64 (by omega) (by omega)]; omega
        have hp : prev ps (j + 1) = some ps[j] := List.getElem?_eq_getElem hj
        simp only [hp] at hr
        have hz0 : (0 : Int) ≤ (j : Int) := by omega
        have hz1 : (j : Int) < (ps.length : Int) := by omega
        simp only [hw]
        refine bc_yes (by omega) (bc_yes hz0 (bc_yes hz1 ⟨_, _, vp_two ps j hj, ?_⟩))
        simp only [load2 (vp_two ps j hj), Int.toNat_natCast, bc_t hz0, bc_t hz1, true_and]
        refine ⟨rise ps[j] ps[j + 1], ⟨conRs _ _⟩, fst0 [e0, rise ps[j] ps[j + 1]], ⟨conFE [e0, rise ps[j] ps[j + 1]] (by simp)⟩, bc_bne (fun hne => ?_) (fun hz => ?_)⟩
        · show [dI _, dI _] = tabRes ps
          rw [fst0_two] at hne ⊢
          by_cases h0 : e0 = 0
          · rw [if_pos h0] at hne ⊢
            rw [if_pos (hgood h0), if_neg hne] at hr
            exact hr.symm
          · rw [if_neg h0]; exact hbad h0
        · rw [fst0_two] at hz
          by_cases h0 : e0 = 0
          · rw [if_pos h0] at hz
            rw [if_pos (hgood h0), if_pos hz] at hr
            refine ⟨(j + 1 + 1, c1, c2), ⟨by show j + 1 + 1 ≤ ps.length; omega, ?_⟩, by show ps.length - (j + 1 + 1) < ps.length - (j + 1); omega, ?_⟩
            · rw [hr]; simp only [prev, List.getElem?_eq_getElem hi']; rfl
            · rw [w64 (by omega) (by omega)]; rfl
          · rw [if_neg h0] at hz; exact absurd hz h0
    · show (if 1 = 1 then _ else _)
      rw [if_pos rfl]
      show nCT2 _ _ _
      rw [nCT2_text]
      have : i = ps.length := by omega
      rw [this, List.drop_length] at hr
      exact hr.symm
theorem conRT (ps : List Pt) (hlen : ps.length < 1000000000) : C5 61 [dTab ps] (tabRes ps) := by
  let inv : Nat × Nat → Prop := fun x => x.1 ≤ ps.length ∧ tabRes ps = tchk (ps.drop x.1) (prev ps x.1) x.1
  let st : Nat × Nat → Slots × Blocks := fun x => zRT1 x.1 ps.length x.2 (vp ps)
  refine con_of (L := fun _ s b => ∃ x, inv x ∧ st x = (s, b)) hokH mixed Try.func61 rfl (by show 1 ≤ 400; omega) rfl (ids := [0]) (by kernel_rfl) rfl (fun caps => ?_) (fun id hid => ?_)
  · show gRT _ _ ps.length (caps 500) (vp ps) _
    rw [gRT_text]
    refine bc_beq (fun h => ?_) (fun h0 => bc_dec (fun h => ?_) (fun h5 => ?_))
    · show _ = _; rw [tabRes, if_pos (by omega)]
    · show _ = _; rw [tabRes, if_neg (by omega), if_pos (by omega)]
    · exact ⟨(0, caps 500), ⟨by simp, by rw [tabRes, if_neg (by omega), if_neg (by omega)]; rfl⟩, rfl⟩
  · obtain rfl := List.mem_singleton.1 hid
    refine ⟨Nat × Nat, st, inv, fun x => ps.length - x.1, ⟨fun s b h => h, by kernel_rfl, ?_⟩⟩
    rintro ⟨i, cap⟩ ⟨hi, hr⟩
    simp only at hi hr
    show rRT1 _ _ i ps.length cap (vp ps) _ _ _
    rw [rRT1_text]
    refine bc_dec (fun h => ?_) (fun h => ?_)
    · have hi' : i < ps.length := by omega
      rw [List.drop_eq_getElem_cons hi', tchk_cons] at hr
      have bad : ¬ (tErr ps[i].1 = 0 ∧ tErr ps[i].2 = 0) → [dI i, dI 2] = tabRes ps := fun hb => by rw [hr, if_neg hb]
      refine bc_yes (by omega) (bc_yes h ⟨_, _, vp_two ps i hi', tErr ps[i].1, ⟨conTE _⟩, bc_bne (fun h1 => bad (fun h => h1 h.1)) (fun h1 => ?_)⟩)
      by_cases h2 : 0 ≤ ps[i].2 ∧ ps[i].2 ≤ 20000
      · rw [if_pos ⟨h1, tErr0.2 h2⟩] at hr
        refine .inl ⟨sayWt h2, ?_⟩
        cases i with
        | zero =>
          refine bc_true (by simp) ⟨(1, cap), ⟨by show 1 ≤ ps.length; omega, ?_⟩, by show ps.length - 1 < ps.length - 0; omega, ?_⟩
          · rw [hr]; simp only [prev, List.getElem?_eq_getElem hi']; rfl
          · rw [w64 (by omega) (by omega)]; rfl
        | succ j =>
          have hj : j < ps.length := by omega
          have hw : IntKind.wrap .i64 (((j + 1 : Nat) : Int) - 1) = (j : Int) := by rw [w64 (by omega) (by omega)]; omega
          have hp : prev ps (j + 1) = some ps[j] := List.getElem?_eq_getElem hj
          simp only [hp] at hr
          simp only [hw]
          refine bc_false (by simp; omega) (bc_yes (by omega) (bc_yes (by omega) ⟨_, _, vp_two ps j hj, bc_dec (fun h5 => ?_) (fun h5 => bc_dec (fun h6 => ?_) (fun h6 => bc_dec (fun h7 => ?_) (fun h7 => ?_)))⟩))
          · have e : rise ps[j] ps[j + 1] = 9 := by rw [rise, if_pos (.inl h5)]
            rw [e, if_neg (by omega)] at hr; exact hr.symm
          · have e : rise ps[j] ps[j + 1] = 9 := by rw [rise, if_pos (.inr h6)]
            rw [e, if_neg (by omega)] at hr; exact hr.symm
          · have e : rise ps[j] ps[j + 1] = 22 := by rw [rise, if_neg (by omega), if_pos h7]
            rw [e, if_neg (by omega)] at hr; exact hr.symm
          · have e : rise ps[j] ps[j + 1] = 0 := by rw [rise, if_neg (by omega), if_neg h7]
            rw [if_pos e] at hr
            refine ⟨(j + 1 + 1, cap), ⟨by show j + 1 + 1 ≤ ps.length; omega, ?_⟩, by show ps.length - (j + 1 + 1) < ps.length - (j + 1); omega, ?_⟩
            · rw [hr]; simp only [prev, List.getElem?_eq_getElem hi']; rfl
            · rw [w64 (by omega) (by omega)]; rfl
      · exact .inr ⟨sayWf h2, bad (fun h => h2 (tErr0.1 h.2))⟩
    · show (if 0 = 0 then _ else _)
      rw [if_pos rfl]
      show nRT2 _ _ _
      rw [nRT2_text]
      have : i = ps.length := by omega
      rw [this, List.drop_length] at hr
      exact hr.symm
theorem conRTn : C5 61 [.agg [.nil]] [dI 0, dI 10] := by
  refine con_of (L := fun _ _ _ => False) hokH mixed Try.func61 rfl (by show 0 ≤ 400; omega) rfl (ids := [0]) (by kernel_rfl) rfl (fun caps => ?_) (fun id hid => ?_)
  · show gRTn _ _ _
    rw [gRTn_text]
  · obtain rfl := List.mem_singleton.1 hid
    exact ⟨Unit, fun _ => (default, []), fun _ => False, fun _ => 0, ⟨fun s b h => h.elim, by kernel_rfl, fun x h => h.elim⟩⟩
theorem rise_fol {q p : Pt} (hq : In20 q) (hp : In20 p) (h : rise q p = 0) : Fol q p := by
  obtain ⟨a1, a2⟩ := hq
  obtain ⟨b1, b2⟩ := hp
  unfold rise at h
  rw [w64 (by omega) (by omega), w64 (by omega) (by omega)] at h
  split at h
  · omega
  · split at h
    · omega
    · refine ⟨?_, ?_, ?_⟩ <;> omega
/-- what a check says, and what it means -/
def From : Option Pt → List Pt → Prop
  | some q, l => Chain q l
  | none, [] => True
  | none, p :: r => Chain p r
theorem tchk_shape : ∀ (l : List Pt) (q : Option Pt) (i : Int), (∀ p, q = some p → In20 p) → ∃ a e, tchk l q i = [dI a, dI e] ∧ (e = 0 → (∀ p ∈ l, In20 p) ∧ From q l)
  | [], q, i, _ => ⟨0, 0, rfl, fun _ => ⟨by simp, by cases q <;> trivial⟩⟩
  | p :: r, q, i, hq => by
    rw [tchk_cons]
    by_cases h : tErr p.1 = 0 ∧ tErr p.2 = 0
    · rw [if_pos h]
      have hp : In20 p := ⟨tErr0.1 h.1, tErr0.1 h.2⟩
      obtain ⟨a, e, h1, h2⟩ := tchk_shape r (some p) (i + 1) (fun p' e => by cases e; exact hp)
      have hall : e = 0 → ∀ p' ∈ p :: r, In20 p' := fun he p' hp' => by
        rcases List.mem_cons.1 hp' with rfl | h
        · exact hp
        · exact (h2 he).1 p' h
      cases q with
      | none => exact ⟨a, e, h1, fun he => ⟨hall he, (h2 he).2⟩⟩
      | some q =>
        by_cases h0 : rise q p = 0
        · exact ⟨a, e, by simp only [if_pos h0]; exact h1, fun he => ⟨hall he, rise_fol (hq q rfl) hp h0, (h2 he).2⟩⟩
        · exact ⟨i, rise q p, by simp only [if_neg h0], fun h => absurd h h0⟩
    · exact ⟨i, 2, by rw [if_neg h], fun h => by omega⟩
theorem tab_shape (ps : List Pt) : ∃ a e, tabRes ps = [dI a, dI e] ∧ (e = 0 → OkT ps ∧ ps.length ≤ 10) := by
  unfold tabRes
  split
  · exact ⟨0, 10, rfl, fun h => by omega⟩
  · split
    · exact ⟨0, 8, rfl, fun h => by omega⟩
    · obtain ⟨a, e, h1, h2⟩ := tchk_shape ps none 0 (fun _ h => by cases h)
      refine ⟨a, e, h1, fun he => ⟨?_, by omega⟩⟩
      cases ps with
      | nil => rename_i h _; exact absurd rfl h
      | cons p r => exact h2 he
end Go.Proofs.G5h

/- Chapter 2, heating: radiance, rules, slabs, means, in data. -/
namespace Go.Proofs.G5h
open Go Go.Abs Go.Proofs Go.Proofs.G2
set_option maxRecDepth 100000
theorem chain_get : ∀ {p : Pt} {r : List Pt}, Chain p r → ∀ (j : Nat) (h : j + 1 < (p :: r).length), Fol ((p :: r)[j]'(by omega)) (p :: r)[j + 1]
  | p, [], _, j, h => by simp at h
  | p, q :: r, hc, 0, _ => hc.1
  | p, q :: r, hc, j + 1, h => chain_get hc.2 j (by simpa using h)
theorem okT_fol {l : List Pt} (h : OkT l) (j : Nat) (hj : j + 1 < l.length) : Fol (l[j]'(by omega)) l[j + 1] := by
  cases l with
  | nil => simp at hj
  | cons p r => exact chain_get h.2 j hj
theorem okT_in {l : List Pt} (h : OkT l) (j : Nat) (hj : j < l.length) : In20 l[j] := by
  cases l with
  | nil => simp at hj
  | cons p r => exact h.1 _ (List.getElem_mem hj)
theorem okT_pos {l : List Pt} (h : OkT l) : 0 < l.length := by
  cases l with
  | nil => exact h.elim
  | cons p r => simp
theorem rad_le {ps : List Pt} (h : 0 < ps.length) {x : Int} (hx : x ≤ ps[0].1) : rad x ps = ps[0].2 := by
  cases ps with
  | nil => simp at h
  | cons p r => exact if_pos hx
theorem rad_gt {ps : List Pt} (h : 0 < ps.length) {x : Int} (hx : ¬ x ≤ ps[0].1) : rad x ps = radG x ps[0] (ps.drop 1) := by
  cases ps with
  | nil => simp at h
  | cons p r => exact if_neg hx
theorem lin_w {p q : Pt} (hp : In20 p) (hq : In20 q) (h : Fol p q) {x : Int} (h1 : p.1 ≤ x) (h2 : x ≤ q.1) : IntKind.wrap .i64 (p.2 + IntKind.wrap .i64 (Int.tdiv (IntKind.wrap .i64 (IntKind.wrap .i64 (x - p.1) * IntKind.wrap .i64 (q.2 - p.2))) (IntKind.wrap .i64 (q.1 - p.1)))) = lin p q x := by
  have hl := lin_in h h1 h2
  obtain ⟨a1, a2⟩ := hp
  obtain ⟨b1, b2⟩ := hq
  obtain ⟨c1, c2, c3⟩ := h
  have m1 := Int.mul_nonneg (show 0 ≤ x - p.1 by omega) (show 0 ≤ q.2 - p.2 by omega)
  have m2 := Int.mul_le_mul (show x - p.1 ≤ 20000 by omega) (show q.2 - p.2 ≤ 20000 by omega) (by omega) (by decide : (0 : Int) ≤ 20000)
  rw [w64 (z := x - p.1) (by omega) (by omega), w64 (z := q.2 - p.2) (by omega) (by omega), w64 (z := q.1 - p.1) (by omega) (by omega), w64 (z := (x - p.1) * (q.2 - p.2)) (by omega) (by omega), tdiv_nn m1]
  unfold lin at hl ⊢
  rw [w64 (z := (x - p.1) * (q.2 - p.2) / (q.1 - p.1)) (by omega) (by omega), w64 (by omega) (by omega)]
theorem conRA {ps : List Pt} (hv : OkT ps) (hl : ps.length ≤ 10) (x : Int) : C5 63 [dTab ps, dI x] [dI (rad x ps)] := by
  have hpos := okT_pos hv
  let inv : Nat × Nat → Prop := fun y => 0 < y.1 ∧ y.1 ≤ ps.length ∧ ∀ h : y.1 - 1 < ps.length, ps[y.1 - 1].1 < x ∧ rad x ps = radG x ps[y.1 - 1] (ps.drop y.1)
  let st : Nat × Nat → Slots × Blocks := fun y => zRA1 x ps.length y.2 y.1 (vp ps)
  refine con_of (L := fun _ s b => ∃ x, inv x ∧ st x = (s, b)) hokH mixed Try.func63 rfl (by show 1 ≤ 400; omega) rfl (ids := [0]) (by kernel_rfl) rfl (fun caps => ?_) (fun id hid => ?_)
  · show gRA _ _ ps.length (caps 500) (vp ps) x _
    rw [gRA_text]
    refine bc_yes (by omega) ⟨_, vp_one ps 0 hpos, bc_dec (fun hx => ?_) (fun hx => ?_)⟩
    · refine bc_yes (by omega) ⟨_, vp_snd ps 0 hpos, ?_⟩
      show [dI _] = [dI _]
      rw [rad_le hpos hx]
    · refine ⟨(1, caps 500), ⟨by show 0 < 1; omega, by show 1 ≤ ps.length; omega, fun _ => ⟨by show ps[0].1 < x; omega, ?_⟩⟩, rfl⟩
      exact rad_gt hpos hx
  · obtain rfl := List.mem_singleton.1 hid
    refine ⟨Nat × Nat, st, inv, fun x => ps.length - x.1, ⟨fun s b h => h, by kernel_rfl, ?_⟩⟩
    rintro ⟨i, cap⟩ ⟨hi0, hi, hr⟩
    simp only at hi0 hi hr
    obtain ⟨j, rfl⟩ : ∃ j, i = j + 1 := ⟨i - 1, by omega⟩
    have hj : j < ps.length := by omega
    obtain ⟨hxj, hr⟩ := hr hj
    simp only [Nat.add_sub_cancel] at hr hxj
    have hw : IntKind.wrap .i64 (((j + 1 : Nat) : Int) - 1) = (j : Int) := by rw [w64 (by omega) (by omega)]; omega
    have hz0 : (0 : Int) ≤ (j : Int) := by omega
    have hz1 : (j : Int) < (ps.length : Int) := by omega
    show rRA1 _ _ x ps.length cap ((j + 1 : Nat) : Int) (vp ps) _ _ _
    rw [rRA1_text]
    refine bc_dec (fun h => ?_) (fun h => ?_)
    · have hi' : j + 1 < ps.length := by omega
      have hy0 : (0 : Int) ≤ ((j + 1 : Nat) : Int) := by omega
      rw [List.drop_eq_getElem_cons hi', radG] at hr
      refine bc_yes (by omega) (bc_yes h ⟨_, vp_one ps (j + 1) hi', bc_dec (fun hx => ?_) (fun hx => ?_)⟩)
      · rw [if_pos hx] at hr
        have hf := okT_fol hv j hi'
        have hd : IntKind.wrap .i64 (ps[j + 1].1 - ps[j].1) ≠ 0 := by
          have h1 := okT_in hv j hj
          have h2 := okT_in hv (j + 1) hi'
          obtain ⟨h1, _⟩ := h1
          obtain ⟨h2, _⟩ := h2
          have h3 := hf.1
          rw [w64 (by omega) (by omega)]
          omega
        simp only [hw]
        refine bc_yes hz0 (bc_yes hz1 ⟨_, _, vp_two ps j hj, bc_yes hy0 (bc_yes h ⟨_, _, vp_two ps (j + 1) hi', ?_⟩)⟩)
        simp only [load2 (vp_two ps j hj), load2 (vp_two ps (j + 1) hi'), Int.toNat_natCast, bc_t hz0, bc_t hz1, bc_t hy0, bc_t h, bc_n hd, true_and]
        show [dI _] = [dI _]
        rw [hr, lin_w (okT_in hv j hj) (okT_in hv (j + 1) hi') hf (by omega) hx]
      · rw [if_neg hx] at hr
        refine ⟨(j + 1 + 1, cap), ⟨by show 0 < j + 1 + 1; omega, by show j + 1 + 1 ≤ ps.length; omega, fun _ => ⟨by show ps[j + 1].1 < x; omega, hr⟩⟩, by show ps.length - (j + 1 + 1) < ps.length - (j + 1); omega, ?_⟩
        rw [w64 (by omega) (by omega)]; rfl
    · show (if 0 = 0 then _ else _)
      rw [if_pos rfl]
      show nRA2 _ _ ps.length cap (vp ps) _
      have he : j + 1 = ps.length := by omega
      have hwl : IntKind.wrap .i64 ((ps.length : Int) - 1) = (j : Int) := by rw [← he]; exact hw
      rw [nRA2_text]
      simp only [hwl]
      rw [List.drop_eq_nil_of_le (by omega)] at hr
      refine bc_yes hz0 (bc_yes hz1 ⟨_, vp_snd ps j hj, ?_⟩)
      show [dI _] = [dI _]
      rw [hr]; rfl
theorem conrI {ps : List Pt} (hv : OkT ps) (hl : ps.length ≤ 10) (x : Int) : C5 56 [dTab ps, dI x] [dI (rad x ps)] := by
  have hpos := okT_pos hv
  let at_ : Nat → Prop := fun i => match i with
    | 0 => True
    | j + 1 => ∀ h : j < ps.length, ps[j].1 < x ∧ rad x ps = radG x ps[j] (ps.drop (j + 1))
  let inv : Nat × Nat → Prop := fun y => y.1 ≤ ps.length ∧ at_ y.1
  let st : Nat × Nat → Slots × Blocks := fun y => zrI1 x y.1 ps.length y.2 (vp ps)
  refine con_of (L := fun _ s b => ∃ x, inv x ∧ st x = (s, b)) hokH mixed Try.func56 rfl (by show 1 ≤ 400; omega) rfl (ids := [0]) (by kernel_rfl) rfl (fun caps => ?_) (fun id hid => ?_)
  · show grI _ _ ps.length (caps 500) (vp ps) x _
    rw [grI_text]
    exact ⟨(0, caps 500), ⟨by simp, trivial⟩, rfl⟩
  · obtain rfl := List.mem_singleton.1 hid
    refine ⟨Nat × Nat, st, inv, fun x => ps.length - x.1, ⟨fun s b h => h, by kernel_rfl, ?_⟩⟩
    rintro ⟨i, cap⟩ ⟨hi, hr⟩
    simp only at hi hr
    have out : (∀ h : i < ps.length, x ≤ ps[i].1) → nrI2 C5 (fun _ s b => ∃ x, inv x ∧ st x = (s, b)) x i ps.length cap (vp ps) (· = [dI (rad x ps)]) := by
      intro hx
      rw [nrI2_text]
      cases i with
      | zero =>
        refine bc_true (by simp) (bc_yes (by omega) ⟨_, vp_snd ps 0 hpos, ?_⟩)
        show [dI _] = [dI _]
        rw [rad_le hpos (hx hpos)]
      | succ j =>
        have hj : j < ps.length := by omega
        obtain ⟨hxj, hr⟩ := hr hj
        have hw : IntKind.wrap .i64 (((j + 1 : Nat) : Int) - 1) = (j : Int) := by rw [w64 (by omega) (by omega)]; omega
        have hz0 : (0 : Int) ≤ (j : Int) := by omega
        have hz1 : (j : Int) < (ps.length : Int) := by omega
        simp only [hw]
        refine bc_false (by simp; omega) (bc_beq (fun he => ?_) (fun hne => ?_))
        · refine bc_yes hz0 (bc_yes hz1 ⟨_, vp_snd ps j hj, ?_⟩)
          rw [List.drop_eq_nil_of_le (by omega)] at hr
          show [dI _] = [dI _]
          rw [hr]; rfl
        · have hi' : j + 1 < ps.length := by omega
          have hy0 : (0 : Int) ≤ ((j + 1 : Nat) : Int) := by omega
          have hy1 : ((j + 1 : Nat) : Int) < (ps.length : Int) := by omega
          rw [List.drop_eq_getElem_cons hi', radG, if_pos (hx hi')] at hr
          have hf := okT_fol hv j hi'
          have hd : IntKind.wrap .i64 (ps[j + 1].1 - ps[j].1) ≠ 0 := by
            obtain ⟨h1, _⟩ := okT_in hv j hj
            obtain ⟨h2, _⟩ := okT_in hv (j + 1) hi'
            have h3 := hf.1
            rw [w64 (by omega) (by omega)]
            omega
          refine bc_yes hz0 (bc_yes hz1 ⟨_, _, vp_two ps j hj, bc_yes hy0 (bc_yes hy1 ⟨_, _, vp_two ps (j + 1) hi', ?_⟩)⟩)
          simp only [load2 (vp_two ps j hj), load2 (vp_two ps (j + 1) hi'), Int.toNat_natCast, bc_t hz0, bc_t hz1, bc_t hy0, bc_t hy1, bc_n hd, true_and]
          show [dI _] = [dI _]
          rw [hr, Int.mul_comm, lin_w (okT_in hv j hj) (okT_in hv (j + 1) hi') hf (by omega) (hx hi')]
    show rrI1 _ _ x i ps.length cap (vp ps) _ _ _
    rw [rrI1_text]
    refine bc_dec (fun h => ?_) (fun h => ?_)
    · have hi' : i < ps.length := by omega
      refine bc_yes (by omega) (bc_yes h ⟨_, vp_one ps i hi', bc_dec (fun hx => ?_) (fun hx => ?_)⟩)
      · refine ⟨(i + 1, cap), ⟨by show i + 1 ≤ ps.length; omega, ?_⟩, by show ps.length - (i + 1) < ps.length - i; omega, ?_⟩
        · intro _
          refine ⟨hx, ?_⟩
          cases i with
          | zero => exact rad_gt hpos (by omega)
          | succ j =>
            have hr := (hr (show j < ps.length by omega)).2
            rw [List.drop_eq_getElem_cons hi', radG, if_neg (by omega)] at hr
            exact hr
        · rw [w64 (by omega) (by omega)]; rfl
      · show (if 0 = 0 then _ else _)
        rw [if_pos rfl]
        exact out (fun _ => by omega)
    · show (if 0 = 0 then _ else _)
      rw [if_pos rfl]
      exact out (fun h' => by omega)
/-! ### rules and slabs -/
def tabE (ps : List Pt) : Int := match tabRes ps with | [_, .val (.int _ e)] => e | _ => 0
theorem tab_e (ps : List Pt) : ∃ a, tabRes ps = [dI a, dI (tabE ps)] := by
  obtain ⟨a, e, h, _⟩ := tab_shape ps
  exact ⟨a, by rw [tabE, h]⟩
theorem tab_ok {ps : List Pt} (h0 : tabE ps = 0) : OkT ps ∧ ps.length ≤ 10 := by
  obtain ⟨a, e, h, h1⟩ := tab_shape ps
  refine h1 ?_
  rw [tabE, h] at h0; exact h0
def rulE (ps : List Pt) (m lo hi : Int) : Int := if tabE ps ≠ 0 then tabE ps else if (0 ≤ m ∧ m ≤ 50) ∧ (0 ≤ lo ∧ lo ≤ 1000) ∧ 0 ≤ hi ∧ hi ≤ 1000 then (if lo > hi then 9 else 0) else 2
abbrev dRu (ps : List Pt) (m lo hi : Int) : D := .agg [.sl ps.length 2 (vp ps), dI m, dI lo, dI hi]
abbrev dRn (m lo hi : Int) : D := .agg [.nil, dI m, dI lo, dI hi]
theorem fst0_four (a b c d : Int) : fst0 [a, b, c, d] = if a = 0 then (if b = 0 then (if c = 0 then d else c) else b) else a := by
  simp only [fst0]; repeat' split
  all_goals first | rfl | omega
theorem fst0_three (a b c : Int) : fst0 [a, b, c] = if a = 0 then (if b = 0 then c else b) else a := by
  simp only [fst0]; repeat' split
  all_goals first | rfl | omega
theorem conCR (ps : List Pt) (hl : ps.length < 1000000000) (m lo hi : Int) : C5 11 [dRu ps m lo hi] [dI (rulE ps m lo hi)] := by
  refine con_flat hokH mixed Try.func11 rfl (by show 1 ≤ 400; omega) rfl (by kernel_rfl) (fun caps => ?_)
  show gCR _ _ ps.length (caps 500) (vp ps) m lo hi _
  rw [gCR_text]
  obtain ⟨a, ha⟩ := tab_e ps
  have c1 := conCT ps hl
  rw [ha] at c1
  simp only [vp_whole, bc_t (v2le ps), eq_self, true_and]
  have c2 := concP [lo, hi] (by simp)
  rw [show limE 0 1000 (vi [lo, hi]) = _ from limE2 ..] at c2
  refine ⟨a, tabE ps, ⟨c1⟩, ?_⟩
  try simp only [eq_self, true_and]
  refine ⟨_, ⟨limC_of (limE1 0 50 m).symm⟩, ?_⟩
  try simp only [eq_self, true_and]
  refine ⟨_, ⟨c2⟩, ?_⟩
  try simp only [eq_self, true_and]
  refine ⟨_, ⟨concE lo hi⟩, ?_⟩
  try simp only [eq_self, true_and]
  refine ⟨_, ⟨conFE [tabE ps, if 0 ≤ m ∧ m ≤ 50 then 0 else 2, if (0 ≤ lo ∧ lo ≤ 1000) ∧ 0 ≤ hi ∧ hi ≤ 1000 then 0 else 2, if lo > hi then 9 else 0] (by simp)⟩, ?_⟩
  show [dI _] = [dI _]
  rw [fst0_four, rulE]
  repeat' split
  all_goals first | rfl | omega
theorem conRE (ps : List Pt) (hl : ps.length < 1000000000) (m lo hi : Int) : C5 12 [dRu ps m lo hi] [dI (rulE ps m lo hi)] := by
  refine con_flat hokH mixed Try.func12 rfl (by show 1 ≤ 400; omega) rfl (by kernel_rfl) (fun caps => ?_)
  show gRE _ _ ps.length (caps 500) (vp ps) m lo hi _
  rw [gRE_text]
  obtain ⟨a, ha⟩ := tab_e ps
  have c1 := conRT ps hl
  rw [ha] at c1
  simp only [vp_whole, bc_t (v2le ps)]
  refine ⟨a, tabE ps, ⟨c1⟩, bc_bne (fun h => ?_) (fun h => ?_)⟩
  · show _ = _; rw [rulE, if_pos h]
  · by_cases hm : 0 ≤ m ∧ m ≤ 50
    · refine .inl ⟨sayWt hm, eErr lo, ⟨conEE lo⟩, bc_bne (fun h1 => ?_) (fun h1 => ⟨eErr hi, ⟨conEE hi⟩, bc_bne (fun h2 => ?_) (fun h2 => ?_)⟩)⟩
      · show _ = _; rw [rulE, if_neg (by omega), if_neg (fun hh => h1 (eErr0.2 hh.2.1))]
      · show _ = _; rw [rulE, if_neg (by omega), if_neg (fun hh => h2 (eErr0.2 hh.2.2))]
      · rw [rulE, if_neg (by omega), if_pos ⟨hm, eErr0.1 h1, eErr0.1 h2⟩]
        refine bc_dec (fun h3 => ?_) (fun h3 => ?_)
        · show _ = _; rw [if_pos h3]
        · show _ = _; rw [if_neg h3]
    · refine .inr ⟨sayWf hm, ?_⟩
      show _ = _; rw [rulE, if_neg (by omega), if_neg (fun hh => hm hh.1)]
theorem conREn (m lo hi : Int) : C5 12 [dRn m lo hi] [dI 10] := by
  refine con_flat hokH mixed Try.func12 rfl (by show 0 ≤ 400; omega) rfl (by kernel_rfl) (fun caps => ?_)
  show gREn _ _ m lo hi _
  rw [gREn_text]
  exact ⟨0, 10, ⟨conRTn⟩, bc_true (by simp) rfl⟩
def slE (l : List Int) (bo : Int) : Int := if l.length < 2 then 10 else if 8 < l.length then 8 else if (∀ z ∈ l, 0 ≤ z ∧ z ≤ 20000) ∧ 0 ≤ bo ∧ bo ≤ 1000 then 0 else 2
abbrev dSl (l : List Int) (bo : Int) : D := .agg [.sl l.length 1 (vi l), dI bo]
abbrev dSn (bo : Int) : D := .agg [.nil, dI bo]
theorem conCS (l : List Int) (hl : l.length < 1000000000) (bo : Int) : C5 13 [dSl l bo] [dI (slE l bo)] := by
  refine con_flat hokH mixed Try.func13 rfl (by show 1 ≤ 400; omega) rfl (by kernel_rfl) (fun caps => ?_)
  show gCS _ _ l.length (caps 500) (vi l) bo _
  rw [gCS_text]
  refine bc_dec (fun h => ?_) (fun h => bc_dec (fun h2 => ?_) (fun h2 => ?_))
  · show _ = _; rw [slE, if_pos (by omega)]
  · show _ = _; rw [slE, if_neg (by omega), if_pos (by omega)]
  · have c1 := concT l hl
    rw [limE_all] at c1
    simp only [vi_whole, bc_t (v1le l), eq_self, true_and]
    refine ⟨_, ⟨c1⟩, ?_⟩
    try simp only [eq_self, true_and]
    refine ⟨eErr bo, ⟨concP1 bo⟩, ?_⟩
    try simp only [eq_self, true_and]
    refine ⟨_, ⟨conFE [if ∀ z ∈ l, 0 ≤ z ∧ z ≤ 20000 then 0 else 2, eErr bo] (by simp)⟩, ?_⟩
    have e : fst0 [if ∀ z ∈ l, 0 ≤ z ∧ z ≤ 20000 then 0 else 2, eErr bo] = slE l bo := by
      rw [fst0_two, slE, if_neg (show ¬ l.length < 2 by omega), if_neg (show ¬ 8 < l.length by omega)]
      by_cases h3 : ∀ z ∈ l, 0 ≤ z ∧ z ≤ 20000
      · by_cases h4 : 0 ≤ bo ∧ bo ≤ 1000
        · rw [if_pos h3, if_pos rfl, if_pos ⟨h3, h4⟩, eErr, if_pos h4]
        · rw [if_pos h3, if_pos rfl, if_neg (fun hh => h4 hh.2), eErr, if_neg h4]
      · rw [if_neg h3, if_neg (by omega), if_neg (fun hh => h3 hh.1)]
    show [dI _] = [dI _]
    rw [← e]
theorem conSE (l : List Int) (hl : l.length < 1000000000) (bo : Int) : C5 14 [dSl l bo] [dI (slE l bo)] := by
  let inv : Nat × Nat → Prop := fun x => x.1 ≤ l.length ∧ 2 ≤ l.length ∧ l.length ≤ 8 ∧ ∀ z ∈ l.take x.1, 0 ≤ z ∧ z ≤ 20000
  let st : Nat × Nat → Slots × Blocks := fun x => zSE1 x.1 l.length x.2 bo (vi l)
  refine con_of (L := fun _ s b => ∃ x, inv x ∧ st x = (s, b)) hokH mixed Try.func14 rfl (by show 1 ≤ 400; omega) rfl (ids := [0]) (by kernel_rfl) rfl (fun caps => ?_) (fun id hid => ?_)
  · show gSE _ _ l.length (caps 500) (vi l) bo _
    rw [gSE_text]
    refine bc_dec (fun h => ?_) (fun h => bc_dec (fun h2 => ?_) (fun h2 => ?_))
    · show _ = _; rw [slE, if_pos (by omega)]
    · show _ = _; rw [slE, if_neg (by omega), if_pos (by omega)]
    · exact ⟨(0, caps 500), ⟨Nat.zero_le _, by omega, by omega, by simp⟩, rfl⟩
  · obtain rfl := List.mem_singleton.1 hid
    refine ⟨Nat × Nat, st, inv, fun x => l.length - x.1, ⟨fun s b h => h, by kernel_rfl, ?_⟩⟩
    rintro ⟨i, cap⟩ ⟨hi, h2, h8, ha⟩
    simp only at hi ha
    show rSE1 _ _ i l.length cap bo (vi l) _ _ _
    rw [rSE1_text]
    refine bc_dec (fun h => ?_) (fun h => ?_)
    · have hi' : i < l.length := by omega
      simp only [bc_t h, bc_t (show (0 : Int) ≤ (i : Int) by omega), Int.toNat_natCast, at1 (vi_at l i hi')]
      refine ⟨tErr l[i], ⟨conTE _⟩, bc_bne (fun h1 => ?_) (fun h1 => ?_)⟩
      · show [dI _] = [dI _]
        have hn : ¬ ∀ z ∈ l, 0 ≤ z ∧ z ≤ 20000 := fun hh => h1 (tErr0.2 (hh _ (List.getElem_mem hi')))
        rw [slE, if_neg (by omega), if_neg (by omega), if_neg (fun hh => hn hh.1)]
        rcases tErr_or l[i] with h | h
        · exact absurd h h1
        · rw [h]
      · refine ⟨(i + 1, cap), ⟨hi', h2, h8, ?_⟩, by show l.length - (i + 1) < l.length - i; omega, ?_⟩
        · intro z hz
          rw [List.take_succ_eq_append_getElem hi'] at hz
          rcases List.mem_append.1 hz with h | h
          · exact ha z h
          · rw [List.mem_singleton.1 h]; exact tErr0.1 h1
        · rw [w64 (by omega) (by omega)]; rfl
    · show (if 0 = 0 then _ else _)
      rw [if_pos rfl]
      show nSE2 _ _ l.length cap bo (vi l) _
      rw [nSE2_text]
      have hall : ∀ z ∈ l, 0 ≤ z ∧ z ≤ 20000 := by
        rw [List.take_of_length_le (by omega)] at ha; exact ha
      rw [slE, if_neg (by omega), if_neg (by omega)]
      by_cases hb : 0 ≤ bo ∧ bo ≤ 1000
      · rw [if_pos ⟨hall, hb⟩]; exact .inl ⟨sayWt hb, rfl⟩
      · rw [if_neg (fun hh => hb hh.2)]; exact .inr ⟨sayWf hb, rfl⟩
theorem conSEn (bo : Int) : C5 14 [dSn bo] [dI 10] := by
  refine con_of (L := fun _ _ _ => False) hokH mixed Try.func14 rfl (by show 0 ≤ 400; omega) rfl (ids := [0]) (by kernel_rfl) rfl (fun caps => ?_) (fun id hid => ?_)
  · show gSEn _ _ bo _
    rw [gSEn_text]
  · obtain rfl := List.mem_singleton.1 hid
    exact ⟨Unit, fun _ => (default, []), fun _ => False, fun _ => 0, ⟨fun s b h => h.elim, by kernel_rfl, fun x h => h.elim⟩⟩
theorem sl_ok {l : List Int} {bo : Int} (h : slE l bo = 0) : 2 ≤ l.length ∧ l.length ≤ 8 ∧ (∀ z ∈ l, 0 ≤ z ∧ z ≤ 20000) ∧ 0 ≤ bo ∧ bo ≤ 1000 := by
  unfold slE at h
  split at h
  · omega
  · split at h
    · omega
    · split at h
      · rename_i hh; exact ⟨by omega, by omega, hh.1, hh.2⟩
      · omega
theorem rul_ok {ps : List Pt} {m lo hi : Int} (h : rulE ps m lo hi = 0) : (OkT ps ∧ ps.length ≤ 10) ∧ 0 ≤ m ∧ m ≤ 50 := by
  unfold rulE at h
  split at h
  · omega
  · split at h
    · rename_i h1 h2; exact ⟨tab_ok (by omega), h2.1⟩
    · omega
/-! ### means -/
def sumI : List Int → Int
  | [] => 0
  | x :: r => x + sumI r
theorem sum_bd {B : Int} : ∀ {l : List Int}, (∀ z ∈ l, 0 ≤ z ∧ z ≤ B) → 0 ≤ sumI l ∧ sumI l ≤ B * l.length
  | [], _ => by simp [sumI]
  | x :: r, h => by
    have h1 := h x (List.mem_cons_self ..)
    have h2 := sum_bd (l := r) fun z hz => h z (List.mem_cons_of_mem _ hz)
    have e : B * ((x :: r).length : Int) = B * r.length + B := by rw [List.length_cons]; push_cast; rw [Int.mul_add, Int.mul_one]
    rw [e, sumI]; omega
theorem sum_take : ∀ (l : List Int) (i : Nat), sumI (l.take i) + sumI (l.drop i) = sumI l
  | [], i => by simp [sumI]
  | x :: r, 0 => by simp [sumI]
  | x :: r, i + 1 => by
    have := sum_take r i
    simp only [List.take_succ_cons, List.drop_succ_cons, sumI]; omega
theorem sum_tk {l : List Int} {i : Nat} (h : i < l.length) : sumI (l.take (i + 1)) = sumI (l.take i) + l[i] := by
  have h1 := sum_take l (i + 1)
  have h2 := sum_take l i
  rw [List.drop_eq_getElem_cons h, sumI] at h2
  omega
theorem sum_small {l : List Int} (hl : l.length ≤ 8) (hb : ∀ z ∈ l, 0 ≤ z ∧ z ≤ 20000) : 0 ≤ sumI l ∧ sumI l ≤ 160000 := by
  have h := sum_bd hb
  have : 20000 * (l.length : Int) ≤ 160000 := by omega
  omega
theorem take_small {l : List Int} (hb : ∀ z ∈ l, 0 ≤ z ∧ z ≤ 20000) (i : Nat) : ∀ z ∈ l.take i, 0 ≤ z ∧ z ≤ 20000 := fun z hz => hb z (List.mem_of_mem_take hz)
theorem consu (a b c bo : Int) (l : List Int) (hl : l.length ≤ 8) (hb : ∀ z ∈ l, 0 ≤ z ∧ z ≤ 20000) : C5 38 [.agg [.nil, dI a, dI b, dI c, .sl l.length 1 (vi l), dI bo]] [dI (sumI l)] := by
  let inv : Nat × Nat → Prop := fun x => x.1 ≤ l.length
  let st : Nat × Nat → Slots × Blocks := fun x => zsu1 (sumI (l.take x.1)) l.length x.2 l.length x.1 (vi l)
  refine con_of (L := fun _ s b => ∃ x, inv x ∧ st x = (s, b)) hokE mixed Try.func38 rfl (by show 1 ≤ 400; omega) rfl (ids := [0]) (by kernel_rfl) rfl (fun caps => ?_) (fun id hid => ?_)
  · show gsu _ _ a b c l.length (caps 500) (vi l) bo _
    rw [gsu_text]
    exact ⟨(0, caps 500), Nat.zero_le _, rfl⟩
  · obtain rfl := List.mem_singleton.1 hid
    refine ⟨Nat × Nat, st, inv, fun x => l.length - x.1, ⟨fun s b h => h, by kernel_rfl, ?_⟩⟩
    rintro ⟨i, cap⟩ hi
    have hi : i ≤ l.length := hi
    show rsu1 _ _ (sumI (l.take i)) l.length cap l.length i (vi l) _ _ _
    rw [rsu1_text]
    refine bc_dec (fun h => ?_) (fun h => ?_)
    · have hi' : i < l.length := by omega
      have hq := sum_small (l := l.take (i + 1)) (by rw [List.length_take]; omega) (take_small hb _)
      rw [sum_tk hi'] at hq
      simp only [bc_t h, bc_t (show (0 : Int) ≤ (i : Int) by omega), Int.toNat_natCast, at1 (vi_at l i hi')]
      refine ⟨(i + 1, cap), hi', by show l.length - (i + 1) < l.length - i; omega, ?_⟩
      rw [w64 (z := (i : Int) + 1) (by omega) (by omega), w64 (by omega) (by omega), ← sum_tk hi']; rfl
    · show (if 0 = 0 then _ else _)
      rw [if_pos rfl]
      show nsu2 _ _ (sumI (l.take i)) _
      rw [nsu2_text, List.take_of_length_le (by omega)]
theorem conrs (bo : Int) (l : List Int) (hl : l.length ≤ 8) (hb : ∀ z ∈ l, 0 ≤ z ∧ z ≤ 20000) : C5 44 [dSl l bo] [dI (sumI l)] := by
  let inv : Nat × Nat → Prop := fun x => x.1 ≤ l.length
  let st : Nat × Nat → Slots × Blocks := fun x => zrs1 (sumI (l.take x.1)) x.1 l.length x.2 bo (vi l)
  refine con_of (L := fun _ s b => ∃ x, inv x ∧ st x = (s, b)) hokE mixed Try.func44 rfl (by show 1 ≤ 400; omega) rfl (ids := [0]) (by kernel_rfl) rfl (fun caps => ?_) (fun id hid => ?_)
  · show grs _ _ l.length (caps 500) (vi l) bo _
    rw [grs_text]
    exact ⟨(0, caps 500), Nat.zero_le _, rfl⟩
  · obtain rfl := List.mem_singleton.1 hid
    refine ⟨Nat × Nat, st, inv, fun x => l.length - x.1, ⟨fun s b h => h, by kernel_rfl, ?_⟩⟩
    rintro ⟨i, cap⟩ hi
    have hi : i ≤ l.length := hi
    show rrs1 _ _ (sumI (l.take i)) i l.length cap bo (vi l) _ _ _
    rw [rrs1_text]
    refine bc_dec (fun h => ?_) (fun h => ?_)
    · have hi' : i < l.length := by omega
      have hq := sum_small (l := l.take (i + 1)) (by rw [List.length_take]; omega) (take_small hb _)
      rw [sum_tk hi'] at hq
      simp only [bc_t h, bc_t (show (0 : Int) ≤ (i : Int) by omega), Int.toNat_natCast, at1 (vi_at l i hi')]
      refine ⟨(i + 1, cap), hi', by show l.length - (i + 1) < l.length - i; omega, ?_⟩
      rw [w64 (z := (i : Int) + 1) (by omega) (by omega), w64 (by omega) (by omega), ← sum_tk hi']; rfl
    · show (if 0 = 0 then _ else _)
      rw [if_pos rfl]
      show nrs2 _ _ (sumI (l.take i)) _
      rw [nrs2_text, List.take_of_length_le (by omega)]
theorem conLT (n d : Int) (hn : 0 ≤ n ∧ n ≤ 1000000000) (hd : 0 < d ∧ d ≤ 1000000000) : C5 37 [dI n, dI d] [.agg [dI (low n d).1, dI (low n d).2]] := by
  let inv : Int × Int → Prop := fun x => 0 ≤ x.1 ∧ 0 ≤ x.2 ∧ Int.gcd x.1 x.2 = Int.gcd n d
  let st : Int × Int → Slots × Blocks := fun x => zLT1 n d x.1 x.2 0 0
  refine con_of (L := fun _ s b => ∃ x, inv x ∧ st x = (s, b)) hokE mixed Try.func37 rfl (by show 0 ≤ 400; omega) rfl (ids := [0]) (by kernel_rfl) rfl (fun caps => ?_) (fun id hid => ?_)
  · show gLT _ _ n d _
    rw [gLT_text]
    exact ⟨(n, d), ⟨hn.1, by show 0 ≤ d; omega, rfl⟩, rfl⟩
  · obtain rfl := List.mem_singleton.1 hid
    refine ⟨Int × Int, st, inv, fun x => x.2.natAbs, ⟨fun s b h => h, by kernel_rfl, ?_⟩⟩
    rintro ⟨x, y⟩ ⟨hx, hy, hg⟩
    simp only at hx hy hg
    show rLT1 _ _ n d x y 0 0 _ _ _
    rw [rLT1_text]
    refine bc_dec (fun h => ?_) (fun h => ?_)
    · have hne : y ≠ 0 := by omega
      simp only [bc_n hne, true_and, and_true]
      have hlt := gcd_step_lt (a := x) hne
      have hst := gcd_step x y
      exact ⟨(y, x.tmod y), ⟨hy, Int.tmod_nonneg _ hx, by show Int.gcd y (x.tmod y) = _; omega⟩, hlt, rfl⟩
    · show (if 0 = 0 then _ else _)
      rw [if_pos rfl]
      show nLT2 _ _ n d x 0 0 _
      obtain rfl : y = 0 := by omega
      have he := gcd_end x
      rw [if_neg (by omega)] at he
      have hgp := gcd_pos (a := n) (b := d) (.inr (by omega))
      have hxg : x = (Int.gcd n d : Int) := by rw [← hg]; exact he.symm
      rw [nLT2_text, hxg]
      have b1 := tdiv_small (n := n) (g := Int.gcd n d) (by omega) hgp
      have b2 := tdiv_small (n := d) (g := Int.gcd n d) (by omega) hgp
      simp only [bc_n (show ((Int.gcd n d : Nat) : Int) ≠ 0 by omega), true_and, and_true]
      rw [w64 (by omega) (by omega), w64 (by omega) (by omega)]
      show _ = _
      rw [low, if_neg (by omega)]
theorem conMO (l : List Int) (hl : l.length < 1000000000) (bo : Int) : C5 10 [dSl l bo] (if slE l bo = 0 then [.agg [dI (low (sumI l) l.length).1, dI (low (sumI l) l.length).2], dI 0] else [.agg [dI 0, dI 0], dI (slE l bo)]) := by
  refine con_flat hokH mixed Try.func10 rfl (by show 1 ≤ 400; omega) rfl (by kernel_rfl) (fun caps => ?_)
  show gMO _ _ l.length (caps 500) (vi l) bo _
  rw [gMO_text]
  simp only [vi_whole, bc_t (v1le l), eq_self, true_and]
  refine ⟨slE l bo, ⟨conCS l hl bo⟩, bc_bne (fun h => ?_) (fun h => ?_)⟩
  · show _ = _; rw [if_neg h]
  · obtain ⟨h2, h8, hb, _⟩ := sl_ok h
    have hs := sum_small h8 hb
    refine ⟨sumI l, ⟨consu _ _ _ _ l h8 hb⟩, ?_⟩
    try simp only [eq_self, true_and]
    refine ⟨_, _, ⟨conLT _ _ (by omega) (by omega)⟩, ?_⟩
    show _ = _; rw [if_pos h]
theorem conRM (l : List Int) (bo : Int) (h : slE l bo = 0) : C5 15 [dSl l bo] [.agg [dI (low (sumI l) l.length).1, dI (low (sumI l) l.length).2]] := by
  refine con_flat hokH mixed Try.func15 rfl (by show 1 ≤ 400; omega) rfl (by kernel_rfl) (fun caps => ?_)
  show gRM _ _ l.length (caps 500) (vi l) bo _
  rw [gRM_text]
  simp only [vi_whole, bc_t (v1le l), eq_self, true_and]
  obtain ⟨h2, h8, hb, _⟩ := sl_ok h
  have hs := sum_small h8 hb
  refine ⟨sumI l, ⟨conrs _ l h8 hb⟩, ?_⟩
  try simp only [eq_self, true_and]
  exact ⟨_, _, ⟨conLe _ _ (by omega) (by omega) (by omega)⟩, rfl⟩
end Go.Proofs.G5h

/- Chapter 2, heating: a step, in data. -/
namespace Go.Proofs.G5h
open Go Go.Abs Go.Proofs Go.Proofs.G2
set_option maxRecDepth 100000
theorem em_bd {em a b : Int} (he : 0 ≤ em ∧ em ≤ 1000) (ha : 0 ≤ a ∧ a ≤ 20000) (hb : 0 ≤ b ∧ b ≤ 20000) : -20000000 ≤ em * (a - b) ∧ em * (a - b) ≤ 20000000 := by
  have h1 := Int.mul_le_mul_of_nonneg_left (show a - b ≤ 20000 by omega) he.1
  have h2 := Int.mul_le_mul_of_nonneg_left (show -20000 ≤ a - b by omega) he.1
  omega
theorem bo_bd {g bo : Int} (hg : -20000000 ≤ g ∧ g ≤ 20000000) (hb : 0 ≤ bo ∧ bo ≤ 1000) : -20000000000 ≤ g * bo ∧ g * bo ≤ 20000000000 := by
  have h1 := Int.mul_le_mul_of_nonneg_right hg.2 hb.1
  have h2 := Int.mul_le_mul_of_nonneg_right hg.1 hb.1
  omega
theorem div_in {x k B : Int} (hk : 0 < k) (h : -(B * k) ≤ x ∧ x ≤ B * k) : -B ≤ x / k ∧ x / k ≤ B := by
  refine ⟨(Int.le_ediv_iff_mul_le hk).2 (by rw [Int.neg_mul]; exact h.1), ?_⟩
  have := Int.ediv_le_ediv hk h.2
  rwa [Int.mul_ediv_cancel _ (by omega)] at this
theorem conlw {ps : List Pt} (hv : OkT ps) (hl : ps.length ≤ 10) (m lo hi : Int) {em set bo node : Int} (he : 0 ≤ em ∧ em ≤ 1000) (hb : 0 ≤ bo ∧ bo ≤ 1000) (hn : 0 ≤ node ∧ node ≤ 20000) : C5 45 [dRu ps m lo hi, .agg [dI em, dI set], dI node, dI bo] [dI (half ps em set bo node)] := by
  refine con_flat hokH mixed Try.func45 rfl (by show 1 ≤ 400; omega) rfl (by kernel_rfl) (fun caps => ?_)
  show glw _ _ ps.length (caps 500) (vp ps) m lo hi em set node bo _
  rw [glw_text]
  have r1 := rad_in hv set
  have r2 := rad_in hv node
  have b1 := em_bd he r1 r2
  have b2 := bo_bd b1 hb
  have b3 := div_in (x := em * (rad set ps - rad node ps) * bo) (k := 1000000) (B := 20000) (by decide) (by omega)
  simp only [vp_whole, bc_t (v2le ps), eq_self, true_and, and_true]
  refine ⟨rad set ps, ⟨conRA hv hl set⟩, rad node ps, ⟨conRA hv hl node⟩, ?_⟩
  rw [w64 (z := rad set ps - rad node ps) (by omega) (by omega), w64 (z := em * (rad set ps - rad node ps)) (by omega) (by omega), w64 (z := em * (rad set ps - rad node ps) * bo) (by omega) (by omega)]
  refine ⟨_, ⟨conFl _ _ (by omega) (by omega)⟩, ?_⟩
  rw [w64 (by omega) (by omega)]
  rfl
theorem conup {ps : List Pt} (hv : OkT ps) (hl : ps.length ≤ 10) (m lo hi : Int) {em set node : Int} (he : 0 ≤ em ∧ em ≤ 1000) (hn : 0 ≤ node ∧ node ≤ 20000) : C5 46 [dRu ps m lo hi, .agg [dI em, dI set], dI node] [dI (half ps em set 1000 node)] := by
  refine con_flat hokH mixed Try.func46 rfl (by show 1 ≤ 400; omega) rfl (by kernel_rfl) (fun caps => ?_)
  show gup _ _ ps.length (caps 500) (vp ps) m lo hi em set node _
  rw [gup_text]
  have r1 := rad_in hv set
  have r2 := rad_in hv node
  have b1 := em_bd he r1 r2
  have b3 := div_in (x := em * (rad set ps - rad node ps)) (k := 1000) (B := 20000) (by decide) (by omega)
  simp only [vp_whole, bc_t (v2le ps), eq_self, true_and, and_true]
  refine ⟨rad set ps, ⟨conRA hv hl set⟩, rad node ps, ⟨conRA hv hl node⟩, ?_⟩
  rw [w64 (z := rad set ps - rad node ps) (by omega) (by omega), w64 (z := em * (rad set ps - rad node ps)) (by omega) (by omega)]
  refine ⟨_, ⟨conFl _ _ (by omega) (by omega)⟩, ?_⟩
  rw [w64 (by omega) (by omega), half_up]
/-- indices -/
theorem ix_lo {i : Nat} (h : i < 1000000000) : (if IntKind.wrap .i64 ((i : Int) - 1) > 0 then IntKind.wrap .i64 ((i : Int) - 1) else 0) = ((i - 1 : Nat) : Int) := by
  rw [w64 (by omega) (by omega)]; split <;> omega
theorem ix_hi {i n : Nat} (h : i < n) (hn : n < 1000000000) : (if IntKind.wrap .i64 ((i : Int) + 1) < IntKind.wrap .i64 ((n : Int) - 1) then IntKind.wrap .i64 ((i : Int) + 1) else IntKind.wrap .i64 ((n : Int) - 1)) = ((min (i + 1) (n - 1) : Nat) : Int) := by
  rw [w64 (z := (i : Int) + 1) (by omega) (by omega), w64 (z := (n : Int) - 1) (by omega) (by omega)]; split <;> omega
theorem mix_w {m a b c : Int} (hm : 0 ≤ m ∧ m ≤ 50) (ha : 0 ≤ a ∧ a ≤ 100000) (hb : 0 ≤ b ∧ b ≤ 100000) (hc : 0 ≤ c ∧ c ≤ 100000) :
    IntKind.wrap .i64 (IntKind.wrap .i64 (IntKind.wrap .i64 (m * a) + IntKind.wrap .i64 (m * b)) + IntKind.wrap .i64 (IntKind.wrap .i64 (100 - IntKind.wrap .i64 (2 * m)) * c)) = m * (a + b) + (100 - 2 * m) * c ∧ 0 ≤ m * (a + b) + (100 - 2 * m) * c ∧ m * (a + b) + (100 - 2 * m) * c ≤ 20000000 := by
  have p1 := Int.mul_le_mul_of_nonneg_left ha.2 hm.1
  have p2 := Int.mul_nonneg hm.1 ha.1
  have p3 := Int.mul_le_mul_of_nonneg_left hb.2 hm.1
  have p4 := Int.mul_nonneg hm.1 hb.1
  have p5 := Int.mul_le_mul_of_nonneg_left hc.2 (show 0 ≤ 100 - 2 * m by omega)
  have p6 := Int.mul_nonneg (show 0 ≤ 100 - 2 * m by omega) hc.1
  have e : m * (a + b) = m * a + m * b := Int.mul_add ..
  rw [w64 (z := m * a) (by omega) (by omega), w64 (z := m * b) (by omega) (by omega), w64 (z := m * a + m * b) (by omega) (by omega), w64 (z := 2 * m) (by omega) (by omega), w64 (z := 100 - 2 * m) (by omega) (by omega), w64 (z := (100 - 2 * m) * c) (by omega) (by omega), w64 (by omega) (by omega), e]
  omega
theorem rg_snoc (f : Nat → Int) (n : Nat) : vi ((List.range n).map f) ++ [vI (f n)] = vi ((List.range (n + 1)).map f) := by
  rw [List.range_succ, List.map_append, vi, vi, List.map_append]; rfl
theorem rg_take (f : Nat → Int) (n : Nat) : List.take (n * 1) (List.drop 0 (vi ((List.range n).map f))) = vi ((List.range n).map f) := by
  rw [List.drop_zero, List.take_of_length_le (by simp)]
theorem conMi (ps : List Pt) (m lo hi : Int) (hm : 0 ≤ m ∧ m ≤ 50) (l : List Int) (h1 : 1 ≤ l.length) (h2 : l.length ≤ 1000) (hg : ∀ i, i < l.length → 0 ≤ gd l i ∧ gd l i ≤ 100000) : C5 47 [dRu ps m lo hi, .sl l.length 1 (vi l)] [.sl l.length 1 (vi (mixL m l))] := by
  let inv : Nat × Nat × Nat → Prop := fun x => x.1 ≤ l.length
  let st : Nat × Nat × Nat → Slots × Blocks := fun x => match x.1 with
    | 0 => zMi1 l.length x.2.1 0 (vi l) ps.length x.2.2 m lo hi (vp ps)
    | i + 1 => zMi2 l.length x.2.1 (i + 1) ((i + 1 : Nat) : Int) (vi l) ps.length x.2.2 m lo hi (vi ((List.range (i + 1)).map (mixAt m l))) (vp ps)
  refine con_of (L := fun _ s b => ∃ x, inv x ∧ st x = (s, b)) hokH mixed Try.func47 rfl (by show 2 ≤ 400; omega) rfl (ids := [0]) (by kernel_rfl) rfl (fun caps => ?_) (fun id hid => ?_)
  · show gMi _ _ ps.length (caps 500) (vp ps) m lo hi l.length (caps 501) (vi l) _
    rw [gMi_text]
    exact ⟨(0, caps 501, caps 500), Nat.zero_le _, rfl⟩
  · obtain rfl := List.mem_singleton.1 hid
    refine ⟨Nat × Nat × Nat, st, inv, fun x => l.length - x.1, ⟨fun s b h => h, by kernel_rfl, ?_⟩⟩
    rintro ⟨i, c1, c2⟩ hi'
    have hi' : i ≤ l.length := hi'
    have facts : ∀ h : i < l.length, At (vi l) (0 + i * 1) 1 [vI (gd l i)] ∧ At (vi l) (0 + (i - 1) * 1) 1 [vI (gd l (i - 1))] ∧ At (vi l) (0 + (min (i + 1) (l.length - 1)) * 1) 1 [vI (gd l (min (i + 1) (l.length - 1)))] := fun h => ⟨at_gd h, at_gd (by omega), at_gd (by omega)⟩
    have val : ∀ h : i < l.length, _ := fun h => mix_w hm (hg (i - 1) (by omega)) (hg (min (i + 1) (l.length - 1)) (by omega)) (hg i h)
    cases i with
    | zero =>
      show rMi1 _ _ l.length c1 ((0 : Nat) : Int) (vi l) ps.length c2 m lo hi (vp ps) _ _ _
      rw [rMi1_text]
      have h : 0 < l.length := by omega
      obtain ⟨a0, a1, a2⟩ := facts h
      obtain ⟨v1, v2, v3⟩ := val h
      have hd := div_in (x := m * (gd l (0 - 1) + gd l (min (0 + 1) (l.length - 1))) + (100 - 2 * m) * gd l 0) (k := 100) (B := 200000) (by decide) (by omega)
      have j0 : (0 : Int) ≤ ((0 - 1 : Nat) : Int) := by omega
      have j1 : ((0 - 1 : Nat) : Int) < (l.length : Int) := by omega
      have k0 : (0 : Int) ≤ ((min (0 + 1) (l.length - 1) : Nat) : Int) := by omega
      have k1 : ((min (0 + 1) (l.length - 1) : Nat) : Int) < (l.length : Int) := by omega
      have i0 : (0 : Int) ≤ ((0 : Nat) : Int) := by omega
      have i1 : ((0 : Nat) : Int) < (l.length : Int) := by omega
      simp only [ix_lo (show (0 : Nat) < 1000000000 by omega), ix_hi h (by omega), Int.toNat_natCast, bc_t i0, bc_t i1, bc_t j0, bc_t j1, bc_t k0, bc_t k1, at1 a0, at1 a1, at1 a2, eq_self, true_and, and_true]
      rw [v1]
      refine ⟨_, ⟨conFl _ _ (by omega) (by omega)⟩, ?_⟩
      refine ⟨(1, c1, c2), by show 1 ≤ l.length; omega, by show l.length - 1 < l.length - 0; omega, ?_⟩
      rw [w64 (by omega) (by omega)]; rfl
    | succ j =>
      show rMi2 _ _ l.length c1 (j + 1) ((j + 1 : Nat) : Int) (vi l) ps.length c2 m lo hi (vi ((List.range (j + 1)).map (mixAt m l))) (vp ps) _ _ _
      rw [rMi2_text]
      refine bc_dec (fun h => ?_) (fun h => ?_)
      · have h : j + 1 < l.length := by omega
        obtain ⟨a0, a1, a2⟩ := facts h
        obtain ⟨v1, v2, v3⟩ := val h
        have hd := div_in (x := m * (gd l (j + 1 - 1) + gd l (min (j + 1 + 1) (l.length - 1))) + (100 - 2 * m) * gd l (j + 1)) (k := 100) (B := 200000) (by decide) (by omega)
        have j0 : (0 : Int) ≤ ((j + 1 - 1 : Nat) : Int) := by omega
        have j1 : ((j + 1 - 1 : Nat) : Int) < (l.length : Int) := by omega
        have k0 : (0 : Int) ≤ ((min (j + 1 + 1) (l.length - 1) : Nat) : Int) := by omega
        have k1 : ((min (j + 1 + 1) (l.length - 1) : Nat) : Int) < (l.length : Int) := by omega
        have i0 : (0 : Int) ≤ ((j + 1 : Nat) : Int) := by omega
        have i1 : ((j + 1 : Nat) : Int) < (l.length : Int) := by omega
        simp only [ix_lo (show j + 1 < 1000000000 by omega), ix_hi h (by omega), Int.toNat_natCast, bc_t i0, bc_t i1, bc_t j0, bc_t j1, bc_t k0, bc_t k1, at1 a0, at1 a1, at1 a2, eq_self, true_and, and_true]
        rw [v1]
        refine ⟨_, ⟨conFl _ _ (by omega) (by omega)⟩, ?_⟩
        refine bc_yes (by omega) (bc_yes (by omega) (bc_yes (by omega) (bc_yes (by simp) (bc_yes (by simp) ?_))))
        refine ⟨(j + 1 + 1, c1, c2), h, by show l.length - (j + 1 + 1) < l.length - (j + 1); omega, ?_⟩
        rw [w64 (by omega) (by omega), rg_take]
        have e := rg_snoc (mixAt m l) (j + 1)
        show zMi2 _ _ _ _ _ _ _ _ _ _ (vi ((List.range (j + 1 + 1)).map (mixAt m l))) _ = _
        rw [← e]; rfl
      · show (if 0 = 0 then _ else _)
        rw [if_pos rfl]
        show nMi4 _ _ (j + 1) (vi ((List.range (j + 1)).map (mixAt m l))) _
        rw [nMi4_text]
        have e : j + 1 = l.length := by omega
        rw [e]
        exact ⟨⟨rfl, by simp⟩, rfl⟩
end Go.Proofs.G5h

/- Chapter 2, heating: steps of slabs, in data. -/
namespace Go.Proofs.G5h
open Go Go.Abs Go.Proofs Go.Proofs.G2
set_option maxRecDepth 100000
theorem set0 (l : List Int) (v : Int) (h : 0 < l.length) : (vI v :: List.drop (0 + [vI v].length) (vi l)) = vi (l.set 0 v) := by
  cases l with
  | nil => simp at h
  | cons x r => rfl
theorem vi_take {l : List Int} {n : Nat} (h : l.length = n) : List.take (n * 1) (List.drop 0 (vi l)) = vi l := by subst h; exact vi_whole l
theorem dsl {l : List Int} {n : Nat} (h : l.length = n) : D.sl n 1 (vi l) = .sl l.length 1 (vi l) := by rw [h]
theorem w_last {n : Nat} (h : 0 < n) (h2 : n < 1000000000) : IntKind.wrap .i64 ((n : Int) - 1) = ((n - 1 : Nat) : Int) := by rw [w64 (by omega) (by omega)]; omega
theorem first_good {ps : List Pt} {em set bo : Int} (hv : OkT ps) (he : 0 ≤ em ∧ em ≤ 1000) (hb : 0 ≤ bo ∧ bo ≤ 1000) (hs : 0 ≤ set ∧ set ≤ 20000) {l : List Int} (hg : ∀ z ∈ l, 0 ≤ z ∧ z ≤ 20000) {i : Nat} (hi : i < l.length) : 0 ≤ gd (firstL ps em set bo l) i ∧ gd (firstL ps em set bo l) i ≤ 20000 :=
  first_in (mix := 0) ⟨hv, by decide, he, hb⟩ hs (fun j hj => hg _ (gd_mem hj)) hi
theorem conRH {ps : List Pt} (hv : OkT ps) (hl : ps.length ≤ 10) (m lo hi : Int) (hm : 0 ≤ m ∧ m ≤ 50) (l : List Int) (h2 : 2 ≤ l.length) (h8 : l.length ≤ 8) (hg : ∀ z ∈ l, 0 ≤ z ∧ z ≤ 20000) {em set bo : Int} (he : 0 ≤ em ∧ em ≤ 1000) (hb : 0 ≤ bo ∧ bo ≤ 1000) (hs : 0 ≤ set ∧ set ≤ 20000) :
    C5 20 [dRu ps m lo hi, dSl l bo, .agg [dI em, dI set]] [dSl (stepL ps m em set bo l) bo] := by
  refine con_flat hokH mixed Try.func20 rfl (by show 2 ≤ 400; omega) rfl (by kernel_rfl) (fun caps => ?_)
  show gRH _ _ ps.length (caps 500) (vp ps) m lo hi l.length (caps 501) (vi l) bo em set _
  rw [gRH_text]
  have hp : (0 : Int) < (l.length : Int) := by omega
  have z0 : (0 : Int) ≤ ((l.length - 1 : Nat) : Int) := by omega
  have z1 : ((l.length - 1 : Nat) : Int) < (l.length : Int) := by omega
  have g0 := hg _ (gd_mem (l := l) (i := 0) (by omega))
  have g1 := hg _ (gd_mem (l := l) (i := l.length - 1) (by omega))
  have a0 : At (vi l) 0 1 [vI (gd l 0)] := at_gd (i := 0) (by omega)
  have a1 := at_gd (l := l) (i := l.length - 1) (by omega)
  simp only [vp_whole, vi_whole, bc_t (v2le ps), bc_t (v1le l), w_last (show 0 < l.length by omega) (by omega), bc_t hp, bc_t z0, bc_t z1, Int.toNat_natCast, at1 a0, at1 a1, eq_self, true_and, and_true]
  refine ⟨⟨conCI l (by omega)⟩, _, ⟨conlw hv hl m lo hi he hb g0⟩, bc_yes (by simp; omega) ?_⟩
  refine ⟨_, ⟨conup hv hl m lo hi he g1⟩, ?_⟩
  rw [set0 _ _ (by omega)]
  have hL : ((l.set 0 (half ps em set bo (gd l 0))).set (l.length - 1) (half ps em set 1000 (gd l (l.length - 1)))).length = l.length := by simp
  have hM := conMi ps m lo hi hm (firstL ps em set bo l) (by rw [firstL_length]; omega) (by rw [firstL_length]; omega) (fun i hi => by
    rw [firstL_length] at hi
    have := first_good hv he hb hs hg hi; omega)
  refine bc_yes (by simp; omega) ?_
  rw [listSet_vi _ _ _ (by simp; omega)]
  refine bc_yes (by simp) ?_
  rw [vi_take hL, dsl hL]
  refine .inr ⟨l.length, vi (stepL ps m em set bo l), ⟨?_⟩, ⟨by simp, ?_⟩⟩
  · have e : D.sl l.length 1 (vi (stepL ps m em set bo l)) = .sl (firstL ps em set bo l).length 1 (vi (mixL m (firstL ps em set bo l))) := by rw [firstL_length]; rfl
    rw [e]; exact hM
  · show [D.agg [D.sl l.length 1 _, _]] = [D.agg [D.sl _ 1 _, _]]
    rw [stepL_length]
/-- the error of a step -/
def heE (ps : List Pt) (m lo hi : Int) (l : List Int) (bo em set : Int) : Int := fst0 [fst0 [rulE ps m lo hi, slE l bo], eErr em, tErr set]
theorem he_ok {ps : List Pt} {m lo hi : Int} {l : List Int} {bo em set : Int} (h : heE ps m lo hi l bo em set = 0) : rulE ps m lo hi = 0 ∧ slE l bo = 0 ∧ eErr em = 0 ∧ tErr set = 0 := by
  unfold heE at h
  rw [fst0_three, fst0_two] at h
  by_cases h1 : rulE ps m lo hi = 0
  · rw [if_pos h1] at h
    by_cases h2 : slE l bo = 0
    · rw [if_pos h2] at h
      by_cases h3 : eErr em = 0
      · rw [if_pos h3] at h; exact ⟨h1, h2, h3, h⟩
      · rw [if_neg h3] at h; exact absurd h h3
    · rw [if_neg h2] at h; exact absurd h h2
  · rw [if_neg h1, if_neg h1] at h; exact absurd h h1
theorem conHe (ps : List Pt) (hp : ps.length < 1000000000) (m lo hi : Int) (l : List Int) (hl : l.length < 1000000) (bo em set : Int) :
    C5 7 [dRu ps m lo hi, dSl l bo, .agg [dI em, dI set]] (if heE ps m lo hi l bo em set = 0 then [dSl (stepL ps m em set bo l) bo, dI 0] else [dSn 0, dI (heE ps m lo hi l bo em set)]) := by
  refine con_walk hokH mixed (u := 8) (by decide) Try.func7 rfl (by show 2 ≤ 400; omega) (fun caps => ?_)
  show gHe _ ps.length (caps 500) (vp ps) m lo hi l.length (caps 501) (vi l) bo em set _
  rw [gHe_text]
  simp only [vp_whole, vi_whole, bc_t (v2le ps), bc_t (v1le l), eq_self, true_and, and_true]
  refine ⟨_, ⟨conCR ps hp m lo hi⟩, _, ⟨conCS l (by omega) bo⟩, ?_⟩
  refine ⟨_, ⟨conFE [rulE ps m lo hi, slE l bo] (by simp)⟩, ?_⟩
  refine bc_bne (fun h => ?_) (fun h => ?_)
  · refine ⟨_, ⟨concP1 em⟩, _, ⟨concT1 set⟩, _, ⟨conFE [fst0 [rulE ps m lo hi, slE l bo], eErr em, tErr set] (by simp)⟩, ?_⟩
    have hne : heE ps m lo hi l bo em set ≠ 0 := by
      unfold heE; rw [fst0_three, if_neg h]; exact h
    refine bc_bne (fun _ => ?_) (fun h0 => absurd h0 hne)
    show _ = _; rw [if_neg hne]; rfl
  · refine ⟨⟨conCl l (by omega)⟩, ?_⟩
    refine ⟨_, ⟨concP1 em⟩, _, ⟨concT1 set⟩, _, ⟨conFE [0, eErr em, tErr set] (by simp)⟩, ?_⟩
    have hE : heE ps m lo hi l bo em set = fst0 [0, eErr em, tErr set] := by unfold heE; rw [h]
    refine bc_bne (fun h1 => ?_) (fun h1 => ?_)
    · show _ = _; rw [if_neg (by rw [hE]; exact h1), hE]
    · rw [← hE] at h1
      obtain ⟨e1, e2, e3, e4⟩ := he_ok h1
      obtain ⟨⟨hv, hl10⟩, hm⟩ := rul_ok e1
      obtain ⟨h2, h8, hg, hb⟩ := sl_ok e2
      have he := eErr0.1 e3
      have hs := tErr0.1 e4
      have hp0 : (0 : Int) < (l.length : Int) := by omega
      have z0 : (0 : Int) ≤ ((l.length - 1 : Nat) : Int) := by omega
      have z1 : ((l.length - 1 : Nat) : Int) < (l.length : Int) := by omega
      have g0 := hg _ (gd_mem (l := l) (i := 0) (by omega))
      have g1 := hg _ (gd_mem (l := l) (i := l.length - 1) (by omega))
      have a0 : At (vi l) 0 1 [vI (gd l 0)] := at_gd (i := 0) (by omega)
      have r1 := rad_in hv set
      have r2 := rad_in hv (gd l 0)
      have r3 := rad_in hv (gd l (l.length - 1))
      have b1 := em_bd he r1 r2
      have b2 := bo_bd b1 hb
      have b3 := div_in (x := em * (rad set ps - rad (gd l 0) ps) * bo) (k := 1000000) (B := 20000) (by decide) (by omega)
      have b4 := em_bd he r1 r3
      have b5 := bo_bd b4 (bo := 1000) (by decide)
      have b6 := div_in (x := em * (rad set ps - rad (gd l (l.length - 1)) ps) * 1000) (k := 1000000) (B := 20000) (by decide) (by omega)
      simp only [w_last (show 0 < l.length by omega) (by omega), bc_t hp0, bc_t z0, bc_t z1, Int.toNat_natCast, at1 a0, eq_self, true_and, and_true]
      refine ⟨_, ⟨conrI hv hl10 set⟩, _, ⟨conrI hv hl10 (gd l 0)⟩, ?_⟩
      rw [w64 (z := rad set ps - rad (gd l 0) ps) (by omega) (by omega), w64 (z := em * (rad set ps - rad (gd l 0) ps)) (by omega) (by omega), w64 (z := em * (rad set ps - rad (gd l 0) ps) * bo) (by omega) (by omega)]
      refine ⟨_, ⟨conQu _ 1000000 (by omega) (by omega)⟩, ?_⟩
      rw [w64 (z := gd l 0 + em * (rad set ps - rad (gd l 0) ps) * bo / 1000000) (by omega) (by omega), set0 _ _ (by omega)]
      have a1 : At (vi (l.set 0 (gd l 0 + em * (rad set ps - rad (gd l 0) ps) * bo / 1000000))) (0 + (l.length - 1) * 1) 1 [vI (gd l (l.length - 1))] := by
        have := at_gd (l := l.set 0 (gd l 0 + em * (rad set ps - rad (gd l 0) ps) * bo / 1000000)) (i := l.length - 1) (by simp; omega)
        rwa [gd_set (by omega), if_neg (by omega)] at this
      simp only [at1 a1]
      refine bc_yes (by simp; omega) ?_
      refine ⟨trivial, _, ⟨conrI hv hl10 (gd l (l.length - 1))⟩, ?_⟩
      rw [w64 (z := rad set ps - rad (gd l (l.length - 1)) ps) (by omega) (by omega), w64 (z := em * (rad set ps - rad (gd l (l.length - 1)) ps)) (by omega) (by omega), w64 (z := em * (rad set ps - rad (gd l (l.length - 1)) ps) * 1000) (by omega) (by omega)]
      refine ⟨_, ⟨conQu _ 1000000 (by omega) (by omega)⟩, ?_⟩
      rw [w64 (z := gd l (l.length - 1) + em * (rad set ps - rad (gd l (l.length - 1)) ps) * 1000 / 1000000) (by omega) (by omega)]
      refine bc_yes (by simp; omega) ?_
      rw [listSet_vi _ _ _ (by simp; omega)]
      refine ⟨firstL ps em set bo l, rfl, by simp, by simp; omega, by simp; omega, hm.1, hm.2, ⟨?_⟩, ?_⟩
      · intro z hz
        obtain ⟨i, hi, rfl⟩ := List.getElem_of_mem hz
        rw [gd_at hi]
        have := first_good hv he hb hs hg (by simpa using hi); omega
      · refine ⟨by simp [firstL], ?_⟩
        show [D.agg [D.sl l.length 1 _, _], _] = _
        rw [if_pos h1]
        show _ = [D.agg [D.sl (stepL ps m em set bo l).length 1 _, _], _]
        rw [stepL_length]; rfl
theorem conSS (l r : List Int) (hl : l.length < 1000000000) (a b : Int) : C5 19 [dSl l a, dSl r b] [.val (.bool (decide (a = b ∧ l = r)))] := by
  refine con_flat hokH mixed Try.func19 rfl (by show 2 ≤ 400; omega) rfl (by kernel_rfl) (fun caps => ?_)
  show gSS _ _ l.length (caps 500) (vi l) a r.length (caps 501) (vi r) b _
  rw [gSS_text]
  simp only [vi_whole, bc_t (v1le l), bc_t (v1le r), eq_self, true_and, and_true]
  refine bc_beq (fun h => ?_) (fun h => ?_)
  · have c := conIn l r hl
    by_cases e : l = r
    · rw [decide_eq_true e] at c
      exact .inl ⟨⟨c⟩, by rw [decide_eq_true (show a = b ∧ l = r from ⟨h, e⟩)]⟩
    · rw [decide_eq_false e] at c
      exact .inr ⟨⟨c⟩, by rw [decide_eq_false (show ¬ (a = b ∧ l = r) from fun hh => e hh.2)]⟩
  · show _ = _
    rw [decide_eq_false (show ¬ (a = b ∧ l = r) from fun hh => h hh.1)]
theorem conSSn : C5 19 [dSn 0, dSn 0] [.val (.bool true)] := by
  refine con_flat hokH mixed Try.func19 rfl (by show 0 ≤ 400; omega) rfl (by kernel_rfl) (fun caps => ?_)
  show gSSn _ _ 0 0 _
  rw [gSSn_text]
  exact bc_true (by simp) (.inl ⟨⟨conInn⟩, rfl⟩)
/-- the error of rules, then of a slab -/
def both (a b : Int) : Int := if a ≠ 0 then a else b
theorem conbE (ps : List Pt) (hp : ps.length < 1000000000) (m lo hi : Int) (l : List Int) (hl : l.length < 1000000000) (bo : Int) : C5 16 [dRu ps m lo hi, dSl l bo] [dI (both (rulE ps m lo hi) (slE l bo))] := by
  refine con_flat hokH mixed Try.func16 rfl (by show 2 ≤ 400; omega) rfl (by kernel_rfl) (fun caps => ?_)
  show gbE _ _ ps.length (caps 500) (vp ps) m lo hi l.length (caps 501) (vi l) bo _
  rw [gbE_text]
  simp only [vp_whole, vi_whole, bc_t (v2le ps), bc_t (v1le l), eq_self, true_and, and_true]
  refine ⟨_, ⟨conRE ps hp m lo hi⟩, bc_bne (fun h => ?_) (fun h => ⟨_, ⟨conSE l hl bo⟩, ?_⟩)⟩
  · show _ = _; rw [both, if_pos h]
  · show _ = _; rw [both, if_neg (by omega)]
theorem conbE1 (ps : List Pt) (hp : ps.length < 1000000000) (m lo hi bo : Int) : C5 16 [dRu ps m lo hi, dSn bo] [dI (both (rulE ps m lo hi) 10)] := by
  refine con_flat hokH mixed Try.func16 rfl (by show 1 ≤ 400; omega) rfl (by kernel_rfl) (fun caps => ?_)
  show gbE1 _ _ ps.length (caps 500) (vp ps) m lo hi bo _
  rw [gbE1_text]
  simp only [vp_whole, bc_t (v2le ps), eq_self, true_and, and_true]
  refine ⟨_, ⟨conRE ps hp m lo hi⟩, bc_bne (fun h => ?_) (fun h => ⟨_, ⟨conSEn bo⟩, ?_⟩)⟩
  · show _ = _; rw [both, if_pos h]
  · show _ = _; rw [both, if_neg (by omega)]
theorem conbE2 (m lo hi : Int) (l : List Int) (bo : Int) : C5 16 [dRn m lo hi, dSl l bo] [dI 10] := by
  refine con_flat hokH mixed Try.func16 rfl (by show 1 ≤ 400; omega) rfl (by kernel_rfl) (fun caps => ?_)
  show gbE2 _ _ m lo hi l.length (caps 500) (vi l) bo _
  rw [gbE2_text]
  try simp only [eq_self, true_and, and_true]
  exact ⟨_, ⟨conREn m lo hi⟩, bc_true (by simp) rfl⟩
theorem conbE3 (m lo hi bo : Int) : C5 16 [dRn m lo hi, dSn bo] [dI 10] := by
  refine con_flat hokH mixed Try.func16 rfl (by show 0 ≤ 400; omega) rfl (by kernel_rfl) (fun caps => ?_)
  show gbE3 _ _ m lo hi bo _
  rw [gbE3_text]
  try simp only [eq_self, true_and, and_true]
  exact ⟨_, ⟨conREn m lo hi⟩, bc_true (by simp) rfl⟩
/-! ### copies -/
theorem conYr (ps : List Pt) (hl : ps.length ≤ 1000000) (m lo hi : Int) : C5 8 [dRu ps m lo hi] [dRu ps m lo hi] := by
  refine con_flat hokE mixed Try.func8 rfl (by show 1 ≤ 400; omega) rfl (by kernel_rfl) (fun caps => ?_)
  show gYr _ _ ps.length (caps 500) (vp ps) m lo hi _
  rw [gYr_text]
  try simp only [eq_self, true_and, and_true]
  refine bc_yes (by simp) (bc_beq (fun h0 => ?_) (fun h0 => bc_yes (by omega) (bc_yes (by omega) (bc_yes (by omega) ⟨by simp, ?_⟩))))
  · obtain rfl : ps = [] := List.length_eq_zero_iff.1 h0
    rfl
  · rw [vp_whole, Nat.zero_add, List.nil_append]
theorem conYrn (m lo hi : Int) : C5 8 [dRn m lo hi] [dRu [] m lo hi] := by
  refine con_flat hokE mixed Try.func8 rfl (by show 0 ≤ 400; omega) rfl (by kernel_rfl) (fun caps => ?_)
  show gYrn _ _ m lo hi _
  rw [gYrn_text]
  exact ⟨⟨rfl, rfl⟩, rfl⟩
theorem conYs (l : List Int) (hl : l.length ≤ 1000000) (bo : Int) : C5 9 [dSl l bo] [dSl l bo] := by
  refine con_flat hokE mixed Try.func9 rfl (by show 1 ≤ 400; omega) rfl (by kernel_rfl) (fun caps => ?_)
  show gYs _ _ l.length (caps 500) (vi l) bo _
  rw [gYs_text]
  try simp only [eq_self, true_and, and_true]
  refine bc_yes (by simp) (bc_beq (fun h0 => ?_) (fun h0 => bc_yes (by omega) (bc_yes (by omega) (bc_yes (by omega) ⟨by simp, ?_⟩))))
  · obtain rfl : l = [] := List.length_eq_zero_iff.1 h0
    rfl
  · rw [vi_whole, Nat.zero_add, List.nil_append]
theorem conYsn (bo : Int) : C5 9 [dSn bo] [dSl [] bo] := by
  refine con_flat hokE mixed Try.func9 rfl (by show 0 ≤ 400; omega) rfl (by kernel_rfl) (fun caps => ?_)
  show gYsn _ _ bo _
  rw [gYsn_text]
  simp only [eq_self, true_and, and_true]
  all_goals rfl
end Go.Proofs.G5h

/- awake of chapter 2, for every tape. -/
namespace Go.Proofs.G5h
open Go Go.Abs Go.Proofs
set_option maxRecDepth 100000
theorem tab0_ok : TabOK Try.prog (fun _ => none) := fun _ _ h => by cases h
theorem runA : ∀ caps, runOK Try.prog (fun _ => none) 1000 5 [] [.val (.bool true)] caps = true := by intro caps; kernel_rfl
theorem conA : C5 5 [] [.val (.bool true)] := con_run tab0_ok mixed (by show 0 ≤ 400; omega) runA
end Go.Proofs.G5h

/- Short names for what stands often in printed texts of laws. -/
namespace Go.Abs
abbrev Tk (n k : Nat) (l : List Value) : List Value := List.take (n * k) (List.drop 0 l)
abbrev Dw (n k : Nat) (l : List Value) : D := .sl n k (Tk n k l)
abbrev dL (n k : Nat) (l : List Value) : Bool := decide (0 + n * k ≤ List.length l)
abbrev kT : List D := [.val (.bool true)]
abbrev kF : List D := [.val (.bool false)]
abbrev Qu : Prop := Value.tuple [].toArray = Value.tuple [].toArray
abbrev Qf : Prop := Value.bool false = Value.bool false
abbrev Qb : Prop := Value.bool true = Value.bool true
abbrev Qft : Prop := Value.bool false = Value.bool true
abbrev Qtf : Prop := Value.bool true = Value.bool false
end Go.Abs
