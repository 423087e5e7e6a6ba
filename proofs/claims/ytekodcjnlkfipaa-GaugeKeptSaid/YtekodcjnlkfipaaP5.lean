/- Texts of the proof, put together: GbR, AbsIns, GbE. -/
import Derived.Test.YtekodcjnlkfipaaP4
import Derived.Laws.IdiomCopy
/- Chapter 5: after how many ticks a monitor rests, in data. -/
namespace Go.Proofs.G5b
open Go Go.Abs Go.Proofs Go.Proofs.G5
set_option maxRecDepth 100000
/-- after how many ticks: what is returned -/
def reP (D nu de ba x : Int) : Int × Int := if ¬ ((-10000 : Int) ≤ x ∧ x ≤ 10000) then (0, 2) else restV D.toNat (tk nu de ba) x
def raP (D nu de ba x : Int) : Int × Int := if mE D nu de ba ≠ 0 then (0, mE D nu de ba) else reP D nu de ba x
theorem outs_bd {D : Nat} {f : Int → Int} : ∀ {l done : List Int} {c : Int} {r : List Int}, Bd done → outs D f done c l = some r → Bd r ∧ r.length = done.length + l.length
  | [], done, c, r, hb, h => by
    simp only [outs, Option.some.injEq] at h; subst h; exact ⟨hb, by simp⟩
  | d :: l, done, c, r, hb, h => by
    rw [outs] at h
    split at h
    · rename_i hin
      obtain ⟨h1, h2⟩ := outs_bd (bd_snoc hb hin) h
      refine ⟨h1, ?_⟩
      simp at h2 ⊢; omega
    · cases h
theorem restGo_drop {D : Int} {f : Int → Int} {q t : Int} {l : List Int} {i : Nat} (h : i < l.length) : restGo D f q t (l.drop i) = if (if f l[i] ≠ 0 then 0 else q + 1) > D then (t, 0) else restGo D f (if f l[i] ≠ 0 then 0 else q + 1) (t + 1) (l.drop (i + 1)) := by
  rw [List.drop_eq_getElem_cons h]; rfl
theorem conRA (D nu de ba x : Int) : C5 31 [.agg [dI D, dI nu, dI de, dI ba], dI x] [dI (raP D nu de ba x).1, dI (raP D nu de ba x).2] := by
  let ok : Prop := VM D nu de ba ∧ ((-10000 : Int) ≤ x ∧ x ≤ 10000)
  let inv : List Int × Nat × Int → Prop := fun y => ok ∧ Bd y.1 ∧ y.1.length < 1000 ∧ y.2.1 ≤ y.1.length ∧ (0 ≤ y.2.2 ∧ y.2.2 ≤ 10 + y.2.1) ∧ raP D nu de ba x = restGo D (tk nu de ba) y.2.2 y.2.1 (y.1.drop y.2.1)
  let st : List Int × Nat × Int → Slots × Blocks := fun y => (sRA D (.slice (some ⟨1002, 0, none⟩) y.1.length y.1.length) y.1.length y.2.2 y.2.1, [oN D nu de ba, (1001, .cells [vI D, vI nu, vI de, vI ba] 112 false 4), (1002, .sym (vi y.1) true 1)])
  refine con_of (L := fun _ s b => ∃ x, inv x ∧ st x = (s, b)) hok mixed Try.func31 rfl (by show 0 ≤ 400; omega) rfl (ids := [0]) (by kernel_rfl) rfl (fun caps => ?_) (fun id hid => ?_)
  · show gRA _ _ D nu de ba x _
    rw [gRA_text]
    simp only [eq_self, true_and, and_true]
    refine ⟨_, ⟨conCM D nu de ba⟩, ?_⟩
    refine bc_bne (fun h => ?_) (fun h => ?_)
    · refine ⟨_, wit_rng, _, ⟨conFE [mE D nu de ba, rngE (-10000) 10000 2 x] (by simp)⟩, ?_⟩
      have e : fst0 [mE D nu de ba, rngE (-10000) 10000 2 x] = mE D nu de ba := by rw [fst0, if_neg h]
      rw [e]
      refine bc_bne (fun _ => ?_) (fun h0 => absurd h0 h)
      show _ = _
      rw [raP, if_pos h]
    · have hm := mE_ok.1 h
      have hD := hm.dl
      refine ⟨_, wit_rng, _, ⟨conFE [0, rngE (-10000) 10000 2 x] (by simp)⟩, ?_⟩
      have e : fst0 [0, rngE (-10000) 10000 2 x] = rngE (-10000) 10000 2 x := by
        rw [fst0, if_pos rfl, fst0]; split
        · rename_i h0; rw [h0]; rfl
        · rfl
      rw [e]
      have hra : raP D nu de ba x = reP D nu de ba x := by rw [raP, if_neg (by omega)]
      refine bc_bne (fun h0 => ?_) (fun h0 => ?_)
      · have hn : ¬ ((-10000 : Int) ≤ x ∧ x ≤ 10000) := fun hin => h0 ((rngE0 (by decide)).2 hin)
        show _ = _
        rw [hra, reP, if_pos hn, rngE_no hn]
      · have hin := (rngE0 (by decide)).1 h0
        rw [reP, if_neg (by omega)] at hra
        refine .inr ⟨501, vi (List.replicate 501 x), ⟨conRe x⟩, bc_yes (by simp) ?_⟩
        obtain ⟨n, rfl⟩ : ∃ n : Nat, D = n := ⟨D.toNat, by omega⟩
        have c := conOu n hm (List.replicate 501 x) (by simp) (fun z hz => by rw [(List.mem_replicate.1 hz).2]; omega)
        have e1 : List.take (501 * 1) (List.drop 0 (vi (List.replicate 501 x))) = vi (List.replicate 501 x) := by
          rw [List.drop_zero, List.take_of_length_le (by simp)]
        rw [e1]
        rw [List.length_replicate] at c
        rw [Int.toNat_natCast, restV] at hra
        cases ho : outs n (tk nu de ba) [] 0 (List.replicate 501 x) with
        | none =>
          rw [ho] at c hra
          refine .inl ⟨22, ⟨c⟩, bc_bne (fun _ => ?_) (fun h0 => absurd h0 (by decide))⟩
          show _ = _
          rw [hra]
        | some r =>
          rw [ho] at c hra
          obtain ⟨hb, hl⟩ := outs_bd (by intro z hz; cases hz) ho
          have hl : r.length = 501 := by simpa using hl
          have hne : r ≠ [] := by intro h0; rw [h0] at hl; simp at hl
          rw [ouD, dN_ne hne] at c
          refine .inr ⟨r.length, vi r, 0, ⟨c⟩, bc_bne (fun h0 => absurd rfl h0) (fun _ => ?_)⟩
          exact ⟨(r, 0, n), ⟨⟨hm, hin⟩, hb, by show r.length < 1000; omega, Nat.zero_le _, by show 0 ≤ (n : Int) ∧ (n : Int) ≤ 10 + ((0 : Nat) : Int); omega, hra⟩, rfl⟩
  · obtain rfl := List.mem_singleton.1 hid
    refine ⟨List Int × Nat × Int, st, inv, fun y => y.1.length - y.2.1, ⟨fun s b h => h, by kernel_rfl, ?_⟩⟩
    rintro ⟨r, i, q⟩ ⟨⟨hm, hin⟩, hb, hlen, hi, hq, hr⟩
    simp only at hb hlen hi hq hr
    have hD := hm.dl
    show rRA _ _ D nu de ba r.length q (i : Int) (vi r) _ _ _
    rw [rRA_text]
    refine bc_dec (fun h => ?_) (fun h => ?_)
    · have h1 : i < r.length := by omega
      rw [restGo_drop h1] at hr
      simp only [bc_t h, bc_t (show (0 : Int) ≤ (i : Int) by omega), Int.toNat_natCast, at1 (vi_at r i h1)]
      refine ⟨_, ⟨conTk hm (hb _ (List.getElem_mem h1))⟩, ?_⟩
      rw [w64 (z := q + 1) (by omega) (by omega), w64 (z := (i : Int) + 1) (by omega) (by omega)]
      refine bc_bne (fun hk => ?_) (fun hk => ?_)
      · have e : (if tk nu de ba r[i] ≠ 0 then 0 else q + 1) = 0 := if_pos hk
        rw [e] at hr
        refine bc_no (by omega) ?_
        rw [if_neg (by omega)] at hr
        exact ⟨(r, i + 1, 0), ⟨⟨hm, hin⟩, hb, hlen, h1, by show 0 ≤ (0 : Int) ∧ (0 : Int) ≤ 10 + ((i + 1 : Nat) : Int); omega, hr⟩, by show r.length - (i + 1) < r.length - i; omega, rfl⟩
      · have e : (if tk nu de ba r[i] ≠ 0 then 0 else q + 1) = q + 1 := if_neg (fun h' => h' hk)
        rw [e] at hr
        refine bc_dec (fun hg => ?_) (fun hg => ?_)
        · rw [if_pos hg] at hr
          show _ = _
          rw [hr]
        · rw [if_neg hg] at hr
          exact ⟨(r, i + 1, q + 1), ⟨⟨hm, hin⟩, hb, hlen, h1, by show 0 ≤ q + 1 ∧ q + 1 ≤ 10 + ((i + 1 : Nat) : Int); omega, hr⟩, by show r.length - (i + 1) < r.length - i; omega, rfl⟩
    · show (if 0 = 0 then _ else _)
      rw [if_pos rfl]
      show nRA _ _ D nu de ba _
      rw [nRA_text]
      have : i = r.length := by omega
      rw [this, List.drop_length] at hr
      show _ = _
      rw [hr]; rfl
end Go.Proofs.G5b

/- slices.Insert at 0, where there is room: the handler is right where the function does so in memory. -/
namespace Go.Abs
open Go.RowKit
variable {P : Program} {w0 : Start} {ρ : Ren} {w : World} {H : Heap}
/-- what the function does in memory -/
def InsWalk (P : Program) (f : FuncId) : Prop :=
  ∀ (b off n c vb voff vc : Nat) (cs : List Value) (x : Value) (w : World), 0 < n → n + 1 ≤ 9223372036854775807 → n + 1 ≤ c → vb ≠ b → cs.length = n →
    (∀ j v, cs[j]? = some v → w.cell? ⟨b, off + j, none⟩ = some v) → (∀ j, j < n + 1 → (w.cell? ⟨b, off + j, none⟩).isSome = true) → (∀ j, j < n + 1 → w.frozen? ⟨b, off + j, none⟩ = false) →
    w.cell? ⟨vb, voff, none⟩ = some x → (∀ v ∈ cs, v.oneCell' = true) → x.oneCell' = true →
    ∀ (tA tB : TypeId) (kA kB : Nat), w.shape? vb = some (tA, kA) → w.shape? b = some (tB, kB) → kB ≠ 0 → w.frozen? ⟨vb, voff, none⟩ = false → w.frozen? ⟨vb, kA, none⟩ = false →
    Calls P f #[.slice (some ⟨b, off, none⟩) n c, .int .i64 0, .slice (some ⟨vb, voff, none⟩) 1 vc] w fun e w' =>
      e = .returned (.slice (some ⟨b, off, none⟩) (n + 1) c) ∧ w' = (w.drew.setCells b (off + 1) cs).setCells b off [x]
theorem cellP_one {v : Value} (h : cellP v = true) : v.oneCell' = true := by
  simp only [cellP, Bool.and_eq_true] at h
  have := h.2
  unfold cellOk at this
  unfold Value.oneCell'
  cases v <;> first | rfl | cases this
theorem LR.cons_inv {v : Value} {l l' : List Value} (h : LR ρ (v :: l) l') : ∃ v' r', l' = v' :: r' ∧ VR ρ v v' ∧ LR ρ l r' := by
  cases h with
  | cons h t => exact ⟨_, _, rfl, h, t⟩
theorem LR.refl_plain : ∀ {l : List Value}, (∀ v ∈ l, cellP v = true) → LR ρ l l
  | [], _ => .nil
  | v :: _, h => .cons (plain_refl ρ 8 v (cellP_plain (h v (List.mem_cons_self ..)))) (LR.refl_plain (fun x hx => h x (List.mem_cons_of_mem _ hx)))
/-- a row of cells written, as the library says it -/
theorem Gam.setCells (P : Program) (g : Gam w0 ρ H w) {i k es : Nat} {m : Meta} {cs vs : List Value} (hm : ρ i = some m) (hg : H.get i = some (.sym cs true es)) (hi : mbase ≤ i) (hle : k + vs.length ≤ cs.length) (hp : ∀ v ∈ vs, cellP v = true) :
    Gam w0 ρ (H.set i (.sym (listSet cs k vs) true es)) (w.setCells m.b (m.o + k) vs) ∧ Ext ρ ρ H (H.set i (.sym (listSet cs k vs) true es)) := by
  have hobj := g.obj i m _ hm hg
  obtain ⟨⟨e1, e2, e3, c, ty, fz, ⟨hb, hfz⟩, hsz, hlr⟩, hps⟩ := hobj
  obtain rfl := hfz rfl
  have g1 : Gam w0 ρ (H.set i (.cells cs 0 true es)) w := g.recast hg rfl (fun m' _ r => obj_cells r)
  have hgetb : (H.set i (.cells cs 0 true es)).get i = some (.cells cs 0 true es) := by rw [Heap.get_set, if_pos rfl]
  have hw : (H.set i (.cells cs 0 true es)).write i k vs = some ((H.set i (.cells cs 0 true es)).set i (.cells (listSet cs k vs) 0 true es)) := by
    unfold Heap.write
    rw [hgetb]
    simp only
    rw [if_pos (by simp [hle, hi, all_cellOk hp])]
  have hlrv : LR ρ vs vs := LR.refl_plain hp
  obtain ⟨w', hst, g2, ext⟩ := g1.write (P := P) hm hlrv hw
  have hmw := m.hw
  have hrun := run_storeCells_cells (P := P) m.b (m.o + k) vs 0 w (fun j hj => by
    have hlt : m.o + k + 0 + j < c.size := by omega
    simp only [World.cell?, hb, Option.isSome_none, Bool.false_eq_true, if_false]
    rw [Array.getElem?_eq_getElem hlt]; rfl) (fun j hj => by simp [World.frozen?, hb]) (fun v hv => cellP_one (hp v hv))
  rw [hst] at hrun
  simp only [Result.ok.injEq, true_and, Nat.add_zero] at hrun
  have hall : ∀ x ∈ listSet cs k vs, cellP x = true := by
    intro x hx
    simp only [listSet, List.mem_append] at hx
    rcases hx with (hx | hx) | hx
    · exact hps x (List.mem_of_mem_take hx)
    · exact hp x hx
    · exact hps x (List.mem_of_mem_drop hx)
  have g3 := g2.recast (i := i) (o := .cells (listSet cs k vs) 0 true es) (o' := .sym (listSet cs k vs) true es) (by rw [Heap.get_set, if_pos rfl]) rfl (fun m' _ r => obj_sym hall r)
  have hget : ∀ j, (H.set i (.sym (listSet cs k vs) true es)).get j = (((H.set i (.cells cs 0 true es)).set i (.cells (listSet cs k vs) 0 true es)).set i (.sym (listSet cs k vs) true es)).get j := by
    intro j
    simp only [Heap.get_set]
    by_cases e : j = i
    · simp [e]
    · simp [e]
  rw [hrun] at g3
  refine ⟨g3.congr hget rfl, ?_⟩
  refine ext_congr ext rfl (fun j hj => ?_) rfl (fun j _ hj => ?_)
  · have : j ≠ i := fun e => by rw [e, hm] at hj; cases hj
    rw [Heap.get_set, if_neg this]
  · have : j ≠ i := fun e => by rw [e, hm] at hj; cases hj
    simp [Heap.get_set, this]
theorem ins_ok {f : FuncId} (hins : InsWalk P f) {args : Array Value} {k : Value → Heap → Prop} (h : wpIns args H k) : CallH P f args H k := by
  intro w0 ρ w args' n0 g ha
  unfold wpIns at h
  split at h
  case h_2 => cases h
  rename_i b n cap z vb vcap hargs
  split at h
  case h_2 => cases h
  rename_i cs x ty es hgb hgv
  split at h
  case isFalse => cases h
  rename_i hc
  obtain ⟨rfl, hib, hne, hn, hroom, hcap, hcl, hx⟩ := hc
  rw [hargs] at ha
  obtain ⟨s', t1, e1, h1, r1⟩ := LR.cons_inv ha
  obtain ⟨z', t2, e2, h2, r2⟩ := LR.cons_inv r1
  obtain ⟨v', t3, e3, h3, r3⟩ := LR.cons_inv r2
  cases r3
  subst e3
  subst e2
  obtain rfl : z' = .int .i64 0 := by cases h2; rfl
  obtain ⟨m, hm, off, capC, rfl, hcc, _, hx2⟩ := slice_inv h1
  obtain ⟨mv, hmv, offv, capv, rfl, _, hv1, _⟩ := slice_inv h3
  obtain ⟨⟨o1, o2, o3, c, ty', fz, ⟨hb, hfz⟩, hsz, hlr⟩, hps⟩ := g.obj b m _ hm hgb
  obtain rfl := hfz rfl
  obtain ⟨q1, q2, q3, c2, ty2, hb2, hsz2, hlr2⟩ := g.obj vb mv _ hmv hgv
  have hopen : m.isOpen 0 cap = true := by simp [Meta.isOpen, o2, o3, o1, hcl]
  have hoff : off = m.o + 0 ∧ off + capC * m.es ≤ m.size := by
    rcases hx2 hopen with h | h
    · exact h
    · omega
  have hoffv : offv = mv.o := by
    have := (hv1 (by simp [Meta.isOpen, q2])).1
    omega
  obtain ⟨rfl, hroomC⟩ := hoff
  subst hoffv
  rw [o3, Nat.mul_one] at hroomC
  have hbne : mv.b ≠ m.b := fun e => hne (g.inj b vb m mv hib ⟨_, hgb, rfl⟩ ⟨_, hgv, rfl⟩ hm hmv e.symm)
  have hvb := mv.hw
  have q1' : mv.known = 1 := q1
  have ecs := hlr.eq_of_plain hps
  have ex := hlr2.eq_of_plain (by intro v hv; rw [List.mem_singleton.1 hv]; exact hx)
  have hcell : ∀ j v, cs[j]? = some v → w.cell? ⟨m.b, m.o + 0 + j, none⟩ = some v := by
    intro j v hj
    have hjl : j < cs.length := (List.getElem?_eq_some_iff.1 hj).1
    rw [← ecs, List.getElem?_take, if_pos hjl, List.getElem?_drop, Array.getElem?_toList] at hj
    simpa [World.cell?, hb] using hj
  have hcellx : w.cell? ⟨mv.b, mv.o, none⟩ = some x := by
    have : ((c2.toList.drop mv.o).take 1)[0]? = some x := by rw [show List.take 1 (List.drop mv.o c2.toList) = [x] from ex]; rfl
    rw [List.getElem?_take, if_pos (by omega), List.getElem?_drop, Array.getElem?_toList] at this
    simpa [World.cell?, hb2] using this
  have harr : args' = #[.slice (some ⟨m.b, m.o + 0, none⟩) n capC, .int .i64 0, .slice (some ⟨mv.b, mv.o, none⟩) 1 capv] := by
    apply Array.ext'
    exact e1
  rw [harr]
  have hpt : ∀ v ∈ cs.take n, cellP v = true := fun v hv => hps v (List.mem_of_mem_take hv)
  refine callsIn_wide.2 ((hins m.b (m.o + 0) n capC mv.b mv.o capv (cs.take n) x w hn (by omega) (by omega) hbne (by rw [List.length_take]; omega)
    (fun j v hj => hcell j v (by rw [List.getElem?_take] at hj; split at hj; exact hj; cases hj))
    (fun j hj => by
      have hlt : m.o + 0 + j < c.size := by omega
      simp only [World.cell?, hb, Option.isSome_none, Bool.false_eq_true, if_false]
      rw [Array.getElem?_eq_getElem hlt]; rfl)
    (fun j hj => by simp [World.frozen?, hb]) hcellx (fun v hv => cellP_one (hpt v hv)) (cellP_one hx) ty2 ty' c2.size c.size (by simp [World.shape?, hb2]) (by simp [World.shape?, hb]) (by omega) (by simp [World.frozen?, hb2]) (by simp [World.frozen?, hb2])).mono ?_)
  rintro e w' ⟨rfl, rfl⟩
  have g0 : Gam w0 ρ H w.drew := g.drawn _
  obtain ⟨g1, x1⟩ := Gam.setCells P g0 (k := 1) (vs := cs.take n) hm hgb hib (by rw [List.length_take]; omega) hpt
  obtain ⟨g2, x2⟩ := Gam.setCells P g1 (k := 0) (vs := [x]) hm (by rw [Heap.get_set, if_pos rfl]) hib (by simp [listSet]; omega) (by intro v hv; rw [List.mem_singleton.1 hv]; exact hx)
  refine ⟨_, _, ρ, _, h, rfl, ?_, ?_, ?_⟩
  · exact .opened b 0 (n + 1) cap capC m hm hopen hcc (by rw [o3]; omega) hroom
  · refine g2.congr (fun j => ?_) rfl
    simp only [Heap.get_set]
    by_cases e : j = b
    · simp [e]
    · simp [e]
  · refine ext_congr (x1.trans x2) rfl (fun j _ => rfl) rfl (fun j _ hj => ?_)
    have : j ≠ b := fun e => by rw [e, hm] at hj; cases hj
    simp [Heap.get_set, this]
end Go.Abs

/- Chapter 5: the state after a tick, in data (two coefficients). -/
namespace Go.Proofs.G5b
open Go Go.Abs Go.Proofs Go.Proofs.G5
set_option maxRecDepth 100000
theorem insOK : InsWalk Try.prog 95 := fun b off n c vb voff vc cs x w h1 h2 h3 h4 h5 h6 h7 h8 h9 h10 h11 tA tB kA kB h12 h13 h14 h15 h16 => insW b off n c vb voff vc cs x w h1 h2 h3 h4 h5 h6 h7 h8 h9 h10 h11 tA tB kA kB h12 h13 h14 h15 h16
theorem preIOK : PreOK Try.prog preI := by
  intro g h he args ats H k hk
  unfold preI at he
  split at he
  · rename_i e
    obtain rfl := Option.some.inj he
    rw [beq_iff_eq] at e
    subst e
    exact ins_ok insOK hk
  · cases he
theorem hokI : HandlerOK Try.prog hI := handlerX_ok mixed preIOK (by decide) 6
theorem conAf (cs0 : List Value) (den a b d c1 c2 x : Int) : C5 88 [.agg [.sl 2 2 cs0, dI den], .agg [.sl 2 1 [vI a, vI b], dI d], .agg [.sl 2 1 [vI c1, vI c2], dI x]]
    [.agg [.sl 2 1 [vI (W6 (W6 (W6 (x * W6 (d * den)) + W6 (c1 * a)) + W6 (c2 * b))), vI (W6 (a * den))], dI (W6 (d * den))]] := by
  refine con_walk hokI mixed (u := 6) (by decide) Try.func88 rfl (by show 3 ≤ 400; omega) (fun caps => ?_)
  show gAf (caps 500) (caps 501) (caps 502) cs0 den a b d c1 c2 x _
  rw [gAf_text]
  have h1 : At [vI a, vI b] 0 1 [vI a] := ⟨by simp, rfl⟩
  have h2 : At [vI c1, vI c2] 0 1 [vI c1] := ⟨by simp, rfl⟩
  have h3 : At [vI a, vI b] 1 1 [vI b] := ⟨by simp, rfl⟩
  have h4 : At [vI c1, vI c2] 1 1 [vI c2] := ⟨by simp, rfl⟩
  exact ⟨a, h1, c1, h2, b, h3, c2, h4, ⟨rfl, rfl⟩, rfl⟩
theorem ra8 : raP 1 1 2 1 8 = (7, 0) := by kernel_rfl
theorem con12 : C5 31 [.agg [dI 1, dI 1, dI 2, dI 1], dI 8] [dI 7, dI 0] := by
  have := conRA 1 1 2 1 8
  rw [ra8] at this
  exact this
def afT : List D → Option (List D) := fun ds => match ds with
  | [.agg [.sl 2 2 _, .val (.int .i64 den)], .agg [.sl 2 1 [.int .i64 a, .int .i64 b], .val (.int .i64 d)], .agg [.sl 2 1 [.int .i64 c1, .int .i64 c2], .val (.int .i64 x)]] => some [.agg [.sl 2 1 [vI (W6 (W6 (W6 (x * W6 (d * den)) + W6 (c1 * a)) + W6 (c2 * b))), vI (W6 (a * den))], dI (W6 (d * den))]]
  | _ => none
def intsOf : List Value → Option (List Int)
  | [] => some []
  | .int .i64 n :: r => (intsOf r).map (n :: ·)
  | _ => none
theorem intsOf_ok : ∀ {cs : List Value} {l : List Int}, intsOf cs = some l → cs = vi l
  | [], l, h => by simp only [intsOf, Option.some.injEq] at h; subst h; rfl
  | v :: r, l, h => by
    unfold intsOf at h
    split at h
    · rename_i e; cases e
    · rename_i n r' e
      obtain ⟨rfl, rfl⟩ := List.cons.inj e
      obtain ⟨l', h1, rfl⟩ := Option.map_eq_some_iff.1 h
      rw [intsOf_ok h1]; rfl
    · cases h
def feT : List D → Option (List D) := fun ds => match ds with
  | [.sl n 1 cs] => (intsOf cs).bind fun l => if n = l.length ∧ n < 1000000 then some [dI (fst0 l)] else none
  | _ => none
def csT : List D → Option (List D) := fun ds => match ds with
  | [.val (.int .i64 a), .sl n 1 cs] => (intsOf cs).bind fun l => if n = l.length ∧ n < 1000000 then some [dI (sameE a l)] else none
  | _ => none
def prT : List D → Option (List D) := fun ds => match ds with
  | [.agg [.val (.int .i64 a), .val (.int .i64 b)], .agg [.val (.int .i64 c), .val (.int .i64 d)]] => some [.agg [dI (prV a b c d).1, dI (prV a b c d).2]]
  | _ => none
def ltT : List D → Option (List D) := fun ds => match ds with
  | [.val (.int .i64 n), .val (.int .i64 d)] => if -4611686018427387904 ≤ n ∧ n ≤ 4611686018427387904 ∧ -4611686018427387904 ≤ d ∧ d ≤ 4611686018427387904 ∧ d ≠ 0 then some [.agg [dI (low n d).1, dI (low n d).2]] else none
  | _ => none
def tab6 : Tab := fun f => if f = 31 then some (tabLook [([.agg [dI 1, dI 1, dI 2, dI 1], dI 8], [dI 7, dI 0])]) else if f = 88 then some afT else if f = 37 then some feT else if f = 38 then some csT else if f = 93 then some prT else if f = 73 then some ltT else none
theorem tab6_ok : TabOK Try.prog tab6 := by
  intro f t ht ds rs h
  unfold tab6 at ht
  split at ht
  · rename_i e
    subst e
    obtain rfl := Option.some.inj ht
    have := tabLook_ok h
    simp only [List.mem_cons, List.not_mem_nil, or_false, Prod.mk.injEq] at this
    obtain ⟨rfl, rfl⟩ := this
    exact con12
  split at ht
  · rename_i e
    subst e
    obtain rfl := Option.some.inj ht
    unfold afT at h
    split at h
    · obtain rfl := Option.some.inj h
      exact conAf _ _ _ _ _ _ _ _
    · cases h
  split at ht
  · rename_i e
    subst e
    obtain rfl := Option.some.inj ht
    unfold feT at h
    split at h
    · obtain ⟨l, h1, h2⟩ := Option.bind_eq_some_iff.1 h
      split at h2
      · rename_i hc
        obtain ⟨rfl, hl⟩ := hc
        obtain rfl := Option.some.inj h2
        rw [intsOf_ok h1]
        exact conFE l (by omega)
      · cases h2
    · cases h
  split at ht
  · rename_i e
    subst e
    obtain rfl := Option.some.inj ht
    unfold csT at h
    split at h
    · obtain ⟨l, h1, h2⟩ := Option.bind_eq_some_iff.1 h
      split at h2
      · rename_i hc
        obtain ⟨rfl, hl⟩ := hc
        obtain rfl := Option.some.inj h2
        rw [intsOf_ok h1]
        exact conCS _ l (by omega)
      · cases h2
    · cases h
  split at ht
  · rename_i e
    subst e
    obtain rfl := Option.some.inj ht
    unfold prT at h
    split at h
    · obtain rfl := Option.some.inj h
      exact conPr _ _ _ _
    · cases h
  split at ht
  · rename_i e
    subst e
    obtain rfl := Option.some.inj ht
    unfold ltT at h
    split at h
    · split at h
      · rename_i hc
        obtain rfl := Option.some.inj h
        exact conLT _ _ ⟨hc.1, hc.2.1⟩ ⟨hc.2.2.1, hc.2.2.2.1⟩ hc.2.2.2.2
      · cases h
    · cases h
  · cases ht
end Go.Proofs.G5b
