/- Contracts: a function whose body has been walked. -/
import Derived.Test.YtiahlinolhpecaaAbsCon2
namespace Go.Abs
open Go.RowKit
variable {P : Program} {ρ : Ren} {w0 w : World} {H : Heap}

/-! ### What a call is handed -/
/-- An assignment of places, with capacities. -/
abbrev Plc := Nat → Option (Nat × Meta)
structure Fits (w : World) (pl : Plc) (i j : Nat) (caps : Nat → Nat) (ρ : Ren) : Prop where
  all : ∀ q, i ≤ q → q < j → ∃ c m, pl q = some (c, m) ∧ caps q = c ∧ ρ q = some m
def PlcOK (w : World) (pl : Plc) (bs : Blocks) (i j : Nat) : Prop :=
  ∀ q o, (q, o) ∈ bs → i ≤ q ∧ q < j ∧ ∃ c m, pl q = some (c, m) ∧ m.b < w.heap.size ∧ ∃ cs es, o = .sym cs false es ∧ m.known = cs.length ∧ m.opn = false ∧ m.es = es ∧ (∃ a ty fz, w.heap[m.b]? = some (.cells a ty fz) ∧ a.size = m.size ∧ (a.toList.drop m.o).take cs.length = cs) ∧ ∀ v ∈ cs, cellP v = true

theorem layCells_blocks (caps caps' : Nat → Nat) : ∀ (ds : List D) (i : Nat), (layCells caps i ds).2 = (layCells caps' i ds).2
  | [], _ => rfl
  | .sl n es cs :: r, i => by simp only [layCells]; rw [layCells_blocks caps caps' r]
  | .nil :: r, i => by simp only [layCells]; rw [layCells_blocks caps caps' r]
  | .val v :: r, i => by simp only [layCells]; rw [layCells_blocks caps caps' r]
  | .agg _ :: r, i => by simp only [layCells]; rw [layCells_blocks caps caps' r]

theorem layCells_ok : ∀ (ds : List D) {vs' : List Value} (i : Nat), ReadsL w ds vs' → ∃ pl : Plc, (∀ caps, PlcOK w pl (layCells caps i ds).2 i (i + countC ds)) ∧ (∀ q, i ≤ q → q < i + countC ds → ∃ c m, pl q = some (c, m) ∧ m.b < w.heap.size) ∧
    ∀ caps ρ, Fits w pl i (i + countC ds) caps ρ → LR ρ (layCells caps i ds).1 vs'
  | [], _, i, .nil => ⟨fun _ => none, fun _ q o h => by simp [layCells] at h, fun q h1 h2 => by simp [countC] at h2; omega, fun _ _ _ => .nil⟩
  | .val v :: r, _, i, .cons h t => by
    obtain ⟨pl, h1, h2, h3⟩ := layCells_ok r i t
    cases h with
    | val _ hp => exact ⟨pl, h1, h2, fun caps ρ hf => .cons (plain_refl _ 8 _ hp) (h3 caps ρ hf)⟩
  | .nil :: r, _, i, .cons h t => by
    obtain ⟨pl, h1, h2, h3⟩ := layCells_ok r i t
    cases h with
    | nil => exact ⟨pl, h1, h2, fun caps ρ hf => .cons (.nilSlice _ _) (h3 caps ρ hf)⟩
  | .agg ds :: r, _, i, .cons h t => by
    obtain ⟨pl, h1, h2, h3⟩ := layCells_ok r i t
    exact ⟨pl, h1, h2, fun caps ρ hf => .cons (.unknown _ _) (h3 caps ρ hf)⟩
  | .sl n es cs :: r, _, i, .cons h t => by
    obtain ⟨pl, h1, h2, h3⟩ := layCells_ok r (i + 1) t
    cases h with
    | sl _ _ _ b o cap c ty fz hb hs hc hn hp =>
      have hlt : b < w.heap.size := by
        rcases Nat.lt_or_ge b w.heap.size with h | h
        · exact h
        · rw [Array.getElem?_eq_none h] at hb; cases hb
      let m : Meta := ⟨b, o, cs.length, false, es, c.size, hs⟩
      refine ⟨fun q => if q = i then some (cap, m) else pl q, ?_, ?_, ?_⟩
      · intro caps q ob hq
        simp only [layCells, List.mem_cons, Prod.mk.injEq] at hq
        simp only [countC]
        rcases hq with ⟨rfl, rfl⟩ | hq
        · exact ⟨Nat.le_refl _, by omega, cap, m, by simp, hlt, cs, es, rfl, rfl, rfl, rfl, ⟨c, ty, fz, hb, rfl, hc⟩, hp⟩
        · obtain ⟨q1, q2, c', m', q3, q4⟩ := h1 caps q ob hq
          have : q ≠ i := by omega
          exact ⟨by omega, by omega, c', m', by simp only [this, if_false]; exact q3, q4⟩
      · intro q q1 q2
        simp only [countC] at q2
        by_cases e : q = i
        · exact ⟨cap, m, by simp only [e, if_true], hlt⟩
        · obtain ⟨c', m', hx, hb'⟩ := h2 q (by omega) (by omega)
          exact ⟨c', m', by simp only [e, if_false]; exact hx, hb'⟩
      · intro caps ρ hf
        have hf2 : Fits w pl (i + 1) (i + 1 + countC r) caps ρ := ⟨fun q q1 q2 => by
          obtain ⟨c', m', a1, a2, a3⟩ := hf.all q (by omega) (by simp only [countC]; omega)
          have : q ≠ i := by omega
          simp only [this, if_false] at a1
          exact ⟨c', m', a1, a2, a3⟩⟩
        obtain ⟨c', m', a1, a2, a3⟩ := hf.all i (Nat.le_refl _) (by simp only [countC]; omega)
        simp only [if_true, Option.some.injEq, Prod.mk.injEq] at a1
        obtain ⟨rfl, rfl⟩ := a1
        refine .cons ?_ (h3 caps ρ hf2)
        have := VR.slice (ρ := ρ) i 0 n (caps i) m a3 (by simp [Meta.isOpen, m])
        simp only [m, Nat.add_zero] at this
        rw [← a2]
        simpa [m] using this

theorem layVals_ok : ∀ (ds : List D) {vs' : List Value} (i : Nat), ReadsL w ds vs' → ∃ pl : Plc, (∀ caps, PlcOK w pl (layVals caps i ds).2 i (i + countV ds)) ∧ (∀ q, i ≤ q → q < i + countV ds → ∃ c m, pl q = some (c, m) ∧ m.b < w.heap.size) ∧
    ∀ caps ρ, Fits w pl i (i + countV ds) caps ρ → LR ρ (layVals caps i ds).1 vs' := by
  have comb : ∀ {a c : Nat} {pl pl2 : Plc} {i : Nat} {bs bs2 : Blocks}, PlcOK w pl bs i (i + a) → PlcOK w pl2 bs2 (i + a) (i + a + c) → PlcOK w (fun q => if q < i + a then pl q else pl2 q) (bs ++ bs2) i (i + (a + c)) := by
    intro a c pl pl2 i bs bs2 h1 h2 q o hq
    rcases List.mem_append.1 hq with hq | hq
    · obtain ⟨q1, q2, c', m', q3, q4⟩ := h1 q o hq
      exact ⟨q1, by omega, c', m', by simp only [q2, if_true]; exact q3, q4⟩
    · obtain ⟨q1, q2, c', m', q3, q4⟩ := h2 q o hq
      have hn : ¬ q < i + a := by omega
      refine ⟨by omega, by omega, c', m', ?_, q4⟩
      simp only [hn, if_false]
      exact q3
  have combE : ∀ {a c : Nat} {pl pl2 : Plc} {i : Nat}, (∀ q, i ≤ q → q < i + a → ∃ c m, pl q = some (c, m) ∧ m.b < w.heap.size) → (∀ q, i + a ≤ q → q < i + a + c → ∃ c m, pl2 q = some (c, m) ∧ m.b < w.heap.size) → ∀ q, i ≤ q → q < i + (a + c) → ∃ c m, (fun q => if q < i + a then pl q else pl2 q) q = some (c, m) ∧ m.b < w.heap.size := by
    intro a c pl pl2 i h1 h2 q q1 q2
    by_cases e : q < i + a
    · simp only [e, if_true]; exact h1 q q1 e
    · simp only [e, if_false]; exact h2 q (by omega) (by omega)
  have fitL : ∀ {a c : Nat} {pl pl2 : Plc} {i : Nat} {caps : Nat → Nat} {ρ : Ren}, Fits w (fun q => if q < i + a then pl q else pl2 q) i (i + (a + c)) caps ρ → Fits w pl i (i + a) caps ρ := by
    intro a c pl pl2 i caps ρ hf
    exact ⟨fun q q1 q2 => by
      obtain ⟨c', m', a1, a2, a3⟩ := hf.all q q1 (by omega)
      simp only [q2, if_true] at a1
      exact ⟨c', m', a1, a2, a3⟩⟩
  have fitR : ∀ {a c : Nat} {pl pl2 : Plc} {i : Nat} {caps : Nat → Nat} {ρ : Ren}, Fits w (fun q => if q < i + a then pl q else pl2 q) i (i + (a + c)) caps ρ → Fits w pl2 (i + a) (i + a + c) caps ρ := by
    intro a c pl pl2 i caps ρ hf
    exact ⟨fun q q1 q2 => by
      obtain ⟨c', m', a1, a2, a3⟩ := hf.all q (by omega) (by omega)
      have hn : ¬ q < i + a := by omega
      simp only [hn, if_false] at a1
      exact ⟨c', m', a1, a2, a3⟩⟩
  intro ds
  induction ds with
  | nil =>
    intro vs' i h
    cases h
    exact ⟨fun _ => none, fun _ q o h => by simp [layVals] at h, fun q h1 h2 => by simp [countV] at h2; omega, fun _ _ _ => .nil⟩
  | cons d r ih =>
    intro vs' i h
    cases h with
    | @cons _ _ _ vs0 h t =>
      have one : ∀ d, (∀ ds, d ≠ .agg ds) → ∀ {v' : Value}, Reads w d v' → ∃ pl : Plc, (∀ caps, PlcOK w pl (layVals caps i (d :: r)).2 i (i + countV (d :: r))) ∧ (∀ q, i ≤ q → q < i + countV (d :: r) → ∃ c m, pl q = some (c, m) ∧ m.b < w.heap.size) ∧
          ∀ caps ρ, Fits w pl i (i + countV (d :: r)) caps ρ → LR ρ (layVals caps i (d :: r)).1 (v' :: vs0) := by
        intro d hd v' h
        obtain ⟨pl, h1, h2, h3⟩ := layCells_ok [d] i (.cons h .nil)
        obtain ⟨pl2, k1, k2, k3⟩ := ih (i + countC [d]) t
        have e1 : ∀ caps, layVals caps i (d :: r) = ((layCells caps i [d]).1 ++ (layVals caps (i + countC [d]) r).1, (layCells caps i [d]).2 ++ (layVals caps (i + countC [d]) r).2) := by
          intro caps; cases d <;> first | rfl | exact absurd rfl (hd _)
        have e2 : countV (d :: r) = countC [d] + countV r := by cases d <;> first | rfl | exact absurd rfl (hd _)
        refine ⟨fun q => if q < i + countC [d] then pl q else pl2 q, ?_, ?_, ?_⟩
        · intro caps; rw [e1, e2]; exact comb (h1 caps) (k1 caps)
        · rw [e2]; exact combE h2 k2
        · intro caps ρ hf
          rw [e2] at hf
          rw [e1]
          exact (h3 caps ρ (fitL hf)).append (k3 caps ρ (fitR hf))
      cases h with
      | val _ hp => exact one _ (fun ds e => by cases e) (.val _ hp)
      | nil => exact one _ (fun ds e => by cases e) .nil
      | sl n es cs b o cap c ty fz hb hs hc hn hp => exact one _ (fun ds e => by cases e) (.sl n es cs b o cap c ty fz hb hs hc hn hp)
      | agg ds vs h =>
        obtain ⟨pl, h1, h2, h3⟩ := layCells_ok ds i h
        obtain ⟨pl2, k1, k2, k3⟩ := ih (i + countC ds) t
        refine ⟨fun q => if q < i + countC ds then pl q else pl2 q, fun caps => comb (h1 caps) (k1 caps), combE h2 k2, fun caps ρ hf => ?_⟩
        simp only [layVals]
        exact .cons (VR.agg' (by simpa using h3 caps ρ (fitL hf))) (k3 caps ρ (fitR hf))

theorem lay_gam {ds : List D} {vs' : List Value} (h : ReadsL w ds vs') (hc : countV ds ≤ 500) : ∃ caps ρ, Gam w ρ (heapOf (layVals caps 500 ds).2) w ∧ LR ρ (layVals caps 500 ds).1 vs' := by
  obtain ⟨pl, h1, h2, h3⟩ := layVals_ok ds 500 h
  let caps : Nat → Nat := fun q => ((pl q).map (·.1)).getD 0
  let ρ : Ren := fun q => if 500 ≤ q ∧ q < 500 + countV ds then (pl q).map (·.2) else none
  have hρ : ∀ q m, ρ q = some m → 500 ≤ q ∧ q < 500 + countV ds ∧ m.b < w.heap.size ∧ ∃ c, pl q = some (c, m) := by
    intro q m hm
    simp only [ρ] at hm
    split at hm
    · rename_i hq
      obtain ⟨⟨c, m'⟩, hx, e⟩ := Option.map_eq_some_iff.1 hm
      cases e
      obtain ⟨c2, m2, hx2, hb⟩ := h2 q hq.1 hq.2
      rw [hx] at hx2; cases hx2
      exact ⟨hq.1, hq.2, hb, c, hx⟩
    · cases hm
  have hbl := h1 caps
  refine ⟨caps, ρ, ⟨Nat.le_add_right _ _, ?_, .refl _ _, ?_, ?_, ?_, ?_, ?_⟩, h3 caps ρ ⟨fun q q1 q2 => ?_⟩⟩
  · intro i hi
    cases hr : ρ i with
    | none => rfl
    | some m =>
      have := hρ i m hr
      have h5 : gbase ≤ i := Nat.le_trans (Nat.le_add_right _ _) hi
      unfold gbase at h5; omega
  · intro i m hm
    have := hρ i m hm
    exact ⟨this.2.2.1, fun h => by unfold gbase at h; omega, fun _ => this.2.2.1⟩
  · intro i m hm hi
    have := hρ i m hm
    unfold abase at hi; omega
  · intro i j mi mj hgi hi hj ei ej
    have := hρ i mi ei
    unfold gbase at hgi; omega
  · intro q m o hm ho
    obtain ⟨_, _, c', m', hx, hb, cs, es, rfl, r1, r2, r3, ⟨a, ty, fz, r4, r5, r6⟩, r7⟩ := hbl q o (heapOf_get ho)
    obtain ⟨_, _, _, c, hx2⟩ := hρ q m hm
    rw [hx] at hx2
    cases hx2
    refine ⟨⟨r1, r2, r3, a, ty, fz, ⟨r4, fun h => by cases h⟩, r5, ?_⟩, r7⟩
    rw [r6]
    exact LR.plain (fun v => plain_refl _ 8 v) cs (List.all_eq_true.2 (fun v hv => cellP_plain (r7 v hv)))
  · intro i hi hn
    cases ho : (heapOf (layVals caps 500 ds).2).get i with
    | none => exact absurd ho hn
    | some o =>
      have := (hbl i o (heapOf_get ho)).1
      unfold abase at hi; omega
  · obtain ⟨c, m, hx, _⟩ := h2 q q1 q2
    exact ⟨c, m, hx, by simp [caps, hx], by simp [ρ, q1, q2, hx]⟩
end Go.Abs
