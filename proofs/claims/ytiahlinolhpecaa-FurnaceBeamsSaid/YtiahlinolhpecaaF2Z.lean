/- The zones of a beam: what follows of them. -/
import Derived.Test.YtiahlinolhpecaaF2C2
namespace Go.Proofs
open Go Go.Abs
def tot : List Int → Int
  | [] => 0
  | p :: r => p + tot r
theorem tot_nonneg : ∀ {ps : List Int}, (∀ p ∈ ps, 1 ≤ p) → 0 ≤ tot ps
  | [], _ => by simp [tot]
  | p :: r, h => by
    have h1 := h p (List.mem_cons_self ..)
    have h2 := tot_nonneg (fun q hq => h q (List.mem_cons_of_mem _ hq))
    show 0 ≤ p + tot r
    omega
theorem tot_pos {ps : List Int} (h : ∀ p ∈ ps, 1 ≤ p) (hs : 0 < ps.length) : 1 ≤ tot ps := by
  cases ps with
  | nil => simp at hs
  | cons p r =>
    have h1 := h p (List.mem_cons_self ..)
    have h2 := tot_nonneg (fun q hq => h q (List.mem_cons_of_mem _ hq))
    show 1 ≤ p + tot r
    omega
theorem before_tot (beat : Int) : ∀ (ps : List Int) (c : Int), before beat ps c = c - tot ps * beat
  | [], c => by simp [before, tot]
  | p :: r, c => by
    rw [before, before_tot beat r]
    show _ = c - (p + tot r) * beat
    rw [Int.add_mul]
    omega
/-- past all positions -/
theorem zone_out : ∀ {ps : List Int} {pos i : Int}, (∀ p ∈ ps, 1 ≤ p) → tot ps ≤ pos → zone ps pos i = [dI 0, dI 12]
  | [], _, _, _, _ => rfl
  | p :: r, pos, i, h, hp => by
    have h2 := tot_nonneg (fun q hq => h q (List.mem_cons_of_mem _ hq))
    have hp : p + tot r ≤ pos := hp
    rw [zone, if_neg (by omega)]
    exact zone_out (fun q hq => h q (List.mem_cons_of_mem _ hq)) (by omega)
/-- in a zone -/
theorem zone_in : ∀ {ps : List Int} {pos i : Int}, 0 ≤ pos → pos < tot ps → ∃ z, zone ps pos i = [dI z, dI 0] ∧ i ≤ z ∧ z ≤ i + ps.length - 1
  | [], pos, i, h0, h => by
    have h : pos < 0 := h
    omega
  | p :: r, pos, i, h0, h => by
    have h : pos < p + tot r := h
    by_cases hc : pos < p
    · exact ⟨i, by rw [zone, if_pos hc], by omega, by simp only [List.length_cons]; omega⟩
    · obtain ⟨z, h1, h2, h3⟩ := zone_in (ps := r) (pos := pos - p) (i := i + 1) (by omega) (by omega)
      exact ⟨z, by rw [zone, if_neg hc, h1], by omega, by simp only [List.length_cons]; omega⟩
/-- one before the end: the last zone -/
theorem zone_last : ∀ {ps : List Int} {i : Int}, (∀ p ∈ ps, 1 ≤ p) → 0 < ps.length → zone ps (tot ps - 1) i = [dI (i + ps.length - 1), dI 0]
  | [], _, _, h => by simp at h
  | [p], i, _, _ => by
    show zone [p] (p + 0 - 1) i = _
    rw [zone, if_pos (by omega)]
    simp
  | p :: q :: r, i, h, _ => by
    have hr : ∀ x ∈ q :: r, 1 ≤ x := fun x hx => h x (List.mem_cons_of_mem _ hx)
    have h2 := tot_pos hr (by simp)
    have ih := zone_last (i := i + 1) hr (by simp)
    show zone (p :: q :: r) (p + tot (q :: r) - 1) i = _
    rw [zone, if_neg (by omega), show p + tot (q :: r) - 1 - p = tot (q :: r) - 1 by omega, ih]
    simp only [List.length_cons]
    rw [show i + 1 + ((r.length + 1 : Nat) : Int) - 1 = i + ((r.length + 1 + 1 : Nat) : Int) - 1 by omega]
/-- the next position: the same zone, or the next one -/
theorem zone_step : ∀ {ps : List Int} {pos i : Int}, (∀ p ∈ ps, 1 ≤ p) → 0 ≤ pos → pos + 1 < tot ps → ∃ z z', zone ps pos i = [dI z, dI 0] ∧ zone ps (pos + 1) i = [dI z', dI 0] ∧ i ≤ z ∧ z ≤ i + ps.length - 1 ∧ z ≤ z' ∧ z' ≤ z + 1
  | [], pos, i, _, h0, h => by
    have h : pos + 1 < 0 := h
    omega
  | p :: r, pos, i, hp, h0, h => by
    have hr : ∀ x ∈ r, 1 ≤ x := fun x hx => hp x (List.mem_cons_of_mem _ hx)
    have h : pos + 1 < p + tot r := h
    by_cases hc : pos < p
    · by_cases hd : pos + 1 < p
      · exact ⟨i, i, by rw [zone, if_pos hc], by rw [zone, if_pos hd], by omega, by simp only [List.length_cons]; omega, by omega, by omega⟩
      · refine ⟨i, i + 1, by rw [zone, if_pos hc], ?_, by omega, by simp only [List.length_cons]; omega, by omega, by omega⟩
        rw [zone, if_neg hd]
        cases r with
        | nil => have : tot [] = 0 := rfl; omega
        | cons q r =>
          have := hr q (List.mem_cons_self ..)
          rw [zone, if_pos (by omega)]
    · obtain ⟨z, z', h1, h2, h3, h4, h5, h6⟩ := zone_step (i := i + 1) (pos := pos - p) hr (by omega) (by omega)
      refine ⟨z, z', by rw [zone, if_neg hc, h1], ?_, by omega, by simp only [List.length_cons]; omega, h5, h6⟩
      rw [zone, if_neg (by omega), show pos + 1 - p = pos - p + 1 by omega, h2]
end Go.Proofs
