/- Tables: the radiance. -/
import Derived.Test.YtiahlinolhpecaaF2P2
namespace Go.Proofs
open Go Go.Abs
set_option maxRecDepth 100000
theorem con17 (ps : List (Int × Int)) (hlen : ps.length < 1000000000) : Con Try.prog 17 [dTab ps] [dTab ps] := by
  refine con_flat hokT mixed Try.func17 rfl (by show 1 ≤ 500; omega) rfl (by kernel_rfl) (fun caps => ?_)
  show g17 _ _ ps.length (caps 500) (vp ps) _
  rw [g17_text]
  refine bc_yes (by simp) (bc_beq (fun h => ?_) (fun h => bc_yes (by omega) (bc_yes (by omega) (bc_yes (by omega) ?_))))
  · refine ⟨⟨rfl, rfl⟩, ?_⟩
    have : ps = [] := List.length_eq_zero_iff.1 h
    subst this
    rfl
  · refine ⟨⟨rfl, by simp⟩, ?_⟩
    show [D.agg [D.sl (0 + ps.length) 2 _]] = [dTab ps]
    rw [vp_whole]
    simp
theorem con17n : Con Try.prog 17 [.agg [.nil]] [dTab []] := by
  refine con_flat hokT mixed Try.func17 rfl (by show 0 ≤ 500; omega) rfl (by kernel_rfl) (fun caps => ?_)
  show g17n _ _ _
  rw [g17n_text]
  exact ⟨⟨rfl, rfl⟩, rfl⟩
/-- between two points -/
def line (p q : Int × Int) (x : Int) : Int :=
  IntKind.wrap .i64 (p.2 + IntKind.wrap .i64 (Int.tdiv (IntKind.wrap .i64 (IntKind.wrap .i64 (x - p.1) * IntKind.wrap .i64 (q.2 - p.2))) (IntKind.wrap .i64 (q.1 - p.1))))
def radGo (x : Int) : Int × Int → List (Int × Int) → Int
  | p, [] => p.2
  | p, q :: r => if x ≤ q.1 then line p q x else radGo x q r
def radV (x : Int) : List (Int × Int) → Int
  | [] => 0
  | p :: r => if x ≤ p.1 then p.2 else radGo x p r
structure VT (ps : List (Int × Int)) : Prop where
  some : 0 < ps.length
  few : ps.length ≤ 10
  lo : ∀ p ∈ ps, 0 ≤ p.1 ∧ p.1 ≤ 20000
  up : ∀ (j : Nat) (h : j + 1 < ps.length), ps[j].1 < ps[j + 1].1
theorem tchk_shape : ∀ (l : List (Int × Int)) (q : Option (Int × Int)) (i : Int), ∃ a e, tchk l q i = [dI a, dI e] ∧ (e = 0 → (∀ p ∈ l, 0 ≤ p.1 ∧ p.1 ≤ 20000) ∧ (∀ p, q = some p → ∀ r l', l = r :: l' → p.1 < r.1) ∧ ∀ (j : Nat) (h : j + 1 < l.length), l[j].1 < l[j + 1].1)
  | [], q, i => ⟨0, 0, rfl, fun _ => ⟨by simp, by simp, by simp⟩⟩
  | p :: r, q, i => by
    rw [tchk_cons]
    by_cases h : tErr p.1 = 0 ∧ tErr p.2 = 0
    · rw [if_pos h]
      have hp := tErr0.1 h.1
      have rest : ∀ e : Int, (e = 0 → (∀ p ∈ r, 0 ≤ p.1 ∧ p.1 ≤ 20000) ∧ (∀ p', some p = some p' → ∀ r' l', r = r' :: l' → p'.1 < r'.1) ∧ ∀ (j : Nat) (h : j + 1 < r.length), r[j].1 < r[j + 1].1) → (∀ p', q = some p' → p'.1 < p.1) → (e = 0 → (∀ p' ∈ p :: r, 0 ≤ p'.1 ∧ p'.1 ≤ 20000) ∧ (∀ p', q = some p' → ∀ r' l', p :: r = r' :: l' → p'.1 < r'.1) ∧ ∀ (j : Nat) (h : j + 1 < (p :: r).length), (p :: r)[j].1 < (p :: r)[j + 1].1) := by
        intro e h1 hq he
        obtain ⟨h2, h3, h4⟩ := h1 he
        refine ⟨?_, ?_, ?_⟩
        · intro p' hp'
          rcases List.mem_cons.1 hp' with rfl | h
          · exact hp
          · exact h2 p' h
        · intro p' hp' r' l' e
          obtain ⟨rfl, rfl⟩ := List.cons.inj e
          exact hq p' hp'
        · intro j hj
          cases j with
          | zero =>
            cases r with
            | nil => simp at hj
            | cons r0 r1 => exact h3 p rfl r0 r1 rfl
          | succ j => exact h4 j (by simpa using hj)
      cases q with
      | none =>
        obtain ⟨a, e, h1, h2⟩ := tchk_shape r (some p) (i + 1)
        exact ⟨a, e, h1, rest e h2 (by simp)⟩
      | some q =>
        by_cases h0 : rise q p = 0
        · obtain ⟨a, e, h1, h2⟩ := tchk_shape r (some p) (i + 1)
          refine ⟨a, e, by simp only [if_pos h0]; exact h1, rest e h2 ?_⟩
          intro p' e
          obtain rfl := Option.some.inj e
          unfold rise at h0
          split at h0
          · omega
          · omega
        · exact ⟨i, rise q p, by simp only [if_neg h0], fun h => absurd h h0⟩
    · exact ⟨i, 2, by rw [if_neg h], fun h => by omega⟩
theorem tab_shape (ps : List (Int × Int)) : ∃ a e, tabRes ps = [dI a, dI e] ∧ (e = 0 → VT ps) := by
  unfold tabRes
  split
  · exact ⟨0, 10, rfl, fun h => by omega⟩
  · split
    · exact ⟨0, 8, rfl, fun h => by omega⟩
    · obtain ⟨a, e, h1, h2⟩ := tchk_shape ps none 0
      exact ⟨a, e, h1, fun he => ⟨by omega, by omega, (h2 he).1, (h2 he).2.2⟩⟩
end Go.Proofs
