/- awake of chapter 2, for every tape. -/
import Derived.Test.YtiahlinolhpecaaAbsLoop
import Derived.Test.YtiahlinolhpecaaProg
import Derived.KernelRfl
namespace Go.Proofs
open Go Go.Abs Go.RowKit
theorem awake_run : (callN Try.prog 1000 14 #[] ⟨.leaf, gbase⟩).map (·.1) = some (.bool true) := by kernel_rfl
theorem awake_mixed : Try.prog.follows .mixedOrders = true := by kernel_rfl
theorem awake_calls (w : World) : Calls Try.prog 14 #[] w fun e w' => e = .returned (.bool true) ∧ Below w.heap.size w w' := by
  have h := awake_run
  cases hc : callN Try.prog 1000 14 #[] ⟨.leaf, gbase⟩ with
  | none => rw [hc] at h; cases h
  | some r =>
    obtain ⟨v, H'⟩ := r
    rw [hc] at h
    simp only [Option.map_some, Option.some.injEq] at h
    subst h
    refine (callN_sound awake_mixed hc w).mono ?_
    rintro e w' ⟨⟨ρ, v', rfl, hv⟩, hb⟩
    exact ⟨by rw [hv.bool_inv], hb⟩
theorem con14 : Con Try.prog 14 [] [.val (.bool true)] := by
  intro w args h
  have : args = #[] := by
    cases h' : args.toList with
    | nil => simpa using h'
    | cons a l => rw [h'] at h; cases h
  subst this
  refine (awake_calls w).mono ?_
  rintro e w' ⟨rfl, hb⟩
  exact ⟨⟨[.bool true], [], rfl, .cons (.val [] _ rfl) (.nil [])⟩, hb⟩
#print axioms con14
end Go.Proofs
