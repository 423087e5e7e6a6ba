import Derived.Test.YtnnbkhijgbmgaaaGreatDoorP2
import Derived.Test.YtnnbkhijgbmgaaaGreatDoorProg
import Derived.KernelRfl
namespace Go.Proofs
open Go Go.Abs Go.RowKit
theorem awake_run : (callN Tryz.prog 1000 6 #[] ⟨.leaf, gbase⟩).map (·.1) = some (.bool true) := by kernel_rfl
theorem awake_mixed : Tryz.prog.follows .mixedOrders = true := by kernel_rfl
theorem awake_calls (w : World) : Calls Tryz.prog 6 #[] w fun e w' => e = .returned (.bool true) ∧ Below w.heap.size w w' := by
  have h := awake_run
  cases hc : callN Tryz.prog 1000 6 #[] ⟨.leaf, gbase⟩ with
  | none => rw [hc] at h; cases h
  | some r =>
    obtain ⟨v, H'⟩ := r
    rw [hc] at h
    simp only [Option.map_some, Option.some.injEq] at h
    subst h
    refine (callN_sound awake_mixed hc w).mono ?_
    rintro e w' ⟨⟨ρ, v', rfl, hv⟩, hb⟩
    exact ⟨by rw [hv.bool_inv], hb⟩
#print axioms awake_calls
end Go.Proofs
