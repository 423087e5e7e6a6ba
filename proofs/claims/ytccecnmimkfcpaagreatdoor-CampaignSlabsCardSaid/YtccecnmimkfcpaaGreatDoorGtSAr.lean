/- awake of chapter 2, for every tape. -/
import Derived.Test.YtccecnmimkfcpaaGreatDoorP4
namespace Go.Proofs.G5t
open Go Go.Abs Go.Proofs
set_option maxRecDepth 100000
theorem tab0_ok : TabOK Tryz.prog (fun _ => none) := fun _ _ h => by cases h
theorem runA : ∀ caps, runOK Tryz.prog (fun _ => none) 1000 4 [] [.val (.bool true)] caps = true := by intro caps; kernel_rfl
theorem conA : C5 4 [] [.val (.bool true)] := con_run tab0_ok mixed (by show 0 ≤ 400; omega) runA
end Go.Proofs.G5t
