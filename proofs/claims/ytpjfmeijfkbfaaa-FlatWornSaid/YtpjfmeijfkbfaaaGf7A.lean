/- awake of chapter 7, for every tape. -/
import Derived.Test.YtpjfmeijfkbfaaaP4
namespace Go.Proofs.G5f
open Go Go.Abs Go.Proofs
set_option maxRecDepth 100000
def tab0 : Tab := fun _ => none
theorem tab0_ok : TabOK Try.prog tab0 := by
  intro f t ht ds rs h
  cases ht
theorem runA : ∀ caps, runOK Try.prog tab0 1000 12 [] [.val (.bool true)] caps = true := by intro caps; kernel_rfl
theorem conAw : C5 12 [] [.val (.bool true)] := con_run tab0_ok mixed (by show 0 ≤ 400; omega) runA
end Go.Proofs.G5f
