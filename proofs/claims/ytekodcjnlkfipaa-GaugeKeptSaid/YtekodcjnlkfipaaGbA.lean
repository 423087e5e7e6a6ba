/- awake of chapter 5, for every tape. -/
import Derived.Test.YtekodcjnlkfipaaP5
namespace Go.Proofs.G5b
open Go Go.Abs Go.Proofs Go.Proofs.G5
set_option maxRecDepth 100000
theorem run6 : ∀ caps, runOK Try.prog tab6 1000 7 [] [.val (.bool true)] caps = true := by intro caps; kernel_rfl
theorem con6 : C5 7 [] [.val (.bool true)] := con_run tab6_ok mixed (by show 0 ≤ 400; omega) run6
end Go.Proofs.G5b
