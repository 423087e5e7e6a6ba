/- awake of chapter 3: which draughts keep which limits. -/
import Derived.Test.YteadiejdhplokaaGreatP7
namespace Go.Proofs.G5o
open Go Go.Abs Go.Proofs Go.Str
set_option maxRecDepth 100000
def lk1 : List (List D × List D) := [([rulD, drD 0 100 100, .sl 4 1 [vI 0, vI 1, vI 2, vI 3]], [dB true]),
  ([rulD, drD 0 100 90, .sl 4 1 [vI 0, vI 1, vI 2, vI 3]], [dB true]),
  ([rulD, drD 0 100 80, .sl 4 1 [vI 0, vI 1, vI 2, vI 3]], [dB true]),
  ([rulD, drD 0 100 70, .sl 4 1 [vI 0, vI 1, vI 2, vI 3]], [dB false]),
  ([rulD, drD 0 100 60, .sl 4 1 [vI 0, vI 1, vI 2, vI 3]], [dB false]),
  ([rulD, drD 0 90 90, .sl 4 1 [vI 0, vI 1, vI 2, vI 3]], [dB true]),
  ([rulD, drD 0 90 80, .sl 4 1 [vI 0, vI 1, vI 2, vI 3]], [dB true]),
  ([rulD, drD 0 90 70, .sl 4 1 [vI 0, vI 1, vI 2, vI 3]], [dB true]),
  ([rulD, drD 0 90 60, .sl 4 1 [vI 0, vI 1, vI 2, vI 3]], [dB false]),
  ([rulD, drD 0 80 80, .sl 4 1 [vI 0, vI 1, vI 2, vI 3]], [dB true]),
  ([rulD, drD 0 80 70, .sl 4 1 [vI 0, vI 1, vI 2, vI 3]], [dB true]),
  ([rulD, drD 0 80 60, .sl 4 1 [vI 0, vI 1, vI 2, vI 3]], [dB true]),
  ([rulD, drD 0 70 70, .sl 4 1 [vI 0, vI 1, vI 2, vI 3]], [dB true]),
  ([rulD, drD 0 70 60, .sl 4 1 [vI 0, vI 1, vI 2, vI 3]], [dB true]),
  ([rulD, drD 0 60 60, .sl 4 1 [vI 0, vI 1, vI 2, vI 3]], [dB true]),
  ([rulD, drD 1 100 100, .sl 4 1 [vI 0, vI 1, vI 2, vI 3]], [dB true]),
  ([rulD, drD 1 100 90, .sl 4 1 [vI 0, vI 1, vI 2, vI 3]], [dB true]),
  ([rulD, drD 1 100 80, .sl 4 1 [vI 0, vI 1, vI 2, vI 3]], [dB true]),
  ([rulD, drD 1 100 70, .sl 4 1 [vI 0, vI 1, vI 2, vI 3]], [dB false]),
  ([rulD, drD 1 100 60, .sl 4 1 [vI 0, vI 1, vI 2, vI 3]], [dB false]),
  ([rulD, drD 1 90 90, .sl 4 1 [vI 0, vI 1, vI 2, vI 3]], [dB true]),
  ([rulD, drD 1 90 80, .sl 4 1 [vI 0, vI 1, vI 2, vI 3]], [dB true]),
  ([rulD, drD 1 90 70, .sl 4 1 [vI 0, vI 1, vI 2, vI 3]], [dB true]),
  ([rulD, drD 1 90 60, .sl 4 1 [vI 0, vI 1, vI 2, vI 3]], [dB false]),
  ([rulD, drD 1 80 80, .sl 4 1 [vI 0, vI 1, vI 2, vI 3]], [dB true]),
  ([rulD, drD 1 80 70, .sl 4 1 [vI 0, vI 1, vI 2, vI 3]], [dB true]),
  ([rulD, drD 1 80 60, .sl 4 1 [vI 0, vI 1, vI 2, vI 3]], [dB true]),
  ([rulD, drD 1 70 70, .sl 4 1 [vI 0, vI 1, vI 2, vI 3]], [dB true]),
  ([rulD, drD 1 70 60, .sl 4 1 [vI 0, vI 1, vI 2, vI 3]], [dB true]),
  ([rulD, drD 1 60 60, .sl 4 1 [vI 0, vI 1, vI 2, vI 3]], [dB true])]
theorem run1 : ∀ caps, (lk1.all fun p => runOK Tryz.prog tabP 1000 80 p.1 p.2 caps) = true := by intro caps; kernel_rfl
end Go.Proofs.G5o
