/- awake of chapter 3: what is known of some calls. -/
import Derived.Test.YteadiejdhplokaaGreatP7
namespace Go.Proofs.G5o
open Go Go.Abs Go.Proofs Go.Str
set_option maxRecDepth 100000
def lkH : List (List D × List D) := [([rulD, bestD], [dI 2, dI 0])]
def lkR : List (List D × List D) := [([rulD, bestD, .agg [dI 2, dI 8, dI 10000, .sl 2 1 [vI 50, vI 50]]], [.sl 2 2 [vI 49752, vI 5, vI 49504, vI 5], .val (.bool true), dI 0])]
def lkT : List (List D × List D) := [([rulD, bestD, dI 300], [.sl 2 2 [vI 375, vI 1, vI 500, vI 1], dI 0])]
def lkQ : List (List D × List D) := [([rulD, dI 10], [.sl 5 1 [vI 100, vI 90, vI 80, vI 70, vI 60]]), ([oneD, dI 10], [.sl 5 1 [vI 100, vI 90, vI 80, vI 70, vI 60]])]
theorem runH : ∀ caps, (lkH.all fun p => runOK Tryz.prog tabP 1000 30 p.1 p.2 caps) = true := by intro caps; kernel_rfl
theorem runR : ∀ caps, (lkR.all fun p => runOK Tryz.prog tabP 1000 40 p.1 p.2 caps) = true := by intro caps; kernel_rfl
theorem runT : ∀ caps, (lkT.all fun p => runOK Tryz.prog tabP 1000 10 p.1 p.2 caps) = true := by intro caps; kernel_rfl
theorem runQ : ∀ caps, (lkQ.all fun p => runOK Tryz.prog tabP 1000 115 p.1 p.2 caps) = true := by intro caps; kernel_rfl
end Go.Proofs.G5o
