/- FurnaceSteps: it returns true whatever the input is, and the input reads as it did. No condition. -/
import Derived.Test.YtoelmajokkdeoaaP9
namespace Go.Proofs.Ytoelmajokkdeoaa
theorem furnaceSteps_holds : Rows.FurnaceStepsSaid := K.FurnaceSteps.holds
end Go.Proofs.Ytoelmajokkdeoaa
