/- FurnaceWarmer: it returns true whatever the input is, and the input reads as it did. No condition. -/
import Derived.Test.YtoelmajokkdeoaaP5
namespace Go.Proofs.Ytoelmajokkdeoaa
theorem furnaceWarmer_holds : Rows.FurnaceWarmerSaid := K.FurnaceWarmer.holds
end Go.Proofs.Ytoelmajokkdeoaa
