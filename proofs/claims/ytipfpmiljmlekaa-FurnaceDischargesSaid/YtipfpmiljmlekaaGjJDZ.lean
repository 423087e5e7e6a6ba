/- FurnaceDischarges: it returns true whatever the input is, and the input reads as it did. No condition. -/
import Derived.Test.YtipfpmiljmlekaaP8
namespace Go.Proofs.Ytipfpmiljmlekaa
theorem furnaceDischarges_holds : Rows.FurnaceDischargesSaid := K.FurnaceDischarges.holds
end Go.Proofs.Ytipfpmiljmlekaa
