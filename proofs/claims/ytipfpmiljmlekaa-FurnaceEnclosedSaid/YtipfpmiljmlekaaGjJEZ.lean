/- FurnaceEnclosed: it returns true whatever the input is, and the input reads as it did. No condition. -/
import Derived.Test.YtipfpmiljmlekaaP7
namespace Go.Proofs.Ytipfpmiljmlekaa
theorem furnaceEnclosed_holds : Rows.FurnaceEnclosedSaid := K.FurnaceEnclosed.holds
end Go.Proofs.Ytipfpmiljmlekaa
