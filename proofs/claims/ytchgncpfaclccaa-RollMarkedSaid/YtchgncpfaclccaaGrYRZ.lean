/- RollMarked: it returns true whatever the input is, and the input reads as it did. No condition. -/
import Derived.Test.YtchgncpfaclccaaP10
namespace Go.Proofs.Ytchgncpfaclccaa
theorem rollMarked_holds : Rows.RollMarkedSaid := K.RollMarked.holds
end Go.Proofs.Ytchgncpfaclccaa
