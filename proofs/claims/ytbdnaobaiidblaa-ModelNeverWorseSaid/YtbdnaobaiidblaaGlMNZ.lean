/- ModelNeverWorse: it returns true whatever the input is, and the input reads as it did. No condition. -/
import Derived.Test.YtbdnaobaiidblaaP7
namespace Go.Proofs.Ytbdnaobaiidblaa
theorem modelNeverWorse_holds : Rows.ModelNeverWorseSaid := K.ModelNeverWorse.holds
end Go.Proofs.Ytbdnaobaiidblaa
