/- ModelLosses: it returns true whatever the input is, and the input reads as it did. No condition. -/
import Derived.Test.YtbdnaobaiidblaaP7
namespace Go.Proofs.Ytbdnaobaiidblaa
theorem modelLosses_holds : Rows.ModelLossesSaid := K.ModelLosses.holds
end Go.Proofs.Ytbdnaobaiidblaa
