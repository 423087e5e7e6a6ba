/- TopGaugeHeld: whatever the input, it returns true, and the input reads as it did. No condition. -/
import Derived.Test.YtekodcjnlkfipaaP9
namespace Go.Proofs.Ytekodcjnlkfipaa
theorem topGaugeHeld_holds : Rows.TopGaugeHeldSaid := K.topGaugeHeld_holds
#print axioms topGaugeHeld_holds
end Go.Proofs.Ytekodcjnlkfipaa
