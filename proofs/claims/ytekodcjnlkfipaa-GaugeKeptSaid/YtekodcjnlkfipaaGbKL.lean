/- GaugeKept: whatever the input, it returns true, and the input reads as it did. No condition. -/
import Derived.Test.YtekodcjnlkfipaaP10
namespace Go.Proofs.Ytekodcjnlkfipaa
theorem gaugeKept_holds : Rows.GaugeKeptSaid := K.gaugeKept_holds
#print axioms gaugeKept_holds
end Go.Proofs.Ytekodcjnlkfipaa
