/- GaugeBoxes: whatever the input, it returns true, and the input reads as it did. No condition. -/
import Derived.Test.YtekodcjnlkfipaaP10
namespace Go.Proofs.Ytekodcjnlkfipaa
theorem gaugeBoxes_holds : Rows.GaugeBoxesSaid := K.gaugeBoxes_holds
#print axioms gaugeBoxes_holds
end Go.Proofs.Ytekodcjnlkfipaa
