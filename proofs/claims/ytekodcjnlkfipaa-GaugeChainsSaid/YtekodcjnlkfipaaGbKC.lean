/- GaugeChains: whatever the input, it returns true, and the input reads as it did. No condition. -/
import Derived.Test.YtekodcjnlkfipaaGbKB
namespace Go.Proofs.Ytekodcjnlkfipaa
theorem gaugeChains_holds : Rows.GaugeChainsSaid := K.gaugeChains_holds
#print axioms gaugeChains_holds
end Go.Proofs.Ytekodcjnlkfipaa
