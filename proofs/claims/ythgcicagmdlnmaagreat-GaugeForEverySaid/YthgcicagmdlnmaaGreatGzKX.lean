/- GaugeForEvery: whatever the input, it returns true, and the input reads as it did. No condition. -/
import Derived.Test.YthgcicagmdlnmaaGreatP9
namespace Go.Proofs.YthgcicagmdlnmaaGreat
theorem gaugeForEvery_holds : Rows.GaugeForEverySaid := K.gaugeForEvery_holds
#print axioms gaugeForEvery_holds
end Go.Proofs.YthgcicagmdlnmaaGreat
