/- GaugeStands: whatever the input, it returns true, and the input reads as it did. No condition. -/
import Derived.Test.YthgcicagmdlnmaaGreatP9
namespace Go.Proofs.YthgcicagmdlnmaaGreat
theorem gaugeStands_holds : Rows.GaugeStandsSaid := K.gaugeStands_holds
#print axioms gaugeStands_holds
end Go.Proofs.YthgcicagmdlnmaaGreat
