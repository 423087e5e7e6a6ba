/- GaugeFlows, GaugeMonitors and GaugeBands: whatever the input, each of them returns true, and the input reads as it did. No condition. -/
import Derived.Test.YthgcicagmdlnmaaP9
namespace Go.Proofs.Ythgcicagmdlnmaa
theorem gaugeFlows_holds : Rows.GaugeFlowsSaid := K.gaugeFlows_holds
theorem gaugeMonitors_holds : Rows.GaugeMonitorsSaid := K.gaugeMonitors_holds
theorem gaugeBands_holds : Rows.GaugeBandsSaid := K.gaugeBands_holds
#print axioms gaugeFlows_holds
#print axioms gaugeMonitors_holds
#print axioms gaugeBands_holds
end Go.Proofs.Ythgcicagmdlnmaa
