/- PassLoads: it returns true whatever the input is, and the input reads as it did. No condition. -/
import Derived.Test.YteadiejdhplokaaGreatP7
namespace Go.Proofs.YteadiejdhplokaaGreat
theorem passLoads_holds : Rows.PassLoadsSaid := K.PassLoads.holds
end Go.Proofs.YteadiejdhplokaaGreat
