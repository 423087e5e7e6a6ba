/- PassSchedules: it returns true whatever the input is, and the input reads as it did. No condition. -/
import Derived.Test.YteadiejdhplokaaP7
namespace Go.Proofs.Yteadiejdhplokaa
theorem passSchedules_holds : Rows.PassSchedulesSaid := K.PassSchedules.holds
end Go.Proofs.Yteadiejdhplokaa
