/- PassMargins: it returns true whatever the input is, and the input reads as it did. No condition. -/
import Derived.Test.YteadiejdhplokaaGreatP12
namespace Go.Proofs.YteadiejdhplokaaGreat
theorem passMargins_holds : Rows.PassMarginsSaid := K.PassMargins.holds
end Go.Proofs.YteadiejdhplokaaGreat
