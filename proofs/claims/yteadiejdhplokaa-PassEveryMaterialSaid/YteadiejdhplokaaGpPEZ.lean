/- PassEveryMaterial: it returns true whatever the input is, and the input reads as it did. No condition. -/
import Derived.Test.YteadiejdhplokaaP8
namespace Go.Proofs.Yteadiejdhplokaa
theorem passEveryMaterial_holds : Rows.PassEveryMaterialSaid := K.PassEveryMaterial.holds
end Go.Proofs.Yteadiejdhplokaa
