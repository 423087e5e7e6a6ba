/- PassMaterials: it returns true whatever the input is, and the input reads as it did. No condition. -/
import Derived.Test.YteadiejdhplokaaP9
namespace Go.Proofs.Yteadiejdhplokaa
theorem passMaterials_holds : Rows.PassMaterialsSaid := K.PassMaterials.holds
end Go.Proofs.Yteadiejdhplokaa
