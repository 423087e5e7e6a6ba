/- ModelTables, ModelGains, ModelForgets and ModelBetween: whatever the input, each of them returns true, and the input reads as it did. No condition. -/
import Derived.Test.YthfdbeeanhfboaaP7
import Derived.Test.YthfdbeeanhfboaaP9
namespace Go.Proofs.Ythfdbeeanhfboaa
theorem modelTables_holds : Rows.ModelTablesSaid := Tab.modelTables_holds
theorem modelGains_holds : Rows.ModelGainsSaid := Rul.modelGains_holds
theorem modelForgets_holds : Rows.ModelForgetsSaid := Rul.modelForgets_holds
theorem modelBetween_holds : Rows.ModelBetweenSaid := Btw.modelBetween_holds
#print axioms modelTables_holds
#print axioms modelGains_holds
#print axioms modelForgets_holds
#print axioms modelBetween_holds
end Go.Proofs.Ythfdbeeanhfboaa
