/- FurnaceEnclosures: it returns true whatever the input is, and the input reads as it did. No condition. -/
import Derived.Test.YtncecdbelpahnaaP8
namespace Go.Proofs.Ytncecdbelpahnaa
theorem furnaceEnclosures_holds : Rows.FurnaceEnclosuresSaid := K.FurnaceEnclosures.holds
end Go.Proofs.Ytncecdbelpahnaa
