/- ModelStrings: it returns true whatever the input is, and the input reads as it did. Condition: the listed library tables and errors hold what the text of the program lays (the card ties that to the text), and the other variables of the library have their kinds. -/
import Derived.Test.YthpmmiapcjgbmaaGreatDoorGvNSK
namespace Go.Proofs.YthpmmiapcjgbmaaGreatDoor
theorem modelStrings_card : Rows.ModelStringsCardSaid := K.ModelStrings.card
end Go.Proofs.YthpmmiapcjgbmaaGreatDoor
