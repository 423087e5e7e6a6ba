/- RollStrings: it returns true whatever the input is, and the input reads as it did. Condition: the listed library tables and errors hold what the text of the program lays (the card ties that to the text), and the other variables of the library have their kinds. -/
import Derived.Test.YtlggmgkebnedcaaGreatDoorGwSRK
namespace Go.Proofs.YtlggmgkebnedcaaGreatDoor
theorem rollStrings_card : Rows.RollStringsCardSaid := K.RollStrings.card
end Go.Proofs.YtlggmgkebnedcaaGreatDoor
