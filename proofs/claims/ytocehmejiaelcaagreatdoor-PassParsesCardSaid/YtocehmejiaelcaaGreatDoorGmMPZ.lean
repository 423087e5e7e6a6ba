/- PassParses: it returns true whatever the input is, and the input reads as it did. Condition: the listed library tables hold what the text of the program lays (the card ties that to the text), and the other variables of the library have their kinds. -/
import Derived.Test.YtocehmejiaelcaaGreatDoorP8
namespace Go.Proofs.YtocehmejiaelcaaGreatDoor
theorem passParses_card : Rows.PassParsesCardSaid := K.PassParses.card
end Go.Proofs.YtocehmejiaelcaaGreatDoor
