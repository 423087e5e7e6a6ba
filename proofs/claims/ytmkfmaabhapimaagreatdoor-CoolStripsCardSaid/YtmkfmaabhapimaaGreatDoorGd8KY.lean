/- CoolStrips: it returns true whatever the input is, and the input reads as it did. Condition: the listed library tables hold what the text of the program lays (the card ties that to the text). -/
import Derived.Test.YtmkfmaabhapimaaGreatDoorP10
namespace Go.Proofs.YtmkfmaabhapimaaGreatDoor
theorem coolStrips_card : Rows.CoolStripsCardSaid := K.CoolStrips.card
end Go.Proofs.YtmkfmaabhapimaaGreatDoor
