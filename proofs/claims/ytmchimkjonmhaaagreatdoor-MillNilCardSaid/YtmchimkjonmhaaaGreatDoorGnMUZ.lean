/- MillNil: it returns true whatever the input is, and the input reads as it did. Condition: the listed library tables and errors hold what the text of the program lays (the card ties that to the text), and the other variables of the library have their kinds. -/
import Derived.Test.YtmchimkjonmhaaaGreatDoorP4
namespace Go.Proofs.YtmchimkjonmhaaaGreatDoor
theorem millNil_card : Rows.MillNilCardSaid := K.MillNil.card
end Go.Proofs.YtmchimkjonmhaaaGreatDoor
