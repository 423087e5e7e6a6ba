/- GaugeStrings: it returns true whatever the input is, and the input reads as it did. Condition: the listed library tables and errors hold what the text of the program lays (the card ties that to the text), and the other variables of the library have their kinds. -/
import Derived.Test.YtldjkahfgfpjaaaGreatDoorP7
namespace Go.Proofs.YtldjkahfgfpjaaaGreatDoor
theorem gaugeStrings_card : Rows.GaugeStringsCardSaid := K.GaugeStrings.card
end Go.Proofs.YtldjkahfgfpjaaaGreatDoor
