/- FurnaceStrings: it returns true whatever the input is, and the input reads as it did. Condition: the listed library tables hold what the text of the program lays (the card ties that to the text), and the other variables of the library have their kinds. -/
import Derived.Test.YtbppnffhegncmaaDoorP7
namespace Go.Proofs.YtbppnffhegncmaaDoor
theorem furnaceStrings_card : Rows.FurnaceStringsCardSaid := K.FurnaceStrings.card
end Go.Proofs.YtbppnffhegncmaaDoor
