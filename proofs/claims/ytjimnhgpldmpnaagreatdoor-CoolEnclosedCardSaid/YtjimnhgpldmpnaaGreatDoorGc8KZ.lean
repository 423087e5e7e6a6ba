/- CoolTables and CoolEnclosed: each of them returns true whatever the input is, and the input reads as it did. Condition: the listed library tables hold what the text of the program lays (the card ties that to the text). -/
import Derived.Test.YtjimnhgpldmpnaaGreatDoorP7
namespace Go.Proofs.YtjimnhgpldmpnaaGreatDoor
theorem coolTables_card : Rows.CoolTablesCardSaid := K.CoolTables.card
theorem coolEnclosed_card : Rows.CoolEnclosedCardSaid := K.CoolEnclosed.card
end Go.Proofs.YtjimnhgpldmpnaaGreatDoor
