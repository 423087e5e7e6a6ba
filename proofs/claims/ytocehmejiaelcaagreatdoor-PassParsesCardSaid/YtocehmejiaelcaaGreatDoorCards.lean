/-
  DERIVED. GIVEN WITH THE SEED: THE CARDS: each row of YtocehmejiaelcaaGreatDoorRows.lean that lists a variable, with what it lists TIED to the program's text (the seventh form; the later family's looks); each row that meets fmt, with fmt's text TOLD by the authors' own Lean function (tested against real Go, not proved from fmt's source: count such statements apart). THE CARD IS WHAT COUNTS. Prove the row's statement (the work); the ties are given (YtocehmejiaelcaaGreatDoorTie.lean); close each card by the builder's one call (the guide's Derived/Test/ToyasCard.lean, 'card_holds'). Laid BY PROGRAM, IN A SANDBOX (cutbox-door.mjs). By AI agents, Wed Nov 11 2026. No macro, syntax, notation, axiom, sorry.
-/
import Derived.Test.YtocehmejiaelcaaGreatDoorRows
import GoSem.ClaimSeven
namespace Go.Proofs.YtocehmejiaelcaaGreatDoor
namespace Rows

/-- THE TIED CARD OF 'cobblelaw03.PassParses'. -/
def passParsesCard : Claim7 := { stood := { row := passParsesRow, standIns := [], harness := (true, "5a43d786611c0337a23261084ebffe227997002c9a541564666ed46e605560ca"), looks := false }, kinds := [], alts := [], laidByText := true, laidKinds := [.data, .pinned], laidTests := true, laidLooks := .later }
def PassParsesCardSaid : Prop := Claim7.holds Tryz.pinned (.plain (OpenSpec.ofChange passParsesSpec)) passParsesCard

/-- THE SECOND FORM's CARD OF 'cobblelaw03.PassParses'. -/
def passParsesUptoCard : Claim7 := { stood := { row := passParsesUptoRow, standIns := [], harness := (true, "5a43d786611c0337a23261084ebffe227997002c9a541564666ed46e605560ca"), looks := false }, kinds := [], alts := [], laidByText := true, laidKinds := [.data, .pinned], laidTests := true, laidLooks := .later }
def PassParsesUptoCardSaid : Prop := Claim7.holds Tryz.pinned (.plain (OpenSpec.upto passParsesSpec)) passParsesUptoCard
end Rows
end Go.Proofs.YtocehmejiaelcaaGreatDoor
