/-
  DERIVED. GIVEN WITH THE SEED: THE CARDS: each row of YtnffhlfpfkdpfaaGreatDoorRows.lean that lists a variable, with what it lists TIED to the program's text (the seventh form; the later family's looks); each row that meets fmt, with fmt's text TOLD by the authors' own Lean function (tested against real Go, not proved from fmt's source: count such statements apart). THE CARD IS WHAT COUNTS. Prove the row's statement (the work); the ties are given (YtnffhlfpfkdpfaaGreatDoorTie.lean); close each card by the builder's one call (the guide's Derived/Test/ToyasCard.lean, 'card_holds'). Laid BY PROGRAM, IN A SANDBOX (cutbox-door.mjs). By AI agents, Wed Nov 11 2026. No macro, syntax, notation, axiom, sorry.
-/
import Derived.Test.YtnffhlfpfkdpfaaGreatDoorRows
import GoSem.ClaimSeven
namespace Go.Proofs.YtnffhlfpfkdpfaaGreatDoor
namespace Rows

/-- THE TIED CARD OF 'cobblelaw03.PassStrings'. -/
def passStringsCard : Claim7 := { stood := { row := passStringsRow, standIns := [], harness := (true, "a3ad07b4ed2763779e82cd37d42d6a138c80551d013e618bdf128533a1c5dd38"), looks := false }, kinds := [], alts := [], laidByText := true, laidKinds := [.data, .data, .data, .data, .pinned], laidTests := true, laidLooks := .later }
def PassStringsCardSaid : Prop := Claim7.holds Tryz.pinned (.plain (OpenSpec.ofChange passStringsSpec)) passStringsCard

/-- THE TIED CARD OF 'cobblelaw03.PassParses'. -/
def passParsesCard : Claim7 := { stood := { row := passParsesRow, standIns := [], harness := (true, "a3ad07b4ed2763779e82cd37d42d6a138c80551d013e618bdf128533a1c5dd38"), looks := false }, kinds := [], alts := [], laidByText := true, laidKinds := [.data, .pinned], laidTests := true, laidLooks := .later }
def PassParsesCardSaid : Prop := Claim7.holds Tryz.pinned (.plain (OpenSpec.ofChange passParsesSpec)) passParsesCard

/-- THE SECOND FORM's CARD OF 'cobblelaw03.PassStrings'. -/
def passStringsUptoCard : Claim7 := { stood := { row := passStringsUptoRow, standIns := [], harness := (true, "a3ad07b4ed2763779e82cd37d42d6a138c80551d013e618bdf128533a1c5dd38"), looks := false }, kinds := [], alts := [], laidByText := true, laidKinds := [.data, .data, .data, .data, .pinned], laidTests := true, laidLooks := .later }
def PassStringsUptoCardSaid : Prop := Claim7.holds Tryz.pinned (.plain (OpenSpec.upto passStringsSpec)) passStringsUptoCard

/-- THE SECOND FORM's CARD OF 'cobblelaw03.PassParses'. -/
def passParsesUptoCard : Claim7 := { stood := { row := passParsesUptoRow, standIns := [], harness := (true, "a3ad07b4ed2763779e82cd37d42d6a138c80551d013e618bdf128533a1c5dd38"), looks := false }, kinds := [], alts := [], laidByText := true, laidKinds := [.data, .pinned], laidTests := true, laidLooks := .later }
def PassParsesUptoCardSaid : Prop := Claim7.holds Tryz.pinned (.plain (OpenSpec.upto passParsesSpec)) passParsesUptoCard
end Rows
end Go.Proofs.YtnffhlfpfkdpfaaGreatDoor
