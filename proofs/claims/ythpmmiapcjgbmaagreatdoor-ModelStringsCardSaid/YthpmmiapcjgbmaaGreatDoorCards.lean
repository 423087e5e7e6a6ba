/-
  DERIVED. GIVEN WITH THE SEED: THE CARDS: each row of YthpmmiapcjgbmaaGreatDoorRows.lean that lists a variable, with what it lists TIED to the program's text (the seventh form; the later family's looks); each row that meets fmt, with fmt's text TOLD by the authors' own Lean function (tested against real Go, not proved from fmt's source: count such statements apart). THE CARD IS WHAT COUNTS. Prove the row's statement (the work); the ties are given (YthpmmiapcjgbmaaGreatDoorTie.lean); close each card by the builder's one call (the guide's Derived/Test/ToyasCard.lean, 'card_holds'). Laid BY PROGRAM, IN A SANDBOX (cutbox-door.mjs). By AI agents, Wed Nov 11 2026. No macro, syntax, notation, axiom, sorry.
-/
import Derived.Test.YthpmmiapcjgbmaaGreatDoorRows
import GoSem.ClaimSeven
namespace Go.Proofs.YthpmmiapcjgbmaaGreatDoor
namespace Rows

/-- THE TIED CARD OF 'cobblelaw04.ModelStrings'. -/
def modelStringsCard : Claim7 := { stood := { row := modelStringsRow, standIns := [], harness := (true, "269817152fcca3122020a32b35d6f2ccb39ef991d7929ffa0e51e6a6a2d6c279"), looks := true }, kinds := [], alts := [], laidByText := true, laidKinds := [.data, .data, .data, .data, .sentinel, .sentinel, .pinned], laidTests := true, laidLooks := .later }
def ModelStringsCardSaid : Prop := Claim7.holds Tryz.pinned (.plain (OpenSpec.ofChange modelStringsSpec)) modelStringsCard

/-- THE TIED CARD OF 'cobblelaw04.ModelParses'. -/
def modelParsesCard : Claim7 := { stood := { row := modelParsesRow, standIns := [], harness := (true, "269817152fcca3122020a32b35d6f2ccb39ef991d7929ffa0e51e6a6a2d6c279"), looks := true }, kinds := [], alts := [], laidByText := true, laidKinds := [.data, .data, .data, .data, .sentinel, .sentinel, .pinned], laidTests := true, laidLooks := .later }
def ModelParsesCardSaid : Prop := Claim7.holds Tryz.pinned (.plain (OpenSpec.ofChange modelParsesSpec)) modelParsesCard

/-- THE SECOND FORM's CARD OF 'cobblelaw04.ModelStrings'. -/
def modelStringsUptoCard : Claim7 := { stood := { row := modelStringsUptoRow, standIns := [], harness := (true, "269817152fcca3122020a32b35d6f2ccb39ef991d7929ffa0e51e6a6a2d6c279"), looks := true }, kinds := [], alts := [], laidByText := true, laidKinds := [.data, .data, .data, .data, .sentinel, .sentinel, .pinned], laidTests := true, laidLooks := .later }
def ModelStringsUptoCardSaid : Prop := Claim7.holds Tryz.pinned (.plain (OpenSpec.upto modelStringsSpec)) modelStringsUptoCard

/-- THE SECOND FORM's CARD OF 'cobblelaw04.ModelParses'. -/
def modelParsesUptoCard : Claim7 := { stood := { row := modelParsesUptoRow, standIns := [], harness := (true, "269817152fcca3122020a32b35d6f2ccb39ef991d7929ffa0e51e6a6a2d6c279"), looks := true }, kinds := [], alts := [], laidByText := true, laidKinds := [.data, .data, .data, .data, .sentinel, .sentinel, .pinned], laidTests := true, laidLooks := .later }
def ModelParsesUptoCardSaid : Prop := Claim7.holds Tryz.pinned (.plain (OpenSpec.upto modelParsesSpec)) modelParsesUptoCard
end Rows
end Go.Proofs.YthpmmiapcjgbmaaGreatDoor
