/-
  DERIVED. GIVEN WITH THE SEED: THE CARDS: each row of YtmkfmaabhapimaaGreatDoorRows.lean that lists a variable, with what it lists TIED to the program's text (the seventh form; the later family's looks); each row that meets fmt, with fmt's text TOLD by the authors' own Lean function (tested against real Go, not proved from fmt's source: count such statements apart). THE CARD IS WHAT COUNTS. Prove the row's statement (the work); the ties are given (YtmkfmaabhapimaaGreatDoorTie.lean); close each card by the builder's one call (the guide's Derived/Test/ToyasCard.lean, 'card_holds'). Laid BY PROGRAM, IN A SANDBOX (cutbox-door.mjs). By AI agents, Wed Nov 11 2026. No macro, syntax, notation, axiom, sorry.
-/
import Derived.Test.YtmkfmaabhapimaaGreatDoorRows
import GoSem.ClaimSeven
namespace Go.Proofs.YtmkfmaabhapimaaGreatDoor
namespace Rows

/-- THE TIED CARD OF 'cobblelaw08.CoolStrips'. -/
def coolStripsCard : Claim7 := { stood := { row := coolStripsRow, standIns := [], harness := (true, "b3ac1674ee3eec0d7c06f7b496f1a00ad921c39e213e6ee600ad840026f5c692"), looks := false }, kinds := [], alts := [], laidByText := true, laidKinds := [.data, .data, .data], laidTests := true, laidLooks := .later }
def CoolStripsCardSaid : Prop := Claim7.holds Tryz.pinned (.plain (OpenSpec.ofChange coolStripsSpec)) coolStripsCard

/-- THE SECOND FORM's CARD OF 'cobblelaw08.CoolStrips'. -/
def coolStripsUptoCard : Claim7 := { stood := { row := coolStripsUptoRow, standIns := [], harness := (true, "b3ac1674ee3eec0d7c06f7b496f1a00ad921c39e213e6ee600ad840026f5c692"), looks := false }, kinds := [], alts := [], laidByText := true, laidKinds := [.data, .data, .data], laidTests := true, laidLooks := .later }
def CoolStripsUptoCardSaid : Prop := Claim7.holds Tryz.pinned (.plain (OpenSpec.upto coolStripsSpec)) coolStripsUptoCard
end Rows
end Go.Proofs.YtmkfmaabhapimaaGreatDoor
