/-
  DERIVED. GIVEN WITH THE SEED: THE CARDS: each row of YtmchimkjonmhaaaGreatDoorRows.lean that lists a variable, with what it lists TIED to the program's text (the seventh form; the later family's looks); each row that meets fmt, with fmt's text TOLD by the authors' own Lean function (tested against real Go, not proved from fmt's source: count such statements apart). THE CARD IS WHAT COUNTS. Prove the row's statement (the work); the ties are given (YtmchimkjonmhaaaGreatDoorTie.lean); close each card by the builder's one call (the guide's Derived/Test/ToyasCard.lean, 'card_holds'). Laid BY PROGRAM, IN A SANDBOX (cutbox-door.mjs). By AI agents, Wed Nov 11 2026. No macro, syntax, notation, axiom, sorry.
-/
import Derived.Test.YtmchimkjonmhaaaGreatDoorRows
import GoSem.ClaimSeven
namespace Go.Proofs.YtmchimkjonmhaaaGreatDoor
namespace Rows

/-- THE TIED CARD OF 'cobblelaw10.MillNil'. -/
def millNilCard : Claim7 := { stood := { row := millNilRow, standIns := [], harness := (true, "d88aa79fc2912c0b45f4258c19d7e9c8d220d66fe227a6a476840f2ff28e2a94"), looks := true }, kinds := [], alts := [], laidByText := true, laidKinds := [.data, .data, .data, .data, .sentinel, .sentinel, .data, .pinned], laidTests := true, laidLooks := .later }
def MillNilCardSaid : Prop := Claim7.holds Tryz.pinned (.plain (OpenSpec.ofChange millNilSpec)) millNilCard

/-- THE SECOND FORM's CARD OF 'cobblelaw10.MillNil'. -/
def millNilUptoCard : Claim7 := { stood := { row := millNilUptoRow, standIns := [], harness := (true, "d88aa79fc2912c0b45f4258c19d7e9c8d220d66fe227a6a476840f2ff28e2a94"), looks := true }, kinds := [], alts := [], laidByText := true, laidKinds := [.data, .data, .data, .data, .sentinel, .sentinel, .data, .pinned], laidTests := true, laidLooks := .later }
def MillNilUptoCardSaid : Prop := Claim7.holds Tryz.pinned (.plain (OpenSpec.upto millNilSpec)) millNilUptoCard
end Rows
end Go.Proofs.YtmchimkjonmhaaaGreatDoor
