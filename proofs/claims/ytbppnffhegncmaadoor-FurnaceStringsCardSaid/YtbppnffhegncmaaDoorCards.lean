/-
  DERIVED. GIVEN WITH THE SEED: THE CARDS: each row of YtbppnffhegncmaaDoorRows.lean that lists a variable, with what it lists TIED to the program's text (the seventh form; the later family's looks); each row that meets fmt, with fmt's text TOLD by the authors' own Lean function (tested against real Go, not proved from fmt's source: count such statements apart). THE CARD IS WHAT COUNTS. Prove the row's statement (the work); the ties are given (YtbppnffhegncmaaDoorTie.lean); close each card by the builder's one call (the guide's Derived/Test/ToyasCard.lean, 'card_holds'). Laid BY PROGRAM, IN A SANDBOX (cutbox-door.mjs). By AI agents, Wed Nov 11 2026. No macro, syntax, notation, axiom, sorry.
-/
import Derived.Test.YtbppnffhegncmaaDoorRows
import GoSem.ClaimSeven
namespace Go.Proofs.YtbppnffhegncmaaDoor
namespace Rows

/-- THE TIED CARD OF 'cobblelaw02.FurnaceStrings'. -/
def furnaceStringsCard : Claim7 := { stood := { row := furnaceStringsRow, standIns := [], harness := (true, "ecf28933f7990e80f3e25fa1795eb79117c19246bddae34ea097ee03a8e7696a"), looks := false }, kinds := [], alts := [], laidByText := true, laidKinds := [.data, .data, .data, .data, .pinned], laidTests := true, laidLooks := .later }
def FurnaceStringsCardSaid : Prop := Claim7.holds Tryd.pinned (.plain (OpenSpec.ofChange furnaceStringsSpec)) furnaceStringsCard

/-- THE SECOND FORM's CARD OF 'cobblelaw02.FurnaceStrings'. -/
def furnaceStringsUptoCard : Claim7 := { stood := { row := furnaceStringsUptoRow, standIns := [], harness := (true, "ecf28933f7990e80f3e25fa1795eb79117c19246bddae34ea097ee03a8e7696a"), looks := false }, kinds := [], alts := [], laidByText := true, laidKinds := [.data, .data, .data, .data, .pinned], laidTests := true, laidLooks := .later }
def FurnaceStringsUptoCardSaid : Prop := Claim7.holds Tryd.pinned (.plain (OpenSpec.upto furnaceStringsSpec)) furnaceStringsUptoCard
end Rows
end Go.Proofs.YtbppnffhegncmaaDoor
