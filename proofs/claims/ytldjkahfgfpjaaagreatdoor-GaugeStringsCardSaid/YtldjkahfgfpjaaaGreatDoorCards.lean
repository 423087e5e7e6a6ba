/-
  DERIVED. GIVEN WITH THE SEED: THE CARDS: each row of YtldjkahfgfpjaaaGreatDoorRows.lean that lists a variable, with what it lists TIED to the program's text (the seventh form; the later family's looks); each row that meets fmt, with fmt's text TOLD by the authors' own Lean function (tested against real Go, not proved from fmt's source: count such statements apart). THE CARD IS WHAT COUNTS. Prove the row's statement (the work); the ties are given (YtldjkahfgfpjaaaGreatDoorTie.lean); close each card by the builder's one call (the guide's Derived/Test/ToyasCard.lean, 'card_holds'). Laid BY PROGRAM, IN A SANDBOX (cutbox-door.mjs). By AI agents, Wed Nov 11 2026. No macro, syntax, notation, axiom, sorry.
-/
import Derived.Test.YtldjkahfgfpjaaaGreatDoorRows
import GoSem.ClaimSeven
namespace Go.Proofs.YtldjkahfgfpjaaaGreatDoor
namespace Rows

/-- THE TIED CARD OF 'cobblelaw05.GaugeStrings'. -/
def gaugeStringsCard : Claim7 := { stood := { row := gaugeStringsRow, standIns := [], harness := (true, "39163a9a9bdcdcda1c76c6e0c0b5f8ebc57b93e14c3a30a678d6e33493bee12c"), looks := true }, kinds := [], alts := [], laidByText := true, laidKinds := [.data, .data, .data, .data, .sentinel, .sentinel, .pinned], laidTests := true, laidLooks := .later }
def GaugeStringsCardSaid : Prop := Claim7.holds Tryz.pinned (.plain (OpenSpec.ofChange gaugeStringsSpec)) gaugeStringsCard

/-- THE SECOND FORM's CARD OF 'cobblelaw05.GaugeStrings'. -/
def gaugeStringsUptoCard : Claim7 := { stood := { row := gaugeStringsUptoRow, standIns := [], harness := (true, "39163a9a9bdcdcda1c76c6e0c0b5f8ebc57b93e14c3a30a678d6e33493bee12c"), looks := true }, kinds := [], alts := [], laidByText := true, laidKinds := [.data, .data, .data, .data, .sentinel, .sentinel, .pinned], laidTests := true, laidLooks := .later }
def GaugeStringsUptoCardSaid : Prop := Claim7.holds Tryz.pinned (.plain (OpenSpec.upto gaugeStringsSpec)) gaugeStringsUptoCard
end Rows
end Go.Proofs.YtldjkahfgfpjaaaGreatDoor
