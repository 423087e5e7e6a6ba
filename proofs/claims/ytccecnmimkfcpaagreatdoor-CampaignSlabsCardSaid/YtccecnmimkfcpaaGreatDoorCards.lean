/-
  DERIVED. GIVEN WITH THE SEED: THE CARDS: each row of YtccecnmimkfcpaaGreatDoorRows.lean that lists a variable, with what it lists TIED to the program's text (the seventh form; the later family's looks); each row that meets fmt, with fmt's text TOLD by the authors' own Lean function (tested against real Go, not proved from fmt's source: count such statements apart). THE CARD IS WHAT COUNTS. Prove the row's statement (the work); the ties are given (YtccecnmimkfcpaaGreatDoorTie.lean); close each card by the builder's one call (the guide's Derived/Test/ToyasCard.lean, 'card_holds'). Laid BY PROGRAM, IN A SANDBOX (cutbox-door.mjs). By AI agents, Wed Nov 11 2026. No macro, syntax, notation, axiom, sorry.
-/
import Derived.Test.YtccecnmimkfcpaaGreatDoorRows
import GoSem.ClaimSeven
namespace Go.Proofs.YtccecnmimkfcpaaGreatDoor
namespace Rows

/-- THE TIED CARD OF 'cobblelaw01.CampaignSlabs'. -/
def campaignSlabsCard : Claim7 := { stood := { row := campaignSlabsRow, standIns := [], harness := (true, "d524414b6d1697f107937321ce0998acf457937f2e4eb38de40725ec667c2255"), looks := false }, kinds := [], alts := [], laidByText := true, laidKinds := [.data, .data, .data, .data, .pinned], laidTests := true, laidLooks := .later }
def CampaignSlabsCardSaid : Prop := Claim7.holds Tryz.pinned (.plain (OpenSpec.ofChange campaignSlabsSpec)) campaignSlabsCard

/-- THE SECOND FORM's CARD OF 'cobblelaw01.CampaignSlabs'. -/
def campaignSlabsUptoCard : Claim7 := { stood := { row := campaignSlabsUptoRow, standIns := [], harness := (true, "d524414b6d1697f107937321ce0998acf457937f2e4eb38de40725ec667c2255"), looks := false }, kinds := [], alts := [], laidByText := true, laidKinds := [.data, .data, .data, .data, .pinned], laidTests := true, laidLooks := .later }
def CampaignSlabsUptoCardSaid : Prop := Claim7.holds Tryz.pinned (.plain (OpenSpec.upto campaignSlabsSpec)) campaignSlabsUptoCard
end Rows
end Go.Proofs.YtccecnmimkfcpaaGreatDoor
