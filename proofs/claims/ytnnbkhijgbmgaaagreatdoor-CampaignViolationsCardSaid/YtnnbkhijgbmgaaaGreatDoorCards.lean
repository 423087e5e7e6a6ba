/-
  DERIVED. GIVEN WITH THE SEED: THE CARDS: each row of YtnnbkhijgbmgaaaGreatDoorRows.lean that lists a variable, with what it lists TIED to the program's text (the seventh form; the later family's looks); each row that meets fmt, with fmt's text TOLD by the authors' own Lean function (tested against real Go, not proved from fmt's source: count such statements apart). THE CARD IS WHAT COUNTS. Prove the row's statement (the work); the ties are given (YtnnbkhijgbmgaaaGreatDoorTie.lean); close each card by the builder's one call (the guide's Derived/Test/ToyasCard.lean, 'card_holds'). Laid BY PROGRAM, IN A SANDBOX (cutbox-door.mjs). By AI agents, Wed Nov 11 2026. No macro, syntax, notation, axiom, sorry.
-/
import Derived.Test.YtnnbkhijgbmgaaaGreatDoorRows
import GoSem.ClaimSeven
namespace Go.Proofs.YtnnbkhijgbmgaaaGreatDoor
namespace Rows

/-- THE TIED CARD OF 'cobblelaw01.CampaignSuits'. -/
def campaignSuitsCard : Claim7 := { stood := { row := campaignSuitsRow, standIns := [], harness := (true, "def45e8998b395fcbe58292be536698ec99f6742ec2a23dd0fa3dd8b4114903c"), looks := false }, kinds := [], alts := [], laidByText := true, laidKinds := [.data, .data, .data, .data, .pinned], laidTests := true, laidLooks := .later }
def CampaignSuitsCardSaid : Prop := Claim7.holds Tryz.pinned (.plain (OpenSpec.ofChange campaignSuitsSpec)) campaignSuitsCard

/-- THE TIED CARD OF 'cobblelaw01.CampaignVolume'. -/
def campaignVolumeCard : Claim7 := { stood := { row := campaignVolumeRow, standIns := [], harness := (true, "def45e8998b395fcbe58292be536698ec99f6742ec2a23dd0fa3dd8b4114903c"), looks := false }, kinds := [], alts := [], laidByText := true, laidKinds := [.data, .data, .data, .data, .pinned], laidTests := true, laidLooks := .later }
def CampaignVolumeCardSaid : Prop := Claim7.holds Tryz.pinned (.plain (OpenSpec.ofChange campaignVolumeSpec)) campaignVolumeCard

/-- THE TIED CARD OF 'cobblelaw01.CampaignViolations'. -/
def campaignViolationsCard : Claim7 := { stood := { row := campaignViolationsRow, standIns := [], harness := (true, "def45e8998b395fcbe58292be536698ec99f6742ec2a23dd0fa3dd8b4114903c"), looks := false }, kinds := [], alts := [], laidByText := true, laidKinds := [.data, .data, .data, .data, .pinned], laidTests := true, laidLooks := .later }
def CampaignViolationsCardSaid : Prop := Claim7.holds Tryz.pinned (.plain (OpenSpec.ofChange campaignViolationsSpec)) campaignViolationsCard

/-- THE SECOND FORM's CARD OF 'cobblelaw01.CampaignSuits'. -/
def campaignSuitsUptoCard : Claim7 := { stood := { row := campaignSuitsUptoRow, standIns := [], harness := (true, "def45e8998b395fcbe58292be536698ec99f6742ec2a23dd0fa3dd8b4114903c"), looks := false }, kinds := [], alts := [], laidByText := true, laidKinds := [.data, .data, .data, .data, .pinned], laidTests := true, laidLooks := .later }
def CampaignSuitsUptoCardSaid : Prop := Claim7.holds Tryz.pinned (.plain (OpenSpec.upto campaignSuitsSpec)) campaignSuitsUptoCard

/-- THE SECOND FORM's CARD OF 'cobblelaw01.CampaignVolume'. -/
def campaignVolumeUptoCard : Claim7 := { stood := { row := campaignVolumeUptoRow, standIns := [], harness := (true, "def45e8998b395fcbe58292be536698ec99f6742ec2a23dd0fa3dd8b4114903c"), looks := false }, kinds := [], alts := [], laidByText := true, laidKinds := [.data, .data, .data, .data, .pinned], laidTests := true, laidLooks := .later }
def CampaignVolumeUptoCardSaid : Prop := Claim7.holds Tryz.pinned (.plain (OpenSpec.upto campaignVolumeSpec)) campaignVolumeUptoCard

/-- THE SECOND FORM's CARD OF 'cobblelaw01.CampaignViolations'. -/
def campaignViolationsUptoCard : Claim7 := { stood := { row := campaignViolationsUptoRow, standIns := [], harness := (true, "def45e8998b395fcbe58292be536698ec99f6742ec2a23dd0fa3dd8b4114903c"), looks := false }, kinds := [], alts := [], laidByText := true, laidKinds := [.data, .data, .data, .data, .pinned], laidTests := true, laidLooks := .later }
def CampaignViolationsUptoCardSaid : Prop := Claim7.holds Tryz.pinned (.plain (OpenSpec.upto campaignViolationsSpec)) campaignViolationsUptoCard
end Rows
end Go.Proofs.YtnnbkhijgbmgaaaGreatDoor
