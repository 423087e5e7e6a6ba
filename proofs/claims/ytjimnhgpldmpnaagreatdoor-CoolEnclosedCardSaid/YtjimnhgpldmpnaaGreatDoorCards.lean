/-
  DERIVED. GIVEN WITH THE SEED: THE CARDS: each row of YtjimnhgpldmpnaaGreatDoorRows.lean that lists a variable, with what it lists TIED to the program's text (the seventh form; the later family's looks); each row that meets fmt, with fmt's text TOLD by the authors' own Lean function (tested against real Go, not proved from fmt's source: count such statements apart). THE CARD IS WHAT COUNTS. Prove the row's statement (the work); the ties are given (YtjimnhgpldmpnaaGreatDoorTie.lean); close each card by the builder's one call (the guide's Derived/Test/ToyasCard.lean, 'card_holds'). Laid BY PROGRAM, IN A SANDBOX (cutbox-door.mjs). By AI agents, Wed Nov 11 2026. No macro, syntax, notation, axiom, sorry.
-/
import Derived.Test.YtjimnhgpldmpnaaGreatDoorRows
import GoSem.ClaimSeven
namespace Go.Proofs.YtjimnhgpldmpnaaGreatDoor
namespace Rows

/-- THE TIED CARD OF 'cobblelaw08.CoolTables'. -/
def coolTablesCard : Claim7 := { stood := { row := coolTablesRow, standIns := [], harness := (true, "12cce6915e97dbc4989381c9b0a173fe3cb35e9c93088b1013187c2bcbbb6d32"), looks := false }, kinds := [], alts := [], laidByText := true, laidKinds := [.data, .data, .data], laidTests := true, laidLooks := .later }
def CoolTablesCardSaid : Prop := Claim7.holds Tryz.pinned (.plain (OpenSpec.ofChange coolTablesSpec)) coolTablesCard

/-- THE TIED CARD OF 'cobblelaw08.CoolStrips'. -/
def coolStripsCard : Claim7 := { stood := { row := coolStripsRow, standIns := [], harness := (true, "12cce6915e97dbc4989381c9b0a173fe3cb35e9c93088b1013187c2bcbbb6d32"), looks := false }, kinds := [], alts := [], laidByText := true, laidKinds := [.data, .data, .data], laidTests := true, laidLooks := .later }
def CoolStripsCardSaid : Prop := Claim7.holds Tryz.pinned (.plain (OpenSpec.ofChange coolStripsSpec)) coolStripsCard

/-- THE TIED CARD OF 'cobblelaw08.CoolEnclosed'. -/
def coolEnclosedCard : Claim7 := { stood := { row := coolEnclosedRow, standIns := [], harness := (true, "12cce6915e97dbc4989381c9b0a173fe3cb35e9c93088b1013187c2bcbbb6d32"), looks := false }, kinds := [], alts := [], laidByText := true, laidKinds := [.data, .data, .data], laidTests := true, laidLooks := .later }
def CoolEnclosedCardSaid : Prop := Claim7.holds Tryz.pinned (.plain (OpenSpec.ofChange coolEnclosedSpec)) coolEnclosedCard

/-- THE TIED CARD OF 'cobblelaw08.CoolReaching'. -/
def coolReachingCard : Claim7 := { stood := { row := coolReachingRow, standIns := [], harness := (true, "12cce6915e97dbc4989381c9b0a173fe3cb35e9c93088b1013187c2bcbbb6d32"), looks := false }, kinds := [], alts := [], laidByText := true, laidKinds := [.data, .data, .data], laidTests := true, laidLooks := .later }
def CoolReachingCardSaid : Prop := Claim7.holds Tryz.pinned (.plain (OpenSpec.ofChange coolReachingSpec)) coolReachingCard

/-- THE TIED CARD OF 'cobblelaw08.CoolReached'. -/
def coolReachedCard : Claim7 := { stood := { row := coolReachedRow, standIns := [], harness := (true, "12cce6915e97dbc4989381c9b0a173fe3cb35e9c93088b1013187c2bcbbb6d32"), looks := false }, kinds := [], alts := [], laidByText := true, laidKinds := [.data, .data, .data], laidTests := true, laidLooks := .later }
def CoolReachedCardSaid : Prop := Claim7.holds Tryz.pinned (.plain (OpenSpec.ofChange coolReachedSpec)) coolReachedCard

/-- THE SECOND FORM's CARD OF 'cobblelaw08.CoolTables'. -/
def coolTablesUptoCard : Claim7 := { stood := { row := coolTablesUptoRow, standIns := [], harness := (true, "12cce6915e97dbc4989381c9b0a173fe3cb35e9c93088b1013187c2bcbbb6d32"), looks := false }, kinds := [], alts := [], laidByText := true, laidKinds := [.data, .data, .data], laidTests := true, laidLooks := .later }
def CoolTablesUptoCardSaid : Prop := Claim7.holds Tryz.pinned (.plain (OpenSpec.upto coolTablesSpec)) coolTablesUptoCard

/-- THE SECOND FORM's CARD OF 'cobblelaw08.CoolStrips'. -/
def coolStripsUptoCard : Claim7 := { stood := { row := coolStripsUptoRow, standIns := [], harness := (true, "12cce6915e97dbc4989381c9b0a173fe3cb35e9c93088b1013187c2bcbbb6d32"), looks := false }, kinds := [], alts := [], laidByText := true, laidKinds := [.data, .data, .data], laidTests := true, laidLooks := .later }
def CoolStripsUptoCardSaid : Prop := Claim7.holds Tryz.pinned (.plain (OpenSpec.upto coolStripsSpec)) coolStripsUptoCard

/-- THE SECOND FORM's CARD OF 'cobblelaw08.CoolEnclosed'. -/
def coolEnclosedUptoCard : Claim7 := { stood := { row := coolEnclosedUptoRow, standIns := [], harness := (true, "12cce6915e97dbc4989381c9b0a173fe3cb35e9c93088b1013187c2bcbbb6d32"), looks := false }, kinds := [], alts := [], laidByText := true, laidKinds := [.data, .data, .data], laidTests := true, laidLooks := .later }
def CoolEnclosedUptoCardSaid : Prop := Claim7.holds Tryz.pinned (.plain (OpenSpec.upto coolEnclosedSpec)) coolEnclosedUptoCard

/-- THE SECOND FORM's CARD OF 'cobblelaw08.CoolReaching'. -/
def coolReachingUptoCard : Claim7 := { stood := { row := coolReachingUptoRow, standIns := [], harness := (true, "12cce6915e97dbc4989381c9b0a173fe3cb35e9c93088b1013187c2bcbbb6d32"), looks := false }, kinds := [], alts := [], laidByText := true, laidKinds := [.data, .data, .data], laidTests := true, laidLooks := .later }
def CoolReachingUptoCardSaid : Prop := Claim7.holds Tryz.pinned (.plain (OpenSpec.upto coolReachingSpec)) coolReachingUptoCard

/-- THE SECOND FORM's CARD OF 'cobblelaw08.CoolReached'. -/
def coolReachedUptoCard : Claim7 := { stood := { row := coolReachedUptoRow, standIns := [], harness := (true, "12cce6915e97dbc4989381c9b0a173fe3cb35e9c93088b1013187c2bcbbb6d32"), looks := false }, kinds := [], alts := [], laidByText := true, laidKinds := [.data, .data, .data], laidTests := true, laidLooks := .later }
def CoolReachedUptoCardSaid : Prop := Claim7.holds Tryz.pinned (.plain (OpenSpec.upto coolReachedSpec)) coolReachedUptoCard
end Rows
end Go.Proofs.YtjimnhgpldmpnaaGreatDoor
