/-
  No cell of these rows narrows 'for every input' (looked for: loops, veiled, ifaces, maps, wideKeys, modest, calm, conditions, laid).
  DERIVED. THE GIVEN ROWS OF THIS SEAT. 4 by the template 'for every input the law returns true; each argument reads behind the call as it read before'; 0 by the template 'total and deterministic' (their statements: YtchgncpfaclccaaTotals.lean).
  GIVEN WITH THE SEED: the statements are not yours to turn. If you find one false, say at which input.
  Laid BY PROGRAM, IN A SANDBOX (cutbox-rows.mjs): the forced cells as the released guide's own fill.sh prints them over the translation 80f945f5fc479ba8… (all of the seat's roots in one cut). By AI agents, Wed Nov 11 2026. No macro, syntax, notation, axiom, sorry.
-/
import Derived.Test.YtchgncpfaclccaaChecked
import GoSem.Claim
import GoSem.ClaimJoined
import GoSem.ClaimMapViews
import Derived.JoinedTies
import Derived.KernelRfl
namespace Go.Proofs.Ytchgncpfaclccaa
/- THE CELL 'sum', in the pinned program and in every row, IS THE sha256 OF THE DUMP (.gsa) THAT YtchgncpfaclccaaProg.lean LOADS. Nothing in Lean hashes anything: it is a label: what it is worth is what the hold of that sum in a sandbox is worth. -/
noncomputable def Try.pinned : Pinned := { name := "ytchgncpfaclccaa", sum := "80f945f5fc479ba8c9161eb066ab9e02e75d620065b109c000b27c1992a0f200", checked := Try.checked }
namespace Rows
def none {H : Type} : Left H := { results := [], args := [] }

/-- 'cobblelaw06.RollMarked': WHATEVER THE INPUT: true; the input reads as it did. -/
def rollMarkedSpec : ChangeSpec := { name := "rollMarked", fn := fun _ => fun
  | [d1, d2] => { results := [.lit (.bool true)], args := [d1, d2] }
  | _ => none }
def rollMarkedRow : OpenClaim := { program := "ytchgncpfaclccaa", sum := "80f945f5fc479ba8c9161eb066ab9e02e75d620065b109c000b27c1992a0f200", func := "cobble/cobblelaw06.RollMarked", spec := "rollMarked", unfollowed := true, recurses := true, apart := false }
def RollMarkedSaid : Prop := rollMarkedRow.holds Try.pinned (OpenSpec.ofChange rollMarkedSpec)

/-- ITS FALSE NEIGHBOUR: 'it returns false'. Refute it at one input. -/
def rollMarkedWrong : ChangeSpec := { name := "rollMarked", fn := fun _ => fun
  | [d1, d2] => { results := [.lit (.bool false)], args := [d1, d2] }
  | _ => none }
def RollMarkedWrongFalsely : Prop := rollMarkedRow.holds Try.pinned (OpenSpec.ofChange rollMarkedWrong)

/-- 'cobblelaw06.RollCauses': WHATEVER THE INPUT: true; the input reads as it did. -/
def rollCausesSpec : ChangeSpec := { name := "rollCauses", fn := fun _ => fun
  | [d1, d2] => { results := [.lit (.bool true)], args := [d1, d2] }
  | _ => none }
def rollCausesRow : OpenClaim := { program := "ytchgncpfaclccaa", sum := "80f945f5fc479ba8c9161eb066ab9e02e75d620065b109c000b27c1992a0f200", func := "cobble/cobblelaw06.RollCauses", spec := "rollCauses", unfollowed := true, recurses := true, apart := false }
def RollCausesSaid : Prop := rollCausesRow.holds Try.pinned (OpenSpec.ofChange rollCausesSpec)

/-- ITS FALSE NEIGHBOUR: 'it returns false'. Refute it at one input. -/
def rollCausesWrong : ChangeSpec := { name := "rollCauses", fn := fun _ => fun
  | [d1, d2] => { results := [.lit (.bool false)], args := [d1, d2] }
  | _ => none }
def RollCausesWrongFalsely : Prop := rollCausesRow.holds Try.pinned (OpenSpec.ofChange rollCausesWrong)

/-- 'cobblelaw06.RollPeriodic': WHATEVER THE INPUT: true; the input reads as it did. -/
def rollPeriodicSpec : ChangeSpec := { name := "rollPeriodic", fn := fun _ => fun
  | [d1, d2] => { results := [.lit (.bool true)], args := [d1, d2] }
  | _ => none }
def rollPeriodicRow : OpenClaim := { program := "ytchgncpfaclccaa", sum := "80f945f5fc479ba8c9161eb066ab9e02e75d620065b109c000b27c1992a0f200", func := "cobble/cobblelaw06.RollPeriodic", spec := "rollPeriodic", unfollowed := true, recurses := true, apart := false }
def RollPeriodicSaid : Prop := rollPeriodicRow.holds Try.pinned (OpenSpec.ofChange rollPeriodicSpec)

/-- ITS FALSE NEIGHBOUR: 'it returns false'. Refute it at one input. -/
def rollPeriodicWrong : ChangeSpec := { name := "rollPeriodic", fn := fun _ => fun
  | [d1, d2] => { results := [.lit (.bool false)], args := [d1, d2] }
  | _ => none }
def RollPeriodicWrongFalsely : Prop := rollPeriodicRow.holds Try.pinned (OpenSpec.ofChange rollPeriodicWrong)

/-- 'cobblelaw06.RollContradicted': WHATEVER THE INPUT: true; the input reads as it did. -/
def rollContradictedSpec : ChangeSpec := { name := "rollContradicted", fn := fun _ => fun
  | [d1, d2] => { results := [.lit (.bool true)], args := [d1, d2] }
  | _ => none }
def rollContradictedRow : OpenClaim := { program := "ytchgncpfaclccaa", sum := "80f945f5fc479ba8c9161eb066ab9e02e75d620065b109c000b27c1992a0f200", func := "cobble/cobblelaw06.RollContradicted", spec := "rollContradicted", unfollowed := true, recurses := true, apart := false }
def RollContradictedSaid : Prop := rollContradictedRow.holds Try.pinned (OpenSpec.ofChange rollContradictedSpec)

/-- ITS FALSE NEIGHBOUR: 'it returns false'. Refute it at one input. -/
def rollContradictedWrong : ChangeSpec := { name := "rollContradicted", fn := fun _ => fun
  | [d1, d2] => { results := [.lit (.bool false)], args := [d1, d2] }
  | _ => none }
def RollContradictedWrongFalsely : Prop := rollContradictedRow.holds Try.pinned (OpenSpec.ofChange rollContradictedWrong)

/- THE SECOND FORM. 'bulk': how many values and letters a reading holds, each counted each time it is reached (what is shared counts as often as it is met; a slice's spare places count too). A statement '..UptoSaid' is the law's where the arguments, and the package variables that the reading takes, are together of bulk at most 1048576: NARROWER than '..Said'. Prove '..Said' where nothing that the law and all that it calls make is longer than what came in: it says more and counts as full. Else prove '..UptoSaid'. A law counts once. -/
mutual
def uptoBulk {H : Type} : DataW H → Nat
  | .lit (.string bytes) => bytes.length + 1
  | .lit _ => 1
  | .nil => 1
  | .ptr d => uptoBulk d + 1
  | .slice elems spare => uptoBulkAll elems + uptoBulkAll spare + 1
  | .agg parts => uptoBulkAll parts + 1
  | .iface _ d => uptoBulk d + 1
  | .map entries => uptoBulkEntries entries + 1
  | .held _ => 1
def uptoBulkAll {H : Type} : List (DataW H) → Nat
  | [] => 0
  | d :: r => uptoBulk d + uptoBulkAll r
def uptoBulkEntries {H : Type} : List (Lit × DataW H) → Nat
  | [] => 0
  | x :: r => uptoBulkEntry x + uptoBulkEntries r
def uptoBulkEntry {H : Type} : Lit × DataW H → Nat
  | (.string bytes, d) => bytes.length + uptoBulk d + 1
  | (_, d) => uptoBulk d + 1
 end
def uptoSmall : (H : Type) → List (DataW H) → Bool := fun _ ds => decide (uptoBulkAll ds ≤ 1048576)
def OpenSpec.upto (s : _root_.Go.ChangeSpec) : _root_.Go.OpenSpec := { _root_.Go.OpenSpec.ofChange s with cond := some uptoSmall }

/-- 'cobblelaw06.RollMarked', WHERE WHAT IT READS IS OF BULK AT MOST 1048576: true; the input reads as it did. -/
def rollMarkedUptoRow : OpenClaim := { program := "ytchgncpfaclccaa", sum := "80f945f5fc479ba8c9161eb066ab9e02e75d620065b109c000b27c1992a0f200", func := "cobble/cobblelaw06.RollMarked", spec := "rollMarked", unfollowed := true, recurses := true, apart := false, narrowed := true }
def RollMarkedUptoSaid : Prop := rollMarkedUptoRow.holds Try.pinned (OpenSpec.upto rollMarkedSpec)

/-- 'cobblelaw06.RollCauses', WHERE WHAT IT READS IS OF BULK AT MOST 1048576: true; the input reads as it did. -/
def rollCausesUptoRow : OpenClaim := { program := "ytchgncpfaclccaa", sum := "80f945f5fc479ba8c9161eb066ab9e02e75d620065b109c000b27c1992a0f200", func := "cobble/cobblelaw06.RollCauses", spec := "rollCauses", unfollowed := true, recurses := true, apart := false, narrowed := true }
def RollCausesUptoSaid : Prop := rollCausesUptoRow.holds Try.pinned (OpenSpec.upto rollCausesSpec)

/-- 'cobblelaw06.RollPeriodic', WHERE WHAT IT READS IS OF BULK AT MOST 1048576: true; the input reads as it did. -/
def rollPeriodicUptoRow : OpenClaim := { program := "ytchgncpfaclccaa", sum := "80f945f5fc479ba8c9161eb066ab9e02e75d620065b109c000b27c1992a0f200", func := "cobble/cobblelaw06.RollPeriodic", spec := "rollPeriodic", unfollowed := true, recurses := true, apart := false, narrowed := true }
def RollPeriodicUptoSaid : Prop := rollPeriodicUptoRow.holds Try.pinned (OpenSpec.upto rollPeriodicSpec)

/-- 'cobblelaw06.RollContradicted', WHERE WHAT IT READS IS OF BULK AT MOST 1048576: true; the input reads as it did. -/
def rollContradictedUptoRow : OpenClaim := { program := "ytchgncpfaclccaa", sum := "80f945f5fc479ba8c9161eb066ab9e02e75d620065b109c000b27c1992a0f200", func := "cobble/cobblelaw06.RollContradicted", spec := "rollContradicted", unfollowed := true, recurses := true, apart := false, narrowed := true }
def RollContradictedUptoSaid : Prop := rollContradictedUptoRow.holds Try.pinned (OpenSpec.upto rollContradictedSpec)

end Rows
end Go.Proofs.Ytchgncpfaclccaa
