/-
  No cell of these rows narrows 'for every input' (looked for: loops, veiled, ifaces, maps, wideKeys, modest, calm, conditions, laid).
  DERIVED. THE GIVEN ROWS OF THIS SEAT. 3 by the template 'for every input the law returns true; each argument reads behind the call as it read before'; 0 by the template 'total and deterministic' (their statements: YthgcicagmdlnmaaTotals.lean).
  GIVEN WITH THE SEED: the statements are not yours to turn. If you find one false, say at which input.
  Laid BY PROGRAM, IN A SANDBOX (cutbox-rows.mjs): the forced cells as the released guide's own fill.sh prints them over the translation 462c87425d647e11… (all of the seat's roots in one cut). By AI agents, Wed Nov 11 2026. No macro, syntax, notation, axiom, sorry.
-/
import Derived.Test.YthgcicagmdlnmaaChecked
import GoSem.Claim
import GoSem.ClaimJoined
import GoSem.ClaimMapViews
import Derived.JoinedTies
import Derived.KernelRfl
namespace Go.Proofs.Ythgcicagmdlnmaa
/- THE CELL 'sum', in the pinned program and in every row, IS THE sha256 OF THE DUMP (.gsa) THAT YthgcicagmdlnmaaProg.lean LOADS. Nothing in Lean hashes anything: it is a label: what it is worth is what the hold of that sum in a sandbox is worth. -/
noncomputable def Try.pinned : Pinned := { name := "ythgcicagmdlnmaa", sum := "462c87425d647e112bfe3954d82cffbaaf59ebcb38533a817ee9c763aacb565c", checked := Try.checked }
namespace Rows
def none {H : Type} : Left H := { results := [], args := [] }

/-- 'cobblelaw05.GaugeFlows': WHATEVER THE INPUT: true; the input reads as it did. -/
def gaugeFlowsSpec : ChangeSpec := { name := "gaugeFlows", fn := fun _ => fun
  | [d1, d2] => { results := [.lit (.bool true)], args := [d1, d2] }
  | _ => none }
def gaugeFlowsRow : OpenClaim := { program := "ythgcicagmdlnmaa", sum := "462c87425d647e112bfe3954d82cffbaaf59ebcb38533a817ee9c763aacb565c", func := "cobble/cobblelaw05.GaugeFlows", spec := "gaugeFlows", inPlace := ["slices.overlaps[int]"], unfollowed := true, recurses := true, apart := false }
def GaugeFlowsSaid : Prop := gaugeFlowsRow.holds Try.pinned (OpenSpec.ofChange gaugeFlowsSpec)

/-- ITS FALSE NEIGHBOUR: 'it returns false'. Refute it at one input. -/
def gaugeFlowsWrong : ChangeSpec := { name := "gaugeFlows", fn := fun _ => fun
  | [d1, d2] => { results := [.lit (.bool false)], args := [d1, d2] }
  | _ => none }
def GaugeFlowsWrongFalsely : Prop := gaugeFlowsRow.holds Try.pinned (OpenSpec.ofChange gaugeFlowsWrong)

/-- 'cobblelaw05.GaugeMonitors': WHATEVER THE INPUT: true; the input reads as it did. -/
def gaugeMonitorsSpec : ChangeSpec := { name := "gaugeMonitors", fn := fun _ => fun
  | [d1, d2, d3] => { results := [.lit (.bool true)], args := [d1, d2, d3] }
  | _ => none }
def gaugeMonitorsRow : OpenClaim := { program := "ythgcicagmdlnmaa", sum := "462c87425d647e112bfe3954d82cffbaaf59ebcb38533a817ee9c763aacb565c", func := "cobble/cobblelaw05.GaugeMonitors", spec := "gaugeMonitors", inPlace := ["slices.overlaps[int]"], unfollowed := true, recurses := true, apart := false }
def GaugeMonitorsSaid : Prop := gaugeMonitorsRow.holds Try.pinned (OpenSpec.ofChange gaugeMonitorsSpec)

/-- ITS FALSE NEIGHBOUR: 'it returns false'. Refute it at one input. -/
def gaugeMonitorsWrong : ChangeSpec := { name := "gaugeMonitors", fn := fun _ => fun
  | [d1, d2, d3] => { results := [.lit (.bool false)], args := [d1, d2, d3] }
  | _ => none }
def GaugeMonitorsWrongFalsely : Prop := gaugeMonitorsRow.holds Try.pinned (OpenSpec.ofChange gaugeMonitorsWrong)

/-- 'cobblelaw05.GaugeBands': WHATEVER THE INPUT: true; the input reads as it did. -/
def gaugeBandsSpec : ChangeSpec := { name := "gaugeBands", fn := fun _ => fun
  | [d1, d2] => { results := [.lit (.bool true)], args := [d1, d2] }
  | _ => none }
def gaugeBandsRow : OpenClaim := { program := "ythgcicagmdlnmaa", sum := "462c87425d647e112bfe3954d82cffbaaf59ebcb38533a817ee9c763aacb565c", func := "cobble/cobblelaw05.GaugeBands", spec := "gaugeBands", inPlace := ["slices.overlaps[int]"], unfollowed := true, recurses := true, apart := false }
def GaugeBandsSaid : Prop := gaugeBandsRow.holds Try.pinned (OpenSpec.ofChange gaugeBandsSpec)

/-- ITS FALSE NEIGHBOUR: 'it returns false'. Refute it at one input. -/
def gaugeBandsWrong : ChangeSpec := { name := "gaugeBands", fn := fun _ => fun
  | [d1, d2] => { results := [.lit (.bool false)], args := [d1, d2] }
  | _ => none }
def GaugeBandsWrongFalsely : Prop := gaugeBandsRow.holds Try.pinned (OpenSpec.ofChange gaugeBandsWrong)

/- THE SECOND FORM. 'bulk': how many values and letters a reading holds, each counted each time it is reached (what is shared counts as often as it is met; a slice's spare places count too). A statement '..UptoSaid' is the law's where the arguments, and the package variables that the reading takes, are together of bulk at most 1048576: NARROWER than '..Said'. Prove '..Said' where nothing that the law and all that it calls make is longer than what came in: it says more and counts as full. Else prove '..UptoSaid'. A law counts once. -/
mutual
def uptoBulk {H : Type} : DataW H → Nat
  | .lit (.string bytes) => bytes.length + 1
  | .lit _ => 1
  | .nil => 1
  | .ptr d => uptoBulk d + 1
  | .slice elems spare => uptoBulkAll elems + uptoBulkAll spare + 1
  | .agg parts => uptoBulkAll parts + 1
  | .iface _ d => uptoBulk d + 1
  | .map entries => uptoBulkEntries entries + 1
  | .held _ => 1
def uptoBulkAll {H : Type} : List (DataW H) → Nat
  | [] => 0
  | d :: r => uptoBulk d + uptoBulkAll r
def uptoBulkEntries {H : Type} : List (Lit × DataW H) → Nat
  | [] => 0
  | x :: r => uptoBulkEntry x + uptoBulkEntries r
def uptoBulkEntry {H : Type} : Lit × DataW H → Nat
  | (.string bytes, d) => bytes.length + uptoBulk d + 1
  | (_, d) => uptoBulk d + 1
 end
def uptoSmall : (H : Type) → List (DataW H) → Bool := fun _ ds => decide (uptoBulkAll ds ≤ 1048576)
def OpenSpec.upto (s : _root_.Go.ChangeSpec) : _root_.Go.OpenSpec := { _root_.Go.OpenSpec.ofChange s with cond := some uptoSmall }

/-- 'cobblelaw05.GaugeFlows', WHERE WHAT IT READS IS OF BULK AT MOST 1048576: true; the input reads as it did. -/
def gaugeFlowsUptoRow : OpenClaim := { program := "ythgcicagmdlnmaa", sum := "462c87425d647e112bfe3954d82cffbaaf59ebcb38533a817ee9c763aacb565c", func := "cobble/cobblelaw05.GaugeFlows", spec := "gaugeFlows", inPlace := ["slices.overlaps[int]"], unfollowed := true, recurses := true, apart := false, narrowed := true }
def GaugeFlowsUptoSaid : Prop := gaugeFlowsUptoRow.holds Try.pinned (OpenSpec.upto gaugeFlowsSpec)

/-- 'cobblelaw05.GaugeMonitors', WHERE WHAT IT READS IS OF BULK AT MOST 1048576: true; the input reads as it did. -/
def gaugeMonitorsUptoRow : OpenClaim := { program := "ythgcicagmdlnmaa", sum := "462c87425d647e112bfe3954d82cffbaaf59ebcb38533a817ee9c763aacb565c", func := "cobble/cobblelaw05.GaugeMonitors", spec := "gaugeMonitors", inPlace := ["slices.overlaps[int]"], unfollowed := true, recurses := true, apart := false, narrowed := true }
def GaugeMonitorsUptoSaid : Prop := gaugeMonitorsUptoRow.holds Try.pinned (OpenSpec.upto gaugeMonitorsSpec)

/-- 'cobblelaw05.GaugeBands', WHERE WHAT IT READS IS OF BULK AT MOST 1048576: true; the input reads as it did. -/
def gaugeBandsUptoRow : OpenClaim := { program := "ythgcicagmdlnmaa", sum := "462c87425d647e112bfe3954d82cffbaaf59ebcb38533a817ee9c763aacb565c", func := "cobble/cobblelaw05.GaugeBands", spec := "gaugeBands", inPlace := ["slices.overlaps[int]"], unfollowed := true, recurses := true, apart := false, narrowed := true }
def GaugeBandsUptoSaid : Prop := gaugeBandsUptoRow.holds Try.pinned (OpenSpec.upto gaugeBandsSpec)

end Rows
end Go.Proofs.Ythgcicagmdlnmaa
