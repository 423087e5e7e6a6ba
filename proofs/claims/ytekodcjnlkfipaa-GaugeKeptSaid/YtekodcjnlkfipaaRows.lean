/-
  No cell of these rows narrows 'for every input' (looked for: loops, veiled, ifaces, maps, wideKeys, modest, calm, conditions, laid).
  DERIVED. THE GIVEN ROWS OF THIS SEAT. 4 by the template 'for every input the law returns true; each argument reads behind the call as it read before'; 0 by the template 'total and deterministic' (their statements: YtekodcjnlkfipaaTotals.lean).
  GIVEN WITH THE SEED: the statements are not yours to turn. If you find one false, say at which input.
  Laid BY PROGRAM, IN A SANDBOX (cutbox-rows.mjs): the forced cells as the released guide's own fill.sh prints them over the translation 4ffea8d8f80d16e4… (all of the seat's roots in one cut). By AI agents, Wed Nov 11 2026. No macro, syntax, notation, axiom, sorry.
-/
import Derived.Test.YtekodcjnlkfipaaChecked
import GoSem.Claim
import GoSem.ClaimJoined
import GoSem.ClaimMapViews
import Derived.JoinedTies
import Derived.KernelRfl
namespace Go.Proofs.Ytekodcjnlkfipaa
/- THE CELL 'sum', in the pinned program and in every row, IS THE sha256 OF THE DUMP (.gsa) THAT YtekodcjnlkfipaaProg.lean LOADS. Nothing in Lean hashes anything: it is a label: what it is worth is what the hold of that sum in a sandbox is worth. -/
noncomputable def Try.pinned : Pinned := { name := "ytekodcjnlkfipaa", sum := "4ffea8d8f80d16e4a212229f7c1f28d12f6f7f3b607b555e06614e79e8e3af33", checked := Try.checked }
namespace Rows
def none {H : Type} : Left H := { results := [], args := [] }

/-- 'cobblelaw05.GaugeChains': WHATEVER THE INPUT: true; the input reads as it did. -/
def gaugeChainsSpec : ChangeSpec := { name := "gaugeChains", fn := fun _ => fun
  | [d1, d2] => { results := [.lit (.bool true)], args := [d1, d2] }
  | _ => none }
def gaugeChainsRow : OpenClaim := { program := "ytekodcjnlkfipaa", sum := "4ffea8d8f80d16e4a212229f7c1f28d12f6f7f3b607b555e06614e79e8e3af33", func := "cobble/cobblelaw05.GaugeChains", spec := "gaugeChains", inPlace := ["slices.overlaps[int]"], unfollowed := true, recurses := true, apart := false }
def GaugeChainsSaid : Prop := gaugeChainsRow.holds Try.pinned (OpenSpec.ofChange gaugeChainsSpec)

/-- ITS FALSE NEIGHBOUR: 'it returns false'. Refute it at one input. -/
def gaugeChainsWrong : ChangeSpec := { name := "gaugeChains", fn := fun _ => fun
  | [d1, d2] => { results := [.lit (.bool false)], args := [d1, d2] }
  | _ => none }
def GaugeChainsWrongFalsely : Prop := gaugeChainsRow.holds Try.pinned (OpenSpec.ofChange gaugeChainsWrong)

/-- 'cobblelaw05.GaugeBoxes': WHATEVER THE INPUT: true; the input reads as it did. -/
def gaugeBoxesSpec : ChangeSpec := { name := "gaugeBoxes", fn := fun _ => fun
  | [d1, d2, d3] => { results := [.lit (.bool true)], args := [d1, d2, d3] }
  | _ => none }
def gaugeBoxesRow : OpenClaim := { program := "ytekodcjnlkfipaa", sum := "4ffea8d8f80d16e4a212229f7c1f28d12f6f7f3b607b555e06614e79e8e3af33", func := "cobble/cobblelaw05.GaugeBoxes", spec := "gaugeBoxes", inPlace := ["slices.overlaps[int]"], unfollowed := true, recurses := true, apart := false }
def GaugeBoxesSaid : Prop := gaugeBoxesRow.holds Try.pinned (OpenSpec.ofChange gaugeBoxesSpec)

/-- ITS FALSE NEIGHBOUR: 'it returns false'. Refute it at one input. -/
def gaugeBoxesWrong : ChangeSpec := { name := "gaugeBoxes", fn := fun _ => fun
  | [d1, d2, d3] => { results := [.lit (.bool false)], args := [d1, d2, d3] }
  | _ => none }
def GaugeBoxesWrongFalsely : Prop := gaugeBoxesRow.holds Try.pinned (OpenSpec.ofChange gaugeBoxesWrong)

/-- 'cobblelaw05.GaugeKept': WHATEVER THE INPUT: true; the input reads as it did. -/
def gaugeKeptSpec : ChangeSpec := { name := "gaugeKept", fn := fun _ => fun
  | [d1, d2, d3] => { results := [.lit (.bool true)], args := [d1, d2, d3] }
  | _ => none }
def gaugeKeptRow : OpenClaim := { program := "ytekodcjnlkfipaa", sum := "4ffea8d8f80d16e4a212229f7c1f28d12f6f7f3b607b555e06614e79e8e3af33", func := "cobble/cobblelaw05.GaugeKept", spec := "gaugeKept", inPlace := ["slices.overlaps[int]"], unfollowed := true, recurses := true, apart := false }
def GaugeKeptSaid : Prop := gaugeKeptRow.holds Try.pinned (OpenSpec.ofChange gaugeKeptSpec)

/-- ITS FALSE NEIGHBOUR: 'it returns false'. Refute it at one input. -/
def gaugeKeptWrong : ChangeSpec := { name := "gaugeKept", fn := fun _ => fun
  | [d1, d2, d3] => { results := [.lit (.bool false)], args := [d1, d2, d3] }
  | _ => none }
def GaugeKeptWrongFalsely : Prop := gaugeKeptRow.holds Try.pinned (OpenSpec.ofChange gaugeKeptWrong)

/-- 'cobbletop.TopGaugeHeld': WHATEVER THE INPUT: true; the input reads as it did. -/
def topGaugeHeldSpec : ChangeSpec := { name := "topGaugeHeld", fn := fun _ => fun
  | [d1, d2, d3] => { results := [.lit (.bool true)], args := [d1, d2, d3] }
  | _ => none }
def topGaugeHeldRow : OpenClaim := { program := "ytekodcjnlkfipaa", sum := "4ffea8d8f80d16e4a212229f7c1f28d12f6f7f3b607b555e06614e79e8e3af33", func := "cobble/cobbletop.TopGaugeHeld", spec := "topGaugeHeld", unfollowed := true, recurses := true, apart := false }
def TopGaugeHeldSaid : Prop := topGaugeHeldRow.holds Try.pinned (OpenSpec.ofChange topGaugeHeldSpec)

/-- ITS FALSE NEIGHBOUR: 'it returns false'. Refute it at one input. -/
def topGaugeHeldWrong : ChangeSpec := { name := "topGaugeHeld", fn := fun _ => fun
  | [d1, d2, d3] => { results := [.lit (.bool false)], args := [d1, d2, d3] }
  | _ => none }
def TopGaugeHeldWrongFalsely : Prop := topGaugeHeldRow.holds Try.pinned (OpenSpec.ofChange topGaugeHeldWrong)

/- THE SECOND FORM. 'bulk': how many values and letters a reading holds, each counted each time it is reached (what is shared counts as often as it is met; a slice's spare places count too). A statement '..UptoSaid' is the law's where the arguments, and the package variables that the reading takes, are together of bulk at most 1048576: NARROWER than '..Said'. Prove '..Said' where nothing that the law and all that it calls make is longer than what came in: it says more and counts as full. Else prove '..UptoSaid'. A law counts once. -/
mutual
def uptoBulk {H : Type} : DataW H → Nat
  | .lit (.string bytes) => bytes.length + 1
  | .lit _ => 1
  | .nil => 1
  | .ptr d => uptoBulk d + 1
  | .slice elems spare => uptoBulkAll elems + uptoBulkAll spare + 1
  | .agg parts => uptoBulkAll parts + 1
  | .iface _ d => uptoBulk d + 1
  | .map entries => uptoBulkEntries entries + 1
  | .held _ => 1
def uptoBulkAll {H : Type} : List (DataW H) → Nat
  | [] => 0
  | d :: r => uptoBulk d + uptoBulkAll r
def uptoBulkEntries {H : Type} : List (Lit × DataW H) → Nat
  | [] => 0
  | x :: r => uptoBulkEntry x + uptoBulkEntries r
def uptoBulkEntry {H : Type} : Lit × DataW H → Nat
  | (.string bytes, d) => bytes.length + uptoBulk d + 1
  | (_, d) => uptoBulk d + 1
 end
def uptoSmall : (H : Type) → List (DataW H) → Bool := fun _ ds => decide (uptoBulkAll ds ≤ 1048576)
def OpenSpec.upto (s : _root_.Go.ChangeSpec) : _root_.Go.OpenSpec := { _root_.Go.OpenSpec.ofChange s with cond := some uptoSmall }

/-- 'cobblelaw05.GaugeChains', WHERE WHAT IT READS IS OF BULK AT MOST 1048576: true; the input reads as it did. -/
def gaugeChainsUptoRow : OpenClaim := { program := "ytekodcjnlkfipaa", sum := "4ffea8d8f80d16e4a212229f7c1f28d12f6f7f3b607b555e06614e79e8e3af33", func := "cobble/cobblelaw05.GaugeChains", spec := "gaugeChains", inPlace := ["slices.overlaps[int]"], unfollowed := true, recurses := true, apart := false, narrowed := true }
def GaugeChainsUptoSaid : Prop := gaugeChainsUptoRow.holds Try.pinned (OpenSpec.upto gaugeChainsSpec)

/-- 'cobblelaw05.GaugeBoxes', WHERE WHAT IT READS IS OF BULK AT MOST 1048576: true; the input reads as it did. -/
def gaugeBoxesUptoRow : OpenClaim := { program := "ytekodcjnlkfipaa", sum := "4ffea8d8f80d16e4a212229f7c1f28d12f6f7f3b607b555e06614e79e8e3af33", func := "cobble/cobblelaw05.GaugeBoxes", spec := "gaugeBoxes", inPlace := ["slices.overlaps[int]"], unfollowed := true, recurses := true, apart := false, narrowed := true }
def GaugeBoxesUptoSaid : Prop := gaugeBoxesUptoRow.holds Try.pinned (OpenSpec.upto gaugeBoxesSpec)

/-- 'cobblelaw05.GaugeKept', WHERE WHAT IT READS IS OF BULK AT MOST 1048576: true; the input reads as it did. -/
def gaugeKeptUptoRow : OpenClaim := { program := "ytekodcjnlkfipaa", sum := "4ffea8d8f80d16e4a212229f7c1f28d12f6f7f3b607b555e06614e79e8e3af33", func := "cobble/cobblelaw05.GaugeKept", spec := "gaugeKept", inPlace := ["slices.overlaps[int]"], unfollowed := true, recurses := true, apart := false, narrowed := true }
def GaugeKeptUptoSaid : Prop := gaugeKeptUptoRow.holds Try.pinned (OpenSpec.upto gaugeKeptSpec)

/-- 'cobbletop.TopGaugeHeld', WHERE WHAT IT READS IS OF BULK AT MOST 1048576: true; the input reads as it did. -/
def topGaugeHeldUptoRow : OpenClaim := { program := "ytekodcjnlkfipaa", sum := "4ffea8d8f80d16e4a212229f7c1f28d12f6f7f3b607b555e06614e79e8e3af33", func := "cobble/cobbletop.TopGaugeHeld", spec := "topGaugeHeld", unfollowed := true, recurses := true, apart := false, narrowed := true }
def TopGaugeHeldUptoSaid : Prop := topGaugeHeldUptoRow.holds Try.pinned (OpenSpec.upto topGaugeHeldSpec)

end Rows
end Go.Proofs.Ytekodcjnlkfipaa
