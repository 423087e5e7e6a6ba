/-
  No cell of these rows narrows 'for every input' (looked for: loops, veiled, ifaces, maps, wideKeys, modest, calm, conditions, laid).
  DERIVED. THE GIVEN ROWS OF THIS SEAT. 2 by the template 'for every input the law returns true; each argument reads behind the call as it read before'; 0 by the template 'total and deterministic' (their statements: YtoelmajokkdeoaaTotals.lean).
  GIVEN WITH THE SEED: the statements are not yours to turn. If you find one false, say at which input.
  Laid BY PROGRAM, IN A SANDBOX (cutbox-rows.mjs): the forced cells as the released guide's own fill.sh prints them over the translation 93097199c4abe24f… (all of the seat's roots in one cut). By AI agents, Wed Nov 11 2026. No macro, syntax, notation, axiom, sorry.
-/
import Derived.Test.YtoelmajokkdeoaaChecked
import GoSem.Claim
import GoSem.ClaimJoined
import GoSem.ClaimMapViews
import Derived.JoinedTies
import Derived.KernelRfl
namespace Go.Proofs.Ytoelmajokkdeoaa
/- THE CELL 'sum', in the pinned program and in every row, IS THE sha256 OF THE DUMP (.gsa) THAT YtoelmajokkdeoaaProg.lean LOADS. Nothing in Lean hashes anything: it is a label: what it is worth is what the hold of that sum in a sandbox is worth. -/
noncomputable def Try.pinned : Pinned := { name := "ytoelmajokkdeoaa", sum := "93097199c4abe24f7abeca40c149628bb26a515b56a225b1aec86a6d5806976b", checked := Try.checked }
namespace Rows
def none {H : Type} : Left H := { results := [], args := [] }

/-- 'cobblelaw02.FurnaceSteps': WHATEVER THE INPUT: true; the input reads as it did. -/
def furnaceStepsSpec : ChangeSpec := { name := "furnaceSteps", fn := fun _ => fun
  | [d1, d2, d3] => { results := [.lit (.bool true)], args := [d1, d2, d3] }
  | _ => none }
def furnaceStepsRow : OpenClaim := { program := "ytoelmajokkdeoaa", sum := "93097199c4abe24f7abeca40c149628bb26a515b56a225b1aec86a6d5806976b", func := "cobble/cobblelaw02.FurnaceSteps", spec := "furnaceSteps", unfollowed := true, recurses := true, apart := false }
def FurnaceStepsSaid : Prop := furnaceStepsRow.holds Try.pinned (OpenSpec.ofChange furnaceStepsSpec)

/-- ITS FALSE NEIGHBOUR: 'it returns false'. Refute it at one input. -/
def furnaceStepsWrong : ChangeSpec := { name := "furnaceSteps", fn := fun _ => fun
  | [d1, d2, d3] => { results := [.lit (.bool false)], args := [d1, d2, d3] }
  | _ => none }
def FurnaceStepsWrongFalsely : Prop := furnaceStepsRow.holds Try.pinned (OpenSpec.ofChange furnaceStepsWrong)

/-- 'cobblelaw02.FurnaceWarmer': WHATEVER THE INPUT: true; the input reads as it did. -/
def furnaceWarmerSpec : ChangeSpec := { name := "furnaceWarmer", fn := fun _ => fun
  | [d1, d2] => { results := [.lit (.bool true)], args := [d1, d2] }
  | _ => none }
def furnaceWarmerRow : OpenClaim := { program := "ytoelmajokkdeoaa", sum := "93097199c4abe24f7abeca40c149628bb26a515b56a225b1aec86a6d5806976b", func := "cobble/cobblelaw02.FurnaceWarmer", spec := "furnaceWarmer", unfollowed := true, recurses := true, apart := false }
def FurnaceWarmerSaid : Prop := furnaceWarmerRow.holds Try.pinned (OpenSpec.ofChange furnaceWarmerSpec)

/-- ITS FALSE NEIGHBOUR: 'it returns false'. Refute it at one input. -/
def furnaceWarmerWrong : ChangeSpec := { name := "furnaceWarmer", fn := fun _ => fun
  | [d1, d2] => { results := [.lit (.bool false)], args := [d1, d2] }
  | _ => none }
def FurnaceWarmerWrongFalsely : Prop := furnaceWarmerRow.holds Try.pinned (OpenSpec.ofChange furnaceWarmerWrong)

/- THE SECOND FORM. 'bulk': how many values and letters a reading holds, each counted each time it is reached (what is shared counts as often as it is met; a slice's spare places count too). A statement '..UptoSaid' is the law's where the arguments, and the package variables that the reading takes, are together of bulk at most 1048576: NARROWER than '..Said'. Prove '..Said' where nothing that the law and all that it calls make is longer than what came in: it says more and counts as full. Else prove '..UptoSaid'. A law counts once. -/
mutual
def uptoBulk {H : Type} : DataW H → Nat
  | .lit (.string bytes) => bytes.length + 1
  | .lit _ => 1
  | .nil => 1
  | .ptr d => uptoBulk d + 1
  | .slice elems spare => uptoBulkAll elems + uptoBulkAll spare + 1
  | .agg parts => uptoBulkAll parts + 1
  | .iface _ d => uptoBulk d + 1
  | .map entries => uptoBulkEntries entries + 1
  | .held _ => 1
def uptoBulkAll {H : Type} : List (DataW H) → Nat
  | [] => 0
  | d :: r => uptoBulk d + uptoBulkAll r
def uptoBulkEntries {H : Type} : List (Lit × DataW H) → Nat
  | [] => 0
  | x :: r => uptoBulkEntry x + uptoBulkEntries r
def uptoBulkEntry {H : Type} : Lit × DataW H → Nat
  | (.string bytes, d) => bytes.length + uptoBulk d + 1
  | (_, d) => uptoBulk d + 1
 end
def uptoSmall : (H : Type) → List (DataW H) → Bool := fun _ ds => decide (uptoBulkAll ds ≤ 1048576)
def OpenSpec.upto (s : _root_.Go.ChangeSpec) : _root_.Go.OpenSpec := { _root_.Go.OpenSpec.ofChange s with cond := some uptoSmall }

/-- 'cobblelaw02.FurnaceSteps', WHERE WHAT IT READS IS OF BULK AT MOST 1048576: true; the input reads as it did. -/
def furnaceStepsUptoRow : OpenClaim := { program := "ytoelmajokkdeoaa", sum := "93097199c4abe24f7abeca40c149628bb26a515b56a225b1aec86a6d5806976b", func := "cobble/cobblelaw02.FurnaceSteps", spec := "furnaceSteps", unfollowed := true, recurses := true, apart := false, narrowed := true }
def FurnaceStepsUptoSaid : Prop := furnaceStepsUptoRow.holds Try.pinned (OpenSpec.upto furnaceStepsSpec)

/-- 'cobblelaw02.FurnaceWarmer', WHERE WHAT IT READS IS OF BULK AT MOST 1048576: true; the input reads as it did. -/
def furnaceWarmerUptoRow : OpenClaim := { program := "ytoelmajokkdeoaa", sum := "93097199c4abe24f7abeca40c149628bb26a515b56a225b1aec86a6d5806976b", func := "cobble/cobblelaw02.FurnaceWarmer", spec := "furnaceWarmer", unfollowed := true, recurses := true, apart := false, narrowed := true }
def FurnaceWarmerUptoSaid : Prop := furnaceWarmerUptoRow.holds Try.pinned (OpenSpec.upto furnaceWarmerSpec)

end Rows
end Go.Proofs.Ytoelmajokkdeoaa
