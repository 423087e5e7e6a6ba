/-
  No cell of these rows narrows 'for every input' (looked for: loops, veiled, ifaces, maps, wideKeys, modest, calm, conditions, laid).
  DERIVED. THE GIVEN ROWS OF THIS SEAT. 3 by the template 'for every input the law returns true; each argument reads behind the call as it read before'; 0 by the template 'total and deterministic' (their statements: YteadiejdhplokaaTotals.lean).
  GIVEN WITH THE SEED: the statements are not yours to turn. If you find one false, say at which input.
  Laid BY PROGRAM, IN A SANDBOX (cutbox-rows.mjs): the forced cells as the released guide's own fill.sh prints them over the translation 1028006c1db67fbd… (all of the seat's roots in one cut). By AI agents, Wed Nov 11 2026. No macro, syntax, notation, axiom, sorry.
-/
import Derived.Test.YteadiejdhplokaaChecked
import GoSem.Claim
import GoSem.ClaimJoined
import GoSem.ClaimMapViews
import Derived.JoinedTies
import Derived.KernelRfl
namespace Go.Proofs.Yteadiejdhplokaa
/- THE CELL 'sum', in the pinned program and in every row, IS THE sha256 OF THE DUMP (.gsa) THAT YteadiejdhplokaaProg.lean LOADS. Nothing in Lean hashes anything: it is a label: what it is worth is what the hold of that sum in a sandbox is worth. -/
noncomputable def Try.pinned : Pinned := { name := "yteadiejdhplokaa", sum := "1028006c1db67fbda8d6ae4ec21f4ca43f24131c1363ec9d3968b81a22b020d0", checked := Try.checked }
namespace Rows
def none {H : Type} : Left H := { results := [], args := [] }

/-- 'cobblelaw03.PassSchedules': WHATEVER THE INPUT: true; the input reads as it did. -/
def passSchedulesSpec : ChangeSpec := { name := "passSchedules", fn := fun _ => fun
  | [d1, d2, d3] => { results := [.lit (.bool true)], args := [d1, d2, d3] }
  | _ => none }
def passSchedulesRow : OpenClaim := { program := "yteadiejdhplokaa", sum := "1028006c1db67fbda8d6ae4ec21f4ca43f24131c1363ec9d3968b81a22b020d0", func := "cobble/cobblelaw03.PassSchedules", spec := "passSchedules", unfollowed := true, recurses := true, apart := false }
def PassSchedulesSaid : Prop := passSchedulesRow.holds Try.pinned (OpenSpec.ofChange passSchedulesSpec)

/-- ITS FALSE NEIGHBOUR: 'it returns false'. Refute it at one input. -/
def passSchedulesWrong : ChangeSpec := { name := "passSchedules", fn := fun _ => fun
  | [d1, d2, d3] => { results := [.lit (.bool false)], args := [d1, d2, d3] }
  | _ => none }
def PassSchedulesWrongFalsely : Prop := passSchedulesRow.holds Try.pinned (OpenSpec.ofChange passSchedulesWrong)

/-- 'cobblelaw03.PassMaterials': WHATEVER THE INPUT: true; the input reads as it did. -/
def passMaterialsSpec : ChangeSpec := { name := "passMaterials", fn := fun _ => fun
  | [d1, d2, d3] => { results := [.lit (.bool true)], args := [d1, d2, d3] }
  | _ => none }
def passMaterialsRow : OpenClaim := { program := "yteadiejdhplokaa", sum := "1028006c1db67fbda8d6ae4ec21f4ca43f24131c1363ec9d3968b81a22b020d0", func := "cobble/cobblelaw03.PassMaterials", spec := "passMaterials", unfollowed := true, recurses := true, apart := false }
def PassMaterialsSaid : Prop := passMaterialsRow.holds Try.pinned (OpenSpec.ofChange passMaterialsSpec)

/-- ITS FALSE NEIGHBOUR: 'it returns false'. Refute it at one input. -/
def passMaterialsWrong : ChangeSpec := { name := "passMaterials", fn := fun _ => fun
  | [d1, d2, d3] => { results := [.lit (.bool false)], args := [d1, d2, d3] }
  | _ => none }
def PassMaterialsWrongFalsely : Prop := passMaterialsRow.holds Try.pinned (OpenSpec.ofChange passMaterialsWrong)

/-- 'cobblelaw03.PassEveryMaterial': WHATEVER THE INPUT: true; the input reads as it did. -/
def passEveryMaterialSpec : ChangeSpec := { name := "passEveryMaterial", fn := fun _ => fun
  | [d1, d2, d3] => { results := [.lit (.bool true)], args := [d1, d2, d3] }
  | _ => none }
def passEveryMaterialRow : OpenClaim := { program := "yteadiejdhplokaa", sum := "1028006c1db67fbda8d6ae4ec21f4ca43f24131c1363ec9d3968b81a22b020d0", func := "cobble/cobblelaw03.PassEveryMaterial", spec := "passEveryMaterial", unfollowed := true, recurses := true, apart := false }
def PassEveryMaterialSaid : Prop := passEveryMaterialRow.holds Try.pinned (OpenSpec.ofChange passEveryMaterialSpec)

/-- ITS FALSE NEIGHBOUR: 'it returns false'. Refute it at one input. -/
def passEveryMaterialWrong : ChangeSpec := { name := "passEveryMaterial", fn := fun _ => fun
  | [d1, d2, d3] => { results := [.lit (.bool false)], args := [d1, d2, d3] }
  | _ => none }
def PassEveryMaterialWrongFalsely : Prop := passEveryMaterialRow.holds Try.pinned (OpenSpec.ofChange passEveryMaterialWrong)

/- THE SECOND FORM. 'bulk': how many values and letters a reading holds, each counted each time it is reached (what is shared counts as often as it is met; a slice's spare places count too). A statement '..UptoSaid' is the law's where the arguments, and the package variables that the reading takes, are together of bulk at most 1048576: NARROWER than '..Said'. Prove '..Said' where nothing that the law and all that it calls make is longer than what came in: it says more and counts as full. Else prove '..UptoSaid'. A law counts once. -/
mutual
def uptoBulk {H : Type} : DataW H → Nat
  | .lit (.string bytes) => bytes.length + 1
  | .lit _ => 1
  | .nil => 1
  | .ptr d => uptoBulk d + 1
  | .slice elems spare => uptoBulkAll elems + uptoBulkAll spare + 1
  | .agg parts => uptoBulkAll parts + 1
  | .iface _ d => uptoBulk d + 1
  | .map entries => uptoBulkEntries entries + 1
  | .held _ => 1
def uptoBulkAll {H : Type} : List (DataW H) → Nat
  | [] => 0
  | d :: r => uptoBulk d + uptoBulkAll r
def uptoBulkEntries {H : Type} : List (Lit × DataW H) → Nat
  | [] => 0
  | x :: r => uptoBulkEntry x + uptoBulkEntries r
def uptoBulkEntry {H : Type} : Lit × DataW H → Nat
  | (.string bytes, d) => bytes.length + uptoBulk d + 1
  | (_, d) => uptoBulk d + 1
 end
def uptoSmall : (H : Type) → List (DataW H) → Bool := fun _ ds => decide (uptoBulkAll ds ≤ 1048576)
def OpenSpec.upto (s : _root_.Go.ChangeSpec) : _root_.Go.OpenSpec := { _root_.Go.OpenSpec.ofChange s with cond := some uptoSmall }

/-- 'cobblelaw03.PassSchedules', WHERE WHAT IT READS IS OF BULK AT MOST 1048576: true; the input reads as it did. -/
def passSchedulesUptoRow : OpenClaim := { program := "yteadiejdhplokaa", sum := "1028006c1db67fbda8d6ae4ec21f4ca43f24131c1363ec9d3968b81a22b020d0", func := "cobble/cobblelaw03.PassSchedules", spec := "passSchedules", unfollowed := true, recurses := true, apart := false, narrowed := true }
def PassSchedulesUptoSaid : Prop := passSchedulesUptoRow.holds Try.pinned (OpenSpec.upto passSchedulesSpec)

/-- 'cobblelaw03.PassMaterials', WHERE WHAT IT READS IS OF BULK AT MOST 1048576: true; the input reads as it did. -/
def passMaterialsUptoRow : OpenClaim := { program := "yteadiejdhplokaa", sum := "1028006c1db67fbda8d6ae4ec21f4ca43f24131c1363ec9d3968b81a22b020d0", func := "cobble/cobblelaw03.PassMaterials", spec := "passMaterials", unfollowed := true, recurses := true, apart := false, narrowed := true }
def PassMaterialsUptoSaid : Prop := passMaterialsUptoRow.holds Try.pinned (OpenSpec.upto passMaterialsSpec)

/-- 'cobblelaw03.PassEveryMaterial', WHERE WHAT IT READS IS OF BULK AT MOST 1048576: true; the input reads as it did. -/
def passEveryMaterialUptoRow : OpenClaim := { program := "yteadiejdhplokaa", sum := "1028006c1db67fbda8d6ae4ec21f4ca43f24131c1363ec9d3968b81a22b020d0", func := "cobble/cobblelaw03.PassEveryMaterial", spec := "passEveryMaterial", unfollowed := true, recurses := true, apart := false, narrowed := true }
def PassEveryMaterialUptoSaid : Prop := passEveryMaterialUptoRow.holds Try.pinned (OpenSpec.upto passEveryMaterialSpec)

end Rows
end Go.Proofs.Yteadiejdhplokaa
