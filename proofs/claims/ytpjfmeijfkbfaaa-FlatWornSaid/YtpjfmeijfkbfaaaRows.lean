/-
  No cell of these rows narrows 'for every input' (looked for: loops, veiled, ifaces, maps, wideKeys, modest, calm, conditions, laid).
  DERIVED. THE GIVEN ROWS OF THIS SEAT. 9 by the template 'for every input the law returns true; each argument reads behind the call as it read before'; 0 by the template 'total and deterministic' (their statements: YtpjfmeijfkbfaaaTotals.lean).
  GIVEN WITH THE SEED: the statements are not yours to turn. If you find one false, say at which input.
  Laid BY PROGRAM, IN A SANDBOX (cutbox-rows.mjs): the forced cells as the released guide's own fill.sh prints them over the translation 4e569f317c8d2a36… (all of the seat's roots in one cut). By AI agents, Wed Nov 11 2026. No macro, syntax, notation, axiom, sorry.
-/
import Derived.Test.YtpjfmeijfkbfaaaChecked
import GoSem.Claim
import GoSem.ClaimJoined
import GoSem.ClaimMapViews
import Derived.JoinedTies
import Derived.KernelRfl
namespace Go.Proofs.Ytpjfmeijfkbfaaa
/- THE CELL 'sum', in the pinned program and in every row, IS THE sha256 OF THE DUMP (.gsa) THAT YtpjfmeijfkbfaaaProg.lean LOADS. Nothing in Lean hashes anything: it is a label: what it is worth is what the hold of that sum in a sandbox is worth. -/
noncomputable def Try.pinned : Pinned := { name := "ytpjfmeijfkbfaaa", sum := "4e569f317c8d2a3683190e835b602b066cdb9e58651106bdc5d861759a665085", checked := Try.checked }
namespace Rows
def none {H : Type} : Left H := { results := [], args := [] }

/-- 'cobblelaw07.FlatProfiles': WHATEVER THE INPUT: true; the input reads as it did. -/
def flatProfilesSpec : ChangeSpec := { name := "flatProfiles", fn := fun _ => fun
  | [d] => { results := [.lit (.bool true)], args := [d] }
  | _ => none }
def flatProfilesRow : OpenClaim := { program := "ytpjfmeijfkbfaaa", sum := "4e569f317c8d2a3683190e835b602b066cdb9e58651106bdc5d861759a665085", func := "cobble/cobblelaw07.FlatProfiles", spec := "flatProfiles", unfollowed := true, recurses := true, apart := false }
def FlatProfilesSaid : Prop := flatProfilesRow.holds Try.pinned (OpenSpec.ofChange flatProfilesSpec)

/-- ITS FALSE NEIGHBOUR: 'it returns false'. Refute it at one input. -/
def flatProfilesWrong : ChangeSpec := { name := "flatProfiles", fn := fun _ => fun
  | [d] => { results := [.lit (.bool false)], args := [d] }
  | _ => none }
def FlatProfilesWrongFalsely : Prop := flatProfilesRow.holds Try.pinned (OpenSpec.ofChange flatProfilesWrong)

/-- 'cobblelaw07.FlatChanges': WHATEVER THE INPUT: true; the input reads as it did. -/
def flatChangesSpec : ChangeSpec := { name := "flatChanges", fn := fun _ => fun
  | [d1, d2] => { results := [.lit (.bool true)], args := [d1, d2] }
  | _ => none }
def flatChangesRow : OpenClaim := { program := "ytpjfmeijfkbfaaa", sum := "4e569f317c8d2a3683190e835b602b066cdb9e58651106bdc5d861759a665085", func := "cobble/cobblelaw07.FlatChanges", spec := "flatChanges", unfollowed := true, recurses := true, apart := false }
def FlatChangesSaid : Prop := flatChangesRow.holds Try.pinned (OpenSpec.ofChange flatChangesSpec)

/-- ITS FALSE NEIGHBOUR: 'it returns false'. Refute it at one input. -/
def flatChangesWrong : ChangeSpec := { name := "flatChanges", fn := fun _ => fun
  | [d1, d2] => { results := [.lit (.bool false)], args := [d1, d2] }
  | _ => none }
def FlatChangesWrongFalsely : Prop := flatChangesRow.holds Try.pinned (OpenSpec.ofChange flatChangesWrong)

/-- 'cobblelaw07.FlatMean': WHATEVER THE INPUT: true; the input reads as it did. -/
def flatMeanSpec : ChangeSpec := { name := "flatMean", fn := fun _ => fun
  | [d1, d2, d3] => { results := [.lit (.bool true)], args := [d1, d2, d3] }
  | _ => none }
def flatMeanRow : OpenClaim := { program := "ytpjfmeijfkbfaaa", sum := "4e569f317c8d2a3683190e835b602b066cdb9e58651106bdc5d861759a665085", func := "cobble/cobblelaw07.FlatMean", spec := "flatMean", unfollowed := true, recurses := true, apart := false }
def FlatMeanSaid : Prop := flatMeanRow.holds Try.pinned (OpenSpec.ofChange flatMeanSpec)

/-- ITS FALSE NEIGHBOUR: 'it returns false'. Refute it at one input. -/
def flatMeanWrong : ChangeSpec := { name := "flatMean", fn := fun _ => fun
  | [d1, d2, d3] => { results := [.lit (.bool false)], args := [d1, d2, d3] }
  | _ => none }
def FlatMeanWrongFalsely : Prop := flatMeanRow.holds Try.pinned (OpenSpec.ofChange flatMeanWrong)

/-- 'cobblelaw07.FlatBuckles': WHATEVER THE INPUT: true; the input reads as it did. -/
def flatBucklesSpec : ChangeSpec := { name := "flatBuckles", fn := fun _ => fun
  | [d1, d2] => { results := [.lit (.bool true)], args := [d1, d2] }
  | _ => none }
def flatBucklesRow : OpenClaim := { program := "ytpjfmeijfkbfaaa", sum := "4e569f317c8d2a3683190e835b602b066cdb9e58651106bdc5d861759a665085", func := "cobble/cobblelaw07.FlatBuckles", spec := "flatBuckles", unfollowed := true, recurses := true, apart := false }
def FlatBucklesSaid : Prop := flatBucklesRow.holds Try.pinned (OpenSpec.ofChange flatBucklesSpec)

/-- ITS FALSE NEIGHBOUR: 'it returns false'. Refute it at one input. -/
def flatBucklesWrong : ChangeSpec := { name := "flatBuckles", fn := fun _ => fun
  | [d1, d2] => { results := [.lit (.bool false)], args := [d1, d2] }
  | _ => none }
def FlatBucklesWrongFalsely : Prop := flatBucklesRow.holds Try.pinned (OpenSpec.ofChange flatBucklesWrong)

/-- 'cobblelaw07.FlatSettings': WHATEVER THE INPUT: true; the input reads as it did. -/
def flatSettingsSpec : ChangeSpec := { name := "flatSettings", fn := fun _ => fun
  | [d1, d2] => { results := [.lit (.bool true)], args := [d1, d2] }
  | _ => none }
def flatSettingsRow : OpenClaim := { program := "ytpjfmeijfkbfaaa", sum := "4e569f317c8d2a3683190e835b602b066cdb9e58651106bdc5d861759a665085", func := "cobble/cobblelaw07.FlatSettings", spec := "flatSettings", unfollowed := true, recurses := true, apart := false }
def FlatSettingsSaid : Prop := flatSettingsRow.holds Try.pinned (OpenSpec.ofChange flatSettingsSpec)

/-- ITS FALSE NEIGHBOUR: 'it returns false'. Refute it at one input. -/
def flatSettingsWrong : ChangeSpec := { name := "flatSettings", fn := fun _ => fun
  | [d1, d2] => { results := [.lit (.bool false)], args := [d1, d2] }
  | _ => none }
def FlatSettingsWrongFalsely : Prop := flatSettingsRow.holds Try.pinned (OpenSpec.ofChange flatSettingsWrong)

/-- 'cobblelaw07.FlatContours': WHATEVER THE INPUT: true; the input reads as it did. -/
def flatContoursSpec : ChangeSpec := { name := "flatContours", fn := fun _ => fun
  | [d1, d2, d3] => { results := [.lit (.bool true)], args := [d1, d2, d3] }
  | _ => none }
def flatContoursRow : OpenClaim := { program := "ytpjfmeijfkbfaaa", sum := "4e569f317c8d2a3683190e835b602b066cdb9e58651106bdc5d861759a665085", func := "cobble/cobblelaw07.FlatContours", spec := "flatContours", unfollowed := true, recurses := true, apart := false }
def FlatContoursSaid : Prop := flatContoursRow.holds Try.pinned (OpenSpec.ofChange flatContoursSpec)

/-- ITS FALSE NEIGHBOUR: 'it returns false'. Refute it at one input. -/
def flatContoursWrong : ChangeSpec := { name := "flatContours", fn := fun _ => fun
  | [d1, d2, d3] => { results := [.lit (.bool false)], args := [d1, d2, d3] }
  | _ => none }
def FlatContoursWrongFalsely : Prop := flatContoursRow.holds Try.pinned (OpenSpec.ofChange flatContoursWrong)

/-- 'cobblelaw07.FlatWorn': WHATEVER THE INPUT: true; the input reads as it did. -/
def flatWornSpec : ChangeSpec := { name := "flatWorn", fn := fun _ => fun
  | [d1, d2, d3] => { results := [.lit (.bool true)], args := [d1, d2, d3] }
  | _ => none }
def flatWornRow : OpenClaim := { program := "ytpjfmeijfkbfaaa", sum := "4e569f317c8d2a3683190e835b602b066cdb9e58651106bdc5d861759a665085", func := "cobble/cobblelaw07.FlatWorn", spec := "flatWorn", unfollowed := true, recurses := true, apart := false }
def FlatWornSaid : Prop := flatWornRow.holds Try.pinned (OpenSpec.ofChange flatWornSpec)

/-- ITS FALSE NEIGHBOUR: 'it returns false'. Refute it at one input. -/
def flatWornWrong : ChangeSpec := { name := "flatWorn", fn := fun _ => fun
  | [d1, d2, d3] => { results := [.lit (.bool false)], args := [d1, d2, d3] }
  | _ => none }
def FlatWornWrongFalsely : Prop := flatWornRow.holds Try.pinned (OpenSpec.ofChange flatWornWrong)

/-- 'cobblelaw07.FlatHeats': WHATEVER THE INPUT: true; the input reads as it did. -/
def flatHeatsSpec : ChangeSpec := { name := "flatHeats", fn := fun _ => fun
  | [d1, d2, d3] => { results := [.lit (.bool true)], args := [d1, d2, d3] }
  | _ => none }
def flatHeatsRow : OpenClaim := { program := "ytpjfmeijfkbfaaa", sum := "4e569f317c8d2a3683190e835b602b066cdb9e58651106bdc5d861759a665085", func := "cobble/cobblelaw07.FlatHeats", spec := "flatHeats", unfollowed := true, recurses := true, apart := false }
def FlatHeatsSaid : Prop := flatHeatsRow.holds Try.pinned (OpenSpec.ofChange flatHeatsSpec)

/-- ITS FALSE NEIGHBOUR: 'it returns false'. Refute it at one input. -/
def flatHeatsWrong : ChangeSpec := { name := "flatHeats", fn := fun _ => fun
  | [d1, d2, d3] => { results := [.lit (.bool false)], args := [d1, d2, d3] }
  | _ => none }
def FlatHeatsWrongFalsely : Prop := flatHeatsRow.holds Try.pinned (OpenSpec.ofChange flatHeatsWrong)

/-- 'cobblelaw07.FlatBetween': WHATEVER THE INPUT: true; the input reads as it did. -/
def flatBetweenSpec : ChangeSpec := { name := "flatBetween", fn := fun _ => fun
  | [d1, d2, d3] => { results := [.lit (.bool true)], args := [d1, d2, d3] }
  | _ => none }
def flatBetweenRow : OpenClaim := { program := "ytpjfmeijfkbfaaa", sum := "4e569f317c8d2a3683190e835b602b066cdb9e58651106bdc5d861759a665085", func := "cobble/cobblelaw07.FlatBetween", spec := "flatBetween", unfollowed := true, recurses := true, apart := false }
def FlatBetweenSaid : Prop := flatBetweenRow.holds Try.pinned (OpenSpec.ofChange flatBetweenSpec)

/-- ITS FALSE NEIGHBOUR: 'it returns false'. Refute it at one input. -/
def flatBetweenWrong : ChangeSpec := { name := "flatBetween", fn := fun _ => fun
  | [d1, d2, d3] => { results := [.lit (.bool false)], args := [d1, d2, d3] }
  | _ => none }
def FlatBetweenWrongFalsely : Prop := flatBetweenRow.holds Try.pinned (OpenSpec.ofChange flatBetweenWrong)

/- THE SECOND FORM. 'bulk': how many values and letters a reading holds, each counted each time it is reached (what is shared counts as often as it is met; a slice's spare places count too). A statement '..UptoSaid' is the law's where the arguments, and the package variables that the reading takes, are together of bulk at most 1048576: NARROWER than '..Said'. Prove '..Said' where nothing that the law and all that it calls make is longer than what came in: it says more and counts as full. Else prove '..UptoSaid'. A law counts once. -/
mutual
def uptoBulk {H : Type} : DataW H → Nat
  | .lit (.string bytes) => bytes.length + 1
  | .lit _ => 1
  | .nil => 1
  | .ptr d => uptoBulk d + 1
  | .slice elems spare => uptoBulkAll elems + uptoBulkAll spare + 1
  | .agg parts => uptoBulkAll parts + 1
  | .iface _ d => uptoBulk d + 1
  | .map entries => uptoBulkEntries entries + 1
  | .held _ => 1
def uptoBulkAll {H : Type} : List (DataW H) → Nat
  | [] => 0
  | d :: r => uptoBulk d + uptoBulkAll r
def uptoBulkEntries {H : Type} : List (Lit × DataW H) → Nat
  | [] => 0
  | x :: r => uptoBulkEntry x + uptoBulkEntries r
def uptoBulkEntry {H : Type} : Lit × DataW H → Nat
  | (.string bytes, d) => bytes.length + uptoBulk d + 1
  | (_, d) => uptoBulk d + 1
 end
def uptoSmall : (H : Type) → List (DataW H) → Bool := fun _ ds => decide (uptoBulkAll ds ≤ 1048576)
def OpenSpec.upto (s : _root_.Go.ChangeSpec) : _root_.Go.OpenSpec := { _root_.Go.OpenSpec.ofChange s with cond := some uptoSmall }

/-- 'cobblelaw07.FlatProfiles', WHERE WHAT IT READS IS OF BULK AT MOST 1048576: true; the input reads as it did. -/
def flatProfilesUptoRow : OpenClaim := { program := "ytpjfmeijfkbfaaa", sum := "4e569f317c8d2a3683190e835b602b066cdb9e58651106bdc5d861759a665085", func := "cobble/cobblelaw07.FlatProfiles", spec := "flatProfiles", unfollowed := true, recurses := true, apart := false, narrowed := true }
def FlatProfilesUptoSaid : Prop := flatProfilesUptoRow.holds Try.pinned (OpenSpec.upto flatProfilesSpec)

/-- 'cobblelaw07.FlatChanges', WHERE WHAT IT READS IS OF BULK AT MOST 1048576: true; the input reads as it did. -/
def flatChangesUptoRow : OpenClaim := { program := "ytpjfmeijfkbfaaa", sum := "4e569f317c8d2a3683190e835b602b066cdb9e58651106bdc5d861759a665085", func := "cobble/cobblelaw07.FlatChanges", spec := "flatChanges", unfollowed := true, recurses := true, apart := false, narrowed := true }
def FlatChangesUptoSaid : Prop := flatChangesUptoRow.holds Try.pinned (OpenSpec.upto flatChangesSpec)

/-- 'cobblelaw07.FlatMean', WHERE WHAT IT READS IS OF BULK AT MOST 1048576: true; the input reads as it did. -/
def flatMeanUptoRow : OpenClaim := { program := "ytpjfmeijfkbfaaa", sum := "4e569f317c8d2a3683190e835b602b066cdb9e58651106bdc5d861759a665085", func := "cobble/cobblelaw07.FlatMean", spec := "flatMean", unfollowed := true, recurses := true, apart := false, narrowed := true }
def FlatMeanUptoSaid : Prop := flatMeanUptoRow.holds Try.pinned (OpenSpec.upto flatMeanSpec)

/-- 'cobblelaw07.FlatBuckles', WHERE WHAT IT READS IS OF BULK AT MOST 1048576: true; the input reads as it did. -/
def flatBucklesUptoRow : OpenClaim := { program := "ytpjfmeijfkbfaaa", sum := "4e569f317c8d2a3683190e835b602b066cdb9e58651106bdc5d861759a665085", func := "cobble/cobblelaw07.FlatBuckles", spec := "flatBuckles", unfollowed := true, recurses := true, apart := false, narrowed := true }
def FlatBucklesUptoSaid : Prop := flatBucklesUptoRow.holds Try.pinned (OpenSpec.upto flatBucklesSpec)

/-- 'cobblelaw07.FlatSettings', WHERE WHAT IT READS IS OF BULK AT MOST 1048576: true; the input reads as it did. -/
def flatSettingsUptoRow : OpenClaim := { program := "ytpjfmeijfkbfaaa", sum := "4e569f317c8d2a3683190e835b602b066cdb9e58651106bdc5d861759a665085", func := "cobble/cobblelaw07.FlatSettings", spec := "flatSettings", unfollowed := true, recurses := true, apart := false, narrowed := true }
def FlatSettingsUptoSaid : Prop := flatSettingsUptoRow.holds Try.pinned (OpenSpec.upto flatSettingsSpec)

/-- 'cobblelaw07.FlatContours', WHERE WHAT IT READS IS OF BULK AT MOST 1048576: true; the input reads as it did. -/
def flatContoursUptoRow : OpenClaim := { program := "ytpjfmeijfkbfaaa", sum := "4e569f317c8d2a3683190e835b602b066cdb9e58651106bdc5d861759a665085", func := "cobble/cobblelaw07.FlatContours", spec := "flatContours", unfollowed := true, recurses := true, apart := false, narrowed := true }
def FlatContoursUptoSaid : Prop := flatContoursUptoRow.holds Try.pinned (OpenSpec.upto flatContoursSpec)

/-- 'cobblelaw07.FlatWorn', WHERE WHAT IT READS IS OF BULK AT MOST 1048576: true; the input reads as it did. -/
def flatWornUptoRow : OpenClaim := { program := "ytpjfmeijfkbfaaa", sum := "4e569f317c8d2a3683190e835b602b066cdb9e58651106bdc5d861759a665085", func := "cobble/cobblelaw07.FlatWorn", spec := "flatWorn", unfollowed := true, recurses := true, apart := false, narrowed := true }
def FlatWornUptoSaid : Prop := flatWornUptoRow.holds Try.pinned (OpenSpec.upto flatWornSpec)

/-- 'cobblelaw07.FlatHeats', WHERE WHAT IT READS IS OF BULK AT MOST 1048576: true; the input reads as it did. -/
def flatHeatsUptoRow : OpenClaim := { program := "ytpjfmeijfkbfaaa", sum := "4e569f317c8d2a3683190e835b602b066cdb9e58651106bdc5d861759a665085", func := "cobble/cobblelaw07.FlatHeats", spec := "flatHeats", unfollowed := true, recurses := true, apart := false, narrowed := true }
def FlatHeatsUptoSaid : Prop := flatHeatsUptoRow.holds Try.pinned (OpenSpec.upto flatHeatsSpec)

/-- 'cobblelaw07.FlatBetween', WHERE WHAT IT READS IS OF BULK AT MOST 1048576: true; the input reads as it did. -/
def flatBetweenUptoRow : OpenClaim := { program := "ytpjfmeijfkbfaaa", sum := "4e569f317c8d2a3683190e835b602b066cdb9e58651106bdc5d861759a665085", func := "cobble/cobblelaw07.FlatBetween", spec := "flatBetween", unfollowed := true, recurses := true, apart := false, narrowed := true }
def FlatBetweenUptoSaid : Prop := flatBetweenUptoRow.holds Try.pinned (OpenSpec.upto flatBetweenSpec)

end Rows
end Go.Proofs.Ytpjfmeijfkbfaaa
