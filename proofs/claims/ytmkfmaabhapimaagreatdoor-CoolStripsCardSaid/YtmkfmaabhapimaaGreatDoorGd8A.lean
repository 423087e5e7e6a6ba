/- awake of chapter 8, for every tape. -/
import Derived.Test.YtmkfmaabhapimaaGreatDoorP4
namespace Go.Proofs.G5d
open Go Go.Abs Go.Proofs
set_option maxRecDepth 100000
abbrev dN (z : Int) : D := .val (.int .i64 z)
def popN : Nat → Int
  | 0 => 0
  | 1 => 1
  | 2 => 1
  | _ => 2
def lkO : List (List D × List D) := [0, 1, 2, 3].map fun a : Nat => ([.agg [dN 5, dN 1], dN a], [dN (5 * popN a)])
def lkC : List (List D × List D) := [0, 1, 2, 3].flatMap fun a : Nat => [0, 1, 2, 3].map fun b : Nat => ([.agg [dN 5, dN 1], dN a, dN b], [dN (popN (a ^^^ b))])
def lkH : List (List D × List D) := [0, 1, 2, 3].flatMap fun a : Nat => [0, 1].map fun b : Nat => ([dN a, dN b], [.val (.bool (a.testBit b))])
theorem look_all {f : FuncId} {lk : List (List D × List D)} (h : ∀ caps, (lk.all fun p => runOK Tryz.prog tabJ 1000 f p.1 p.2 caps) = true) (hc : (lk.all fun p => decide (countV p.1 ≤ 400)) = true) {ds rs : List D} (hl : tabLook lk ds = some rs) : C5 f ds rs := by
  have hm := tabLook_ok hl
  exact con_run tabJ_ok mixed (by simpa using List.all_eq_true.1 hc _ hm) (fun caps => List.all_eq_true.1 (h caps) _ hm)
theorem runO : ∀ caps, (lkO.all fun p => runOK Tryz.prog tabJ 1000 101 p.1 p.2 caps) = true := by intro caps; kernel_rfl
theorem runC : ∀ caps, (lkC.all fun p => runOK Tryz.prog tabJ 1000 54 p.1 p.2 caps) = true := by intro caps; kernel_rfl
theorem runH : ∀ caps, (lkH.all fun p => runOK Tryz.prog tabJ 1000 57 p.1 p.2 caps) = true := by intro caps; kernel_rfl
def tabA : Tab := fun f => if f == 64 then some joinT else if f == 101 then some (tabLook lkO) else if f == 54 then some (tabLook lkC) else if f == 57 then some (tabLook lkH) else none
theorem tabA_ok : TabOK Tryz.prog tabA := by
  intro f t ht ds rs h
  unfold tabA at ht
  split at ht
  · rename_i e
    obtain rfl := Option.some.inj ht
    rw [beq_iff_eq] at e
    subst e
    exact joinT_ok h
  · split at ht
    · rename_i e; obtain rfl := Option.some.inj ht; rw [beq_iff_eq] at e; subst e; exact look_all runO (by kernel_rfl) h
    · split at ht
      · rename_i e; obtain rfl := Option.some.inj ht; rw [beq_iff_eq] at e; subst e; exact look_all runC (by kernel_rfl) h
      · split at ht
        · rename_i e; obtain rfl := Option.some.inj ht; rw [beq_iff_eq] at e; subst e; exact look_all runH (by kernel_rfl) h
        · cases ht
theorem runA : ∀ caps, runOK Tryz.prog tabA 1000 4 [] [.val (.bool true)] caps = true := by intro caps; kernel_rfl
theorem conAw : C5 4 [] [.val (.bool true)] := con_run tabA_ok mixed (by decide) runA
end Go.Proofs.G5d
