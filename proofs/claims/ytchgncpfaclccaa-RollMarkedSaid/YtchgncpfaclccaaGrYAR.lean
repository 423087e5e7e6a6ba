/- awake of chapter 6, for every tape. -/
import Derived.Test.YtchgncpfaclccaaGrYAF
namespace Go.Proofs.G5r
open Go Go.Abs Go.Proofs
set_option maxRecDepth 100000
def drA : List D := [.val (.string ⟨#[97]⟩), dN 4, dN 0]
def drB : List D := [.val (.string ⟨#[98]⟩), dN 8, dN 0]
def lkU : List (List D × List D) := [([.agg (drA ++ drB), dN 0], [.agg [dN (1), dN (0), dN (1), dN (0)]]), ([.agg (drA ++ drB), dN 1], [.agg [dN (0), dN (-1), dN (1), dN (0)]]), ([.agg (drA ++ drB), dN 2], [.agg [dN (-1), dN (0), dN (0), dN (-1)]]), ([.agg (drA ++ drB), dN 3], [.agg [dN (0), dN (1), dN (0), dN (-1)]]), ([.agg (drA ++ drB), dN 4], [.agg [dN (1), dN (0), dN (-1), dN (0)]]), ([.agg (drA ++ drB), dN 5], [.agg [dN (0), dN (-1), dN (-1), dN (0)]]), ([.agg (drA ++ drB), dN 6], [.agg [dN (-1), dN (0), dN (0), dN (1)]]), ([.agg (drA ++ drB), dN 7], [.agg [dN (0), dN (1), dN (0), dN (1)]])]
def lkQ : List (List D × List D) := [([.agg [dN (3), dN (-5), dN (-3), dN (5)], dN 1], [.agg [dN (6), dN (10)]]), ([.agg [dN (2), dN (-14), dN (-10), dN (6)], dN 1], [.agg [dN (12), dN (20)]])]
def lkM : List (List D × List D) := [([.agg (drA ++ drB), dN 8], [.agg [dN (4), dN (0), dN (0), dN (0), dN (0), dN (4), dN (0), dN (0), dN (0), dN (0), dN (4), dN (0), dN (0), dN (0), dN (0), dN (4)]])]
theorem runU : ∀ caps, (lkU.all fun p => runOK Try.prog (fun _ => none) 1000 76 p.1 p.2 caps) = true := by intro caps; kernel_rfl
theorem runQ : ∀ caps, (lkQ.all fun p => runOK Try.prog (fun _ => none) 1000 73 p.1 p.2 caps) = true := by intro caps; kernel_rfl
def tabU : Tab := fun f => if f == 76 then some (tabLook lkU) else none
theorem tabU_ok : TabOK Try.prog tabU := by
  intro f t ht ds rs h
  unfold tabU at ht
  split at ht
  · rename_i e; obtain rfl := Option.some.inj ht; rw [beq_iff_eq] at e; subst e; exact look_all tab0_ok runU (by kernel_rfl) h
  · cases ht
theorem runM : ∀ caps, (lkM.all fun p => runOK Try.prog tabU 1000 49 p.1 p.2 caps) = true := by intro caps; kernel_rfl
def tabA : Tab := fun f => if f == 76 then some (tabLook lkU) else if f == 73 then some (tabLook lkQ) else if f == 49 then some (tabLook lkM) else if f == 50 then some (tabLook lkF) else none
theorem tabA_ok : TabOK Try.prog tabA := by
  intro f t ht ds rs h
  unfold tabA at ht
  split at ht
  · rename_i e; obtain rfl := Option.some.inj ht; rw [beq_iff_eq] at e; subst e; exact look_all tab0_ok runU (by kernel_rfl) h
  · split at ht
    · rename_i e; obtain rfl := Option.some.inj ht; rw [beq_iff_eq] at e; subst e; exact look_all tab0_ok runQ (by kernel_rfl) h
    · split at ht
      · rename_i e; obtain rfl := Option.some.inj ht; rw [beq_iff_eq] at e; subst e; exact look_all tabU_ok runM (by kernel_rfl) h
      · split at ht
        · rename_i e; obtain rfl := Option.some.inj ht; rw [beq_iff_eq] at e; subst e; exact look_all tab0_ok runF (by kernel_rfl) h
        · cases ht
theorem runA : ∀ caps, runOK Try.prog tabA 1000 7 [] [.val (.bool true)] caps = true := by intro caps; kernel_rfl
theorem conA : C5 7 [] [.val (.bool true)] := con_run tabA_ok mixed (by show 0 ≤ 400; omega) runA
end Go.Proofs.G5r
