/- awake of chapter 6: the determinants that it needs. -/
import Derived.Test.YtchgncpfaclccaaP5
namespace Go.Proofs.G5r
open Go Go.Abs Go.Proofs
set_option maxRecDepth 100000
abbrev dN (z : Int) : D := .val (.int .i64 z)
theorem tab0_ok : TabOK Try.prog (fun _ => none) := fun _ _ h => by cases h
theorem look_all {tab : Tab} (htab : TabOK Try.prog tab) {f : FuncId} {lk : List (List D × List D)} (h : ∀ caps, (lk.all fun p => runOK Try.prog tab 1000 f p.1 p.2 caps) = true) (hc : (lk.all fun p => decide (countV p.1 ≤ 400)) = true) {ds rs : List D} (hl : tabLook lk ds = some rs) : C5 f ds rs := by
  have hm := tabLook_ok hl
  exact con_run htab mixed (by simpa using List.all_eq_true.1 hc _ hm) (fun caps => List.all_eq_true.1 (h caps) _ hm)
def lkF0 : List (List D × List D) := [([.agg [dN (4), dN (0), dN (0), dN (0), dN (0), dN (4), dN (0), dN (0), dN (0), dN (0), dN (4), dN (0), dN (0), dN (0), dN (0), dN (4)]], [dN 256])]
theorem runF0 : ∀ caps, (lkF0.all fun p => runOK Try.prog (fun _ => none) 1000 50 p.1 p.2 caps) = true := by intro caps; kernel_rfl
def lkF1 : List (List D × List D) := [([.agg [dN (12), dN (20), dN (8), dN (0), dN (0), dN (4), dN (0), dN (0), dN (0), dN (0), dN (4), dN (0), dN (0), dN (0), dN (0), dN (4)]], [dN 768])]
theorem runF1 : ∀ caps, (lkF1.all fun p => runOK Try.prog (fun _ => none) 1000 50 p.1 p.2 caps) = true := by intro caps; kernel_rfl
def lkF2 : List (List D × List D) := [([.agg [dN (4), dN (0), dN (0), dN (0), dN (12), dN (20), dN (8), dN (0), dN (0), dN (0), dN (4), dN (0), dN (0), dN (0), dN (0), dN (4)]], [dN 1280])]
theorem runF2 : ∀ caps, (lkF2.all fun p => runOK Try.prog (fun _ => none) 1000 50 p.1 p.2 caps) = true := by intro caps; kernel_rfl
def lkF3 : List (List D × List D) := [([.agg [dN (4), dN (0), dN (0), dN (0), dN (0), dN (4), dN (0), dN (0), dN (12), dN (20), dN (8), dN (0), dN (0), dN (0), dN (0), dN (4)]], [dN 512])]
theorem runF3 : ∀ caps, (lkF3.all fun p => runOK Try.prog (fun _ => none) 1000 50 p.1 p.2 caps) = true := by intro caps; kernel_rfl
def lkF4 : List (List D × List D) := [([.agg [dN (4), dN (0), dN (0), dN (0), dN (0), dN (4), dN (0), dN (0), dN (0), dN (0), dN (4), dN (0), dN (12), dN (20), dN (8), dN (0)]], [dN 0])]
theorem runF4 : ∀ caps, (lkF4.all fun p => runOK Try.prog (fun _ => none) 1000 50 p.1 p.2 caps) = true := by intro caps; kernel_rfl
def lkF : List (List D × List D) := lkF0 ++ (lkF1 ++ (lkF2 ++ (lkF3 ++ lkF4)))
theorem runF : ∀ caps, (lkF.all fun p => runOK Try.prog (fun _ => none) 1000 50 p.1 p.2 caps) = true := by
  intro caps
  simp only [lkF, List.all_append, runF0 caps, runF1 caps, runF2 caps, runF3 caps, runF4 caps, Bool.and_self]
end Go.Proofs.G5r
