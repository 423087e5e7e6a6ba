/- awake of chapter 3, for every tape: by tables. -/
import Derived.Test.YteadiejdhplokaaGreatGoOA1
import Derived.Test.YteadiejdhplokaaGreatGoOA2
import Derived.Test.YteadiejdhplokaaGreatGoOA3
namespace Go.Proofs.G5o
open Go Go.Abs Go.Proofs Go.Str
set_option maxRecDepth 100000
theorem runP : ∀ caps, ((lk1 ++ lk2).all fun p => runOK Tryz.prog tabP 1000 80 p.1 p.2 caps) = true := fun caps => by rw [List.all_append, run1, run2]; rfl
def tabA : Tab := fun f => if f == 80 then some (fun ds => lookK (lk1 ++ lk2) (keyD ds) ds) else if f == 30 then some (tabLook lkH) else if f == 40 then some (tabLook lkR) else if f == 10 then some (tabLook lkT) else if f == 115 then some (tabLook lkQ) else tabP f
theorem tabA_ok : TabOK Tryz.prog tabA := by
  intro f t ht ds rs h
  unfold tabA at ht
  split at ht
  · rename_i e; obtain rfl := Option.some.inj ht; rw [beq_iff_eq] at e; subst e; exact look_all tabP_ok runP (by kernel_rfl) (lookK_ok h)
  · split at ht
    · rename_i e; obtain rfl := Option.some.inj ht; rw [beq_iff_eq] at e; subst e; exact look_all tabP_ok runH (by kernel_rfl) (tabLook_ok h)
    · split at ht
      · rename_i e; obtain rfl := Option.some.inj ht; rw [beq_iff_eq] at e; subst e; exact look_all tabP_ok runR (by kernel_rfl) (tabLook_ok h)
      · split at ht
        · rename_i e; obtain rfl := Option.some.inj ht; rw [beq_iff_eq] at e; subst e; exact look_all tabP_ok runT (by kernel_rfl) (tabLook_ok h)
        · split at ht
          · rename_i e; obtain rfl := Option.some.inj ht; rw [beq_iff_eq] at e; subst e; exact look_all tabP_ok runQ (by kernel_rfl) (tabLook_ok h)
          · exact tabP_ok f t ht ds rs h
theorem runA : ∀ caps, runOK Tryz.prog tabA 1000 6 [] [.val (.bool true)] caps = true := by intro caps; kernel_rfl
theorem conA : C5 6 [] [.val (.bool true)] := con_run tabA_ok mixed (by show 0 ≤ 400; omega) runA
end Go.Proofs.G5o
