/- awake of chapter 4, for every tape: its calls, one by one. -/
import Derived.Test.YthfdbeeanhfboaaP5
namespace Go.Proofs.M4
open Go Go.Abs Go.Proofs
set_option maxRecDepth 100000
abbrev cI (l : List Int) : List Value := vi l
abbrev evs : List Int := [10, 50, 70, 20, 100, 110, 30, 180, 190]
abbrev lawD (n : Nat) (l : List Int) : D := .agg [dI 0, dI 100, dI 0, dI 10, .sl n 3 (vi l)]
theorem run86a : ∀ caps, runOK Try.prog tabM 1000 86 [lawD 3 evs, .nil] [.val (.bool false)] caps = true := by intro caps; kernel_rfl
theorem run86b : ∀ caps, runOK Try.prog tabM 1000 86 [lawD 3 evs, .sl 1 1 (vi [0])] [.val (.bool false)] caps = true := by intro caps; kernel_rfl
theorem run86c : ∀ caps, runOK Try.prog tabM 1000 86 [lawD 3 evs, .sl 1 1 (vi [1])] [.val (.bool false)] caps = true := by intro caps; kernel_rfl
theorem run86d : ∀ caps, runOK Try.prog tabM 1000 86 [lawD 3 evs, .sl 1 1 (vi [2])] [.val (.bool false)] caps = true := by intro caps; kernel_rfl
theorem run86e : ∀ caps, runOK Try.prog tabM 1000 86 [lawD 3 evs, .sl 2 1 (vi [0, 1])] [.val (.bool false)] caps = true := by intro caps; kernel_rfl
theorem run86f : ∀ caps, runOK Try.prog tabM 1000 86 [lawD 3 evs, .sl 2 1 (vi [0, 2])] [.val (.bool false)] caps = true := by intro caps; kernel_rfl
theorem run86g : ∀ caps, runOK Try.prog tabM 1000 86 [lawD 3 evs, .sl 2 1 (vi [1, 2])] [.val (.bool true)] caps = true := by intro caps; kernel_rfl
def tab86 : List (List D × List D) := [([lawD 3 evs, .nil], [.val (.bool false)]), ([lawD 3 evs, .sl 1 1 (vi [0])], [.val (.bool false)]), ([lawD 3 evs, .sl 1 1 (vi [1])], [.val (.bool false)]), ([lawD 3 evs, .sl 1 1 (vi [2])], [.val (.bool false)]), ([lawD 3 evs, .sl 2 1 (vi [0, 1])], [.val (.bool false)]), ([lawD 3 evs, .sl 2 1 (vi [0, 2])], [.val (.bool false)]), ([lawD 3 evs, .sl 2 1 (vi [1, 2])], [.val (.bool true)])]
theorem tab86_ok : ∀ p ∈ tab86, Con Try.prog 86 p.1 p.2 := by
  have c : ∀ {ds rs : List D}, countV ds ≤ 400 → (∀ caps, runOK Try.prog tabM 1000 86 ds rs caps = true) → Con Try.prog 86 ds rs := fun hc h => con_run tabM_ok mixed hc h
  intro p hp
  simp only [tab86, List.mem_cons, List.not_mem_nil, or_false] at hp
  rcases hp with rfl | rfl | rfl | rfl | rfl | rfl | rfl
  · exact c (by show 1 ≤ 400; omega) run86a
  · exact c (by show 2 ≤ 400; omega) run86b
  · exact c (by show 2 ≤ 400; omega) run86c
  · exact c (by show 2 ≤ 400; omega) run86d
  · exact c (by show 2 ≤ 400; omega) run86e
  · exact c (by show 2 ≤ 400; omega) run86f
  · exact c (by show 2 ≤ 400; omega) run86g
def tab50 : Tab := fun f => if f = 86 then some (tabLook tab86) else tabM f
theorem tab50_ok : TabOK Try.prog tab50 := by
  intro f t ht ds rs h
  unfold tab50 at ht
  split at ht
  · rename_i e
    subst e
    obtain rfl := Option.some.inj ht
    exact tab86_ok _ (tabLook_ok h)
  · exact tabM_ok f t ht ds rs h
theorem run50 : ∀ caps, runOK Try.prog tab50 1000 50 [lawD 3 evs] [.sl 2 1 (vi [1, 2]), dI 0] caps = true := by intro caps; kernel_rfl
theorem run48 : ∀ caps, runOK Try.prog tabM 1000 48 [lawD 2 [10, 50, 70, 20, 100, 110], dI 30] [.agg [dI 130, dI 1, dI 165, dI 1], dI 0] caps = true := by intro caps; kernel_rfl
theorem con50 : Con Try.prog 50 [lawD 3 evs] [.sl 2 1 (vi [1, 2]), dI 0] := con_run tab50_ok mixed (by show 1 ≤ 400; omega) run50
theorem con48 : Con Try.prog 48 [lawD 2 [10, 50, 70, 20, 100, 110], dI 30] [.agg [dI 130, dI 1, dI 165, dI 1], dI 0] := con_run tabM_ok mixed (by show 1 ≤ 400; omega) run48
def tab9 : Tab := fun f =>
  if f = 50 then some (tabLook [([lawD 3 evs], [.sl 2 1 (vi [1, 2]), dI 0])])
  else if f = 48 then some (tabLook [([lawD 2 [10, 50, 70, 20, 100, 110], dI 30], [.agg [dI 130, dI 1, dI 165, dI 1], dI 0])])
  else tabM f
theorem tab9_ok : TabOK Try.prog tab9 := by
  intro f t ht ds rs h
  unfold tab9 at ht
  split at ht
  · rename_i e
    subst e
    obtain rfl := Option.some.inj ht
    have := tabLook_ok h
    simp only [List.mem_cons, List.not_mem_nil, or_false, Prod.mk.injEq] at this
    obtain ⟨rfl, rfl⟩ := this
    exact con50
  · split at ht
    · rename_i e
      subst e
      obtain rfl := Option.some.inj ht
      have := tabLook_ok h
      simp only [List.mem_cons, List.not_mem_nil, or_false, Prod.mk.injEq] at this
      obtain ⟨rfl, rfl⟩ := this
      exact con48
    · exact tabM_ok f t ht ds rs h
theorem run9 : ∀ caps, runOK Try.prog tab9 1000 9 [] [.val (.bool true)] caps = true := by intro caps; kernel_rfl
theorem con9 : C4 9 [] [.val (.bool true)] := con_run tab9_ok mixed (by show 0 ≤ 400; omega) run9
#print axioms con9
end Go.Proofs.M4
