/- awake of chapter 4, for every tape: its calls, one by one. -/
import Derived.Test.YthpmmiapcjgbmaaGreatDoorP6
namespace Go.Proofs.G5v
open Go Go.Abs Go.Proofs Go.Abs.MD Go.Str
set_option maxRecDepth 100000
theorem preWOK : PreOK Tryz.prog (preW C5) := by
  intro g h he args ats H k hk
  unfold preW at he
  rcases ite_so he with ⟨e, rfl⟩ | he
  · exact saidH_ok (fun _ _ _ h => h) _ _ _ _ _ hk
  · cases he
theorem hokW : HandlerOK Tryz.prog (hW C5) := handlerX_ok mixed preWOK (by decide) 6
/-- rounded down, and what is left -/
def dv (n b : Int) : Int × Int := if n.tmod b < 0 then (IntKind.wrap .i64 (IntKind.wrap .i64 (n.tdiv b) - 1), IntKind.wrap .i64 (n.tmod b + b)) else (IntKind.wrap .i64 (n.tdiv b), n.tmod b)
theorem condd (n b : Int) (h : b ≠ 0) : C5 148 [dI n, dI b] [dI (dv n b).1, dI (dv n b).2] := by
  refine con_flat hokE mixed Tryz.func148 rfl (by show 0 ≤ 400; omega) rfl (by kernel_rfl) (fun caps => ?_)
  show gdd _ _ n b _
  rw [gdd_text]
  simp only [bc_n h, true_and, and_true]
  refine bc_dec (fun h1 => ?_) (fun h1 => ?_)
  · show _ = _; rw [dv, if_pos h1]
  · show _ = _; rw [dv, if_neg h1]
theorem conlTg (n d : Int) (hn : -4611686018427387904 ≤ n ∧ n ≤ 4611686018427387904) (hd : -4611686018427387904 ≤ d ∧ d ≤ 4611686018427387904) (h0 : d ≠ 0) : C5 91 [dI n, dI d] [.agg [dI (low n d).1, dI (low n d).2]] := by
  by_cases hp : 0 < d
  · exact conlT n d hn ⟨hp, hd.2⟩
  · refine con_flat hokL mixed Tryz.func91 rfl (by show 0 ≤ 400; omega) rfl (by kernel_rfl) (fun caps => ?_)
    show glT _ _ n d _
    rw [glT_text, bc_t (show d < 0 by omega)]
    have hg := gcd_pos (a := n) (b := d) (.inr (by omega))
    have b1 := tdiv_small (n := 0 - n) (g := Int.gcd n d) (by omega) hg
    have b2 := tdiv_small (n := 0 - d) (g := Int.gcd n d) (by omega) hg
    rw [w64 (z := 0 - n) (by omega) (by omega), w64 (z := 0 - d) (by omega) (by omega)]
    have cv := condv (0 - n) (0 - d) (by omega) (by omega)
    rw [gcd_neg2] at cv
    try simp only [eq_self, true_and, and_true]
    refine ⟨_, ⟨cv⟩, ?_⟩
    simp only [bc_n (show ((Int.gcd n d : Nat) : Int) ≠ 0 by omega), true_and, and_true]
    rw [w64 (by omega) (by omega), w64 (by omega) (by omega)]
    show _ = _
    rw [low, if_pos (by omega)]
abbrev W (z : Int) : Int := IntKind.wrap .i64 z
/-- what is measured of a point, rounded down, and what is left -/
def stZ (a b p q r s : Int) : Int × Int := dv (W (W (0 + W ((dv (W (a * p)) q).2 * W (Int.tdiv (W (q * s)) q))) + W ((dv (W (b * r)) s).2 * W (Int.tdiv (W (q * s)) s)))) (W (q * s))
def stT (a b p q r s : Int) : Int := W (W (W (0 + (dv (W (a * p)) q).1) + (dv (W (b * r)) s).1) + (stZ a b p q r s).1)
/-- does a stripe hold a point -/
def stripeB (a b lo hi p q r s : Int) : Bool := decide (lo ≤ stT a b p q r s) && decide ((if (stZ a b p q r s).2 > 0 then W (stT a b p q r s + 1) else stT a b p q r s) ≤ hi)
theorem consh (a b lo hi p q r s : Int) (hq : q ≠ 0) (hs : s ≠ 0) (hqs : W (q * s) ≠ 0) : C5 121 [.agg [dI a, dI b, dI lo, dI hi], .agg [dI p, dI q, dI r, dI s]] [.val (.bool (stripeB a b lo hi p q r s))] := by
  refine con_walk hokW mixed (u := 8) (by decide) Tryz.func121 rfl (by show 0 ≤ 400; omega) (fun caps => ?_)
  show gsh _ a b lo hi p q r s _
  rw [gsh_text]
  simp only [eq_self, true_and, and_true]
  refine ⟨(dv (W (a * p)) q).1, (dv (W (a * p)) q).2, ⟨condd _ _ hq⟩, bc_bne (fun _ => ?_) (fun h => absurd h hq)⟩
  refine ⟨(dv (W (b * r)) s).1, (dv (W (b * r)) s).2, ⟨condd _ _ hs⟩, bc_bne (fun _ => ?_) (fun h => absurd h hs)⟩
  refine ⟨(stZ a b p q r s).1, (stZ a b p q r s).2, ⟨condd _ _ hqs⟩, ?_⟩
  have hT : IntKind.wrap IntKind.i64 (IntKind.wrap IntKind.i64 (IntKind.wrap IntKind.i64 (0 + (dv (W (a * p)) q).1) + (dv (W (b * r)) s).1) + (stZ a b p q r s).1) = stT a b p q r s := rfl
  rw [hT]
  unfold stripeB
  generalize stT a b p q r s = t
  generalize (stZ a b p q r s).2 = z
  refine bc_dec (fun h1 => bc_dec (fun h2 => bc_dec (fun h3 => ?_) (fun h3 => ?_)) (fun h2 => ?_)) (fun h1 => bc_dec (fun h2 => bc_dec (fun h3 => ?_) (fun h3 => ?_)) (fun h2 => ?_))
  · show [D.val (Value.bool true)] = _; rw [if_pos h1, decide_eq_true h2, decide_eq_true h3]; rfl
  · show [D.val (Value.bool false)] = _; rw [if_pos h1, decide_eq_true h2, decide_eq_false h3]; rfl
  · show [D.val (Value.bool false)] = _; rw [if_pos h1, decide_eq_false h2]; rfl
  · show [D.val (Value.bool true)] = _; rw [if_neg h1, decide_eq_true h2, decide_eq_true h3]; rfl
  · show [D.val (Value.bool false)] = _; rw [if_neg h1, decide_eq_true h2, decide_eq_false h3]; rfl
  · show [D.val (Value.bool false)] = _; rw [if_neg h1, decide_eq_false h2]; rfl
/-- what is known of small functions, for runs of known data -/
def tabM : Tab := fun f =>
  if f = 91 then some fun ds => match ds with
    | [.val (.int .i64 n), .val (.int .i64 d)] => if -4611686018427387904 ≤ n ∧ n ≤ 4611686018427387904 ∧ -4611686018427387904 ≤ d ∧ d ≤ 4611686018427387904 ∧ d ≠ 0 then some [.agg [dI (low n d).1, dI (low n d).2]] else none
    | _ => none
  else if f = 121 then some fun ds => match ds with
    | [.agg [.val (.int .i64 a), .val (.int .i64 b), .val (.int .i64 lo), .val (.int .i64 hi)], .agg [.val (.int .i64 p), .val (.int .i64 q), .val (.int .i64 r), .val (.int .i64 s)]] => if q ≠ 0 ∧ s ≠ 0 ∧ W (q * s) ≠ 0 then some [.val (.bool (stripeB a b lo hi p q r s))] else none
    | _ => none
  else none
theorem tabM_ok : TabOK Tryz.prog tabM := by
  intro f t ht ds rs h
  unfold tabM at ht
  split at ht
  · rename_i hf
    subst hf
    obtain rfl := Option.some.inj ht
    simp only at h
    split at h
    · split at h
      · rename_i hc
        obtain rfl := Option.some.inj h
        exact conlTg _ _ ⟨hc.1, hc.2.1⟩ ⟨hc.2.2.1, hc.2.2.2.1⟩ hc.2.2.2.2
      · cases h
    · cases h
  · split at ht
    · rename_i hf
      subst hf
      obtain rfl := Option.some.inj ht
      simp only at h
      split at h
      · split at h
        · rename_i hc
          obtain rfl := Option.some.inj h
          exact consh _ _ _ _ _ _ _ _ hc.1 hc.2.1 hc.2.2
        · cases h
      · cases h
    · cases ht
abbrev evs : List Int := [10, 50, 70, 20, 100, 110, 30, 180, 190]
abbrev lawD (n : Nat) (l : List Int) : D := .agg [dI 0, dI 100, dI 0, dI 10, .sl n 3 (vi l)]
theorem run86a : ∀ caps, runOK Tryz.prog tabM 1000 71 [lawD 3 evs, .nil] [.val (.bool false)] caps = true := by intro caps; kernel_rfl
theorem run86b : ∀ caps, runOK Tryz.prog tabM 1000 71 [lawD 3 evs, .sl 1 1 (vi [0])] [.val (.bool false)] caps = true := by intro caps; kernel_rfl
theorem run86c : ∀ caps, runOK Tryz.prog tabM 1000 71 [lawD 3 evs, .sl 1 1 (vi [1])] [.val (.bool false)] caps = true := by intro caps; kernel_rfl
theorem run86d : ∀ caps, runOK Tryz.prog tabM 1000 71 [lawD 3 evs, .sl 1 1 (vi [2])] [.val (.bool false)] caps = true := by intro caps; kernel_rfl
theorem run86e : ∀ caps, runOK Tryz.prog tabM 1000 71 [lawD 3 evs, .sl 2 1 (vi [0, 1])] [.val (.bool false)] caps = true := by intro caps; kernel_rfl
theorem run86f : ∀ caps, runOK Tryz.prog tabM 1000 71 [lawD 3 evs, .sl 2 1 (vi [0, 2])] [.val (.bool false)] caps = true := by intro caps; kernel_rfl
theorem run86g : ∀ caps, runOK Tryz.prog tabM 1000 71 [lawD 3 evs, .sl 2 1 (vi [1, 2])] [.val (.bool true)] caps = true := by intro caps; kernel_rfl
def tab86 : List (List D × List D) := [([lawD 3 evs, .nil], [.val (.bool false)]), ([lawD 3 evs, .sl 1 1 (vi [0])], [.val (.bool false)]), ([lawD 3 evs, .sl 1 1 (vi [1])], [.val (.bool false)]), ([lawD 3 evs, .sl 1 1 (vi [2])], [.val (.bool false)]), ([lawD 3 evs, .sl 2 1 (vi [0, 1])], [.val (.bool false)]), ([lawD 3 evs, .sl 2 1 (vi [0, 2])], [.val (.bool false)]), ([lawD 3 evs, .sl 2 1 (vi [1, 2])], [.val (.bool true)])]
theorem tab86_ok : ∀ p ∈ tab86, Con Tryz.prog 71 p.1 p.2 := by
  have c : ∀ {ds rs : List D}, countV ds ≤ 400 → (∀ caps, runOK Tryz.prog tabM 1000 71 ds rs caps = true) → Con Tryz.prog 71 ds rs := fun hc h => con_run tabM_ok mixed hc h
  intro p hp
  simp only [tab86, List.mem_cons, List.not_mem_nil, or_false] at hp
  rcases hp with rfl | rfl | rfl | rfl | rfl | rfl | rfl
  · exact c (by show 1 ≤ 400; omega) run86a
  · exact c (by show 2 ≤ 400; omega) run86b
  · exact c (by show 2 ≤ 400; omega) run86c
  · exact c (by show 2 ≤ 400; omega) run86d
  · exact c (by show 2 ≤ 400; omega) run86e
  · exact c (by show 2 ≤ 400; omega) run86f
  · exact c (by show 2 ≤ 400; omega) run86g
def tab50 : Tab := fun f => if f = 71 then some (tabLook tab86) else tabM f
theorem tab50_ok : TabOK Tryz.prog tab50 := by
  intro f t ht ds rs h
  unfold tab50 at ht
  split at ht
  · rename_i e
    subst e
    obtain rfl := Option.some.inj ht
    exact tab86_ok _ (tabLook_ok h)
  · exact tabM_ok f t ht ds rs h
theorem run50 : ∀ caps, runOK Tryz.prog tab50 1000 34 [lawD 3 evs] [.sl 2 1 (vi [1, 2]), dI 0] caps = true := by intro caps; kernel_rfl
theorem run48 : ∀ caps, runOK Tryz.prog tabM 1000 32 [lawD 2 [10, 50, 70, 20, 100, 110], dI 30] [.agg [dI 130, dI 1, dI 165, dI 1], dI 0] caps = true := by intro caps; kernel_rfl
theorem con50 : Con Tryz.prog 34 [lawD 3 evs] [.sl 2 1 (vi [1, 2]), dI 0] := con_run tab50_ok mixed (by show 1 ≤ 400; omega) run50
theorem con48 : Con Tryz.prog 32 [lawD 2 [10, 50, 70, 20, 100, 110], dI 30] [.agg [dI 130, dI 1, dI 165, dI 1], dI 0] := con_run tabM_ok mixed (by show 1 ≤ 400; omega) run48
def tab9 : Tab := fun f =>
  if f = 34 then some (tabLook [([lawD 3 evs], [.sl 2 1 (vi [1, 2]), dI 0])])
  else if f = 32 then some (tabLook [([lawD 2 [10, 50, 70, 20, 100, 110], dI 30], [.agg [dI 130, dI 1, dI 165, dI 1], dI 0])])
  else tabM f
theorem tab9_ok : TabOK Tryz.prog tab9 := by
  intro f t ht ds rs h
  unfold tab9 at ht
  split at ht
  · rename_i e
    subst e
    obtain rfl := Option.some.inj ht
    have := tabLook_ok h
    simp only [List.mem_cons, List.not_mem_nil, or_false, Prod.mk.injEq] at this
    obtain ⟨rfl, rfl⟩ := this
    exact con50
  · split at ht
    · rename_i e
      subst e
      obtain rfl := Option.some.inj ht
      have := tabLook_ok h
      simp only [List.mem_cons, List.not_mem_nil, or_false, Prod.mk.injEq] at this
      obtain ⟨rfl, rfl⟩ := this
      exact con48
    · exact tabM_ok f t ht ds rs h
theorem run9 : ∀ caps, runOK Tryz.prog tab9 1000 5 [] [.val (.bool true)] caps = true := by intro caps; kernel_rfl
theorem conA : C5 5 [] [.val (.bool true)] := con_run tab9_ok mixed (by show 0 ≤ 400; omega) run9
end Go.Proofs.G5v
