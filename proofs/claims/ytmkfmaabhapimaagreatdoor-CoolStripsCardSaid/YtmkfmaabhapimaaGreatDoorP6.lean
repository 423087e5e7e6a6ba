/- Texts of the proof, put together: AbsX, Gd8C, Gd8K0, Gd8T2, AbsNum, G8H, Gd8D, Gd8Q. -/
import Derived.Test.YtmkfmaabhapimaaGreatDoorP3
import Derived.Test.YtmkfmaabhapimaaGreatDoorP4
import Derived.Test.YtmkfmaabhapimaaGreatDoorGd8A
import Derived.Test.YtmkfmaabhapimaaGreatDoorCards
import Derived.Test.YtmkfmaabhapimaaGreatDoorTie
import Derived.Handed
import Derived.JoinedCond
import Derived.Deep.DeepHandedRow
import Derived.Lib.LaidTab
import Derived.WalkKit
/- Handlers by a table hold if each entry does. -/
namespace Go.Abs
open Go.RowKit
variable {P : Program}
theorem saidH_ok {C : FuncId → List D → List D → Prop} (hC : ∀ f ds rs, C f ds rs → Con P f ds rs) : HandlerOK P (saidH P C) := by
  intro g args ats H k hk
  unfold saidH at hk
  split at hk
  · exact wpSaid_call hC hk
  · exact hk.elim
theorem fixH_ok {C : FuncId → List D → List D → Prop} (hC : ∀ f ds rs, C f ds rs → Con P f ds rs) {fix : List D → Option (List D)} : HandlerOK P (fixH C fix) := fun _ _ _ _ _ hk => wpFix_call hC hk
/-- (a state contract speaks of one function) -/
def PreOK (P : Program) (pre : FuncId → Option Handler) : Prop := ∀ g h, pre g = some h → ∀ args ats H k, h g args ats H k → CallH P g args H k
theorem handlerX_ok (hmix : P.follows .mixedOrders = true) {pre : FuncId → Option Handler} (hp : PreOK P pre) {u : Nat} (hu : u ≠ 0) : ∀ n, HandlerOK P (handlerX P pre u n)
  | 0 => fun _ _ _ _ _ h => h.elim
  | n + 1 => fun g args ats H k hk => by
    simp only [handlerX] at hk
    split at hk
    · rename_i h he
      exact hp g h he args ats H k hk
    · exact wpFn_call (handlerX_ok hmix hp hu n) hmix hu hk
theorem limC_out {g : FuncId} {lo hi e : Int} {n es : Nat} {cs : List Value} (h : Says limC g [.val (.int .i64 lo), .val (.int .i64 hi), .sl n es cs] [.val (.int .i64 e)]) : e = limE lo hi cs := h.out
theorem falseH_ok : HandlerOK P (fun _ _ _ _ _ => False) := fun _ _ _ _ _ h => h.elim
/-- A function whose loops are walked round by round. -/
theorem callS_walk {h : Handler} (hh : HandlerOK P h) (hmix : P.follows .mixedOrders = true) {u : Nat} (hu : u ≠ 0) {f : FuncId} {fn : Func} {c : Code} (hf : P.funcs[f]? = some fn) (hc : fn.body = some c) {args : List Value} {bs : Blocks} {K : Value → Blocks → Prop}
    (hk : wpFn P h (fun _ _ _ => False) u f args.toArray (heapOf bs) (stateK K)) : CallS P f args bs K := by
  intro w0 ρ w args' n g ha
  refine (wpFn_run (u := u) (b := false) hh hmix (fun h0 => absurd h0 hu) hf hc hk (fun h0 => absurd h0 hu) g n (by simpa using ha)).mono ?_
  rintro e w' ⟨v, H', ρ', v', hkv, rfl, hv, g', _⟩
  obtain ⟨v2, bs', ρ2, h1, h2, h3⟩ := stateK_out g' hv hkv
  exact ⟨v2, bs', ρ2, v', h1, rfl, h2, h3⟩
/-- The same, with data. -/
theorem con_walk {h : Handler} (hh : HandlerOK P h) (hmix : P.follows .mixedOrders = true) {u : Nat} (hu : u ≠ 0) {f : FuncId} {fn : Func} {c : Code} (hf : P.funcs[f]? = some fn) (hc : fn.body = some c) {ds rs : List D} (hcount : countV ds ≤ 400)
    (hk : ∀ caps, wpFn P h (fun _ _ _ => False) u f (layVals caps 500 ds).1.toArray (heapOf (layVals caps 500 ds).2) (dataK (· = rs))) : Con P f ds rs := by
  intro w args hr
  obtain ⟨caps, ρ, hst, g, ha⟩ := lay_gam hr hcount
  refine callsIn_wide.1 ((wpFn_run (u := u) (b := false) hh hmix (fun h0 => absurd h0 hu) hf hc (hk caps) (fun h0 => absurd h0 hu) g 0 (by simpa using ha)).mono ?_)
  rintro e w' ⟨v, H', ρ', v', hkv, rfl, hv, g', _⟩
  obtain ⟨vs, ds', u, rfl, h1, rfl⟩ := dataK_out g' hv hkv
  exact ⟨⟨vs, u, rfl, h1⟩, g'.below.below hst⟩
theorem callS_mono {f : FuncId} {args : List Value} {bs : Blocks} {K K' : Value → Blocks → Prop} (h : CallS P f args bs K) (hk : ∀ v b, K v b → K' v b) : CallS P f args bs K' := by
  intro w0 ρ w args' n g ha
  refine (h w0 ρ w args' n g ha).mono ?_
  rintro e w' ⟨v2, bs', ρ2, v', h1, h2, h3, h4⟩
  exact ⟨v2, bs', ρ2, v', hk _ _ h1, h2, h3, h4⟩
abbrev limBs (ti : TypeId) (cs : List Value) (lo hi : Int) : Blocks := [(900, .cells cs ti false 1), (901, .cells [.int .i64 lo] ti false 1), (902, .cells [.int .i64 hi] ti false 1)]
abbrev limArgs (n cap : Nat) : List Value := [.slice (some ⟨900, 0, none⟩) n cap, .pointer (some ⟨901, 0, none⟩), .pointer (some ⟨902, 0, none⟩)]
/-- What is left to show of the function that limit returns. -/
def limGoal (P : Program) (f : FuncId) (ti : TypeId) (n : Nat) (cs : List Value) (cap : Nat) (lo hi : Int) (K : Value → Blocks → Prop) : Prop :=
  wpFn P (fun _ _ _ _ _ => False) (fun _ _ _ => False) 6 f (limArgs n cap).toArray (heapOf (limBs ti cs lo hi)) (stateK K)
structure LimGood (P : Program) (f : FuncId) (ti : TypeId) : Prop where
  mix : P.follows .mixedOrders = true
  fn : ∃ fn c, P.funcs[f]? = some fn ∧ fn.body = some c
  one : ∀ cap lo hi x, limGoal P f ti 1 [.int .i64 x] cap lo hi (fun v b => v = .int .i64 (limE lo hi [.int .i64 x]) ∧ b = limBs ti [.int .i64 x] lo hi)
  two : ∀ cap lo hi x y, limGoal P f ti 2 [.int .i64 x, .int .i64 y] cap lo hi (fun v b => v = .int .i64 (limE lo hi [.int .i64 x, .int .i64 y]) ∧ b = limBs ti [.int .i64 x, .int .i64 y] lo hi)
  three : ∀ cap lo hi x y z, limGoal P f ti 3 [.int .i64 x, .int .i64 y, .int .i64 z] cap lo hi (fun v b => v = .int .i64 (limE lo hi [.int .i64 x, .int .i64 y, .int .i64 z]) ∧ b = limBs ti [.int .i64 x, .int .i64 y, .int .i64 z] lo hi)
  four : ∀ cap lo hi x y z u, limGoal P f ti 4 [.int .i64 x, .int .i64 y, .int .i64 z, .int .i64 u] cap lo hi (fun v b => v = .int .i64 (limE lo hi [.int .i64 x, .int .i64 y, .int .i64 z, .int .i64 u]) ∧ b = limBs ti [.int .i64 x, .int .i64 y, .int .i64 z, .int .i64 u] lo hi)
theorem lim_ok {f : FuncId} {ti : TypeId} (g : LimGood P f ti) {args : List Value} {bs : Blocks} {K : Value → Blocks → Prop} (hk : limAll ti args bs K) : CallS P f args bs K := by
  obtain ⟨fn, c, hf, hc⟩ := g.fn
  have run : ∀ {n : Nat} {cs : List Value} {cap : Nat} {lo hi : Int}, limGoal P f ti n cs cap lo hi (fun v b => v = .int .i64 (limE lo hi cs) ∧ b = limBs ti cs lo hi) → limOut lo hi cs (limBs ti cs lo hi) K → CallS P f (limArgs n cap) (limBs ti cs lo hi) K := by
    intro n cs cap lo hi h1 h2
    refine callS_mono (callS_walk falseH_ok g.mix (by decide) hf hc h1) ?_
    rintro v b ⟨rfl, rfl⟩
    obtain ⟨e, he, hK⟩ := h2
    rw [← limC_out he]; exact hK
  unfold limAll at hk
  split at hk
  · unfold limSpec at hk
    split at hk
    · rename_i e2
      split at hk
      · rename_i hc
        simp only [Bool.and_eq_true, beq_iff_eq] at hc
        obtain ⟨⟨⟨⟨⟨⟨⟨⟨⟨⟨⟨⟨⟨⟨⟨⟨rfl, rfl⟩, rfl⟩, rfl⟩, rfl⟩, rfl⟩, rfl⟩, rfl⟩, rfl⟩, rfl⟩, rfl⟩, rfl⟩, rfl⟩, rfl⟩, rfl⟩, hm⟩, hl⟩ := hc
        rw [e2]
        split at hk
        · subst hm; exact run (g.one _ _ _ _) hk
        · subst hm; exact run (g.two _ _ _ _ _) hk
        · subst hm; exact run (g.three _ _ _ _ _ _) hk
        · subst hm; exact run (g.four _ _ _ _ _ _ _) hk
        · exact hk.elim
      · exact hk.elim
    · exact hk.elim
  · exact hk.elim
end Go.Abs

/- Chapter 8: what small functions do, in data. -/
namespace Go.Proofs.G5d
open Go Go.Abs Go.Proofs
set_option maxRecDepth 100000
/-! ### how functions are met -/
theorem limE1 (lo hi a : Int) : limE lo hi [.int .i64 a] = if lo ≤ a ∧ a ≤ hi then 0 else 2 := by
  simp only [limE]; split <;> split <;> first | rfl | omega
theorem limE2 (lo hi a b : Int) : limE lo hi [.int .i64 a, .int .i64 b] = if (lo ≤ a ∧ a ≤ hi) ∧ lo ≤ b ∧ b ≤ hi then 0 else 2 := by
  simp only [limE]; repeat' split
  all_goals first | rfl | omega
theorem limE4 (lo hi a b c d : Int) : limE lo hi [.int .i64 a, .int .i64 b, .int .i64 c, .int .i64 d] = if (lo ≤ a ∧ a ≤ hi) ∧ (lo ≤ b ∧ b ≤ hi) ∧ (lo ≤ c ∧ c ≤ hi) ∧ lo ≤ d ∧ d ≤ hi then 0 else 2 := by
  simp only [limE]; repeat' split
  all_goals first | rfl | omega
theorem limGood : LimGood Tryz.prog 93 3 := by
  refine ⟨mixed, ⟨_, _, Tryz.func93, rfl⟩, fun cap lo hi x => ?_, fun cap lo hi x y => ?_, fun cap lo hi x y z => ?_, fun cap lo hi x y z u => ?_⟩
  · show lm1 cap lo hi x _
    rw [lm1_text, limE1]
    repeat' first | refine bc_dec (fun _ => ?_) (fun _ => ?_) | exact ⟨by rw [if_neg (by omega)], rfl⟩ | exact ⟨by rw [if_pos (by omega)], rfl⟩
  · show lm2 cap lo hi x y _
    rw [lm2_text, limE2]
    repeat' first | refine bc_dec (fun _ => ?_) (fun _ => ?_) | exact ⟨by rw [if_neg (by omega)], rfl⟩ | exact ⟨by rw [if_pos (by omega)], rfl⟩
  · show lm3 cap lo hi x y z _
    rw [lm3_text]
    have e : limE lo hi [.int .i64 x, .int .i64 y, .int .i64 z] = if (lo ≤ x ∧ x ≤ hi) ∧ (lo ≤ y ∧ y ≤ hi) ∧ lo ≤ z ∧ z ≤ hi then 0 else 2 := by
      simp only [limE]; repeat' split
      all_goals first | rfl | omega
    rw [e]
    repeat' first | refine bc_dec (fun _ => ?_) (fun _ => ?_) | exact ⟨by rw [if_neg (by omega)], rfl⟩ | exact ⟨by rw [if_pos (by omega)], rfl⟩
  · show lm4 cap lo hi x y z u _
    rw [lm4_text, limE4]
    repeat' first | refine bc_dec (fun _ => ?_) (fun _ => ?_) | exact ⟨by rw [if_neg (by omega)], rfl⟩ | exact ⟨by rw [if_pos (by omega)], rfl⟩
theorem ite_so {c : Prop} [Decidable c] {α : Type} {x h : α} {r : Option α} (e : (if c then some x else r) = some h) : (c ∧ x = h) ∨ r = some h := by
  by_cases hc : c
  · rw [if_pos hc] at e; exact .inl ⟨hc, Option.some.inj e⟩
  · rw [if_neg hc] at e; exact .inr e
theorem preAOK : PreOK Tryz.prog (preA C5) := by
  intro g h he args ats H k hk
  unfold preA at he
  rcases ite_so he with ⟨e, rfl⟩ | he
  · rw [beq_iff_eq] at e
    subst e
    exact wpState_call (fun args bs K hk => lim_ok limGood hk) hk
  rcases ite_so he with ⟨e, rfl⟩ | he
  · exact saidH_ok (fun _ _ _ h => h) _ _ _ _ _ hk
  · cases he
theorem hokA : HandlerOK Tryz.prog (hA C5) := handlerX_ok mixed preAOK (by decide) 6
theorem hokE : HandlerOK Tryz.prog (hE C5) := handlerX_ok mixed (fun g h he => by cases he) (by decide) 6
/-! ### lists of cells -/
abbrev Tr := Int × Int × Int
abbrev Pr := Int × Int
@[simp] theorem trs_length : ∀ l : List Tr, (trs l).length = l.length * 3
  | [] => rfl
  | p :: r => by simp only [trs, List.length_cons, trs_length r]; omega
theorem trs_drop : ∀ (l : List Tr) (i : Nat), (trs l).drop (i * 3) = trs (l.drop i)
  | l, 0 => by simp
  | [], i + 1 => by simp [trs]
  | p :: r, i + 1 => by
    rw [Nat.add_mul]
    simp only [trs, Nat.one_mul, List.drop_succ_cons]
    exact trs_drop r i
abbrev tp (l : List Tr) (i : Nat) : Tr := l.getD i (0, 0, 0)
theorem tp_at {l : List Tr} {i : Nat} (h : i < l.length) : l[i] = tp l i := by rw [tp, List.getD_eq_getElem?_getD, List.getElem?_eq_getElem h]; rfl
theorem tp_mem {l : List Tr} {i : Nat} (h : i < l.length) : tp l i ∈ l := by rw [← tp_at h]; exact List.getElem_mem h
theorem at_tp {l : List Tr} {i : Nat} (h : i < l.length) : At (trs l) (0 + i * 3) 3 [vI (tp l i).1, vI (tp l i).2.1, vI (tp l i).2.2] := by
  refine ⟨by rw [trs_length]; omega, ?_⟩
  rw [Nat.zero_add, trs_drop, List.drop_eq_getElem_cons h, ← tp_at h]
  rfl
theorem at_tp0 {l : List Tr} {i : Nat} (h : i < l.length) : At (trs l) (0 + i * 3) 1 [vI (tp l i).1] := by
  refine ⟨by rw [trs_length]; omega, ?_⟩
  rw [Nat.zero_add, trs_drop, List.drop_eq_getElem_cons h, ← tp_at h]
  rfl
theorem at_tp1 {l : List Tr} {i : Nat} (h : i < l.length) : At (trs l) (0 + i * 3 + 1) 1 [vI (tp l i).2.1] := by
  refine ⟨by rw [trs_length]; omega, ?_⟩
  rw [Nat.zero_add, ← List.drop_drop, trs_drop, List.drop_eq_getElem_cons h, ← tp_at h]
  rfl
theorem trs_whole (l : List Tr) : List.take (l.length * 3) (List.drop 0 (trs l)) = trs l := by simp [List.take_of_length_le]
theorem v3le (l : List Tr) : 0 + l.length * 3 ≤ (trs l).length := by simp
theorem v2le (l : List Pr) : 0 + l.length * 2 ≤ (vp l).length := by simp
theorem v1le (l : List Int) : 0 + l.length * 1 ≤ (vi l).length := by simp
theorem at3 {l : List Value} {k : Nat} {a b c : Int} (h : At l k 3 [.int .i64 a, .int .i64 b, .int .i64 c]) {Q : Int → Int → Int → Prop} : (∃ n m o : Int, At l k 3 [.int .i64 n, .int .i64 m, .int .i64 o] ∧ Q n m o) = Q a b c := by
  apply propext
  constructor
  · rintro ⟨n, m, o, hn, hq⟩
    have e := hn.eq.symm.trans h.eq
    simp only [List.cons.injEq, Value.int.injEq, true_and, and_true] at e
    obtain ⟨rfl, rfl, rfl⟩ := e; exact hq
  · intro hq; exact ⟨a, b, c, h, hq⟩
abbrev pt (l : List Pr) (i : Nat) : Pr := l.getD i (0, 0)
theorem pt_at {l : List Pr} {i : Nat} (h : i < l.length) : l[i] = pt l i := by rw [pt, List.getD_eq_getElem?_getD, List.getElem?_eq_getElem h]; rfl
theorem at_pt {l : List Pr} {i : Nat} (h : i < l.length) : At (vp l) (0 + i * 2) 2 [vI (pt l i).1, vI (pt l i).2] := by rw [← pt_at h]; exact vp_two l i h
abbrev gd (l : List Int) (i : Nat) : Int := l.getD i 0
theorem gd_at {l : List Int} {i : Nat} (h : i < l.length) : l[i] = gd l i := by rw [gd, List.getD_eq_getElem?_getD, List.getElem?_eq_getElem h]; rfl
theorem at_gd {l : List Int} {i : Nat} (h : i < l.length) : At (vi l) (0 + i * 1) 1 [vI (gd l i)] := by rw [← gd_at h]; exact vi_at l i h
theorem wi1 {i n : Nat} (h : i < n) (hn : n < 1000000000) : IntKind.wrap .i64 ((i : Int) + 1) = ((i + 1 : Nat) : Int) := by rw [w64 (by omega) (by omega)]; rfl
/-! ### small functions -/
theorem conFE (l : List Int) (hlen : l.length < 1000000000) : C5 29 [.sl l.length 1 (vi l)] [dI (fst0 l)] := by
  let inv : Nat × Nat → Prop := fun x => x.1 ≤ l.length ∧ fst0 l = fst0 (l.drop x.1)
  let st : Nat × Nat → Slots × Blocks := fun x => zFE1 l.length x.2 l.length x.1 (vi l)
  refine con_of (L := fun _ s b => ∃ x, inv x ∧ st x = (s, b)) hokA mixed Tryz.func29 rfl (by show 1 ≤ 400; omega) rfl (ids := [0]) (by kernel_rfl) rfl (fun caps => ?_) (fun id hid => ?_)
  · show gFE _ _ l.length (caps 500) (vi l) _
    rw [gFE_text]
    exact ⟨(0, caps 500), ⟨by simp, rfl⟩, rfl⟩
  · obtain rfl := List.mem_singleton.1 hid
    refine ⟨Nat × Nat, st, inv, fun x => l.length - x.1, ⟨fun s b h => h, by kernel_rfl, ?_⟩⟩
    rintro ⟨i, cap⟩ ⟨hi, hr⟩
    simp only at hi hr
    show rFE1 _ _ l.length cap l.length i (vi l) _ _ _
    rw [rFE1_text]
    refine bc_dec (fun h => ?_) (fun h => ?_)
    · have hi' : i < l.length := by omega
      rw [List.drop_eq_getElem_cons hi', fst0] at hr
      simp only [bc_t h, bc_t (show (0 : Int) ≤ (i : Int) by omega), Int.toNat_natCast, at1 (vi_at l i hi')]
      refine bc_bne (fun hc => ?_) (fun hc => ?_)
      · rw [if_neg hc] at hr
        show [dI l[i]] = [dI (fst0 l)]
        rw [hr]
      · rw [if_pos hc] at hr
        refine ⟨(i + 1, cap), ⟨by show i + 1 ≤ l.length; omega, hr⟩, by show l.length - (i + 1) < l.length - i; omega, ?_⟩
        rw [w64 (by omega) (by omega)]; rfl
    · show (if 0 = 0 then _ else _)
      rw [if_pos rfl]
      show nFE2 _ _ _
      rw [nFE2_text]
      have : i = l.length := by omega
      rw [this, List.drop_length] at hr
      show [dI 0] = [dI (fst0 l)]
      rw [hr]; rfl
def cntE (n a b : Int) : Int := if n < a then 10 else if n > b then 8 else 0
theorem cntE_ok {n a b : Int} : cntE n a b = 0 ↔ a ≤ n ∧ n ≤ b := by
  unfold cntE
  split
  · omega
  · split <;> omega
theorem conCC (n a b : Int) : C5 31 [dI n, dI a, dI b] [dI (cntE n a b)] := by
  refine con_flat hokA mixed Tryz.func31 rfl (by show 0 ≤ 400; omega) rfl (by kernel_rfl) (fun caps => ?_)
  show gCC _ _ n a b _
  rw [gCC_text]; unfold cntE
  refine bc_dec (fun h => ?_) (fun h => bc_dec (fun h2 => ?_) (fun h2 => ?_))
  · show _ = _; rw [if_pos h]
  · show _ = _; rw [if_neg h, if_pos h2]
  · show _ = _; rw [if_neg h, if_neg h2]
def ordE (a b : Int) : Int := if a > b then 9 else 0
theorem conCE (a b : Int) : C5 68 [.agg [dI a, dI b]] [dI (ordE a b)] := by
  refine con_flat hokA mixed Tryz.func68 rfl (by show 0 ≤ 400; omega) rfl (by kernel_rfl) (fun caps => ?_)
  show gCE _ _ a b _
  rw [gCE_text]; unfold ordE
  refine bc_dec (fun h => ?_) (fun h => ?_)
  · show _ = _; rw [if_pos h]
  · show _ = _; rw [if_neg h]
def sameE (a : Int) : List Int → Int
  | [] => 0
  | x :: r => if x ≠ a then 10 else sameE a r
theorem conCS (a : Int) (l : List Int) (hlen : l.length < 1000000000) : C5 30 [dI a, .sl l.length 1 (vi l)] [dI (sameE a l)] := by
  let inv : Nat × Nat → Prop := fun x => x.1 ≤ l.length ∧ sameE a l = sameE a (l.drop x.1)
  let st : Nat × Nat → Slots × Blocks := fun x => zCS1 a l.length x.2 l.length x.1 (vi l)
  refine con_of (L := fun _ s b => ∃ x, inv x ∧ st x = (s, b)) hokA mixed Tryz.func30 rfl (by show 1 ≤ 400; omega) rfl (ids := [0]) (by kernel_rfl) rfl (fun caps => ?_) (fun id hid => ?_)
  · show gCS _ _ a l.length (caps 500) (vi l) _
    rw [gCS_text]
    exact ⟨(0, caps 500), ⟨by simp, rfl⟩, rfl⟩
  · obtain rfl := List.mem_singleton.1 hid
    refine ⟨Nat × Nat, st, inv, fun x => l.length - x.1, ⟨fun s b h => h, by kernel_rfl, ?_⟩⟩
    rintro ⟨i, cap⟩ ⟨hi, hr⟩
    simp only at hi hr
    show rCS1 _ _ a l.length cap l.length i (vi l) _ _ _
    rw [rCS1_text]
    refine bc_dec (fun h => ?_) (fun h => ?_)
    · have hi' : i < l.length := by omega
      rw [List.drop_eq_getElem_cons hi', sameE] at hr
      simp only [bc_t h, bc_t (show (0 : Int) ≤ (i : Int) by omega), Int.toNat_natCast, at1 (vi_at l i hi')]
      refine bc_bne (fun hc => ?_) (fun hc => ?_)
      · rw [if_pos hc] at hr
        show [dI 10] = [dI (sameE a l)]
        rw [hr]
      · rw [if_neg (by omega)] at hr
        refine ⟨(i + 1, cap), ⟨by show i + 1 ≤ l.length; omega, hr⟩, by show l.length - (i + 1) < l.length - i; omega, ?_⟩
        rw [w64 (by omega) (by omega)]; rfl
    · show (if 0 = 0 then _ else _)
      rw [if_pos rfl]
      show nCS2 _ _ _
      rw [nCS2_text]
      have : i = l.length := by omega
      rw [this, List.drop_length] at hr
      show [dI 0] = [dI (sameE a l)]
      rw [hr]; rfl
theorem conWi (a b c : Int) : C5 71 [dI a, dI b, dI c] [.val (.bool (decide (b ≤ a ∧ a ≤ c)))] := by
  refine con_flat hokA mixed Tryz.func71 rfl (by show 0 ≤ 400; omega) rfl (by kernel_rfl) (fun caps => ?_)
  show gWi _ _ a b c _
  rw [gWi_text]
  refine bc_dec (fun h => bc_dec (fun h2 => ?_) (fun h2 => ?_)) (fun h => ?_)
  · show _ = _; rw [decide_eq_true (show b ≤ a ∧ a ≤ c from ⟨h, h2⟩)]
  · show _ = _; rw [decide_eq_false (show ¬ (b ≤ a ∧ a ≤ c) by omega)]
  · show _ = _; rw [decide_eq_false (show ¬ (b ≤ a ∧ a ≤ c) by omega)]
theorem sayWt {a b c : Int} (h : b ≤ a ∧ a ≤ c) : Says C5 71 [dI a, dI b, dI c] [.val (.bool true)] := by
  have := conWi a b c
  rw [decide_eq_true h] at this
  exact ⟨this⟩
theorem sayWf {a b c : Int} (h : ¬ (b ≤ a ∧ a ≤ c)) : Says C5 71 [dI a, dI b, dI c] [.val (.bool false)] := by
  have := conWi a b c
  rw [decide_eq_false h] at this
  exact ⟨this⟩
theorem lim_s1 {lo hi x : Int} : Says limC 0 [dI lo, dI hi, .sl 1 1 [vI x]] [dI (if lo ≤ x ∧ x ≤ hi then 0 else 2)] := ⟨(limE1 lo hi x).symm⟩
theorem lim_s2 {lo hi x y : Int} : Says limC 0 [dI lo, dI hi, .sl 2 1 [vI x, vI y]] [dI (if (lo ≤ x ∧ x ≤ hi) ∧ lo ≤ y ∧ y ≤ hi then 0 else 2)] := ⟨(limE2 lo hi x y).symm⟩
theorem conK1 (a b d : Int) : C5 98 [.agg [dI a, dI b, dI d]] [dI (bankE a b d)] := by
  refine con_flat hokA mixed Tryz.func98 rfl (by show 0 ≤ 400; omega) rfl (by kernel_rfl) (fun caps => ?_)
  show gK1 _ _ a b d _
  rw [gK1_text]
  simp only [eq_self, true_and]
  refine ⟨_, lim_s2, _, lim_s1, _, ⟨conCE a b⟩, _, ⟨conFE [_, _, _] (by simp)⟩, ?_⟩
  have e : fst0 [if (0 ≤ a ∧ a ≤ 1000) ∧ 0 ≤ b ∧ b ≤ 1000 then 0 else 2, if 0 ≤ d ∧ d ≤ 8 then 0 else 2, ordE a b] = bankE a b d := by
    unfold bankE ordE
    simp only [fst0]
    repeat' split
    all_goals first | rfl | omega
  rw [e] <;> trivial
def degE (a b : Int) : Int := if (0 ≤ a ∧ a ≤ 12000) ∧ (0 ≤ b ∧ b ≤ 12000) then (if a > b then 9 else 0) else 2
theorem degE_ok {a b : Int} : degE a b = 0 ↔ 0 ≤ a ∧ a ≤ b ∧ b ≤ 12000 := by
  unfold degE
  split
  · split <;> omega
  · omega
theorem conD1 (a b : Int) : C5 66 [.agg [dI a, dI b]] [dI (degE a b)] := by
  refine con_flat hokA mixed Tryz.func66 rfl (by show 0 ≤ 400; omega) rfl (by kernel_rfl) (fun caps => ?_)
  show gD1 _ _ a b _
  rw [gD1_text]
  simp only [eq_self, true_and]
  refine ⟨_, lim_s2, _, ⟨conCE a b⟩, _, ⟨conFE [_, _] (by simp)⟩, ?_⟩
  have e : fst0 [if (0 ≤ a ∧ a ≤ 12000) ∧ 0 ≤ b ∧ b ≤ 12000 then 0 else 2, ordE a b] = degE a b := by
    unfold degE ordE
    simp only [fst0]
    repeat' split
    all_goals first | rfl | omega
  rw [e] <;> trivial
theorem conDG2 (a b c d : Int) : C5 32 [.sl 2 2 [vI a, vI b, vI c, vI d]] [dI (fst0 [degE a b, degE c d])] := by
  refine con_walk hokA mixed (u := 8) (by decide) Tryz.func32 rfl (by show 1 ≤ 400; omega) (fun caps => ?_)
  show gcE2 _ (caps 500) a b c d _
  rw [gcE2_text]
  refine ⟨a, b, ⟨by simp, rfl⟩, _, ⟨conD1 a b⟩, bc_bne (fun h => ?_) (fun h => ?_)⟩
  · rw [fst0_two, if_neg h] <;> trivial
  · rw [fst0_two, if_pos h]
    refine ⟨c, d, ⟨by simp, rfl⟩, _, ⟨conD1 c d⟩, bc_bne (fun h2 => ?_) (fun h2 => ?_)⟩
    · rfl
    · rw [h2] <;> trivial
theorem conDE (a b : Int) : C5 38 [.agg [dI a, dI b]] [dI (degE a b)] := by
  refine con_flat hokA mixed Tryz.func38 rfl (by show 0 ≤ 400; omega) rfl (by kernel_rfl) (fun caps => ?_)
  show gDE _ _ a b _
  rw [gDE_text]; unfold degE
  by_cases h1 : 0 ≤ a ∧ a ≤ 12000
  · refine .inl ⟨sayWt h1, ?_⟩
    by_cases h2 : 0 ≤ b ∧ b ≤ 12000
    · refine .inl ⟨sayWt h2, ?_⟩
      rw [if_pos ⟨h1, h2⟩]
      refine bc_dec (fun h => ?_) (fun h => ?_)
      · rw [if_pos h] <;> trivial
      · rw [if_neg h] <;> trivial
    · refine .inr ⟨sayWf h2, ?_⟩
      rw [if_neg (fun h => h2 h.2)] <;> trivial
  · refine .inr ⟨sayWf h1, ?_⟩
    rw [if_neg (fun h => h1 h.1)] <;> trivial
/-! ### tables -/
abbrev dT (w a : Int) (l : List Tr) : D := .agg [dI w, dI a, .sl l.length 3 (trs l)]
theorem fbL_at {l : List Tr} {i : Nat} (h : i < l.length) (k : Int) : fbL k (trs (l.drop i)) = if bankE (tp l i).1 (tp l i).2.1 (tp l i).2.2 = 0 then fbL (k + 1) (trs (l.drop (i + 1))) else (k, bankE (tp l i).1 (tp l i).2.1 (tp l i).2.2) := by
  rw [List.drop_eq_getElem_cons h, ← tp_at h]; rfl
theorem conFB (l : List Tr) (hl : l.length < 1000000000) : C5 97 [.sl l.length 3 (trs l), .val (.func (.func 98) #[] #[])] [dI (fbL 0 (trs l)).1, dI (fbL 0 (trs l)).2] := by
  let inv : Nat × Nat → Prop := fun x => x.1 ≤ l.length ∧ fbL 0 (trs l) = fbL x.1 (trs (l.drop x.1))
  let st : Nat × Nat → Slots × Blocks := fun x => zFB1 l.length x.2 l.length x.1 (trs l)
  refine con_of (L := fun _ s b => ∃ x, inv x ∧ st x = (s, b)) hokA mixed Tryz.func97 rfl (by show 1 ≤ 400; omega) rfl (ids := [0]) (by kernel_rfl) rfl (fun caps => ?_) (fun id hid => ?_)
  · show gFB _ _ l.length (caps 500) (trs l) _
    rw [gFB_text]
    exact ⟨(0, caps 500), ⟨Nat.zero_le _, rfl⟩, rfl⟩
  · obtain rfl := List.mem_singleton.1 hid
    refine ⟨Nat × Nat, st, inv, fun x => l.length - x.1, ⟨fun s b h => h, by kernel_rfl, ?_⟩⟩
    rintro ⟨i, cap⟩ ⟨hi, hr⟩
    simp only at hi hr
    show rFB1 _ _ l.length cap l.length i (trs l) _ _ _
    rw [rFB1_text]
    refine bc_dec (fun h => ?_) (fun h => ?_)
    · have hi1 : i < l.length := by omega
      rw [fbL_at hi1] at hr
      simp only [bc_t h, bc_t (show (0 : Int) ≤ (i : Int) by omega), Int.toNat_natCast, at3 (at_tp hi1)]
      refine ⟨_, ⟨conK1 _ _ _⟩, bc_bne (fun h1 => ?_) (fun h1 => ?_)⟩
      · rw [if_neg h1] at hr
        show [_, _] = [_, _]
        rw [hr]
      · rw [if_pos h1] at hr
        refine ⟨(i + 1, cap), ⟨hi1, by rw [hr]; rfl⟩, by show l.length - (i + 1) < l.length - i; omega, ?_⟩
        rw [w64 (by omega) (by omega)]; rfl
    · show (if 0 = 0 then _ else _)
      rw [if_pos rfl]
      show nFB2 _ _ _
      rw [nFB2_text]
      rw [List.drop_eq_nil_of_le (by omega)] at hr
      show [_, _] = [_, _]
      rw [hr]; rfl
/-- the error of a table ahead of its banks, and all of it, with the bank -/
def headE (w a : Int) (n : Nat) : Int := if (0 ≤ w ∧ w ≤ 12000) ∧ (0 ≤ a ∧ a ≤ 100) then cntE n 1 4 else 2
def ctI (w a : Int) (l : List Tr) : Int := if headE w a l.length = 0 then (fbL 0 (trs l)).1 else 0
def ctE (w a : Int) (l : List Tr) : Int := if headE w a l.length = 0 then (fbL 0 (trs l)).2 else headE w a l.length
theorem headE_fst (w a : Int) (n : Nat) : fst0 [if 0 ≤ w ∧ w ≤ 12000 then 0 else 2, if 0 ≤ a ∧ a ≤ 100 then 0 else 2, cntE n 1 4] = headE w a n := by
  unfold headE
  simp only [fst0]
  repeat' split
  all_goals first | rfl | omega
theorem conCT (w a : Int) (l : List Tr) (hl : l.length < 1000000000) : C5 76 [dT w a l] [dI (ctI w a l), dI (ctE w a l)] := by
  refine con_flat hokA mixed Tryz.func76 rfl (by show 1 ≤ 400; omega) rfl (by kernel_rfl) (fun caps => ?_)
  show gCT _ _ w a l.length (caps 500) (trs l) _
  rw [gCT_text]
  simp only [eq_self, true_and, trs_whole, bc_t (v3le l)]
  refine ⟨_, lim_s1, _, lim_s1, _, ⟨conCC _ _ _⟩, _, ⟨conFE [_, _, _] (by simp)⟩, ?_⟩
  rw [headE_fst]
  refine bc_bne (fun h => ?_) (fun h => ?_)
  · rw [ctI, ctE, if_neg h, if_neg h] <;> trivial
  · rw [ctI, ctE, if_pos h, if_pos h]
    exact ⟨_, _, ⟨conFB l hl⟩, by trivial⟩
theorem conRT (w a : Int) (l : List Tr) (hl : l.length < 1000000000) : C5 72 [dT w a l] [dI (ctI w a l), dI (ctE w a l)] := by
  let inv : Nat × Nat → Prop := fun x => x.1 ≤ l.length ∧ headE w a l.length = 0 ∧ fbL 0 (trs l) = fbL x.1 (trs (l.drop x.1))
  let st : Nat × Nat → Slots × Blocks := fun x => zRT1 x.1 w a l.length x.2 (trs l)
  refine con_of (L := fun _ s b => ∃ x, inv x ∧ st x = (s, b)) hokA mixed Tryz.func72 rfl (by show 1 ≤ 400; omega) rfl (ids := [0]) (by kernel_rfl) rfl (fun caps => ?_) (fun id hid => ?_)
  · show gRT _ _ w a l.length (caps 500) (trs l) _
    rw [gRT_text]
    have bad : headE w a l.length ≠ 0 → [dI 0, dI (headE w a l.length)] = [dI (ctI w a l), dI (ctE w a l)] := fun h => by rw [ctI, ctE, if_neg h, if_neg h]
    by_cases h1 : 0 ≤ w ∧ w ≤ 12000
    · refine .inl ⟨sayWt h1, ?_⟩
      by_cases h2 : 0 ≤ a ∧ a ≤ 100
      · refine .inl ⟨sayWt h2, ?_⟩
        have e : headE w a l.length = cntE l.length 1 4 := if_pos ⟨h1, h2⟩
        refine bc_beq (fun h => ?_) (fun h => bc_dec (fun h3 => ?_) (fun h3 => ?_))
        · have e2 : headE w a l.length = 10 := by rw [e, cntE, if_pos (by omega)]
          have := bad (by omega)
          rw [e2] at this; exact this
        · have e2 : headE w a l.length = 8 := by rw [e, cntE, if_neg (by omega), if_pos h3]
          have := bad (by omega)
          rw [e2] at this; exact this
        · exact ⟨(0, caps 500), ⟨Nat.zero_le _, by rw [e, cntE, if_neg (by omega), if_neg h3], rfl⟩, rfl⟩
      · refine .inr ⟨sayWf h2, ?_⟩
        have e2 : headE w a l.length = 2 := if_neg (fun h => h2 h.2)
        have := bad (by omega)
        rw [e2] at this; exact this
    · refine .inr ⟨sayWf h1, ?_⟩
      have e2 : headE w a l.length = 2 := if_neg (fun h => h1 h.1)
      have := bad (by omega)
      rw [e2] at this; exact this
  · obtain rfl := List.mem_singleton.1 hid
    refine ⟨Nat × Nat, st, inv, fun x => l.length - x.1, ⟨fun s b h => h, by kernel_rfl, ?_⟩⟩
    rintro ⟨i, cap⟩ ⟨hi, hc, hr⟩
    simp only at hi hr
    have hk1 : ctI w a l = (fbL 0 (trs l)).1 := by rw [ctI, if_pos hc]
    have hk2 : ctE w a l = (fbL 0 (trs l)).2 := by rw [ctE, if_pos hc]
    show rRT1 _ _ i w a l.length cap (trs l) _ _ _
    rw [rRT1_text]
    refine bc_dec (fun h => ?_) (fun h => ?_)
    · have hi1 : i < l.length := by omega
      rw [fbL_at hi1] at hr
      simp only [bc_t h, bc_t (show (0 : Int) ≤ (i : Int) by omega), Int.toNat_natCast, at3 (at_tp hi1), wi1 hi1 hl]
      have bad : bankE (tp l i).1 (tp l i).2.1 (tp l i).2.2 ≠ 0 → [dI (i : Int), dI (bankE (tp l i).1 (tp l i).2.1 (tp l i).2.2)] = [dI (ctI w a l), dI (ctE w a l)] := fun e => by
        rw [if_neg e] at hr
        rw [hk1, hk2, hr]
      generalize tp l i = t at *
      by_cases h1 : 0 ≤ t.1 ∧ t.1 ≤ 1000
      · refine .inl ⟨sayWt h1, ?_⟩
        by_cases h2 : 0 ≤ t.2.1 ∧ t.2.1 ≤ 1000
        · refine .inl ⟨sayWt h2, ?_⟩
          by_cases h3 : 0 ≤ t.2.2 ∧ t.2.2 ≤ 8
          · refine .inl ⟨sayWt h3, ?_⟩
            refine bc_dec (fun h4 => ?_) (fun h4 => ?_)
            · have e : bankE t.1 t.2.1 t.2.2 = 9 := by rw [bankE, if_pos ⟨h1, h2⟩, if_pos h3, if_neg (by omega)]
              have := bad (by omega)
              rw [e] at this; exact this
            · have e : bankE t.1 t.2.1 t.2.2 = 0 := by rw [bankE, if_pos ⟨h1, h2⟩, if_pos h3, if_pos (by omega)]
              rw [if_pos e] at hr
              exact ⟨(i + 1, cap), ⟨hi1, hc, by rw [hr]; rfl⟩, by show l.length - (i + 1) < l.length - i; omega, rfl⟩
          · refine .inr ⟨sayWf h3, ?_⟩
            have e : bankE t.1 t.2.1 t.2.2 = 2 := by rw [bankE, if_pos ⟨h1, h2⟩, if_neg h3]
            have := bad (by omega)
            rw [e] at this; exact this
        · refine .inr ⟨sayWf h2, ?_⟩
          have e : bankE t.1 t.2.1 t.2.2 = 2 := by rw [bankE, if_neg (fun h => h2 h.2)]
          have := bad (by omega)
          rw [e] at this; exact this
      · refine .inr ⟨sayWf h1, ?_⟩
        have e : bankE t.1 t.2.1 t.2.2 = 2 := by rw [bankE, if_neg (fun h => h1 h.1)]
        have := bad (by omega)
        rw [e] at this; exact this
    · show (if 0 = 0 then _ else _)
      rw [if_pos rfl]
      show nRT2 _ _ _
      rw [nRT2_text]
      rw [List.drop_eq_nil_of_le (by omega)] at hr
      show _ = _; rw [hk1, hk2, hr]; rfl
theorem ctE_nil (w a : Int) : ctI w a [] = 0 ∧ ctE w a [] = (if (0 ≤ w ∧ w ≤ 12000) ∧ (0 ≤ a ∧ a ≤ 100) then 10 else 2) := by
  unfold ctI ctE headE
  repeat' split
  all_goals first | exact ⟨rfl, rfl⟩ | (constructor <;> first | rfl | omega) | skip
  all_goals first | (rename_i h; exact absurd h (by decide)) | skip
theorem conRTn (w a : Int) : C5 72 [.agg [dI w, dI a, .nil]] [dI (ctI w a []), dI (ctE w a [])] := by
  refine con_of (L := fun _ _ _ => False) hokA mixed Tryz.func72 rfl (by show 0 ≤ 400; omega) rfl (ids := [0]) (by kernel_rfl) rfl (fun caps => ?_) (fun id hid => ?_)
  · show gRTn _ _ w a _
    rw [gRTn_text, (ctE_nil w a).1, (ctE_nil w a).2]
    by_cases h1 : 0 ≤ w ∧ w ≤ 12000
    · refine .inl ⟨sayWt h1, ?_⟩
      by_cases h2 : 0 ≤ a ∧ a ≤ 100
      · refine .inl ⟨sayWt h2, ?_⟩
        rw [if_pos ⟨h1, h2⟩] <;> trivial
      · refine .inr ⟨sayWf h2, ?_⟩
        rw [if_neg (fun h => h2 h.2)] <;> trivial
    · refine .inr ⟨sayWf h1, ?_⟩
      rw [if_neg (fun h => h1 h.1)] <;> trivial
  · obtain rfl := List.mem_singleton.1 hid
    exact ⟨Nat, fun _ => ([], []), fun _ => False, fun _ => 0, ⟨fun s b h => h.elim, by kernel_rfl, fun j hj => hj.elim⟩⟩
theorem conTE (w a : Int) (l : List Tr) (hl : l.length < 1000000000) : C5 39 [dT w a l] [dI (ctE w a l)] := by
  refine con_flat hokA mixed Tryz.func39 rfl (by show 1 ≤ 400; omega) rfl (by kernel_rfl) (fun caps => ?_)
  show gTE _ _ w a l.length (caps 500) (trs l) _
  rw [gTE_text, trs_whole, bc_t (v3le l)]
  exact ⟨_, _, ⟨conRT w a l hl⟩, rfl⟩
theorem conTEn (w a : Int) : C5 39 [.agg [dI w, dI a, .nil]] [dI (ctE w a [])] := by
  refine con_flat hokA mixed Tryz.func39 rfl (by show 0 ≤ 400; omega) rfl (by kernel_rfl) (fun caps => ?_)
  show gTEn _ _ w a _
  rw [gTEn_text]
  exact ⟨_, _, ⟨conRTn w a⟩, rfl⟩
end Go.Proofs.G5d

/- Chapter 8: what the frames of the laws share: arguments read as data, a world with the listed tables. -/
namespace Go.Proofs.YtmkfmaabhapimaaGreatDoor.K
open Go Go.Abs Go.RowKit Go.ChangeShapes Go.WideShapes Go.ChangeAt Go.Proofs Go.Flat Go.Proofs.G5d
set_option maxRecDepth 100000
theorem own : ownKnob Tryz.prog.godebug = none := by kernel_rfl
theorem laidP : laidOutB Tryz.prog = true := by kernel_rfl
theorem mapsP : mapsRowed Tryz.prog = true := by kernel_rfl
theorem slicesP : ∀ t e, t < Tryz.prog.types.size → Tryz.prog.underlying t = some (.slice e) → 0 < Tryz.prog.cellsOf e := slices_full_of Tryz.prog (by kernel_rfl)
theorem tsP {l : List TypeId} (h : l.all (fun t => decide (t < Tryz.prog.types.size)) = true) : ∀ t ∈ l, t < Tryz.prog.types.size := fun t ht => of_decide_eq_true (List.all_eq_true.1 h t ht)
theorem flat_vi : ∀ l : List Int, (l.flatMap fun a => [Value.int .i64 a]) = vi l
  | [] => rfl
  | a :: r => by rw [List.flatMap_cons, flat_vi r]; rfl
/-- lists of whole numbers -/
theorem leaf_ints {t e : TypeId} {d : D} (ht : Tryz.prog.underlying t = some (.slice e)) (he : leaves Tryz.prog 10 e = some [.int .i64]) (h : LeafD Tryz.prog t d) : d = .nil ∨ ∃ l : List Int, d = .sl l.length 1 (vi l) := by
  unfold LeafD at h
  rw [ht] at h
  simp only at h
  rcases h with h | ⟨n, cs, L, rfl, hL, hn, hl, hc⟩
  · exact .inl h
  · rw [he] at hL
    obtain rfl := Option.some.inj hL
    simp only [List.length_cons, List.length_nil, Nat.zero_add] at hl hc ⊢
    obtain ⟨ps, hp, rfl⟩ := chunks_of (f := fun a : Int => [Value.int .i64 a]) (k := 1) (fun _ => rfl) n cs hl (fun i hi => by
      have := hc i hi
      generalize (cs.drop (i * 1)).take 1 = x at this ⊢
      cases this with
      | cons h t => cases t; obtain ⟨a, rfl, _⟩ := h; exact ⟨a, rfl⟩)
    refine .inr ⟨ps, ?_⟩
    rw [hp]
    rw [flat_vi]
theorem leaf_int {t : TypeId} {d : D} (ht : Tryz.prog.underlying t = some (.int .i64)) (h : LeafD Tryz.prog t d) : ∃ n : Int, d = dI n ∧ (-9223372036854775808 ≤ n ∧ n ≤ 9223372036854775807) := by
  unfold LeafD at h
  rw [ht] at h
  obtain ⟨n, rfl, hw⟩ := h
  exact ⟨n, rfl, wf64 hw⟩
theorem flat_vp : ∀ l : List (Int × Int), (l.flatMap fun p => [Value.int .i64 p.1, Value.int .i64 p.2]) = vp l
  | [] => rfl
  | a :: r => by rw [List.flatMap_cons, flat_vp r]; rfl
/-- lists of pairs of whole numbers, each of them of 64 bits -/
theorem leaf_prs {t e : TypeId} {d : D} (ht : Tryz.prog.underlying t = some (.slice e)) (he : leaves Tryz.prog 10 e = some [.int .i64, .int .i64]) (h : LeafD Tryz.prog t d) : d = .nil ∨ ∃ l : List (Int × Int), d = .sl l.length 2 (vp l) ∧ ∀ f ∈ l, (-9223372036854775808 ≤ f.1 ∧ f.1 ≤ 9223372036854775807) ∧ (-9223372036854775808 ≤ f.2 ∧ f.2 ≤ 9223372036854775807) := by
  unfold LeafD at h
  rw [ht] at h
  simp only at h
  rcases h with h | ⟨n, cs, L, rfl, hL, hn, hl, hc⟩
  · exact .inl h
  · rw [he] at hL
    obtain rfl := Option.some.inj hL
    simp only [List.length_cons, List.length_nil, Nat.zero_add] at hl hc ⊢
    have hc2 : ∀ i, i < n → ∃ p : Int × Int, (cs.drop (i * 2)).take 2 = [Value.int .i64 p.1, Value.int .i64 p.2] ∧ (-9223372036854775808 ≤ p.1 ∧ p.1 ≤ 9223372036854775807) ∧ (-9223372036854775808 ≤ p.2 ∧ p.2 ≤ 9223372036854775807) := by
      intro i hi
      have := hc i hi
      generalize (cs.drop (i * 2)).take 2 = x at this ⊢
      cases this with
      | cons h1 t =>
        cases t with
        | cons h2 t =>
          cases t
          obtain ⟨a, rfl, ha⟩ := h1
          obtain ⟨b, rfl, hb⟩ := h2
          exact ⟨(a, b), rfl, wf64 ha, wf64 hb⟩
    obtain ⟨ps, hp, rfl⟩ := chunks_of (f := fun p : Int × Int => [Value.int .i64 p.1, Value.int .i64 p.2]) (k := 2) (fun _ => rfl) n cs hl (fun i hi => by
      obtain ⟨p, hp, _⟩ := hc2 i hi
      exact ⟨p, hp⟩)
    refine .inr ⟨ps, by rw [hp, flat_vp], ?_⟩
    intro f hf
    obtain ⟨i, hi, rfl⟩ := List.mem_iff_getElem.1 hf
    obtain ⟨p, hp2, hw⟩ := hc2 i (by omega)
    rw [flat_vp] at hp2
    have := vp_two ps i hi
    rw [Nat.zero_add] at this
    have e := this.eq.symm.trans hp2
    simp only [List.cons.injEq, Value.int.injEq, true_and, and_true] at e
    rw [e.1, e.2]; exact hw
theorem flat_trs : ∀ l : List Tr, (l.flatMap fun p => [Value.int .i64 p.1, Value.int .i64 p.2.1, Value.int .i64 p.2.2]) = trs l
  | [] => rfl
  | a :: r => by rw [List.flatMap_cons, flat_trs r]; rfl
theorem leaf_trs {t e : TypeId} {d : D} (ht : Tryz.prog.underlying t = some (.slice e)) (he : leaves Tryz.prog 10 e = some [.int .i64, .int .i64, .int .i64]) (h : LeafD Tryz.prog t d) : d = .nil ∨ ∃ l : List Tr, d = .sl l.length 3 (trs l) := by
  unfold LeafD at h
  rw [ht] at h
  simp only at h
  rcases h with h | ⟨n, cs, L, rfl, hL, hn, hl, hc⟩
  · exact .inl h
  · rw [he] at hL
    obtain rfl := Option.some.inj hL
    simp only [List.length_cons, List.length_nil, Nat.zero_add] at hl hc ⊢
    obtain ⟨ps, hp, rfl⟩ := chunks_of (f := fun p : Tr => [Value.int .i64 p.1, Value.int .i64 p.2.1, Value.int .i64 p.2.2]) (k := 3) (fun _ => rfl) n cs hl (fun i hi => by
      have := hc i hi
      generalize (cs.drop (i * 3)).take 3 = x at this ⊢
      cases this with | cons h1 t => cases t with | cons h2 t => cases t with | cons h3 t =>
      cases t
      obtain ⟨a, rfl, _⟩ := h1
      obtain ⟨b, rfl, _⟩ := h2
      obtain ⟨c, rfl, _⟩ := h3
      exact ⟨(a, b, c), rfl⟩)
    exact .inr ⟨ps, by rw [hp, flat_trs]⟩
/-- The cells of data without addresses. -/
def cellsD : Nat → DataW Unit → List Value
  | 0, _ => []
  | n + 1, .agg ps => ps.flatMap (cellsD n)
  | _ + 1, .lit (.int k z) => [.int k z]
  | _ + 1, .lit (.bool b) => [.bool b]
  | _, _ => []
/-- A world in which the listed tables hold what is listed. -/
def layAt (h : Array Obj) (i : Nat) (d : DataW Unit) : Array Obj := h.modify i fun
  | .cells _ t frozen => .cells (cellsD 8 d).toArray t frozen
  | o => o
noncomputable def laidHeap (h : Array Obj) : Array Obj :=
  layAt (layAt (layAt h 2 Rows.laid_math_bits_deBruijn32tab) 3 Rows.laid_math_bits_deBruijn64tab) 1 Rows.laid_internal_strconv_uint64pow10
noncomputable def laidWorld (os : Os) : World := { World.holding Tryz.prog os ⟨#[], #[], []⟩ with heap := laidHeap (World.holding Tryz.prog os ⟨#[], #[], []⟩).heap }
theorem noStand {ps : Array TypeId} (h : (ps.toList.all fun t => !(Tryz.prog.wantsStandIn t)) = true) : ∀ (j : Nat) t, ps[j]? = some t → Tryz.prog.wantsStandIn t = false := by
  intro j t ht
  have := List.all_eq_true.1 h t (Array.mem_toList_iff.2 (Array.mem_of_getElem? ht))
  simpa using this
end Go.Proofs.YtmkfmaabhapimaaGreatDoor.K

/- What is left to show of each function, written out; the kernel reckons it. -/
namespace Go.Proofs.G5d
open Go Go.Abs Go.Proofs
set_option maxRecDepth 100000
set_option linter.unusedVariables false
def preC (C : Ct) : FuncId → Option Handler := fun g => if g == 93 then some (stateH (limAll 3)) else if g == 10 then some (fixH C copyTab) else if g == 8 then some (fixH C copyStr) else if g == 33 then some (fixH C copyRan) else if g == 11 then some (fixH C copyInts) else if [77, 4, 29, 31, 30, 76, 32, 45, 57, 94, 46, 20, 999999, 7, 69, 36, 37, 9, 12, 70, 71, 18, 16, 999999, 72, 39, 95, 73, 38, 96, 75, 42, 74, 13, 40, 14, 41, 15, 17, 19, 43].contains g then some (saidH Tryz.prog C) else none
abbrev hC (C : Ct) : Handler := handlerX Tryz.prog (preC C) 12 6
def gP1 (C : Ct) (L : AtLoop) (x0 : Int) (x1 : Int) (n2 : Nat) (c2 : Nat) (l2 : List Value) (x3 : Int) (x4 : Int) (k : List D → Prop) : Prop := wpFn Tryz.prog (hC C) L 0 77 #[.agg #[.int .i64 x0, .int .i64 x1, .slice (some ⟨500, 0, none⟩) n2 c2], .int .i64 x3, .int .i64 x4, .func (.func 78) #[] #[]] (heapOf [(500, .sym l2 false 3)]) (dataK k)
theorem gP1_text (C : Ct) (L : AtLoop) (x0 : Int) (x1 : Int) (n2 : Nat) (c2 : Nat) (l2 : List Go.Value) (x3 : Int) (x4 : Int) (k : List D → Prop) : gP1 C L x0 x1 n2 c2 l2 x3 x4 k =
 (L 0 [(Prod.mk 1 (vI x3)), (Prod.mk 2 (vI x4)), (Prod.mk 3 (Go.Value.func (Go.Fn.func 78) [].toArray [].toArray)), (Prod.mk 4 (Pt 1000 0)), (Prod.mk 13 (Sl 500 (n2) (c2))), (Prod.mk 14 (vI ((↑n2 : Int)))), (Prod.mk 15 (vI (0 : Int)))] [(Prod.mk 1000 (AObj.cells [(vI x0), (vI x1), (Sl 500 (n2) (c2))] 79 false 1)), (Prod.mk 500 (AObj.sym (l2) false 3))]) := by kernel_rfl
abbrev zP11 (x0 : Int) (x1 : Int) (n2 : Nat) (c3 : Nat) (x4 : Int) (x5 : Int) (x6 : Int) (x7 : Int) (n8 : Nat) (c9 : Nat) (l10 : List Value) : Slots × Blocks := ([(1, (Value.int .i64 x0)), (2, (Value.int .i64 x1)), (3, (Value.func (.func 78) #[] #[])), (4, (Value.pointer (some ⟨1000, 0, none⟩))), (13, (Value.slice (some ⟨500, 0, none⟩) n2 c3)), (14, (Value.int .i64 x4)), (15, (Value.int .i64 x5))], [(1000, (AObj.cells [(Value.int .i64 x6), (Value.int .i64 x7), (Value.slice (some ⟨500, 0, none⟩) n8 c9)] 79 false 1)), (500, (AObj.sym l10 false 3))])
def rP11 (C : Ct) (L : AtLoop) (x0 : Int) (x1 : Int) (n2 : Nat) (c3 : Nat) (x4 : Int) (x5 : Int) (x6 : Int) (x7 : Int) (n8 : Nat) (c9 : Nat) (l10 : List Value) (B : Bx) (X : Xx) (k : List D → Prop) : Prop := wpRound Tryz.prog (hC C) L 77 0 [(1, (Value.int .i64 x0)), (2, (Value.int .i64 x1)), (3, (Value.func (.func 78) #[] #[])), (4, (Value.pointer (some ⟨1000, 0, none⟩))), (13, (Value.slice (some ⟨500, 0, none⟩) n2 c3)), (14, (Value.int .i64 x4)), (15, (Value.int .i64 x5))] [(1000, (AObj.cells [(Value.int .i64 x6), (Value.int .i64 x7), (Value.slice (some ⟨500, 0, none⟩) n8 c9)] 79 false 1)), (500, (AObj.sym l10 false 3))] B X (dataK k)
theorem rP11_text (C : Ct) (L : AtLoop) (x0 : Int) (x1 : Int) (n2 : Nat) (c3 : Nat) (x4 : Int) (x5 : Int) (x6 : Int) (x7 : Int) (n8 : Nat) (c9 : Nat) (l10 : List Go.Value) (B : Bx) (X : Xx) (k : List D → Prop) : rP11 C L x0 x1 n2 c3 x4 x5 x6 x7 n8 c9 l10 B X k =
 (bcase (decide (x5 < x4))
 (bcase (decide (0 ≤ x5))
 (bcase (decide (x5 < (↑n2 : Int)))
 (∃ n1 : Int,
 (∃ n3 : Int,
 (∃ n4 : Int,
 ((At (l10) (0 + Int.toNat x5 * 3) 3 [(vI n1), (vI n3), (vI n4)]) ∧
 (((Says C 57 [(D.val (vI x0)), (D.val (vI x5))] [(D.val (Value.bool true))]) ∧
 (((Qv (Go.Value.agg [(vI n1), (vI n3)].toArray)) ∧
 ((Qv (Pt 1001 0)) ∧
 ((Qv (Go.Value.func (Go.Fn.func 78) [].toArray [].toArray)) ∧
 ((Qv (vI (if 0 > IntKind.wrap .i64 (x1 - x6) then 0 else IntKind.wrap .i64 (x1 - x6)))) ∧
 ((Qv (vI (IntKind.wrap .i64 (x1 - x6)))) ∧
 ((Qv (vI x6)) ∧
 ((Qv (Pt 1000 0)) ∧
 ((Qv (Pt 1000 0)) ∧
 ((Qv (vI x1)) ∧
 ((Qv (vI x1)) ∧
 True)))))))))) ∧
 (((Qv (vI (IntKind.wrap .i64 (x1 - IntKind.wrap .i64 (Int.tdiv (IntKind.wrap .i64 ((if 0 > IntKind.wrap .i64 (x1 - x6) then 0 else IntKind.wrap .i64 (x1 - x6)) * n3)) 1000))))) ∧
 ((Qv (vI (IntKind.wrap .i64 (Int.tdiv (IntKind.wrap .i64 ((if 0 > IntKind.wrap .i64 (x1 - x6) then 0 else IntKind.wrap .i64 (x1 - x6)) * n3)) 1000)))) ∧
 ((Qv (vI (IntKind.wrap .i64 ((if 0 > IntKind.wrap .i64 (x1 - x6) then 0 else IntKind.wrap .i64 (x1 - x6)) * n3)))) ∧
 ((Qv (Pt 1001 0)) ∧
 ((Qv (vI (if 0 > IntKind.wrap .i64 (x1 - x6) then 0 else IntKind.wrap .i64 (x1 - x6)))) ∧
 ((Qv (vI (IntKind.wrap .i64 (x1 - x6)))) ∧
 ((Qv (vI x6)) ∧
 ((Qv (Pt 1000 0)) ∧
 ((Qv (Pt 1000 0)) ∧
 ((Qv (vI x1)) ∧
 ((Qv (vI x1)) ∧
 True))))))))))) ∧
 (True ∧
 (B [(Prod.mk 1 (vI x0)), (Prod.mk 2 (vI (if 0 > IntKind.wrap .i64 (IntKind.wrap .i64 (x1 - IntKind.wrap .i64 (Int.tdiv (IntKind.wrap .i64 ((if 0 > IntKind.wrap .i64 (x1 - x6) then 0 else IntKind.wrap .i64 (x1 - x6)) * n3)) 1000)) - x7) then 0 else IntKind.wrap .i64 (IntKind.wrap .i64 (x1 - IntKind.wrap .i64 (Int.tdiv (IntKind.wrap .i64 ((if 0 > IntKind.wrap .i64 (x1 - x6) then 0 else IntKind.wrap .i64 (x1 - x6)) * n3)) 1000)) - x7)))), (Prod.mk 3 (Go.Value.func (Go.Fn.func 78) [].toArray [].toArray)), (Prod.mk 4 (Pt 1000 0)), (Prod.mk 13 (Sl 500 (n2) (c3))), (Prod.mk 14 (vI x4)), (Prod.mk 15 (vI (IntKind.wrap .i64 (x5 + 1))))] [(Prod.mk 1000 (AObj.cells [(vI x6), (vI x7), (Sl 500 (n8) (c9))] 79 false 1)), (Prod.mk 500 (AObj.sym (l10) false 3))]))))) ∨
 ((Says C 57 [(D.val (vI x0)), (D.val (vI x5))] [(D.val (Value.bool false))]) ∧
 (B [(Prod.mk 1 (vI x0)), (Prod.mk 2 (vI (if 0 > IntKind.wrap .i64 (x1 - x7) then 0 else IntKind.wrap .i64 (x1 - x7)))), (Prod.mk 3 (Go.Value.func (Go.Fn.func 78) [].toArray [].toArray)), (Prod.mk 4 (Pt 1000 0)), (Prod.mk 13 (Sl 500 (n2) (c3))), (Prod.mk 14 (vI x4)), (Prod.mk 15 (vI (IntKind.wrap .i64 (x5 + 1))))] [(Prod.mk 1000 (AObj.cells [(vI x6), (vI x7), (Sl 500 (n8) (c9))] 79 false 1)), (Prod.mk 500 (AObj.sym (l10) false 3))])))))))
 False)
 False)
 (X 0 [(Prod.mk 2 (vI x1))] [])) := by kernel_rfl
def nP12 (C : Ct) (L : AtLoop) (x0 : Int) (k : List D → Prop) : Prop := wpNext Tryz.prog (hC C) L 77 0 .normal [(2, (Value.int .i64 x0))] [] (dataK k)
theorem nP12_text (C : Ct) (L : AtLoop) (x0 : Int) (k : List D → Prop) : nP12 C L x0 k =
 (k [(D.val (vI x0))]) := by kernel_rfl
def gP2 (C : Ct) (L : AtLoop) (x0 : Int) (x1 : Int) (n2 : Nat) (c2 : Nat) (l2 : List Value) (x3 : Int) (x4 : Int) (k : List D → Prop) : Prop := wpFn Tryz.prog (hC C) L 0 77 #[.agg #[.int .i64 x0, .int .i64 x1, .slice (some ⟨500, 0, none⟩) n2 c2], .int .i64 x3, .int .i64 x4, .func (.func 79) #[] #[]] (heapOf [(500, .sym l2 false 3)]) (dataK k)
theorem gP2_text (C : Ct) (L : AtLoop) (x0 : Int) (x1 : Int) (n2 : Nat) (c2 : Nat) (l2 : List Go.Value) (x3 : Int) (x4 : Int) (k : List D → Prop) : gP2 C L x0 x1 n2 c2 l2 x3 x4 k =
 (L 0 [(Prod.mk 1 (vI x3)), (Prod.mk 2 (vI x4)), (Prod.mk 3 (Go.Value.func (Go.Fn.func 79) [].toArray [].toArray)), (Prod.mk 4 (Pt 1000 0)), (Prod.mk 13 (Sl 500 (n2) (c2))), (Prod.mk 14 (vI ((↑n2 : Int)))), (Prod.mk 15 (vI (0 : Int)))] [(Prod.mk 1000 (AObj.cells [(vI x0), (vI x1), (Sl 500 (n2) (c2))] 79 false 1)), (Prod.mk 500 (AObj.sym (l2) false 3))]) := by kernel_rfl
abbrev zP21 (x0 : Int) (x1 : Int) (n2 : Nat) (c3 : Nat) (x4 : Int) (x5 : Int) (x6 : Int) (x7 : Int) (n8 : Nat) (c9 : Nat) (l10 : List Value) : Slots × Blocks := ([(1, (Value.int .i64 x0)), (2, (Value.int .i64 x1)), (3, (Value.func (.func 79) #[] #[])), (4, (Value.pointer (some ⟨1000, 0, none⟩))), (13, (Value.slice (some ⟨500, 0, none⟩) n2 c3)), (14, (Value.int .i64 x4)), (15, (Value.int .i64 x5))], [(1000, (AObj.cells [(Value.int .i64 x6), (Value.int .i64 x7), (Value.slice (some ⟨500, 0, none⟩) n8 c9)] 79 false 1)), (500, (AObj.sym l10 false 3))])
def rP21 (C : Ct) (L : AtLoop) (x0 : Int) (x1 : Int) (n2 : Nat) (c3 : Nat) (x4 : Int) (x5 : Int) (x6 : Int) (x7 : Int) (n8 : Nat) (c9 : Nat) (l10 : List Value) (B : Bx) (X : Xx) (k : List D → Prop) : Prop := wpRound Tryz.prog (hC C) L 77 0 [(1, (Value.int .i64 x0)), (2, (Value.int .i64 x1)), (3, (Value.func (.func 79) #[] #[])), (4, (Value.pointer (some ⟨1000, 0, none⟩))), (13, (Value.slice (some ⟨500, 0, none⟩) n2 c3)), (14, (Value.int .i64 x4)), (15, (Value.int .i64 x5))] [(1000, (AObj.cells [(Value.int .i64 x6), (Value.int .i64 x7), (Value.slice (some ⟨500, 0, none⟩) n8 c9)] 79 false 1)), (500, (AObj.sym l10 false 3))] B X (dataK k)
theorem rP21_text (C : Ct) (L : AtLoop) (x0 : Int) (x1 : Int) (n2 : Nat) (c3 : Nat) (x4 : Int) (x5 : Int) (x6 : Int) (x7 : Int) (n8 : Nat) (c9 : Nat) (l10 : List Go.Value) (B : Bx) (X : Xx) (k : List D → Prop) : rP21 C L x0 x1 n2 c3 x4 x5 x6 x7 n8 c9 l10 B X k =
 (bcase (decide (x5 < x4))
 (bcase (decide (0 ≤ x5))
 (bcase (decide (x5 < (↑n2 : Int)))
 (∃ n1 : Int,
 (∃ n3 : Int,
 (∃ n4 : Int,
 ((At (l10) (0 + Int.toNat x5 * 3) 3 [(vI n1), (vI n3), (vI n4)]) ∧
 (((Says C 57 [(D.val (vI x0)), (D.val (vI x5))] [(D.val (Value.bool true))]) ∧
 (((Qv (Go.Value.agg [(vI n1), (vI n3)].toArray)) ∧
 ((Qv (Pt 1001 0)) ∧
 ((Qv (Go.Value.func (Go.Fn.func 79) [].toArray [].toArray)) ∧
 ((Qv (vI (if 0 > IntKind.wrap .i64 (x1 - x6) then 0 else IntKind.wrap .i64 (x1 - x6)))) ∧
 ((Qv (vI (IntKind.wrap .i64 (x1 - x6)))) ∧
 ((Qv (vI x6)) ∧
 ((Qv (Pt 1000 0)) ∧
 ((Qv (Pt 1000 0)) ∧
 ((Qv (vI x1)) ∧
 ((Qv (vI x1)) ∧
 True)))))))))) ∧
 (((Qv (vI (IntKind.wrap .i64 (x1 - IntKind.wrap .i64 (Int.tdiv (IntKind.wrap .i64 ((if 0 > IntKind.wrap .i64 (x1 - x6) then 0 else IntKind.wrap .i64 (x1 - x6)) * n1)) 1000))))) ∧
 ((Qv (vI (IntKind.wrap .i64 (Int.tdiv (IntKind.wrap .i64 ((if 0 > IntKind.wrap .i64 (x1 - x6) then 0 else IntKind.wrap .i64 (x1 - x6)) * n1)) 1000)))) ∧
 ((Qv (vI (IntKind.wrap .i64 ((if 0 > IntKind.wrap .i64 (x1 - x6) then 0 else IntKind.wrap .i64 (x1 - x6)) * n1)))) ∧
 ((Qv (Pt 1001 0)) ∧
 ((Qv (vI (if 0 > IntKind.wrap .i64 (x1 - x6) then 0 else IntKind.wrap .i64 (x1 - x6)))) ∧
 ((Qv (vI (IntKind.wrap .i64 (x1 - x6)))) ∧
 ((Qv (vI x6)) ∧
 ((Qv (Pt 1000 0)) ∧
 ((Qv (Pt 1000 0)) ∧
 ((Qv (vI x1)) ∧
 ((Qv (vI x1)) ∧
 True))))))))))) ∧
 (True ∧
 (B [(Prod.mk 1 (vI x0)), (Prod.mk 2 (vI (if 0 > IntKind.wrap .i64 (IntKind.wrap .i64 (x1 - IntKind.wrap .i64 (Int.tdiv (IntKind.wrap .i64 ((if 0 > IntKind.wrap .i64 (x1 - x6) then 0 else IntKind.wrap .i64 (x1 - x6)) * n1)) 1000)) - x7) then 0 else IntKind.wrap .i64 (IntKind.wrap .i64 (x1 - IntKind.wrap .i64 (Int.tdiv (IntKind.wrap .i64 ((if 0 > IntKind.wrap .i64 (x1 - x6) then 0 else IntKind.wrap .i64 (x1 - x6)) * n1)) 1000)) - x7)))), (Prod.mk 3 (Go.Value.func (Go.Fn.func 79) [].toArray [].toArray)), (Prod.mk 4 (Pt 1000 0)), (Prod.mk 13 (Sl 500 (n2) (c3))), (Prod.mk 14 (vI x4)), (Prod.mk 15 (vI (IntKind.wrap .i64 (x5 + 1))))] [(Prod.mk 1000 (AObj.cells [(vI x6), (vI x7), (Sl 500 (n8) (c9))] 79 false 1)), (Prod.mk 500 (AObj.sym (l10) false 3))]))))) ∨
 ((Says C 57 [(D.val (vI x0)), (D.val (vI x5))] [(D.val (Value.bool false))]) ∧
 (B [(Prod.mk 1 (vI x0)), (Prod.mk 2 (vI (if 0 > IntKind.wrap .i64 (x1 - x7) then 0 else IntKind.wrap .i64 (x1 - x7)))), (Prod.mk 3 (Go.Value.func (Go.Fn.func 79) [].toArray [].toArray)), (Prod.mk 4 (Pt 1000 0)), (Prod.mk 13 (Sl 500 (n2) (c3))), (Prod.mk 14 (vI x4)), (Prod.mk 15 (vI (IntKind.wrap .i64 (x5 + 1))))] [(Prod.mk 1000 (AObj.cells [(vI x6), (vI x7), (Sl 500 (n8) (c9))] 79 false 1)), (Prod.mk 500 (AObj.sym (l10) false 3))])))))))
 False)
 False)
 (X 0 [(Prod.mk 2 (vI x1))] [])) := by kernel_rfl
def nP22 (C : Ct) (L : AtLoop) (x0 : Int) (k : List D → Prop) : Prop := wpNext Tryz.prog (hC C) L 77 0 .normal [(2, (Value.int .i64 x0))] [] (dataK k)
theorem nP22_text (C : Ct) (L : AtLoop) (x0 : Int) (k : List D → Prop) : nP22 C L x0 k =
 (k [(D.val (vI x0))]) := by kernel_rfl
def gAf (C : Ct) (L : AtLoop) (x0 : Int) (x1 : Int) (n2 : Nat) (c2 : Nat) (l2 : List Value) (x3 : Int) (x4 : Int) (n5 : Nat) (c5 : Nat) (l5 : List Value) (k : List D → Prop) : Prop := wpFn Tryz.prog (hC C) L 0 75 #[.agg #[.int .i64 x0, .int .i64 x1, .slice (some ⟨500, 0, none⟩) n2 c2], .int .i64 x3, .int .i64 x4, .slice (some ⟨501, 0, none⟩) n5 c5] (heapOf [(500, .sym l2 false 3), (501, .sym l5 false 1)]) (dataK k)
theorem gAf_text (C : Ct) (L : AtLoop) (x0 : Int) (x1 : Int) (n2 : Nat) (c2 : Nat) (l2 : List Go.Value) (x3 : Int) (x4 : Int) (n5 : Nat) (c5 : Nat) (l5 : List Go.Value) (k : List D → Prop) : gAf C L x0 x1 n2 c2 l2 x3 x4 n5 c5 l5 k =
 (L 0 [(Prod.mk 1 (vI x3)), (Prod.mk 2 (vI x4)), (Prod.mk 3 (Sl 501 (n5) (c5))), (Prod.mk 4 (Pt 1000 0)), (Prod.mk 9 (vI (0 : Int)))] [(Prod.mk 501 (AObj.sym (l5) false 1)), (Prod.mk 1000 (AObj.cells [(vI x0), (vI x1), (Sl 500 (n2) (c2))] 24 false 1)), (Prod.mk 500 (AObj.sym (l2) false 3))]) := by kernel_rfl
abbrev zAf1 (x0 : Int) (x1 : Int) (n2 : Nat) (c3 : Nat) (x4 : Int) (l5 : List Value) (x6 : Int) (x7 : Int) (n8 : Nat) (c9 : Nat) (l10 : List Value) : Slots × Blocks := ([(1, (Value.int .i64 x0)), (2, (Value.int .i64 x1)), (3, (Value.slice (some ⟨501, 0, none⟩) n2 c3)), (4, (Value.pointer (some ⟨1000, 0, none⟩))), (9, (Value.int .i64 x4))], [(501, (AObj.sym l5 false 1)), (1000, (AObj.cells [(Value.int .i64 x6), (Value.int .i64 x7), (Value.slice (some ⟨500, 0, none⟩) n8 c9)] 24 false 1)), (500, (AObj.sym l10 false 3))])
def rAf1 (C : Ct) (L : AtLoop) (x0 : Int) (x1 : Int) (n2 : Nat) (c3 : Nat) (x4 : Int) (l5 : List Value) (x6 : Int) (x7 : Int) (n8 : Nat) (c9 : Nat) (l10 : List Value) (B : Bx) (X : Xx) (k : List D → Prop) : Prop := wpRound Tryz.prog (hC C) L 75 0 [(1, (Value.int .i64 x0)), (2, (Value.int .i64 x1)), (3, (Value.slice (some ⟨501, 0, none⟩) n2 c3)), (4, (Value.pointer (some ⟨1000, 0, none⟩))), (9, (Value.int .i64 x4))] [(501, (AObj.sym l5 false 1)), (1000, (AObj.cells [(Value.int .i64 x6), (Value.int .i64 x7), (Value.slice (some ⟨500, 0, none⟩) n8 c9)] 24 false 1)), (500, (AObj.sym l10 false 3))] B X (dataK k)
theorem rAf1_text (C : Ct) (L : AtLoop) (x0 : Int) (x1 : Int) (n2 : Nat) (c3 : Nat) (x4 : Int) (l5 : List Go.Value) (x6 : Int) (x7 : Int) (n8 : Nat) (c9 : Nat) (l10 : List Go.Value) (B : Bx) (X : Xx) (k : List D → Prop) : rAf1 C L x0 x1 n2 c3 x4 l5 x6 x7 n8 c9 l10 B X k =
 (bcase (decide (x4 < (↑n8 : Int)))
 (((Says C 96 [(D.val (vI x0)), (D.val (vI x4))] [(D.val (Value.bool true))]) ∧
 (bcase (decide (x1 > x6))
 (bcase (decide (0 ≤ x4))
 (bcase (decide (x4 < (↑n2 : Int)))
 (∃ n1 : Int,
 ((At (l5) (0 + Int.toNat x4 * 1) 1 [(vI n1)]) ∧
 (((Qv (vI (IntKind.wrap .i64 (x1 - IntKind.wrap .i64 (Int.tdiv (IntKind.wrap .i64 (IntKind.wrap .i64 (x1 - x6) * n1)) 1000))))) ∧
 ((Qv (vI (IntKind.wrap .i64 (Int.tdiv (IntKind.wrap .i64 (IntKind.wrap .i64 (x1 - x6) * n1)) 1000)))) ∧
 ((Qv (vI (IntKind.wrap .i64 (IntKind.wrap .i64 (x1 - x6) * n1)))) ∧
 ((∃ n3 : Int,
 ((At (l5) (0 + Int.toNat x4 * 1) 1 [(vI n3)]) ∧
 ((vI n3) = (vI n1)))) ∧
 ((bcase (decide (0 ≤ x4))
 (bcase (decide (x4 < (↑n2 : Int)))
 (Qv (Pt 501 (0 + Int.toNat x4 * 1)))
 False)
 False) ∧
 ((Qv (vI x4)) ∧
 ((Qv (Sl 501 (n2) (c3))) ∧
 ((Qv (vI (IntKind.wrap .i64 (x1 - x6)))) ∧
 ((Qv (vI x6)) ∧
 ((Qv (Pt 1000 0)) ∧
 ((Qv (vI x1)) ∧
 ((Qv (vI x1)) ∧
 True)))))))))))) ∧
 (True ∧
 (B [(Prod.mk 1 (vI x0)), (Prod.mk 2 (vI (if IntKind.wrap .i64 (IntKind.wrap .i64 (x1 - IntKind.wrap .i64 (Int.tdiv (IntKind.wrap .i64 (IntKind.wrap .i64 (x1 - x6) * n1)) 1000)) - x7) > 0 then IntKind.wrap .i64 (IntKind.wrap .i64 (x1 - IntKind.wrap .i64 (Int.tdiv (IntKind.wrap .i64 (IntKind.wrap .i64 (x1 - x6) * n1)) 1000)) - x7) else 0))), (Prod.mk 3 (Sl 501 (n2) (c3))), (Prod.mk 4 (Pt 1000 0)), (Prod.mk 9 (vI (IntKind.wrap .i64 (x4 + 1))))] [(Prod.mk 501 (AObj.sym (l5) false 1)), (Prod.mk 1000 (AObj.cells [(vI x6), (vI x7), (Sl 500 (n8) (c9))] 24 false 1)), (Prod.mk 500 (AObj.sym (l10) false 3))])))))
 False)
 False)
 (B [(Prod.mk 1 (vI x0)), (Prod.mk 2 (vI (if IntKind.wrap .i64 (x1 - x7) > 0 then IntKind.wrap .i64 (x1 - x7) else 0))), (Prod.mk 3 (Sl 501 (n2) (c3))), (Prod.mk 4 (Pt 1000 0)), (Prod.mk 9 (vI (IntKind.wrap .i64 (x4 + 1))))] [(Prod.mk 501 (AObj.sym (l5) false 1)), (Prod.mk 1000 (AObj.cells [(vI x6), (vI x7), (Sl 500 (n8) (c9))] 24 false 1)), (Prod.mk 500 (AObj.sym (l10) false 3))]))) ∨
 ((Says C 96 [(D.val (vI x0)), (D.val (vI x4))] [(D.val (Value.bool false))]) ∧
 (B [(Prod.mk 1 (vI x0)), (Prod.mk 2 (vI (if IntKind.wrap .i64 (x1 - x7) > 0 then IntKind.wrap .i64 (x1 - x7) else 0))), (Prod.mk 3 (Sl 501 (n2) (c3))), (Prod.mk 4 (Pt 1000 0)), (Prod.mk 9 (vI (IntKind.wrap .i64 (x4 + 1))))] [(Prod.mk 501 (AObj.sym (l5) false 1)), (Prod.mk 1000 (AObj.cells [(vI x6), (vI x7), (Sl 500 (n8) (c9))] 24 false 1)), (Prod.mk 500 (AObj.sym (l10) false 3))])))
 (X 0 [(Prod.mk 2 (vI x1))] [])) := by kernel_rfl
def nAf2 (C : Ct) (L : AtLoop) (x0 : Int) (k : List D → Prop) : Prop := wpNext Tryz.prog (hC C) L 75 0 .normal [(2, (Value.int .i64 x0))] [] (dataK k)
theorem nAf2_text (C : Ct) (L : AtLoop) (x0 : Int) (k : List D → Prop) : nAf2 C L x0 k =
 (k [(D.val (vI x0))]) := by kernel_rfl
def gV1 (C : Ct) (x0 : Int) (x1 : Int) (c2 : Nat) (y2_0 : Int) (y2_1 : Int) (y2_2 : Int) (x3 : Int) (k : List D → Prop) : Prop := wpFn Tryz.prog (hC C) (fun _ _ _ => False) 8 94 #[.agg #[.int .i64 x0, .int .i64 x1, .slice (some ⟨500, 0, none⟩) 1 c2], .int .i64 x3] (heapOf [(500, .sym [.int .i64 y2_0, .int .i64 y2_1, .int .i64 y2_2] false 3)]) (dataK k)
theorem gV1_text (C : Ct) (x0 : Int) (x1 : Int) (c2 : Nat) (y2_0 : Int) (y2_1 : Int) (y2_2 : Int) (x3 : Int) (k : List D → Prop) : gV1 C x0 x1 c2 y2_0 y2_1 y2_2 x3 k =
 (∃ n1 : Int,
 ((At [(vI y2_0), (vI y2_1), (vI y2_2)] 2 1 [(vI n1)]) ∧
 (bcase (decide (IntKind.wrap .i64 (IntKind.wrap .i64 (x3 + 0) - n1) ≥ 0))
 (k [(D.val (vI (1 : Int)))])
 (k [(D.val (vI (0 : Int)))])))) := by kernel_rfl
def gV2 (C : Ct) (x0 : Int) (x1 : Int) (c2 : Nat) (y2_0 : Int) (y2_1 : Int) (y2_2 : Int) (y2_3 : Int) (y2_4 : Int) (y2_5 : Int) (x3 : Int) (k : List D → Prop) : Prop := wpFn Tryz.prog (hC C) (fun _ _ _ => False) 8 94 #[.agg #[.int .i64 x0, .int .i64 x1, .slice (some ⟨500, 0, none⟩) 2 c2], .int .i64 x3] (heapOf [(500, .sym [.int .i64 y2_0, .int .i64 y2_1, .int .i64 y2_2, .int .i64 y2_3, .int .i64 y2_4, .int .i64 y2_5] false 3)]) (dataK k)
theorem gV2_text (C : Ct) (x0 : Int) (x1 : Int) (c2 : Nat) (y2_0 : Int) (y2_1 : Int) (y2_2 : Int) (y2_3 : Int) (y2_4 : Int) (y2_5 : Int) (x3 : Int) (k : List D → Prop) : gV2 C x0 x1 c2 y2_0 y2_1 y2_2 y2_3 y2_4 y2_5 x3 k =
 (∃ n1 : Int,
 ((At [(vI y2_0), (vI y2_1), (vI y2_2), (vI y2_3), (vI y2_4), (vI y2_5)] 2 1 [(vI n1)]) ∧
 (bcase (decide (IntKind.wrap .i64 (IntKind.wrap .i64 (x3 + 0) - n1) ≥ 0))
 (∃ n2 : Int,
 ((At [(vI y2_0), (vI y2_1), (vI y2_2), (vI y2_3), (vI y2_4), (vI y2_5)] 5 1 [(vI n2)]) ∧
 (bcase (decide (IntKind.wrap .i64 (IntKind.wrap .i64 (x3 + IntKind.wrap .i64 (0 + 1)) - n2) ≥ 0))
 (k [(D.val (vI (3 : Int)))])
 (k [(D.val (vI (1 : Int)))]))))
 (∃ n2 : Int,
 ((At [(vI y2_0), (vI y2_1), (vI y2_2), (vI y2_3), (vI y2_4), (vI y2_5)] 5 1 [(vI n2)]) ∧
 (bcase (decide (IntKind.wrap .i64 (IntKind.wrap .i64 (x3 + IntKind.wrap .i64 (0 + 1)) - n2) ≥ 0))
 (k [(D.val (vI (2 : Int)))])
 (k [(D.val (vI (0 : Int)))]))))))) := by kernel_rfl
def gV3 (C : Ct) (x0 : Int) (x1 : Int) (c2 : Nat) (y2_0 : Int) (y2_1 : Int) (y2_2 : Int) (y2_3 : Int) (y2_4 : Int) (y2_5 : Int) (y2_6 : Int) (y2_7 : Int) (y2_8 : Int) (x3 : Int) (k : List D → Prop) : Prop := wpFn Tryz.prog (hC C) (fun _ _ _ => False) 8 94 #[.agg #[.int .i64 x0, .int .i64 x1, .slice (some ⟨500, 0, none⟩) 3 c2], .int .i64 x3] (heapOf [(500, .sym [.int .i64 y2_0, .int .i64 y2_1, .int .i64 y2_2, .int .i64 y2_3, .int .i64 y2_4, .int .i64 y2_5, .int .i64 y2_6, .int .i64 y2_7, .int .i64 y2_8] false 3)]) (dataK k)
theorem gV3_text (C : Ct) (x0 : Int) (x1 : Int) (c2 : Nat) (y2_0 : Int) (y2_1 : Int) (y2_2 : Int) (y2_3 : Int) (y2_4 : Int) (y2_5 : Int) (y2_6 : Int) (y2_7 : Int) (y2_8 : Int) (x3 : Int) (k : List D → Prop) : gV3 C x0 x1 c2 y2_0 y2_1 y2_2 y2_3 y2_4 y2_5 y2_6 y2_7 y2_8 x3 k =
 (∃ n1 : Int,
 ((At [(vI y2_0), (vI y2_1), (vI y2_2), (vI y2_3), (vI y2_4), (vI y2_5), (vI y2_6), (vI y2_7), (vI y2_8)] 2 1 [(vI n1)]) ∧
 (bcase (decide (IntKind.wrap .i64 (IntKind.wrap .i64 (x3 + 0) - n1) ≥ 0))
 (∃ n2 : Int,
 ((At [(vI y2_0), (vI y2_1), (vI y2_2), (vI y2_3), (vI y2_4), (vI y2_5), (vI y2_6), (vI y2_7), (vI y2_8)] 5 1 [(vI n2)]) ∧
 (bcase (decide (IntKind.wrap .i64 (IntKind.wrap .i64 (x3 + IntKind.wrap .i64 (0 + 1)) - n2) ≥ 0))
 (∃ n3 : Int,
 ((At [(vI y2_0), (vI y2_1), (vI y2_2), (vI y2_3), (vI y2_4), (vI y2_5), (vI y2_6), (vI y2_7), (vI y2_8)] 8 1 [(vI n3)]) ∧
 (bcase (decide (IntKind.wrap .i64 (IntKind.wrap .i64 (x3 + IntKind.wrap .i64 (IntKind.wrap .i64 (0 + 1) + 1)) - n3) ≥ 0))
 (k [(D.val (vI (7 : Int)))])
 (k [(D.val (vI (3 : Int)))]))))
 (∃ n3 : Int,
 ((At [(vI y2_0), (vI y2_1), (vI y2_2), (vI y2_3), (vI y2_4), (vI y2_5), (vI y2_6), (vI y2_7), (vI y2_8)] 8 1 [(vI n3)]) ∧
 (bcase (decide (IntKind.wrap .i64 (IntKind.wrap .i64 (x3 + IntKind.wrap .i64 (IntKind.wrap .i64 (0 + 1) + 1)) - n3) ≥ 0))
 (k [(D.val (vI (5 : Int)))])
 (k [(D.val (vI (1 : Int)))])))))))
 (∃ n2 : Int,
 ((At [(vI y2_0), (vI y2_1), (vI y2_2), (vI y2_3), (vI y2_4), (vI y2_5), (vI y2_6), (vI y2_7), (vI y2_8)] 5 1 [(vI n2)]) ∧
 (bcase (decide (IntKind.wrap .i64 (IntKind.wrap .i64 (x3 + IntKind.wrap .i64 (0 + 1)) - n2) ≥ 0))
 (∃ n3 : Int,
 ((At [(vI y2_0), (vI y2_1), (vI y2_2), (vI y2_3), (vI y2_4), (vI y2_5), (vI y2_6), (vI y2_7), (vI y2_8)] 8 1 [(vI n3)]) ∧
 (bcase (decide (IntKind.wrap .i64 (IntKind.wrap .i64 (x3 + IntKind.wrap .i64 (IntKind.wrap .i64 (0 + 1) + 1)) - n3) ≥ 0))
 (k [(D.val (vI (6 : Int)))])
 (k [(D.val (vI (2 : Int)))]))))
 (∃ n3 : Int,
 ((At [(vI y2_0), (vI y2_1), (vI y2_2), (vI y2_3), (vI y2_4), (vI y2_5), (vI y2_6), (vI y2_7), (vI y2_8)] 8 1 [(vI n3)]) ∧
 (bcase (decide (IntKind.wrap .i64 (IntKind.wrap .i64 (x3 + IntKind.wrap .i64 (IntKind.wrap .i64 (0 + 1) + 1)) - n3) ≥ 0))
 (k [(D.val (vI (4 : Int)))])
 (k [(D.val (vI (0 : Int)))])))))))))) := by kernel_rfl
def gV4 (C : Ct) (x0 : Int) (x1 : Int) (c2 : Nat) (y2_0 : Int) (y2_1 : Int) (y2_2 : Int) (y2_3 : Int) (y2_4 : Int) (y2_5 : Int) (y2_6 : Int) (y2_7 : Int) (y2_8 : Int) (y2_9 : Int) (y2_10 : Int) (y2_11 : Int) (x3 : Int) (k : List D → Prop) : Prop := wpFn Tryz.prog (hC C) (fun _ _ _ => False) 8 94 #[.agg #[.int .i64 x0, .int .i64 x1, .slice (some ⟨500, 0, none⟩) 4 c2], .int .i64 x3] (heapOf [(500, .sym [.int .i64 y2_0, .int .i64 y2_1, .int .i64 y2_2, .int .i64 y2_3, .int .i64 y2_4, .int .i64 y2_5, .int .i64 y2_6, .int .i64 y2_7, .int .i64 y2_8, .int .i64 y2_9, .int .i64 y2_10, .int .i64 y2_11] false 3)]) (dataK k)
theorem gV4_text (C : Ct) (x0 : Int) (x1 : Int) (c2 : Nat) (y2_0 : Int) (y2_1 : Int) (y2_2 : Int) (y2_3 : Int) (y2_4 : Int) (y2_5 : Int) (y2_6 : Int) (y2_7 : Int) (y2_8 : Int) (y2_9 : Int) (y2_10 : Int) (y2_11 : Int) (x3 : Int) (k : List D → Prop) : gV4 C x0 x1 c2 y2_0 y2_1 y2_2 y2_3 y2_4 y2_5 y2_6 y2_7 y2_8 y2_9 y2_10 y2_11 x3 k =
 (∃ n1 : Int,
 ((At [(vI y2_0), (vI y2_1), (vI y2_2), (vI y2_3), (vI y2_4), (vI y2_5), (vI y2_6), (vI y2_7), (vI y2_8), (vI y2_9), (vI y2_10), (vI y2_11)] 2 1 [(vI n1)]) ∧
 (bcase (decide (IntKind.wrap .i64 (IntKind.wrap .i64 (x3 + 0) - n1) ≥ 0))
 (∃ n2 : Int,
 ((At [(vI y2_0), (vI y2_1), (vI y2_2), (vI y2_3), (vI y2_4), (vI y2_5), (vI y2_6), (vI y2_7), (vI y2_8), (vI y2_9), (vI y2_10), (vI y2_11)] 5 1 [(vI n2)]) ∧
 (bcase (decide (IntKind.wrap .i64 (IntKind.wrap .i64 (x3 + IntKind.wrap .i64 (0 + 1)) - n2) ≥ 0))
 (∃ n3 : Int,
 ((At [(vI y2_0), (vI y2_1), (vI y2_2), (vI y2_3), (vI y2_4), (vI y2_5), (vI y2_6), (vI y2_7), (vI y2_8), (vI y2_9), (vI y2_10), (vI y2_11)] 8 1 [(vI n3)]) ∧
 (bcase (decide (IntKind.wrap .i64 (IntKind.wrap .i64 (x3 + IntKind.wrap .i64 (IntKind.wrap .i64 (0 + 1) + 1)) - n3) ≥ 0))
 (∃ n4 : Int,
 ((At [(vI y2_0), (vI y2_1), (vI y2_2), (vI y2_3), (vI y2_4), (vI y2_5), (vI y2_6), (vI y2_7), (vI y2_8), (vI y2_9), (vI y2_10), (vI y2_11)] 11 1 [(vI n4)]) ∧
 (bcase (decide (IntKind.wrap .i64 (IntKind.wrap .i64 (x3 + IntKind.wrap .i64 (IntKind.wrap .i64 (IntKind.wrap .i64 (0 + 1) + 1) + 1)) - n4) ≥ 0))
 (k [(D.val (vI (15 : Int)))])
 (k [(D.val (vI (7 : Int)))]))))
 (∃ n4 : Int,
 ((At [(vI y2_0), (vI y2_1), (vI y2_2), (vI y2_3), (vI y2_4), (vI y2_5), (vI y2_6), (vI y2_7), (vI y2_8), (vI y2_9), (vI y2_10), (vI y2_11)] 11 1 [(vI n4)]) ∧
 (bcase (decide (IntKind.wrap .i64 (IntKind.wrap .i64 (x3 + IntKind.wrap .i64 (IntKind.wrap .i64 (IntKind.wrap .i64 (0 + 1) + 1) + 1)) - n4) ≥ 0))
 (k [(D.val (vI (11 : Int)))])
 (k [(D.val (vI (3 : Int)))])))))))
 (∃ n3 : Int,
 ((At [(vI y2_0), (vI y2_1), (vI y2_2), (vI y2_3), (vI y2_4), (vI y2_5), (vI y2_6), (vI y2_7), (vI y2_8), (vI y2_9), (vI y2_10), (vI y2_11)] 8 1 [(vI n3)]) ∧
 (bcase (decide (IntKind.wrap .i64 (IntKind.wrap .i64 (x3 + IntKind.wrap .i64 (IntKind.wrap .i64 (0 + 1) + 1)) - n3) ≥ 0))
 (∃ n4 : Int,
 ((At [(vI y2_0), (vI y2_1), (vI y2_2), (vI y2_3), (vI y2_4), (vI y2_5), (vI y2_6), (vI y2_7), (vI y2_8), (vI y2_9), (vI y2_10), (vI y2_11)] 11 1 [(vI n4)]) ∧
 (bcase (decide (IntKind.wrap .i64 (IntKind.wrap .i64 (x3 + IntKind.wrap .i64 (IntKind.wrap .i64 (IntKind.wrap .i64 (0 + 1) + 1) + 1)) - n4) ≥ 0))
 (k [(D.val (vI (13 : Int)))])
 (k [(D.val (vI (5 : Int)))]))))
 (∃ n4 : Int,
 ((At [(vI y2_0), (vI y2_1), (vI y2_2), (vI y2_3), (vI y2_4), (vI y2_5), (vI y2_6), (vI y2_7), (vI y2_8), (vI y2_9), (vI y2_10), (vI y2_11)] 11 1 [(vI n4)]) ∧
 (bcase (decide (IntKind.wrap .i64 (IntKind.wrap .i64 (x3 + IntKind.wrap .i64 (IntKind.wrap .i64 (IntKind.wrap .i64 (0 + 1) + 1) + 1)) - n4) ≥ 0))
 (k [(D.val (vI (9 : Int)))])
 (k [(D.val (vI (1 : Int)))]))))))))))
 (∃ n2 : Int,
 ((At [(vI y2_0), (vI y2_1), (vI y2_2), (vI y2_3), (vI y2_4), (vI y2_5), (vI y2_6), (vI y2_7), (vI y2_8), (vI y2_9), (vI y2_10), (vI y2_11)] 5 1 [(vI n2)]) ∧
 (bcase (decide (IntKind.wrap .i64 (IntKind.wrap .i64 (x3 + IntKind.wrap .i64 (0 + 1)) - n2) ≥ 0))
 (∃ n3 : Int,
 ((At [(vI y2_0), (vI y2_1), (vI y2_2), (vI y2_3), (vI y2_4), (vI y2_5), (vI y2_6), (vI y2_7), (vI y2_8), (vI y2_9), (vI y2_10), (vI y2_11)] 8 1 [(vI n3)]) ∧
 (bcase (decide (IntKind.wrap .i64 (IntKind.wrap .i64 (x3 + IntKind.wrap .i64 (IntKind.wrap .i64 (0 + 1) + 1)) - n3) ≥ 0))
 (∃ n4 : Int,
 ((At [(vI y2_0), (vI y2_1), (vI y2_2), (vI y2_3), (vI y2_4), (vI y2_5), (vI y2_6), (vI y2_7), (vI y2_8), (vI y2_9), (vI y2_10), (vI y2_11)] 11 1 [(vI n4)]) ∧
 (bcase (decide (IntKind.wrap .i64 (IntKind.wrap .i64 (x3 + IntKind.wrap .i64 (IntKind.wrap .i64 (IntKind.wrap .i64 (0 + 1) + 1) + 1)) - n4) ≥ 0))
 (k [(D.val (vI (14 : Int)))])
 (k [(D.val (vI (6 : Int)))]))))
 (∃ n4 : Int,
 ((At [(vI y2_0), (vI y2_1), (vI y2_2), (vI y2_3), (vI y2_4), (vI y2_5), (vI y2_6), (vI y2_7), (vI y2_8), (vI y2_9), (vI y2_10), (vI y2_11)] 11 1 [(vI n4)]) ∧
 (bcase (decide (IntKind.wrap .i64 (IntKind.wrap .i64 (x3 + IntKind.wrap .i64 (IntKind.wrap .i64 (IntKind.wrap .i64 (0 + 1) + 1) + 1)) - n4) ≥ 0))
 (k [(D.val (vI (10 : Int)))])
 (k [(D.val (vI (2 : Int)))])))))))
 (∃ n3 : Int,
 ((At [(vI y2_0), (vI y2_1), (vI y2_2), (vI y2_3), (vI y2_4), (vI y2_5), (vI y2_6), (vI y2_7), (vI y2_8), (vI y2_9), (vI y2_10), (vI y2_11)] 8 1 [(vI n3)]) ∧
 (bcase (decide (IntKind.wrap .i64 (IntKind.wrap .i64 (x3 + IntKind.wrap .i64 (IntKind.wrap .i64 (0 + 1) + 1)) - n3) ≥ 0))
 (∃ n4 : Int,
 ((At [(vI y2_0), (vI y2_1), (vI y2_2), (vI y2_3), (vI y2_4), (vI y2_5), (vI y2_6), (vI y2_7), (vI y2_8), (vI y2_9), (vI y2_10), (vI y2_11)] 11 1 [(vI n4)]) ∧
 (bcase (decide (IntKind.wrap .i64 (IntKind.wrap .i64 (x3 + IntKind.wrap .i64 (IntKind.wrap .i64 (IntKind.wrap .i64 (0 + 1) + 1) + 1)) - n4) ≥ 0))
 (k [(D.val (vI (12 : Int)))])
 (k [(D.val (vI (4 : Int)))]))))
 (∃ n4 : Int,
 ((At [(vI y2_0), (vI y2_1), (vI y2_2), (vI y2_3), (vI y2_4), (vI y2_5), (vI y2_6), (vI y2_7), (vI y2_8), (vI y2_9), (vI y2_10), (vI y2_11)] 11 1 [(vI n4)]) ∧
 (bcase (decide (IntKind.wrap .i64 (IntKind.wrap .i64 (x3 + IntKind.wrap .i64 (IntKind.wrap .i64 (IntKind.wrap .i64 (0 + 1) + 1) + 1)) - n4) ≥ 0))
 (k [(D.val (vI (8 : Int)))])
 (k [(D.val (vI (0 : Int)))]))))))))))))) := by kernel_rfl
def gA1 (C : Ct) (x0 : Int) (x1 : Int) (c2 : Nat) (y2_0 : Int) (y2_1 : Int) (y2_2 : Int) (x3 : Int) (k : List D → Prop) : Prop := wpFn Tryz.prog (hC C) (fun _ _ _ => False) 8 74 #[.agg #[.int .i64 x0, .int .i64 x1, .slice (some ⟨500, 0, none⟩) 1 c2], .int .i64 x3] (heapOf [(500, .sym [.int .i64 y2_0, .int .i64 y2_1, .int .i64 y2_2] false 3)]) (dataK k)
theorem gA1_text (C : Ct) (x0 : Int) (x1 : Int) (c2 : Nat) (y2_0 : Int) (y2_1 : Int) (y2_2 : Int) (x3 : Int) (k : List D → Prop) : gA1 C x0 x1 c2 y2_0 y2_1 y2_2 x3 k =
 (∃ n1 : Int,
 ((At [(vI y2_0), (vI y2_1), (vI y2_2)] 2 1 [(vI n1)]) ∧
 (bcase (decide (IntKind.wrap .i64 (x3 + 0) ≥ n1))
 (k [(D.val (vI (1 : Int)))])
 (k [(D.val (vI (0 : Int)))])))) := by kernel_rfl
def gA2 (C : Ct) (x0 : Int) (x1 : Int) (c2 : Nat) (y2_0 : Int) (y2_1 : Int) (y2_2 : Int) (y2_3 : Int) (y2_4 : Int) (y2_5 : Int) (x3 : Int) (k : List D → Prop) : Prop := wpFn Tryz.prog (hC C) (fun _ _ _ => False) 8 74 #[.agg #[.int .i64 x0, .int .i64 x1, .slice (some ⟨500, 0, none⟩) 2 c2], .int .i64 x3] (heapOf [(500, .sym [.int .i64 y2_0, .int .i64 y2_1, .int .i64 y2_2, .int .i64 y2_3, .int .i64 y2_4, .int .i64 y2_5] false 3)]) (dataK k)
theorem gA2_text (C : Ct) (x0 : Int) (x1 : Int) (c2 : Nat) (y2_0 : Int) (y2_1 : Int) (y2_2 : Int) (y2_3 : Int) (y2_4 : Int) (y2_5 : Int) (x3 : Int) (k : List D → Prop) : gA2 C x0 x1 c2 y2_0 y2_1 y2_2 y2_3 y2_4 y2_5 x3 k =
 (∃ n1 : Int,
 ((At [(vI y2_0), (vI y2_1), (vI y2_2), (vI y2_3), (vI y2_4), (vI y2_5)] 2 1 [(vI n1)]) ∧
 (bcase (decide (IntKind.wrap .i64 (x3 + 0) ≥ n1))
 (∃ n2 : Int,
 ((At [(vI y2_0), (vI y2_1), (vI y2_2), (vI y2_3), (vI y2_4), (vI y2_5)] 5 1 [(vI n2)]) ∧
 (bcase (decide (IntKind.wrap .i64 (x3 + IntKind.wrap .i64 (0 + 1)) ≥ n2))
 (k [(D.val (vI (3 : Int)))])
 (k [(D.val (vI (1 : Int)))]))))
 (∃ n2 : Int,
 ((At [(vI y2_0), (vI y2_1), (vI y2_2), (vI y2_3), (vI y2_4), (vI y2_5)] 5 1 [(vI n2)]) ∧
 (bcase (decide (IntKind.wrap .i64 (x3 + IntKind.wrap .i64 (0 + 1)) ≥ n2))
 (k [(D.val (vI (2 : Int)))])
 (k [(D.val (vI (0 : Int)))]))))))) := by kernel_rfl
def gA3 (C : Ct) (x0 : Int) (x1 : Int) (c2 : Nat) (y2_0 : Int) (y2_1 : Int) (y2_2 : Int) (y2_3 : Int) (y2_4 : Int) (y2_5 : Int) (y2_6 : Int) (y2_7 : Int) (y2_8 : Int) (x3 : Int) (k : List D → Prop) : Prop := wpFn Tryz.prog (hC C) (fun _ _ _ => False) 8 74 #[.agg #[.int .i64 x0, .int .i64 x1, .slice (some ⟨500, 0, none⟩) 3 c2], .int .i64 x3] (heapOf [(500, .sym [.int .i64 y2_0, .int .i64 y2_1, .int .i64 y2_2, .int .i64 y2_3, .int .i64 y2_4, .int .i64 y2_5, .int .i64 y2_6, .int .i64 y2_7, .int .i64 y2_8] false 3)]) (dataK k)
theorem gA3_text (C : Ct) (x0 : Int) (x1 : Int) (c2 : Nat) (y2_0 : Int) (y2_1 : Int) (y2_2 : Int) (y2_3 : Int) (y2_4 : Int) (y2_5 : Int) (y2_6 : Int) (y2_7 : Int) (y2_8 : Int) (x3 : Int) (k : List D → Prop) : gA3 C x0 x1 c2 y2_0 y2_1 y2_2 y2_3 y2_4 y2_5 y2_6 y2_7 y2_8 x3 k =
 (∃ n1 : Int,
 ((At [(vI y2_0), (vI y2_1), (vI y2_2), (vI y2_3), (vI y2_4), (vI y2_5), (vI y2_6), (vI y2_7), (vI y2_8)] 2 1 [(vI n1)]) ∧
 (bcase (decide (IntKind.wrap .i64 (x3 + 0) ≥ n1))
 (∃ n2 : Int,
 ((At [(vI y2_0), (vI y2_1), (vI y2_2), (vI y2_3), (vI y2_4), (vI y2_5), (vI y2_6), (vI y2_7), (vI y2_8)] 5 1 [(vI n2)]) ∧
 (bcase (decide (IntKind.wrap .i64 (x3 + IntKind.wrap .i64 (0 + 1)) ≥ n2))
 (∃ n3 : Int,
 ((At [(vI y2_0), (vI y2_1), (vI y2_2), (vI y2_3), (vI y2_4), (vI y2_5), (vI y2_6), (vI y2_7), (vI y2_8)] 8 1 [(vI n3)]) ∧
 (bcase (decide (IntKind.wrap .i64 (x3 + IntKind.wrap .i64 (IntKind.wrap .i64 (0 + 1) + 1)) ≥ n3))
 (k [(D.val (vI (7 : Int)))])
 (k [(D.val (vI (3 : Int)))]))))
 (∃ n3 : Int,
 ((At [(vI y2_0), (vI y2_1), (vI y2_2), (vI y2_3), (vI y2_4), (vI y2_5), (vI y2_6), (vI y2_7), (vI y2_8)] 8 1 [(vI n3)]) ∧
 (bcase (decide (IntKind.wrap .i64 (x3 + IntKind.wrap .i64 (IntKind.wrap .i64 (0 + 1) + 1)) ≥ n3))
 (k [(D.val (vI (5 : Int)))])
 (k [(D.val (vI (1 : Int)))])))))))
 (∃ n2 : Int,
 ((At [(vI y2_0), (vI y2_1), (vI y2_2), (vI y2_3), (vI y2_4), (vI y2_5), (vI y2_6), (vI y2_7), (vI y2_8)] 5 1 [(vI n2)]) ∧
 (bcase (decide (IntKind.wrap .i64 (x3 + IntKind.wrap .i64 (0 + 1)) ≥ n2))
 (∃ n3 : Int,
 ((At [(vI y2_0), (vI y2_1), (vI y2_2), (vI y2_3), (vI y2_4), (vI y2_5), (vI y2_6), (vI y2_7), (vI y2_8)] 8 1 [(vI n3)]) ∧
 (bcase (decide (IntKind.wrap .i64 (x3 + IntKind.wrap .i64 (IntKind.wrap .i64 (0 + 1) + 1)) ≥ n3))
 (k [(D.val (vI (6 : Int)))])
 (k [(D.val (vI (2 : Int)))]))))
 (∃ n3 : Int,
 ((At [(vI y2_0), (vI y2_1), (vI y2_2), (vI y2_3), (vI y2_4), (vI y2_5), (vI y2_6), (vI y2_7), (vI y2_8)] 8 1 [(vI n3)]) ∧
 (bcase (decide (IntKind.wrap .i64 (x3 + IntKind.wrap .i64 (IntKind.wrap .i64 (0 + 1) + 1)) ≥ n3))
 (k [(D.val (vI (4 : Int)))])
 (k [(D.val (vI (0 : Int)))])))))))))) := by kernel_rfl
def gA4 (C : Ct) (x0 : Int) (x1 : Int) (c2 : Nat) (y2_0 : Int) (y2_1 : Int) (y2_2 : Int) (y2_3 : Int) (y2_4 : Int) (y2_5 : Int) (y2_6 : Int) (y2_7 : Int) (y2_8 : Int) (y2_9 : Int) (y2_10 : Int) (y2_11 : Int) (x3 : Int) (k : List D → Prop) : Prop := wpFn Tryz.prog (hC C) (fun _ _ _ => False) 8 74 #[.agg #[.int .i64 x0, .int .i64 x1, .slice (some ⟨500, 0, none⟩) 4 c2], .int .i64 x3] (heapOf [(500, .sym [.int .i64 y2_0, .int .i64 y2_1, .int .i64 y2_2, .int .i64 y2_3, .int .i64 y2_4, .int .i64 y2_5, .int .i64 y2_6, .int .i64 y2_7, .int .i64 y2_8, .int .i64 y2_9, .int .i64 y2_10, .int .i64 y2_11] false 3)]) (dataK k)
theorem gA4_text (C : Ct) (x0 : Int) (x1 : Int) (c2 : Nat) (y2_0 : Int) (y2_1 : Int) (y2_2 : Int) (y2_3 : Int) (y2_4 : Int) (y2_5 : Int) (y2_6 : Int) (y2_7 : Int) (y2_8 : Int) (y2_9 : Int) (y2_10 : Int) (y2_11 : Int) (x3 : Int) (k : List D → Prop) : gA4 C x0 x1 c2 y2_0 y2_1 y2_2 y2_3 y2_4 y2_5 y2_6 y2_7 y2_8 y2_9 y2_10 y2_11 x3 k =
 (∃ n1 : Int,
 ((At [(vI y2_0), (vI y2_1), (vI y2_2), (vI y2_3), (vI y2_4), (vI y2_5), (vI y2_6), (vI y2_7), (vI y2_8), (vI y2_9), (vI y2_10), (vI y2_11)] 2 1 [(vI n1)]) ∧
 (bcase (decide (IntKind.wrap .i64 (x3 + 0) ≥ n1))
 (∃ n2 : Int,
 ((At [(vI y2_0), (vI y2_1), (vI y2_2), (vI y2_3), (vI y2_4), (vI y2_5), (vI y2_6), (vI y2_7), (vI y2_8), (vI y2_9), (vI y2_10), (vI y2_11)] 5 1 [(vI n2)]) ∧
 (bcase (decide (IntKind.wrap .i64 (x3 + IntKind.wrap .i64 (0 + 1)) ≥ n2))
 (∃ n3 : Int,
 ((At [(vI y2_0), (vI y2_1), (vI y2_2), (vI y2_3), (vI y2_4), (vI y2_5), (vI y2_6), (vI y2_7), (vI y2_8), (vI y2_9), (vI y2_10), (vI y2_11)] 8 1 [(vI n3)]) ∧
 (bcase (decide (IntKind.wrap .i64 (x3 + IntKind.wrap .i64 (IntKind.wrap .i64 (0 + 1) + 1)) ≥ n3))
 (∃ n4 : Int,
 ((At [(vI y2_0), (vI y2_1), (vI y2_2), (vI y2_3), (vI y2_4), (vI y2_5), (vI y2_6), (vI y2_7), (vI y2_8), (vI y2_9), (vI y2_10), (vI y2_11)] 11 1 [(vI n4)]) ∧
 (bcase (decide (IntKind.wrap .i64 (x3 + IntKind.wrap .i64 (IntKind.wrap .i64 (IntKind.wrap .i64 (0 + 1) + 1) + 1)) ≥ n4))
 (k [(D.val (vI (15 : Int)))])
 (k [(D.val (vI (7 : Int)))]))))
 (∃ n4 : Int,
 ((At [(vI y2_0), (vI y2_1), (vI y2_2), (vI y2_3), (vI y2_4), (vI y2_5), (vI y2_6), (vI y2_7), (vI y2_8), (vI y2_9), (vI y2_10), (vI y2_11)] 11 1 [(vI n4)]) ∧
 (bcase (decide (IntKind.wrap .i64 (x3 + IntKind.wrap .i64 (IntKind.wrap .i64 (IntKind.wrap .i64 (0 + 1) + 1) + 1)) ≥ n4))
 (k [(D.val (vI (11 : Int)))])
 (k [(D.val (vI (3 : Int)))])))))))
 (∃ n3 : Int,
 ((At [(vI y2_0), (vI y2_1), (vI y2_2), (vI y2_3), (vI y2_4), (vI y2_5), (vI y2_6), (vI y2_7), (vI y2_8), (vI y2_9), (vI y2_10), (vI y2_11)] 8 1 [(vI n3)]) ∧
 (bcase (decide (IntKind.wrap .i64 (x3 + IntKind.wrap .i64 (IntKind.wrap .i64 (0 + 1) + 1)) ≥ n3))
 (∃ n4 : Int,
 ((At [(vI y2_0), (vI y2_1), (vI y2_2), (vI y2_3), (vI y2_4), (vI y2_5), (vI y2_6), (vI y2_7), (vI y2_8), (vI y2_9), (vI y2_10), (vI y2_11)] 11 1 [(vI n4)]) ∧
 (bcase (decide (IntKind.wrap .i64 (x3 + IntKind.wrap .i64 (IntKind.wrap .i64 (IntKind.wrap .i64 (0 + 1) + 1) + 1)) ≥ n4))
 (k [(D.val (vI (13 : Int)))])
 (k [(D.val (vI (5 : Int)))]))))
 (∃ n4 : Int,
 ((At [(vI y2_0), (vI y2_1), (vI y2_2), (vI y2_3), (vI y2_4), (vI y2_5), (vI y2_6), (vI y2_7), (vI y2_8), (vI y2_9), (vI y2_10), (vI y2_11)] 11 1 [(vI n4)]) ∧
 (bcase (decide (IntKind.wrap .i64 (x3 + IntKind.wrap .i64 (IntKind.wrap .i64 (IntKind.wrap .i64 (0 + 1) + 1) + 1)) ≥ n4))
 (k [(D.val (vI (9 : Int)))])
 (k [(D.val (vI (1 : Int)))]))))))))))
 (∃ n2 : Int,
 ((At [(vI y2_0), (vI y2_1), (vI y2_2), (vI y2_3), (vI y2_4), (vI y2_5), (vI y2_6), (vI y2_7), (vI y2_8), (vI y2_9), (vI y2_10), (vI y2_11)] 5 1 [(vI n2)]) ∧
 (bcase (decide (IntKind.wrap .i64 (x3 + IntKind.wrap .i64 (0 + 1)) ≥ n2))
 (∃ n3 : Int,
 ((At [(vI y2_0), (vI y2_1), (vI y2_2), (vI y2_3), (vI y2_4), (vI y2_5), (vI y2_6), (vI y2_7), (vI y2_8), (vI y2_9), (vI y2_10), (vI y2_11)] 8 1 [(vI n3)]) ∧
 (bcase (decide (IntKind.wrap .i64 (x3 + IntKind.wrap .i64 (IntKind.wrap .i64 (0 + 1) + 1)) ≥ n3))
 (∃ n4 : Int,
 ((At [(vI y2_0), (vI y2_1), (vI y2_2), (vI y2_3), (vI y2_4), (vI y2_5), (vI y2_6), (vI y2_7), (vI y2_8), (vI y2_9), (vI y2_10), (vI y2_11)] 11 1 [(vI n4)]) ∧
 (bcase (decide (IntKind.wrap .i64 (x3 + IntKind.wrap .i64 (IntKind.wrap .i64 (IntKind.wrap .i64 (0 + 1) + 1) + 1)) ≥ n4))
 (k [(D.val (vI (14 : Int)))])
 (k [(D.val (vI (6 : Int)))]))))
 (∃ n4 : Int,
 ((At [(vI y2_0), (vI y2_1), (vI y2_2), (vI y2_3), (vI y2_4), (vI y2_5), (vI y2_6), (vI y2_7), (vI y2_8), (vI y2_9), (vI y2_10), (vI y2_11)] 11 1 [(vI n4)]) ∧
 (bcase (decide (IntKind.wrap .i64 (x3 + IntKind.wrap .i64 (IntKind.wrap .i64 (IntKind.wrap .i64 (0 + 1) + 1) + 1)) ≥ n4))
 (k [(D.val (vI (10 : Int)))])
 (k [(D.val (vI (2 : Int)))])))))))
 (∃ n3 : Int,
 ((At [(vI y2_0), (vI y2_1), (vI y2_2), (vI y2_3), (vI y2_4), (vI y2_5), (vI y2_6), (vI y2_7), (vI y2_8), (vI y2_9), (vI y2_10), (vI y2_11)] 8 1 [(vI n3)]) ∧
 (bcase (decide (IntKind.wrap .i64 (x3 + IntKind.wrap .i64 (IntKind.wrap .i64 (0 + 1) + 1)) ≥ n3))
 (∃ n4 : Int,
 ((At [(vI y2_0), (vI y2_1), (vI y2_2), (vI y2_3), (vI y2_4), (vI y2_5), (vI y2_6), (vI y2_7), (vI y2_8), (vI y2_9), (vI y2_10), (vI y2_11)] 11 1 [(vI n4)]) ∧
 (bcase (decide (IntKind.wrap .i64 (x3 + IntKind.wrap .i64 (IntKind.wrap .i64 (IntKind.wrap .i64 (0 + 1) + 1) + 1)) ≥ n4))
 (k [(D.val (vI (12 : Int)))])
 (k [(D.val (vI (4 : Int)))]))))
 (∃ n4 : Int,
 ((At [(vI y2_0), (vI y2_1), (vI y2_2), (vI y2_3), (vI y2_4), (vI y2_5), (vI y2_6), (vI y2_7), (vI y2_8), (vI y2_9), (vI y2_10), (vI y2_11)] 11 1 [(vI n4)]) ∧
 (bcase (decide (IntKind.wrap .i64 (x3 + IntKind.wrap .i64 (IntKind.wrap .i64 (IntKind.wrap .i64 (0 + 1) + 1) + 1)) ≥ n4))
 (k [(D.val (vI (8 : Int)))])
 (k [(D.val (vI (0 : Int)))]))))))))))))) := by kernel_rfl
def gVn (C : Ct) (x0 : Int) (x1 : Int) (x3 : Int) (k : List D → Prop) : Prop := wpFn Tryz.prog (hC C) (fun _ _ _ => False) 8 94 #[.agg #[.int .i64 x0, .int .i64 x1, .slice none 0 0], .int .i64 x3] (heapOf []) (dataK k)
theorem gVn_text (C : Ct) (x0 : Int) (x1 : Int) (x3 : Int) (k : List D → Prop) : gVn C x0 x1 x3 k =
 (k [(D.val (vI (0 : Int)))]) := by kernel_rfl
def gQa (C : Ct) (L : AtLoop) (x0 : Int) (x1 : Int) (n2 : Nat) (c2 : Nat) (l2 : List Value) (x3 : Int) (x4 : Int) (x5 : Int) (k : List D → Prop) : Prop := wpFn Tryz.prog (hC C) L 0 42 #[.agg #[.int .i64 x0, .int .i64 x1, .slice (some ⟨500, 0, none⟩) n2 c2], .int .i64 x3, .agg #[.int .i64 x4, .int .i64 x5]] (heapOf [(500, .sym l2 false 3)]) (dataK k)
theorem gQa_text (C : Ct) (L : AtLoop) (x0 : Int) (x1 : Int) (n2 : Nat) (c2 : Nat) (l2 : List Go.Value) (x3 : Int) (x4 : Int) (x5 : Int) (k : List D → Prop) : gQa C L x0 x1 n2 c2 l2 x3 x4 x5 k =
 (L 0 [(Prod.mk 1 (vI x3)), (Prod.mk 3 (Pt 1000 0)), (Prod.mk 5 (Pt 1001 0)), (Prod.mk 6 (Pt 1002 0)), (Prod.mk 7 (Go.Value.slice Option.none 0 0)), (Prod.mk 8 (Go.Value.slice Option.none 0 0)), (Prod.mk 9 (vI (0 : Int)))] [(Prod.mk 1000 (AObj.cells [(vI x0), (vI x1), (Sl 500 (n2) (c2))] 24 false 1)), (Prod.mk 1001 (AObj.cells [(vI x4), (vI x5)] 52 false 1)), (Prod.mk 1002 (AObj.cells [(vI (0 : Int)), (vI (0 : Int))] 52 false 2)), (Prod.mk 500 (AObj.sym (l2) false 3))]) := by kernel_rfl
abbrev zQa1 (x0 : Int) (x1 : Int) (x2 : Int) (x3 : Int) (n4 : Nat) (c5 : Nat) (x6 : Int) (x7 : Int) (x8 : Int) (x9 : Int) (l10 : List Value) : Slots × Blocks := ([(1, (Value.int .i64 x0)), (3, (Value.pointer (some ⟨1000, 0, none⟩))), (5, (Value.pointer (some ⟨1001, 0, none⟩))), (6, (Value.pointer (some ⟨1002, 0, none⟩))), (7, (Value.slice none 0 0)), (8, (Value.slice none 0 0)), (9, (Value.int .i64 x1))], [(1000, (AObj.cells [(Value.int .i64 x2), (Value.int .i64 x3), (Value.slice (some ⟨500, 0, none⟩) n4 c5)] 24 false 1)), (1001, (AObj.cells [(Value.int .i64 x6), (Value.int .i64 x7)] 52 false 1)), (1002, (AObj.cells [(Value.int .i64 x8), (Value.int .i64 x9)] 52 false 2)), (500, (AObj.sym l10 false 3))])
def rQa1 (C : Ct) (L : AtLoop) (x0 : Int) (x1 : Int) (x2 : Int) (x3 : Int) (n4 : Nat) (c5 : Nat) (x6 : Int) (x7 : Int) (x8 : Int) (x9 : Int) (l10 : List Value) (B : Bx) (X : Xx) (k : List D → Prop) : Prop := wpRound Tryz.prog (hC C) L 42 0 [(1, (Value.int .i64 x0)), (3, (Value.pointer (some ⟨1000, 0, none⟩))), (5, (Value.pointer (some ⟨1001, 0, none⟩))), (6, (Value.pointer (some ⟨1002, 0, none⟩))), (7, (Value.slice none 0 0)), (8, (Value.slice none 0 0)), (9, (Value.int .i64 x1))] [(1000, (AObj.cells [(Value.int .i64 x2), (Value.int .i64 x3), (Value.slice (some ⟨500, 0, none⟩) n4 c5)] 24 false 1)), (1001, (AObj.cells [(Value.int .i64 x6), (Value.int .i64 x7)] 52 false 1)), (1002, (AObj.cells [(Value.int .i64 x8), (Value.int .i64 x9)] 52 false 2)), (500, (AObj.sym l10 false 3))] B X (dataK k)
theorem rQa1_text (C : Ct) (L : AtLoop) (x0 : Int) (x1 : Int) (x2 : Int) (x3 : Int) (n4 : Nat) (c5 : Nat) (x6 : Int) (x7 : Int) (x8 : Int) (x9 : Int) (l10 : List Go.Value) (B : Bx) (X : Xx) (k : List D → Prop) : rQa1 C L x0 x1 x2 x3 n4 c5 x6 x7 x8 x9 l10 B X k =
 (bcase (decide (x1 < (↑n4 : Int)))
 (bcase (decide (0 ≤ x1))
 (bcase (decide (x1 < (↑n4 : Int)))
 (∃ n1 : Int,
 ((At (l10) (0 + Int.toNat x1 * 3) 1 [(vI n1)]) ∧
 (bcase (decide (0 ≤ x1))
 (bcase (decide (x1 < (↑n4 : Int)))
 (∃ n2 : Int,
 ((At (l10) (Go.Addr.off (Go.Addr.add { block := 500, off := 0 + Int.toNat x1 * 3 } 0) + 1) 1 [(vI n2)]) ∧
 ((((Qv (Sl 1004 1 1)) ∧
 (Qv (Option.some (AObj.cells [(vI n2)] 3 false 1)))) ∧
 ((∃ n3 : Int,
 ((At (l10) (Go.Addr.off (Go.Addr.add { block := 500, off := 0 + Int.toNat x1 * 3 } 0) + 1) 1 [(vI n3)]) ∧
 ((vI n3) = (vI n2)))) ∧
 (((Go.Value.pointer (Option.some (Go.Addr.mk 500 (Go.Addr.off { block := 500, off := 0 + Int.toNat x1 * 3 } + 1) Option.none))) = (Go.Value.pointer (Option.some (Go.Addr.mk 500 (Go.Addr.off (Go.Addr.add { block := 500, off := 0 + Int.toNat x1 * 3 } 0) + 1) Option.none)))) ∧
 ((Qv (Pt 500 (0 + Int.toNat x1 * 3))) ∧
 ((bcase (decide (0 ≤ x1))
 (bcase (decide (x1 < (↑n4 : Int)))
 (Qv (Pt 500 (0 + Int.toNat x1 * 3)))
 False)
 False) ∧
 ((Qv (vI x1)) ∧
 ((Qv (Sl 500 (n4) (c5))) ∧
 ((Qv (Pt 1000 2)) ∧
 ((Qv (Go.Value.slice Option.none 0 0)) ∧
 (((Qv (Sl 1003 1 1)) ∧
 (Qv (Option.some (AObj.cells [(vI n1)] 3 false 1)))) ∧
 ((∃ n3 : Int,
 ((At (l10) (0 + Int.toNat x1 * 3) 1 [(vI n3)]) ∧
 ((vI n3) = (vI n1)))) ∧
 ((Qv (Pt 500 (0 + Int.toNat x1 * 3))) ∧
 ((Qv (Pt 500 (0 + Int.toNat x1 * 3))) ∧
 ((bcase (decide (0 ≤ x1))
 (bcase (decide (x1 < (↑n4 : Int)))
 (Qv (Pt 500 (0 + Int.toNat x1 * 3)))
 False)
 False) ∧
 ((Qv (vI x1)) ∧
 ((Qv (Sl 500 (n4) (c5))) ∧
 ((Qv (Pt 1000 2)) ∧
 ((Qv (Go.Value.slice Option.none 0 0)) ∧
 True)))))))))))))))))) ∧
 ((((Qv (Sl 1004 1 1)) ∧
 (Qv (Option.some (AObj.cells [(vI n2)] 3 false 1)))) ∧
 ((∃ n3 : Int,
 ((At (l10) (Go.Addr.off (Go.Addr.add { block := 500, off := 0 + Int.toNat x1 * 3 } 0) + 1) 1 [(vI n3)]) ∧
 ((vI n3) = (vI n2)))) ∧
 (((Go.Value.pointer (Option.some (Go.Addr.mk 500 (Go.Addr.off { block := 500, off := 0 + Int.toNat x1 * 3 } + 1) Option.none))) = (Go.Value.pointer (Option.some (Go.Addr.mk 500 (Go.Addr.off (Go.Addr.add { block := 500, off := 0 + Int.toNat x1 * 3 } 0) + 1) Option.none)))) ∧
 ((Qv (Pt 500 (0 + Int.toNat x1 * 3))) ∧
 ((bcase (decide (0 ≤ x1))
 (bcase (decide (x1 < (↑n4 : Int)))
 (Qv (Pt 500 (0 + Int.toNat x1 * 3)))
 False)
 False) ∧
 ((Qv (vI x1)) ∧
 ((Qv (Sl 500 (n4) (c5))) ∧
 ((Qv (Pt 1000 2)) ∧
 ((Qv (Go.Value.slice Option.none 0 0)) ∧
 ((∃ n3 : Int,
 ((At (l10) (0 + Int.toNat x1 * 3) 1 [(vI n3)]) ∧
 ((vI n3) = (vI n1)))) ∧
 ((Qv (Pt 500 (0 + Int.toNat x1 * 3))) ∧
 ((Qv (Pt 500 (0 + Int.toNat x1 * 3))) ∧
 ((bcase (decide (0 ≤ x1))
 (bcase (decide (x1 < (↑n4 : Int)))
 (Qv (Pt 500 (0 + Int.toNat x1 * 3)))
 False)
 False) ∧
 ((Qv (vI x1)) ∧
 ((Qv (Sl 500 (n4) (c5))) ∧
 ((Qv (Pt 1000 2)) ∧
 True)))))))))))))))) ∧
 (((∃ n3 : Int,
 ((At (l10) (Go.Addr.off (Go.Addr.add { block := 500, off := 0 + Int.toNat x1 * 3 } 0) + 1) 1 [(vI n3)]) ∧
 ((vI n3) = (vI n2)))) ∧
 (((Go.Value.pointer (Option.some (Go.Addr.mk 500 (Go.Addr.off { block := 500, off := 0 + Int.toNat x1 * 3 } + 1) Option.none))) = (Go.Value.pointer (Option.some (Go.Addr.mk 500 (Go.Addr.off (Go.Addr.add { block := 500, off := 0 + Int.toNat x1 * 3 } 0) + 1) Option.none)))) ∧
 ((Qv (Pt 500 (0 + Int.toNat x1 * 3))) ∧
 ((bcase (decide (0 ≤ x1))
 (bcase (decide (x1 < (↑n4 : Int)))
 (Qv (Pt 500 (0 + Int.toNat x1 * 3)))
 False)
 False) ∧
 ((Qv (vI x1)) ∧
 ((Qv (Sl 500 (n4) (c5))) ∧
 ((Qv (Pt 1000 2)) ∧
 ((∃ n3 : Int,
 ((At (l10) (0 + Int.toNat x1 * 3) 1 [(vI n3)]) ∧
 ((vI n3) = (vI n1)))) ∧
 ((Qv (Pt 500 (0 + Int.toNat x1 * 3))) ∧
 ((Qv (Pt 500 (0 + Int.toNat x1 * 3))) ∧
 ((bcase (decide (0 ≤ x1))
 (bcase (decide (x1 < (↑n4 : Int)))
 (Qv (Pt 500 (0 + Int.toNat x1 * 3)))
 False)
 False) ∧
 ((Qv (vI x1)) ∧
 ((Qv (Sl 500 (n4) (c5))) ∧
 ((Qv (Pt 1000 2)) ∧
 True)))))))))))))) ∧
 (((∃ n3 : Int,
 ((At (l10) (Go.Addr.off (Go.Addr.add { block := 500, off := 0 + Int.toNat x1 * 3 } 0) + 1) 1 [(vI n3)]) ∧
 ((vI n3) = (vI n2)))) ∧
 (((Go.Value.pointer (Option.some (Go.Addr.mk 500 (Go.Addr.off { block := 500, off := 0 + Int.toNat x1 * 3 } + 1) Option.none))) = (Go.Value.pointer (Option.some (Go.Addr.mk 500 (Go.Addr.off (Go.Addr.add { block := 500, off := 0 + Int.toNat x1 * 3 } 0) + 1) Option.none)))) ∧
 ((Qv (Pt 500 (0 + Int.toNat x1 * 3))) ∧
 ((bcase (decide (0 ≤ x1))
 (bcase (decide (x1 < (↑n4 : Int)))
 (Qv (Pt 500 (0 + Int.toNat x1 * 3)))
 False)
 False) ∧
 ((Qv (vI x1)) ∧
 ((Qv (Sl 500 (n4) (c5))) ∧
 ((Qv (Pt 1000 2)) ∧
 True))))))) ∧
 (True ∧
 (B [(Prod.mk 1 (vI x0)), (Prod.mk 3 (Pt 1000 0)), (Prod.mk 5 (Pt 1001 0)), (Prod.mk 6 (Pt 1002 0)), (Prod.mk 7 (Sl 1003 1 1)), (Prod.mk 8 (Sl 1004 1 1)), (Prod.mk 9 (vI (IntKind.wrap .i64 (x1 + 1))))] [(Prod.mk 1000 (AObj.cells [(vI x2), (vI x3), (Sl 500 (n4) (c5))] 24 false 1)), (Prod.mk 1001 (AObj.cells [(vI x6), (vI x7)] 52 false 1)), (Prod.mk 1002 (AObj.cells [(vI x8), (vI x9)] 52 false 2)), (Prod.mk 1003 (AObj.sym [(vI n1)] true 1)), (Prod.mk 1004 (AObj.sym [(vI n2)] true 1)), (Prod.mk 500 (AObj.sym (l10) false 3))]))))))))
 False)
 False)))
 False)
 False)
 (X 0 [(Prod.mk 1 (vI x0)), (Prod.mk 3 (Pt 1000 0)), (Prod.mk 5 (Pt 1001 0)), (Prod.mk 6 (Pt 1002 0)), (Prod.mk 7 (Go.Value.slice Option.none 0 0)), (Prod.mk 8 (Go.Value.slice Option.none 0 0))] [(Prod.mk 1000 (AObj.cells [(vI x2), (vI x3), (Sl 500 (n4) (c5))] 24 false 1)), (Prod.mk 1001 (AObj.cells [(vI x6), (vI x7)] 52 false 1)), (Prod.mk 1002 (AObj.cells [(vI x8), (vI x9)] 52 false 2)), (Prod.mk 500 (AObj.sym (l10) false 3))])) := by kernel_rfl
abbrev zQa2 (x0 : Int) (n1 : Nat) (n2 : Nat) (x3 : Int) (x4 : Int) (x5 : Int) (n6 : Nat) (c7 : Nat) (x8 : Int) (x9 : Int) (x10 : Int) (x11 : Int) (l12 : List Value) (l13 : List Value) (l14 : List Value) : Slots × Blocks := ([(1, (Value.int .i64 x0)), (3, (Value.pointer (some ⟨1000, 0, none⟩))), (5, (Value.pointer (some ⟨1001, 0, none⟩))), (6, (Value.pointer (some ⟨1002, 0, none⟩))), (7, (Value.slice (some ⟨1003, 0, none⟩) n1 n1)), (8, (Value.slice (some ⟨1004, 0, none⟩) n2 n2)), (9, (Value.int .i64 x3))], [(1000, (AObj.cells [(Value.int .i64 x4), (Value.int .i64 x5), (Value.slice (some ⟨500, 0, none⟩) n6 c7)] 24 false 1)), (1001, (AObj.cells [(Value.int .i64 x8), (Value.int .i64 x9)] 52 false 1)), (1002, (AObj.cells [(Value.int .i64 x10), (Value.int .i64 x11)] 52 false 2)), (1003, (AObj.sym l12 true 1)), (1004, (AObj.sym l13 true 1)), (500, (AObj.sym l14 false 3))])
def rQa2 (C : Ct) (L : AtLoop) (x0 : Int) (n1 : Nat) (n2 : Nat) (x3 : Int) (x4 : Int) (x5 : Int) (n6 : Nat) (c7 : Nat) (x8 : Int) (x9 : Int) (x10 : Int) (x11 : Int) (l12 : List Value) (l13 : List Value) (l14 : List Value) (B : Bx) (X : Xx) (k : List D → Prop) : Prop := wpRound Tryz.prog (hC C) L 42 0 [(1, (Value.int .i64 x0)), (3, (Value.pointer (some ⟨1000, 0, none⟩))), (5, (Value.pointer (some ⟨1001, 0, none⟩))), (6, (Value.pointer (some ⟨1002, 0, none⟩))), (7, (Value.slice (some ⟨1003, 0, none⟩) n1 n1)), (8, (Value.slice (some ⟨1004, 0, none⟩) n2 n2)), (9, (Value.int .i64 x3))] [(1000, (AObj.cells [(Value.int .i64 x4), (Value.int .i64 x5), (Value.slice (some ⟨500, 0, none⟩) n6 c7)] 24 false 1)), (1001, (AObj.cells [(Value.int .i64 x8), (Value.int .i64 x9)] 52 false 1)), (1002, (AObj.cells [(Value.int .i64 x10), (Value.int .i64 x11)] 52 false 2)), (1003, (AObj.sym l12 true 1)), (1004, (AObj.sym l13 true 1)), (500, (AObj.sym l14 false 3))] B X (dataK k)
theorem rQa2_text (C : Ct) (L : AtLoop) (x0 : Int) (n1 : Nat) (n2 : Nat) (x3 : Int) (x4 : Int) (x5 : Int) (n6 : Nat) (c7 : Nat) (x8 : Int) (x9 : Int) (x10 : Int) (x11 : Int) (l12 : List Go.Value) (l13 : List Go.Value) (l14 : List Go.Value) (B : Bx) (X : Xx) (k : List D → Prop) : rQa2 C L x0 n1 n2 x3 x4 x5 n6 c7 x8 x9 x10 x11 l12 l13 l14 B X k =
 (bcase (decide (x3 < (↑n6 : Int)))
 (bcase (decide (0 ≤ x3))
 (bcase (decide (x3 < (↑n6 : Int)))
 (∃ n3 : Int,
 ((At (l14) (0 + Int.toNat x3 * 3) 1 [(vI n3)]) ∧
 (bcase (decide (0 ≤ x3))
 (bcase (decide (x3 < (↑n6 : Int)))
 (∃ n4 : Int,
 ((At (l14) (Go.Addr.off (Go.Addr.add { block := 500, off := 0 + Int.toNat x3 * 3 } 0) + 1) 1 [(vI n4)]) ∧
 ((((Qv (Sl 1006 1 1)) ∧
 (Qv (Option.some (AObj.cells [(vI n4)] 3 false 1)))) ∧
 ((∃ n5 : Int,
 ((At (l14) (Go.Addr.off (Go.Addr.add { block := 500, off := 0 + Int.toNat x3 * 3 } 0) + 1) 1 [(vI n5)]) ∧
 ((vI n5) = (vI n4)))) ∧
 (((Go.Value.pointer (Option.some (Go.Addr.mk 500 (Go.Addr.off { block := 500, off := 0 + Int.toNat x3 * 3 } + 1) Option.none))) = (Go.Value.pointer (Option.some (Go.Addr.mk 500 (Go.Addr.off (Go.Addr.add { block := 500, off := 0 + Int.toNat x3 * 3 } 0) + 1) Option.none)))) ∧
 ((Qv (Pt 500 (0 + Int.toNat x3 * 3))) ∧
 ((bcase (decide (0 ≤ x3))
 (bcase (decide (x3 < (↑n6 : Int)))
 (Qv (Pt 500 (0 + Int.toNat x3 * 3)))
 False)
 False) ∧
 ((Qv (vI x3)) ∧
 ((Qv (Sl 500 (n6) (c7))) ∧
 ((Qv (Pt 1000 2)) ∧
 ((Qv (Sl 1004 (n2) (n2))) ∧
 (((Qv (Sl 1005 1 1)) ∧
 (Qv (Option.some (AObj.cells [(vI n3)] 3 false 1)))) ∧
 ((∃ n5 : Int,
 ((At (l14) (0 + Int.toNat x3 * 3) 1 [(vI n5)]) ∧
 ((vI n5) = (vI n3)))) ∧
 ((Qv (Pt 500 (0 + Int.toNat x3 * 3))) ∧
 ((Qv (Pt 500 (0 + Int.toNat x3 * 3))) ∧
 ((bcase (decide (0 ≤ x3))
 (bcase (decide (x3 < (↑n6 : Int)))
 (Qv (Pt 500 (0 + Int.toNat x3 * 3)))
 False)
 False) ∧
 ((Qv (vI x3)) ∧
 ((Qv (Sl 500 (n6) (c7))) ∧
 ((Qv (Pt 1000 2)) ∧
 ((Qv (Sl 1003 (n1) (n1))) ∧
 True)))))))))))))))))) ∧
 (bcase (decide (n1 < n1 + 1))
 (bcase (decide ((2 * (n1 + 1) + 768) * 8 ≤ 281474976710656))
 (bcase (decide (n1 + 1 ≤ 1099511627776))
 (bcase (decide (0 + n1 * 1 ≤ List.length l12))
 (bcase (decide (0 + n1 * 1 = List.length l12))
 ((((Qv (Sl 1006 1 1)) ∧
 (Qv (Option.some (AObj.cells [(vI n4)] 3 false 1)))) ∧
 ((∃ n5 : Int,
 ((At (l14) (Go.Addr.off (Go.Addr.add { block := 500, off := 0 + Int.toNat x3 * 3 } 0) + 1) 1 [(vI n5)]) ∧
 ((vI n5) = (vI n4)))) ∧
 (((Go.Value.pointer (Option.some (Go.Addr.mk 500 (Go.Addr.off { block := 500, off := 0 + Int.toNat x3 * 3 } + 1) Option.none))) = (Go.Value.pointer (Option.some (Go.Addr.mk 500 (Go.Addr.off (Go.Addr.add { block := 500, off := 0 + Int.toNat x3 * 3 } 0) + 1) Option.none)))) ∧
 ((Qv (Pt 500 (0 + Int.toNat x3 * 3))) ∧
 ((bcase (decide (0 ≤ x3))
 (bcase (decide (x3 < (↑n6 : Int)))
 (Qv (Pt 500 (0 + Int.toNat x3 * 3)))
 False)
 False) ∧
 ((Qv (vI x3)) ∧
 ((Qv (Sl 500 (n6) (c7))) ∧
 ((Qv (Pt 1000 2)) ∧
 ((Qv (Sl 1004 (n2) (n2))) ∧
 ((∃ n5 : Int,
 ((At (l14) (0 + Int.toNat x3 * 3) 1 [(vI n5)]) ∧
 ((vI n5) = (vI n3)))) ∧
 ((Qv (Pt 500 (0 + Int.toNat x3 * 3))) ∧
 ((Qv (Pt 500 (0 + Int.toNat x3 * 3))) ∧
 ((bcase (decide (0 ≤ x3))
 (bcase (decide (x3 < (↑n6 : Int)))
 (Qv (Pt 500 (0 + Int.toNat x3 * 3)))
 False)
 False) ∧
 ((Qv (vI x3)) ∧
 ((Qv (Sl 500 (n6) (c7))) ∧
 ((Qv (Pt 1000 2)) ∧
 True)))))))))))))))) ∧
 (bcase (decide (n2 < n2 + 1))
 (bcase (decide ((2 * (n2 + 1) + 768) * 8 ≤ 281474976710656))
 (bcase (decide (n2 + 1 ≤ 1099511627776))
 (bcase (decide (0 + n2 * 1 ≤ List.length l13))
 (bcase (decide (0 + n2 * 1 = List.length l13))
 (((∃ n5 : Int,
 ((At (l14) (Go.Addr.off (Go.Addr.add { block := 500, off := 0 + Int.toNat x3 * 3 } 0) + 1) 1 [(vI n5)]) ∧
 ((vI n5) = (vI n4)))) ∧
 (((Go.Value.pointer (Option.some (Go.Addr.mk 500 (Go.Addr.off { block := 500, off := 0 + Int.toNat x3 * 3 } + 1) Option.none))) = (Go.Value.pointer (Option.some (Go.Addr.mk 500 (Go.Addr.off (Go.Addr.add { block := 500, off := 0 + Int.toNat x3 * 3 } 0) + 1) Option.none)))) ∧
 ((Qv (Pt 500 (0 + Int.toNat x3 * 3))) ∧
 ((bcase (decide (0 ≤ x3))
 (bcase (decide (x3 < (↑n6 : Int)))
 (Qv (Pt 500 (0 + Int.toNat x3 * 3)))
 False)
 False) ∧
 ((Qv (vI x3)) ∧
 ((Qv (Sl 500 (n6) (c7))) ∧
 ((Qv (Pt 1000 2)) ∧
 ((∃ n5 : Int,
 ((At (l14) (0 + Int.toNat x3 * 3) 1 [(vI n5)]) ∧
 ((vI n5) = (vI n3)))) ∧
 ((Qv (Pt 500 (0 + Int.toNat x3 * 3))) ∧
 ((Qv (Pt 500 (0 + Int.toNat x3 * 3))) ∧
 ((bcase (decide (0 ≤ x3))
 (bcase (decide (x3 < (↑n6 : Int)))
 (Qv (Pt 500 (0 + Int.toNat x3 * 3)))
 False)
 False) ∧
 ((Qv (vI x3)) ∧
 ((Qv (Sl 500 (n6) (c7))) ∧
 ((Qv (Pt 1000 2)) ∧
 True)))))))))))))) ∧
 (((∃ n5 : Int,
 ((At (l14) (Go.Addr.off (Go.Addr.add { block := 500, off := 0 + Int.toNat x3 * 3 } 0) + 1) 1 [(vI n5)]) ∧
 ((vI n5) = (vI n4)))) ∧
 (((Go.Value.pointer (Option.some (Go.Addr.mk 500 (Go.Addr.off { block := 500, off := 0 + Int.toNat x3 * 3 } + 1) Option.none))) = (Go.Value.pointer (Option.some (Go.Addr.mk 500 (Go.Addr.off (Go.Addr.add { block := 500, off := 0 + Int.toNat x3 * 3 } 0) + 1) Option.none)))) ∧
 ((Qv (Pt 500 (0 + Int.toNat x3 * 3))) ∧
 ((bcase (decide (0 ≤ x3))
 (bcase (decide (x3 < (↑n6 : Int)))
 (Qv (Pt 500 (0 + Int.toNat x3 * 3)))
 False)
 False) ∧
 ((Qv (vI x3)) ∧
 ((Qv (Sl 500 (n6) (c7))) ∧
 ((Qv (Pt 1000 2)) ∧
 True))))))) ∧
 (True ∧
 (B [(Prod.mk 1 (vI x0)), (Prod.mk 3 (Pt 1000 0)), (Prod.mk 5 (Pt 1001 0)), (Prod.mk 6 (Pt 1002 0)), (Prod.mk 7 (Sl 1003 (n1 + 1) (n1 + 1))), (Prod.mk 8 (Sl 1004 (n2 + 1) (n2 + 1))), (Prod.mk 9 (vI (IntKind.wrap .i64 (x3 + 1))))] [(Prod.mk 1000 (AObj.cells [(vI x4), (vI x5), (Sl 500 (n6) (c7))] 24 false 1)), (Prod.mk 1001 (AObj.cells [(vI x8), (vI x9)] 52 false 1)), (Prod.mk 1002 (AObj.cells [(vI x10), (vI x11)] 52 false 2)), (Prod.mk 1003 (AObj.sym ((List.take (n1 * 1) (List.drop 0 l12)) ++ [(vI n3)]) true 1)), (Prod.mk 1004 (AObj.sym ((List.take (n2 * 1) (List.drop 0 l13)) ++ [(vI n4)]) true 1)), (Prod.mk 500 (AObj.sym (l14) false 3))]))))
 False)
 False)
 False)
 False)
 False))
 False)
 False)
 False)
 False)
 False))))
 False)
 False)))
 False)
 False)
 (X 0 [(Prod.mk 1 (vI x0)), (Prod.mk 3 (Pt 1000 0)), (Prod.mk 5 (Pt 1001 0)), (Prod.mk 6 (Pt 1002 0)), (Prod.mk 7 (Sl 1003 (n1) (n1))), (Prod.mk 8 (Sl 1004 (n2) (n2)))] [(Prod.mk 1000 (AObj.cells [(vI x4), (vI x5), (Sl 500 (n6) (c7))] 24 false 1)), (Prod.mk 1001 (AObj.cells [(vI x8), (vI x9)] 52 false 1)), (Prod.mk 1002 (AObj.cells [(vI x10), (vI x11)] 52 false 2)), (Prod.mk 1003 (AObj.sym (l12) true 1)), (Prod.mk 1004 (AObj.sym (l13) true 1)), (Prod.mk 500 (AObj.sym (l14) false 3))])) := by kernel_rfl
def nQa4 (C : Ct) (L : AtLoop) (x0 : Int) (n1 : Nat) (n2 : Nat) (x3 : Int) (x4 : Int) (n5 : Nat) (c6 : Nat) (x7 : Int) (x8 : Int) (x9 : Int) (x10 : Int) (l11 : List Value) (l12 : List Value) (l13 : List Value) (k : List D → Prop) : Prop := wpNext Tryz.prog (hC C) L 42 0 .normal [(1, (Value.int .i64 x0)), (3, (Value.pointer (some ⟨1000, 0, none⟩))), (5, (Value.pointer (some ⟨1001, 0, none⟩))), (6, (Value.pointer (some ⟨1002, 0, none⟩))), (7, (Value.slice (some ⟨1003, 0, none⟩) n1 n1)), (8, (Value.slice (some ⟨1004, 0, none⟩) n2 n2))] [(1000, (AObj.cells [(Value.int .i64 x3), (Value.int .i64 x4), (Value.slice (some ⟨500, 0, none⟩) n5 c6)] 24 false 1)), (1001, (AObj.cells [(Value.int .i64 x7), (Value.int .i64 x8)] 52 false 1)), (1002, (AObj.cells [(Value.int .i64 x9), (Value.int .i64 x10)] 52 false 2)), (1003, (AObj.sym l11 true 1)), (1004, (AObj.sym l12 true 1)), (500, (AObj.sym l13 false 3))] (dataK k)
theorem nQa4_text (C : Ct) (L : AtLoop) (x0 : Int) (n1 : Nat) (n2 : Nat) (x3 : Int) (x4 : Int) (n5 : Nat) (c6 : Nat) (x7 : Int) (x8 : Int) (x9 : Int) (x10 : Int) (l11 : List Go.Value) (l12 : List Go.Value) (l13 : List Go.Value) (k : List D → Prop) : nQa4 C L x0 n1 n2 x3 x4 n5 c6 x7 x8 x9 x10 l11 l12 l13 k =
 (((Qv (Sl 1003 (n1) (n1))) ∧
 ((Qv (vI x8)) ∧
 ((Qv (Pt 1001 1)) ∧
 ((Qv (vI x0)) ∧
 ((Qv (Go.Value.agg [(vI x3), (vI x4), (Sl 500 (n5) (c6))].toArray)) ∧
 ((Qv (Sl 1004 (n2) (n2))) ∧
 ((Qv (vI x7)) ∧
 ((Qv (Pt 1001 0)) ∧
 ((Qv (vI x0)) ∧
 ((Qv (Go.Value.agg [(vI x3), (vI x4), (Sl 500 (n5) (c6))].toArray)) ∧
 True)))))))))) ∧
 (bcase (decide (0 + n5 * 3 ≤ List.length l13))
 (bcase (decide (0 + n2 * 1 ≤ List.length l12))
 (∃ n3 : Int,
 ((Says C 75 [(D.agg [(D.val (vI x3)), (D.val (vI x4)), (D.sl (n5) 3 (List.take (n5 * 3) (List.drop 0 l13)))]), (D.val (vI x0)), (D.val (vI x7)), (D.sl (n2) 1 (List.take (n2 * 1) (List.drop 0 l12)))] [(D.val (vI n3))]) ∧
 (((Qv (Sl 1003 (n1) (n1))) ∧
 ((Qv (vI x8)) ∧
 ((Qv (Pt 1001 1)) ∧
 ((Qv (vI x0)) ∧
 ((Qv (Go.Value.agg [(vI x3), (vI x4), (Sl 500 (n5) (c6))].toArray)) ∧
 ((Qv (Pt 1001 0)) ∧
 True)))))) ∧
 (bcase (decide (0 + n5 * 3 ≤ List.length l13))
 (bcase (decide (0 + n1 * 1 ≤ List.length l11))
 (∃ n4 : Int,
 ((Says C 75 [(D.agg [(D.val (vI x3)), (D.val (vI x4)), (D.sl (n5) 3 (List.take (n5 * 3) (List.drop 0 l13)))]), (D.val (vI x0)), (D.val (vI x8)), (D.sl (n1) 1 (List.take (n1 * 1) (List.drop 0 l11)))] [(D.val (vI n4))]) ∧
 (((Qv (Go.Value.agg [(vI n3), (vI n4)].toArray)) ∧
 ((Qv (Pt 1001 1)) ∧
 ((Qv (Pt 1001 0)) ∧
 True))) ∧
 (True ∧
 (k [(D.agg [(D.val (vI n3)), (D.val (vI n4))])])))))
 False)
 False))))
 False)
 False)) := by kernel_rfl
def gEx (C : Ct) (L : AtLoop) (x0 : Int) (x1 : Int) (n2 : Nat) (c2 : Nat) (l2 : List Value) (x3 : Int) (x4 : Int) (x5 : Int) (k : List D → Prop) : Prop := wpFn Tryz.prog (hC C) L 0 46 #[.agg #[.int .i64 x0, .int .i64 x1, .slice (some ⟨500, 0, none⟩) n2 c2], .int .i64 x3, .agg #[.int .i64 x4, .int .i64 x5]] (heapOf [(500, .sym l2 false 3)]) (dataK k)
theorem gEx_text (C : Ct) (L : AtLoop) (x0 : Int) (x1 : Int) (n2 : Nat) (c2 : Nat) (l2 : List Go.Value) (x3 : Int) (x4 : Int) (x5 : Int) (k : List D → Prop) : gEx C L x0 x1 n2 c2 l2 x3 x4 x5 k =
 (((Qv (vI x5)) ∧
 ((Qv (Pt 1001 1)) ∧
 ((Qv (vI x3)) ∧
 ((Qv (Go.Value.agg [(vI x0), (vI x1), (Sl 500 (n2) (c2))].toArray)) ∧
 ((Qv (vI x4)) ∧
 ((Qv (Pt 1001 0)) ∧
 ((Qv (vI x3)) ∧
 ((Qv (Go.Value.agg [(vI x0), (vI x1), (Sl 500 (n2) (c2))].toArray)) ∧
 True)))))))) ∧
 (bcase (decide (0 + n2 * 3 ≤ List.length l2))
 (∃ n1 : Int,
 ((Says C 77 [(D.agg [(D.val (vI x0)), (D.val (vI x1)), (D.sl (n2) 3 (List.take (n2 * 3) (List.drop 0 l2)))]), (D.val (vI x3)), (D.val (vI x4)), (D.val (Go.Value.func (Go.Fn.func 78) [].toArray [].toArray))] [(D.val (vI n1))]) ∧
 (((Qv (vI x5)) ∧
 ((Qv (Pt 1001 1)) ∧
 ((Qv (vI x3)) ∧
 ((Qv (Go.Value.agg [(vI x0), (vI x1), (Sl 500 (n2) (c2))].toArray)) ∧
 ((Qv (Pt 1001 0)) ∧
 True))))) ∧
 (bcase (decide (0 + n2 * 3 ≤ List.length l2))
 (∃ n3 : Int,
 ((Says C 77 [(D.agg [(D.val (vI x0)), (D.val (vI x1)), (D.sl (n2) 3 (List.take (n2 * 3) (List.drop 0 l2)))]), (D.val (vI x3)), (D.val (vI x5)), (D.val (Go.Value.func (Go.Fn.func 79) [].toArray [].toArray))] [(D.val (vI n3))]) ∧
 (((Qv (Go.Value.agg [(vI n1), (vI n3)].toArray)) ∧
 ((Qv (Pt 1001 1)) ∧
 ((Qv (Pt 1001 0)) ∧
 True))) ∧
 (True ∧
 (k [(D.agg [(D.val (vI n1)), (D.val (vI n3))])])))))
 False))))
 False)) := by kernel_rfl
end Go.Proofs.G5d

/- Numbers: greatest divisors, quotients rounded down, fractions in lowest terms. -/
namespace Go.Abs
theorem tdiv_nn {a b : Int} (h : 0 ≤ a) : a.tdiv b = a / b := Int.tdiv_eq_ediv_of_nonneg h
end Go.Abs

/- Chapter 8: a temperature under banks of water; no program in it. -/
namespace Go.Proofs.G8
open Go Go.Abs
theorem mul_bd {x r : Int} (hx : 0 ≤ x ∧ x ≤ 12000) (hr : 0 ≤ r ∧ r ≤ 1000) : 0 ≤ x * r ∧ x * r ≤ 12000000 := by
  refine ⟨Int.mul_nonneg hx.1 hr.1, ?_⟩
  have := Int.mul_le_mul hx.2 hr.2 hr.1 (show (0 : Int) ≤ 12000 by omega)
  omega
theorem stp_bd {w a r d : Int} {on : Bool} (ha : 0 ≤ a) (hw : 0 ≤ w) (hr : 0 ≤ r) (hd : 0 ≤ d ∧ d ≤ 12000) : 0 ≤ stp w a on r d ∧ stp w a on r d ≤ 12000 := by
  unfold stp
  simp only
  have : d > w → 0 ≤ (d - w) * r := fun h => Int.mul_nonneg (by omega) hr
  split
  · split
    · have := this (by rename_i h _; exact h.2)
      omega
    · omega
  · split <;> omega
theorem stp_on {w a r d : Int} (h : d > w) : stp w a true r d = if d - (d - w) * r / 1000 - a > 0 then d - (d - w) * r / 1000 - a else 0 := by
  unfold stp
  rw [if_pos (show true = true ∧ d > w from ⟨rfl, h⟩)]
theorem stp_off {w a r d : Int} {on : Bool} (h : ¬ (on = true ∧ d > w)) : stp w a on r d = if d - a > 0 then d - a else 0 := by
  unfold stp
  rw [if_neg h]
theorem prog_on {w a r d : Int} (hw : 0 ≤ w ∧ w ≤ 12000) (ha : 0 ≤ a ∧ a ≤ 100) (hr : 0 ≤ r ∧ r ≤ 1000) (hd : 0 ≤ d ∧ d ≤ 12000) :
    (if 0 > IntKind.wrap .i64 (IntKind.wrap .i64 (d - IntKind.wrap .i64 (Int.tdiv (IntKind.wrap .i64 ((if 0 > IntKind.wrap .i64 (d - w) then 0 else IntKind.wrap .i64 (d - w)) * r)) 1000)) - a) then 0 else IntKind.wrap .i64 (IntKind.wrap .i64 (d - IntKind.wrap .i64 (Int.tdiv (IntKind.wrap .i64 ((if 0 > IntKind.wrap .i64 (d - w) then 0 else IntKind.wrap .i64 (d - w)) * r)) 1000)) - a)) = stp w a true r d := by
  rw [w64 (z := d - w) (by omega) (by omega)]
  by_cases h : d > w
  · rw [if_neg (show ¬ 0 > d - w by omega)]
    have hm := mul_bd (x := d - w) ⟨by omega, by omega⟩ hr
    rw [w64 (z := (d - w) * r) (by omega) (by omega), tdiv_nn hm.1, w64 (z := (d - w) * r / 1000) (by omega) (by omega), w64 (z := d - (d - w) * r / 1000) (by omega) (by omega), w64 (by omega) (by omega)]
    rw [stp_on h]
    split <;> split <;> omega
  · have e : (if 0 > d - w then 0 else d - w) = 0 := by split <;> omega
    have e2 : IntKind.wrap .i64 (Int.tdiv (IntKind.wrap .i64 (0 * r)) 1000) = 0 := by rw [Int.zero_mul]; rfl
    rw [e, e2, Int.sub_zero, w64 (z := d) (by omega) (by omega), w64 (by omega) (by omega)]
    rw [stp_off (fun hh => h hh.2)]
    split <;> split <;> omega
theorem prog_off {w a r d : Int} (ha : 0 ≤ a ∧ a ≤ 100) (hd : 0 ≤ d ∧ d ≤ 12000) :
    (if 0 > IntKind.wrap .i64 (d - a) then 0 else IntKind.wrap .i64 (d - a)) = stp w a false r d := by
  rw [w64 (by omega) (by omega)]
  rw [stp_off (by simp)]
  split <;> split <;> omega
theorem ref_on {w a r d : Int} (hw : 0 ≤ w ∧ w ≤ 12000) (ha : 0 ≤ a ∧ a ≤ 100) (hr : 0 ≤ r ∧ r ≤ 1000) (hd : 0 ≤ d ∧ d ≤ 12000) (h : d > w) :
    (if IntKind.wrap .i64 (IntKind.wrap .i64 (d - IntKind.wrap .i64 (Int.tdiv (IntKind.wrap .i64 (IntKind.wrap .i64 (d - w) * r)) 1000)) - a) > 0 then IntKind.wrap .i64 (IntKind.wrap .i64 (d - IntKind.wrap .i64 (Int.tdiv (IntKind.wrap .i64 (IntKind.wrap .i64 (d - w) * r)) 1000)) - a) else 0) = stp w a true r d := by
  have hm := mul_bd (x := d - w) ⟨by omega, by omega⟩ hr
  rw [w64 (z := d - w) (by omega) (by omega), w64 (z := (d - w) * r) (by omega) (by omega), tdiv_nn hm.1, w64 (z := (d - w) * r / 1000) (by omega) (by omega), w64 (z := d - (d - w) * r / 1000) (by omega) (by omega), w64 (by omega) (by omega)]
  rw [stp_on h]
theorem ref_off {w a r d : Int} {on : Bool} (ha : 0 ≤ a ∧ a ≤ 100) (hd : 0 ≤ d ∧ d ≤ 12000) (h : ¬ (on = true ∧ d > w)) :
    (if IntKind.wrap .i64 (d - a) > 0 then IntKind.wrap .i64 (d - a) else 0) = stp w a on r d := by
  rw [w64 (by omega) (by omega), stp_off h]
/-- a set's bit, as a number -/
theorem land1 {q : Int} : ((BitVec.toNat (BitVec.ofInt 64 q &&& BitVec.ofInt 64 1) : Nat) : Int) = q % 2 := by
  rw [BitVec.toNat_and, BitVec.toNat_ofInt, show (BitVec.ofInt 64 1).toNat = 1 by decide, Nat.and_one_is_mod]
  omega
theorem fdiv_pow {s : Int} {b : Nat} (hb : b < 64) : Int.fdiv s (2 ^ Min.min (Int.toNat (b : Int)) 64) = s / 2 ^ b := by
  rw [Int.toNat_natCast, show Min.min b 64 = b from Nat.min_eq_left (by omega), Int.fdiv_eq_ediv_of_nonneg _ (Int.pow_nonneg (by omega))]
theorem div_small {s : Int} {b : Nat} (hs : 0 ≤ s ∧ s < 16) : 0 ≤ s / 2 ^ b ∧ s / 2 ^ b < 16 := by
  have hp : (0 : Int) < 2 ^ b := Int.pow_pos (by omega)
  refine ⟨Int.ediv_nonneg hs.1 (by omega), ?_⟩
  have := Int.ediv_le_self (2 ^ b : Int) hs.1
  omega
end Go.Proofs.G8

/- Chapter 8: sets, temperatures after the banks, what is available, in data. -/
namespace Go.Proofs.G5d
open Go Go.Abs Go.Proofs Go.Proofs.G8
set_option maxRecDepth 100000
theorem preCOK : PreOK Tryz.prog (preC C5) := by
  intro g h he args ats H k hk
  unfold preC at he
  rcases ite_so he with ⟨e, rfl⟩ | he
  · rw [beq_iff_eq] at e
    subst e
    exact wpState_call (fun args bs K hk => lim_ok limGood hk) hk
  rcases ite_so he with ⟨e, rfl⟩ | he
  · exact fixH_ok (fun _ _ _ h => h) _ _ _ _ _ hk
  rcases ite_so he with ⟨e, rfl⟩ | he
  · exact fixH_ok (fun _ _ _ h => h) _ _ _ _ _ hk
  rcases ite_so he with ⟨e, rfl⟩ | he
  · exact fixH_ok (fun _ _ _ h => h) _ _ _ _ _ hk
  rcases ite_so he with ⟨e, rfl⟩ | he
  · exact fixH_ok (fun _ _ _ h => h) _ _ _ _ _ hk
  rcases ite_so he with ⟨e, rfl⟩ | he
  · exact saidH_ok (fun _ _ _ h => h) _ _ _ _ _ hk
  · cases he
theorem hokC : HandlerOK Tryz.prog (hC C5) := handlerX_ok mixed preCOK (by decide) 6
/-! ### copies -/
theorem conCI (l : List Int) (hl : l.length ≤ 1000000) : C5 11 [.sl l.length 1 (vi l)] [.sl l.length 1 (vi l)] := by
  refine con_flat hokE mixed Tryz.func11 rfl (by show 1 ≤ 400; omega) rfl (by kernel_rfl) (fun caps => ?_)
  show gCI _ _ l.length (caps 500) (vi l) _
  rw [gCI_text]
  refine bc_yes (by simp) (bc_beq (fun h0 => ⟨⟨rfl, rfl⟩, ?_⟩) (fun h0 => bc_yes (by omega) (bc_yes (by omega) (bc_yes (by omega) ⟨⟨rfl, by simp⟩, ?_⟩))))
  · obtain rfl : l = [] := List.length_eq_zero_iff.1 h0
    rfl
  · rw [vi_whole, Nat.zero_add, List.nil_append]
theorem conCIn : C5 11 [.nil] [.sl 0 1 []] := by
  refine con_flat hokE mixed Tryz.func11 rfl (by show 0 ≤ 400; omega) rfl (by kernel_rfl) (fun caps => ?_)
  show gCIn _ _ _
  rw [gCIn_text]
  exact ⟨⟨rfl, rfl⟩, rfl⟩
theorem conCR (l : List Pr) (hl : l.length ≤ 1000000) : C5 33 [.sl l.length 2 (vp l)] [.sl l.length 2 (vp l)] := by
  refine con_flat hokE mixed Tryz.func33 rfl (by show 1 ≤ 400; omega) rfl (by kernel_rfl) (fun caps => ?_)
  show gCR _ _ l.length (caps 500) (vp l) _
  rw [gCR_text]
  refine bc_yes (by simp) (bc_beq (fun h0 => ⟨⟨rfl, rfl⟩, ?_⟩) (fun h0 => bc_yes (by omega) (bc_yes (by omega) (bc_yes (by omega) ⟨⟨rfl, by simp⟩, ?_⟩))))
  · obtain rfl : l = [] := List.length_eq_zero_iff.1 h0
    rfl
  · rw [vp_whole, Nat.zero_add, List.nil_append]
theorem conCRn : C5 33 [.nil] [.sl 0 2 []] := by
  refine con_flat hokE mixed Tryz.func33 rfl (by show 0 ≤ 400; omega) rfl (by kernel_rfl) (fun caps => ?_)
  show gCRn _ _ _
  rw [gCRn_text]
  exact ⟨⟨rfl, rfl⟩, rfl⟩
theorem conCy (w a : Int) (l : List Tr) (hl : l.length ≤ 1000000) : C5 10 [dT w a l] [dT w a l] := by
  refine con_flat hokE mixed Tryz.func10 rfl (by show 1 ≤ 400; omega) rfl (by kernel_rfl) (fun caps => ?_)
  show gCy _ _ w a l.length (caps 500) (trs l) _
  rw [gCy_text]
  refine bc_yes (by simp) (bc_beq (fun h0 => ⟨⟨rfl, rfl⟩, ?_⟩) (fun h0 => bc_yes (by omega) (bc_yes (by omega) (bc_yes (by omega) ⟨⟨rfl, by simp⟩, ?_⟩))))
  · obtain rfl : l = [] := List.length_eq_zero_iff.1 h0
    rfl
  · rw [trs_whole, Nat.zero_add, List.nil_append]
theorem conCyn (w a : Int) : C5 10 [.agg [dI w, dI a, .nil]] [.agg [dI w, dI a, .sl 0 3 []]] := by
  refine con_flat hokE mixed Tryz.func10 rfl (by show 0 ≤ 400; omega) rfl (by kernel_rfl) (fun caps => ?_)
  show gCyn _ _ w a _
  rw [gCyn_text]
  exact ⟨⟨rfl, rfl⟩, rfl⟩
/-! ### valid tables -/
structure TV (w a : Int) (l : List Tr) : Prop where
  w0 : 0 ≤ w ∧ w ≤ 12000
  a0 : 0 ≤ a ∧ a ≤ 100
  n0 : 1 ≤ l.length ∧ l.length ≤ 4
  b0 : ∀ p ∈ l, (0 ≤ p.1 ∧ p.1 ≤ p.2.1 ∧ p.2.1 ≤ 1000) ∧ 0 ≤ p.2.2 ∧ p.2.2 ≤ 8
theorem bankE_ok {a b d : Int} : bankE a b d = 0 ↔ (0 ≤ a ∧ a ≤ b ∧ b ≤ 1000) ∧ 0 ≤ d ∧ d ≤ 8 := by
  unfold bankE
  repeat' split
  all_goals omega
theorem fbL_ok : ∀ {l : List Tr} {k : Int}, (fbL k (trs l)).2 = 0 ↔ ∀ p ∈ l, (0 ≤ p.1 ∧ p.1 ≤ p.2.1 ∧ p.2.1 ≤ 1000) ∧ 0 ≤ p.2.2 ∧ p.2.2 ≤ 8
  | [], k => by simp [trs, fbL]
  | p :: r, k => by
    have e : fbL k (trs (p :: r)) = if bankE p.1 p.2.1 p.2.2 = 0 then fbL (k + 1) (trs r) else (k, bankE p.1 p.2.1 p.2.2) := rfl
    rw [e, List.forall_mem_cons (p := fun p : Tr => (0 ≤ p.1 ∧ p.1 ≤ p.2.1 ∧ p.2.1 ≤ 1000) ∧ 0 ≤ p.2.2 ∧ p.2.2 ≤ 8)]
    by_cases h : bankE p.1 p.2.1 p.2.2 = 0
    · rw [if_pos h, fbL_ok]
      exact ⟨fun x => ⟨bankE_ok.1 h, x⟩, fun x => x.2⟩
    · rw [if_neg h]
      exact ⟨fun x => absurd x h, fun x => absurd (bankE_ok.2 x.1) h⟩
theorem headE_ok {w a : Int} {n : Nat} : headE w a n = 0 ↔ (0 ≤ w ∧ w ≤ 12000) ∧ (0 ≤ a ∧ a ≤ 100) ∧ 1 ≤ n ∧ n ≤ 4 := by
  unfold headE
  split
  · rw [cntE_ok]; omega
  · omega
theorem ctE_ok {w a : Int} {l : List Tr} : ctE w a l = 0 ↔ TV w a l := by
  unfold ctE
  constructor
  · intro h
    split at h
    · rename_i h1
      have h2 := headE_ok.1 h1
      exact ⟨h2.1, h2.2.1, h2.2.2, fbL_ok.1 h⟩
    · rename_i h1; exact absurd h h1
  · intro h
    rw [if_pos (headE_ok.2 ⟨h.w0, h.a0, h.n0⟩)]
    exact fbL_ok.2 h.b0
/-! ### sets -/
theorem p2 : ∀ {n : Nat}, n ≤ 4 → IntKind.wrap .i64 (1 * 2 ^ Min.min (Int.toNat (n : Int)) 64) = 2 ^ n
  | 0, _ | 1, _ | 2, _ | 3, _ | 4, _ => by rfl
  | n + 5, h => absurd h (by omega)
theorem p2b : ∀ {n : Nat}, n ≤ 4 → (1 : Int) ≤ 2 ^ n ∧ (2 : Int) ^ n ≤ 16
  | 0, _ | 1, _ | 2, _ | 3, _ | 4, _ => by decide
  | n + 5, h => absurd h (by omega)
def setE (n : Nat) (s : Int) : Int := if 0 ≤ s ∧ s ≤ 2 ^ n - 1 then 0 else 2
theorem setE_ok {n : Nat} {s : Int} : setE n s = 0 ↔ 0 ≤ s ∧ s ≤ 2 ^ n - 1 := by
  unfold setE; split <;> omega
theorem set16 {n : Nat} {s : Int} (hn : n ≤ 4) (h : 0 ≤ s ∧ s ≤ 2 ^ n - 1) : 0 ≤ s ∧ s < 16 := by
  have := p2b hn
  omega
theorem conCn (w a : Int) (l : List Tr) (hn : l.length ≤ 4) : C5 95 [dT w a l] [dI (2 ^ l.length)] := by
  refine con_flat hokA mixed Tryz.func95 rfl (by show 1 ≤ 400; omega) rfl (by kernel_rfl) (fun caps => ?_)
  show gCn _ _ w a l.length (caps 500) (trs l) _
  rw [gCn_text, p2 hn]
theorem conSE (w a : Int) (l : List Tr) (hn : l.length ≤ 4) (s : Int) : C5 73 [dT w a l, dI s] [dI (setE l.length s)] := by
  have hb := p2b hn
  refine con_flat hokA mixed Tryz.func73 rfl (by show 1 ≤ 400; omega) rfl (by kernel_rfl) (fun caps => ?_)
  show gSE _ _ w a l.length (caps 500) (trs l) s _
  rw [gSE_text, trs_whole, bc_t (v3le l)]
  refine ⟨_, ⟨conCn w a l hn⟩, ?_⟩
  rw [w64 (by omega) (by omega), setE]
  by_cases h : 0 ≤ s ∧ s ≤ 2 ^ l.length - 1
  · exact .inl ⟨sayWt h, by rw [if_pos h] <;> trivial⟩
  · exact .inr ⟨sayWf h, by rw [if_neg h] <;> trivial⟩
theorem concS (w a : Int) (l : List Tr) (hn : l.length ≤ 4) (s : Int) : C5 45 [dT w a l, dI s] [dI (setE l.length s)] := by
  have hb := p2b hn
  refine con_flat hokA mixed Tryz.func45 rfl (by show 1 ≤ 400; omega) rfl (by kernel_rfl) (fun caps => ?_)
  show gcS _ _ w a l.length (caps 500) (trs l) s _
  rw [gcS_text, p2 hn, w64 (by omega) (by omega)]
  exact ⟨_, lim_s1, rfl⟩
theorem concSn (w a : Int) (s : Int) : C5 45 [.agg [dI w, dI a, .nil], dI s] [dI (setE 0 s)] := by
  refine con_flat hokA mixed Tryz.func45 rfl (by show 0 ≤ 400; omega) rfl (by kernel_rfl) (fun caps => ?_)
  show gcSn _ _ w a s _
  rw [gcSn_text]
  exact ⟨_, lim_s1, rfl⟩
theorem conIn (s : Int) (b : Nat) (hs : 0 ≤ s ∧ s < 16) (hb : b < 64) : C5 96 [dI s, dI b] [.val (.bool (inB s b))] := by
  refine con_flat hokA mixed Tryz.func96 rfl (by show 0 ≤ 400; omega) rfl (by kernel_rfl) (fun caps => ?_)
  show gIn _ _ s b _
  have h2 := div_small (b := b) hs
  rw [gIn_text, fdiv_pow hb, Int.tmod_eq_emod_of_nonneg h2.1, bc_t (show (0 : Int) ≤ (b : Int) by omega)]
  refine bc_beq (fun h => ?_) (fun h => ?_)
  · rw [inB, decide_eq_true h] <;> trivial
  · rw [inB, decide_eq_false h] <;> trivial
theorem conHa (s : Int) (b : Nat) (hb : b < 64) : C5 57 [dI s, dI b] [.val (.bool (inB s b))] := by
  refine con_flat hokA mixed Tryz.func57 rfl (by show 0 ≤ 400; omega) rfl (by kernel_rfl) (fun caps => ?_)
  show gHa _ _ s b _
  rw [gHa_text, fdiv_pow hb, bc_t (show (0 : Int) ≤ (b : Int) by omega), land1, w64 (by omega) (by omega)]
  refine bc_beq (fun h => ?_) (fun h => ?_)
  · rw [inB, decide_eq_true h] <;> trivial
  · rw [inB, decide_eq_false h] <;> trivial
theorem sayHt {s : Int} {b : Nat} (hb : b < 64) (h : inB s b = true) : Says C5 57 [dI s, dI b] [.val (.bool true)] := by
  have := conHa s b hb
  rw [h] at this
  exact ⟨this⟩
theorem sayHf {s : Int} {b : Nat} (hb : b < 64) (h : inB s b = false) : Says C5 57 [dI s, dI b] [.val (.bool false)] := by
  have := conHa s b hb
  rw [h] at this
  exact ⟨this⟩
theorem sayNt {s : Int} {b : Nat} (hs : 0 ≤ s ∧ s < 16) (hb : b < 64) (h : inB s b = true) : Says C5 96 [dI s, dI b] [.val (.bool true)] := by
  have := conIn s b hs hb
  rw [h] at this
  exact ⟨this⟩
theorem sayNf {s : Int} {b : Nat} (hs : 0 ≤ s ∧ s < 16) (hb : b < 64) (h : inB s b = false) : Says C5 96 [dI s, dI b] [.val (.bool false)] := by
  have := conIn s b hs hb
  rw [h] at this
  exact ⟨this⟩
/-! ### temperatures -/
abbrev his (l : List Tr) : List Int := l.map fun p => p.2.1
abbrev los (l : List Tr) : List Int := l.map fun p => p.1
theorem drop_hi {l : List Tr} {i : Nat} (h : i < l.length) : (his l).drop i = (tp l i).2.1 :: (his l).drop (i + 1) := by
  rw [List.drop_eq_getElem_cons (by simpa using h), ← tp_at h]; simp
theorem drop_lo {l : List Tr} {i : Nat} (h : i < l.length) : (los l).drop i = (tp l i).1 :: (los l).drop (i + 1) := by
  rw [List.drop_eq_getElem_cons (by simpa using h), ← tp_at h]; simp
theorem drop_gd {l : List Int} {i : Nat} (h : i < l.length) : l.drop i = gd l i :: l.drop (i + 1) := by
  rw [List.drop_eq_getElem_cons h, gd_at h]
theorem TV.hi {w a : Int} {l : List Tr} (h : TV w a l) : ∀ r ∈ his l, 0 ≤ r ∧ r ≤ 1000 := by
  intro r hr
  obtain ⟨p, hp, rfl⟩ := List.mem_map.1 hr
  have := h.b0 p hp
  omega
theorem TV.lo {w a : Int} {l : List Tr} (h : TV w a l) : ∀ r ∈ los l, 0 ≤ r ∧ r ≤ 1000 := by
  intro r hr
  obtain ⟨p, hp, rfl⟩ := List.mem_map.1 hr
  have := h.b0 p hp
  omega
theorem conP1 {w a : Int} {l : List Tr} (h : TV w a l) (s d : Int) (hd : 0 ≤ d ∧ d ≤ 12000) : C5 77 [dT w a l, dI s, dI d, .val (.func (.func 78) #[] #[])] [dI (aft w a s 0 (his l) d)] := by
  have hn := h.n0
  let inv : Nat × Int × Nat → Prop := fun x => x.1 ≤ l.length ∧ (0 ≤ x.2.1 ∧ x.2.1 ≤ 12000) ∧ aft w a s 0 (his l) d = aft w a s x.1 ((his l).drop x.1) x.2.1
  let st : Nat × Int × Nat → Slots × Blocks := fun x => zP11 s x.2.1 l.length x.2.2 l.length x.1 w a l.length x.2.2 (trs l)
  refine con_of (L := fun _ s b => ∃ x, inv x ∧ st x = (s, b)) hokC mixed Tryz.func77 rfl (by show 1 ≤ 400; omega) rfl (ids := [0]) (by kernel_rfl) rfl (fun caps => ?_) (fun id hid => ?_)
  · show gP1 _ _ w a l.length (caps 500) (trs l) s d _
    rw [gP1_text]
    exact ⟨(0, d, caps 500), ⟨Nat.zero_le _, hd, rfl⟩, rfl⟩
  · obtain rfl := List.mem_singleton.1 hid
    refine ⟨Nat × Int × Nat, st, inv, fun x => l.length - x.1, ⟨fun s b h => h, by kernel_rfl, ?_⟩⟩
    rintro ⟨i, e, cap⟩ ⟨hi, he, hr⟩
    simp only at hi hr he
    show rP11 _ _ s e l.length cap l.length i w a l.length cap (trs l) _ _ _
    rw [rP11_text]
    refine bc_dec (fun h1 => ?_) (fun h1 => ?_)
    · have hi1 : i < l.length := by omega
      have hb := h.b0 _ (tp_mem hi1)
      rw [drop_hi hi1, aft] at hr
      have e1 := prog_on (r := (tp l i).2.1) h.w0 h.a0 ⟨by omega, by omega⟩ he
      have e2 := prog_off (w := w) (r := (tp l i).2.1) h.a0 he
      simp only [bc_t h1, bc_t (show (0 : Int) ≤ (i : Int) by omega), Int.toNat_natCast, at3 (at_tp hi1), eq_self, true_and, wi1 hi1 (show l.length < 1000000000 by omega), e1, e2]
      cases hin : inB s i with
      | true =>
        rw [hin] at hr
        exact .inl ⟨sayHt (by omega) hin, (i + 1, stp w a true (tp l i).2.1 e, cap), ⟨hi1, stp_bd h.a0.1 h.w0.1 (by omega) he, hr⟩, by show l.length - (i + 1) < l.length - i; omega, rfl⟩
      | false =>
        rw [hin] at hr
        exact .inr ⟨sayHf (by omega) hin, (i + 1, stp w a false (tp l i).2.1 e, cap), ⟨hi1, stp_bd h.a0.1 h.w0.1 (by omega) he, hr⟩, by show l.length - (i + 1) < l.length - i; omega, rfl⟩
    · show (if 0 = 0 then _ else _)
      rw [if_pos rfl]
      show nP12 _ _ e _
      rw [nP12_text]
      rw [List.drop_eq_nil_of_le (by simp; omega)] at hr
      show _ = _; rw [hr]; rfl
theorem conP2 {w a : Int} {l : List Tr} (h : TV w a l) (s d : Int) (hd : 0 ≤ d ∧ d ≤ 12000) : C5 77 [dT w a l, dI s, dI d, .val (.func (.func 79) #[] #[])] [dI (aft w a s 0 (los l) d)] := by
  have hn := h.n0
  let inv : Nat × Int × Nat → Prop := fun x => x.1 ≤ l.length ∧ (0 ≤ x.2.1 ∧ x.2.1 ≤ 12000) ∧ aft w a s 0 (los l) d = aft w a s x.1 ((los l).drop x.1) x.2.1
  let st : Nat × Int × Nat → Slots × Blocks := fun x => zP21 s x.2.1 l.length x.2.2 l.length x.1 w a l.length x.2.2 (trs l)
  refine con_of (L := fun _ s b => ∃ x, inv x ∧ st x = (s, b)) hokC mixed Tryz.func77 rfl (by show 1 ≤ 400; omega) rfl (ids := [0]) (by kernel_rfl) rfl (fun caps => ?_) (fun id hid => ?_)
  · show gP2 _ _ w a l.length (caps 500) (trs l) s d _
    rw [gP2_text]
    exact ⟨(0, d, caps 500), ⟨Nat.zero_le _, hd, rfl⟩, rfl⟩
  · obtain rfl := List.mem_singleton.1 hid
    refine ⟨Nat × Int × Nat, st, inv, fun x => l.length - x.1, ⟨fun s b h => h, by kernel_rfl, ?_⟩⟩
    rintro ⟨i, e, cap⟩ ⟨hi, he, hr⟩
    simp only at hi hr he
    show rP21 _ _ s e l.length cap l.length i w a l.length cap (trs l) _ _ _
    rw [rP21_text]
    refine bc_dec (fun h1 => ?_) (fun h1 => ?_)
    · have hi1 : i < l.length := by omega
      have hb := h.b0 _ (tp_mem hi1)
      rw [drop_lo hi1, aft] at hr
      have e1 := prog_on (r := (tp l i).1) h.w0 h.a0 ⟨by omega, by omega⟩ he
      have e2 := prog_off (w := w) (r := (tp l i).1) h.a0 he
      simp only [bc_t h1, bc_t (show (0 : Int) ≤ (i : Int) by omega), Int.toNat_natCast, at3 (at_tp hi1), eq_self, true_and, wi1 hi1 (show l.length < 1000000000 by omega), e1, e2]
      cases hin : inB s i with
      | true =>
        rw [hin] at hr
        exact .inl ⟨sayHt (by omega) hin, (i + 1, stp w a true (tp l i).1 e, cap), ⟨hi1, stp_bd h.a0.1 h.w0.1 (by omega) he, hr⟩, by show l.length - (i + 1) < l.length - i; omega, rfl⟩
      | false =>
        rw [hin] at hr
        exact .inr ⟨sayHf (by omega) hin, (i + 1, stp w a false (tp l i).1 e, cap), ⟨hi1, stp_bd h.a0.1 h.w0.1 (by omega) he, hr⟩, by show l.length - (i + 1) < l.length - i; omega, rfl⟩
    · show (if 0 = 0 then _ else _)
      rw [if_pos rfl]
      show nP22 _ _ e _
      rw [nP22_text]
      rw [List.drop_eq_nil_of_le (by simp; omega)] at hr
      show _ = _; rw [hr]; rfl
theorem conAf {w a : Int} {l : List Tr} (h : TV w a l) (s d : Int) (hs : 0 ≤ s ∧ s < 16) (hd : 0 ≤ d ∧ d ≤ 12000) (rs : List Int) (hrl : rs.length = l.length) (hrs : ∀ r ∈ rs, 0 ≤ r ∧ r ≤ 1000) : C5 75 [dT w a l, dI s, dI d, .sl rs.length 1 (vi rs)] [dI (aft w a s 0 rs d)] := by
  have hn := h.n0
  let inv : Nat × Int × Nat × Nat → Prop := fun x => x.1 ≤ l.length ∧ (0 ≤ x.2.1 ∧ x.2.1 ≤ 12000) ∧ aft w a s 0 rs d = aft w a s x.1 (rs.drop x.1) x.2.1
  let st : Nat × Int × Nat × Nat → Slots × Blocks := fun x => zAf1 s x.2.1 rs.length x.2.2.1 x.1 (vi rs) w a l.length x.2.2.2 (trs l)
  refine con_of (L := fun _ s b => ∃ x, inv x ∧ st x = (s, b)) hokC mixed Tryz.func75 rfl (by show 2 ≤ 400; omega) rfl (ids := [0]) (by kernel_rfl) rfl (fun caps => ?_) (fun id hid => ?_)
  · show gAf _ _ w a l.length (caps 500) (trs l) s d rs.length (caps 501) (vi rs) _
    rw [gAf_text]
    exact ⟨(0, d, caps 501, caps 500), ⟨Nat.zero_le _, hd, rfl⟩, rfl⟩
  · obtain rfl := List.mem_singleton.1 hid
    refine ⟨Nat × Int × Nat × Nat, st, inv, fun x => l.length - x.1, ⟨fun s b h => h, by kernel_rfl, ?_⟩⟩
    rintro ⟨i, e, c1, c2⟩ ⟨hi, he, hr⟩
    simp only at hi hr he
    show rAf1 _ _ s e rs.length c1 i (vi rs) w a l.length c2 (trs l) _ _ _
    rw [rAf1_text]
    refine bc_dec (fun h1 => ?_) (fun h1 => ?_)
    · have hi1 : i < l.length := by omega
      have hi2 : i < rs.length := by omega
      have hb := hrs _ (show gd rs i ∈ rs by rw [← gd_at hi2]; exact List.getElem_mem hi2)
      rw [drop_gd hi2, aft] at hr
      simp only [bc_t (show (i : Int) < (rs.length : Int) by omega), bc_t (show (0 : Int) ≤ (i : Int) by omega), Int.toNat_natCast, at1 (at_gd hi2), eq_self, true_and, and_true, wi1 hi1 (show l.length < 1000000000 by omega)]
      cases hin : inB s i with
      | true =>
        rw [hin] at hr
        refine .inl ⟨sayNt hs (by omega) hin, bc_dec (fun h2 => ?_) (fun h2 => ?_)⟩
        · rw [ref_on h.w0 h.a0 hb he h2]
          exact ⟨(i + 1, stp w a true (gd rs i) e, c1, c2), ⟨hi1, stp_bd h.a0.1 h.w0.1 (by omega) he, hr⟩, by show l.length - (i + 1) < l.length - i; omega, rfl⟩
        · rw [ref_off (w := w) (r := gd rs i) (on := true) h.a0 he (fun hh => h2 hh.2)]
          exact ⟨(i + 1, stp w a true (gd rs i) e, c1, c2), ⟨hi1, stp_bd h.a0.1 h.w0.1 (by omega) he, hr⟩, by show l.length - (i + 1) < l.length - i; omega, rfl⟩
      | false =>
        rw [hin] at hr
        refine .inr ⟨sayNf hs (by omega) hin, ?_⟩
        rw [ref_off (w := w) (r := gd rs i) (on := false) h.a0 he (fun hh => by simp at hh)]
        exact ⟨(i + 1, stp w a false (gd rs i) e, c1, c2), ⟨hi1, stp_bd h.a0.1 h.w0.1 (by omega) he, hr⟩, by show l.length - (i + 1) < l.length - i; omega, rfl⟩
    · show (if 0 = 0 then _ else _)
      rw [if_pos rfl]
      show nAf2 _ _ e _
      rw [nAf2_text]
      rw [List.drop_eq_nil_of_le (by omega)] at hr
      show _ = _; rw [hr]; rfl
theorem conEx {w a : Int} {l : List Tr} (h : TV w a l) (s x y : Int) (hx : 0 ≤ x ∧ x ≤ 12000) (hy : 0 ≤ y ∧ y ≤ 12000) : C5 46 [dT w a l, dI s, .agg [dI x, dI y]] [.agg [dI (aft w a s 0 (his l) x), dI (aft w a s 0 (los l) y)]] := by
  refine con_flat hokC mixed Tryz.func46 rfl (by show 1 ≤ 400; omega) rfl (by kernel_rfl) (fun caps => ?_)
  show gEx _ _ w a l.length (caps 500) (trs l) s x y _
  rw [gEx_text]
  simp only [eq_self, true_and, and_true, trs_whole, bc_t (v3le l)]
  exact ⟨_, ⟨conP1 h s x hx⟩, _, ⟨conP2 h s y hy⟩, by trivial⟩
/-! ### what is available -/
def avl (g : Int) : Nat → List Tr → Int
  | _, [] => 0
  | b, t :: r => (if g + b ≥ t.2.2 then 2 ^ b else 0) + avl g (b + 1) r
theorem w1' : IntKind.wrap .i64 (0 + 1) = 1 := rfl
theorem w2' : IntKind.wrap .i64 (1 + 1) = 2 := rfl
theorem w3' : IntKind.wrap .i64 (2 + 1) = 3 := rfl
theorem avl1 (g : Int) (p : Tr) : avl g 0 [p] = (if g ≥ p.2.2 then 1 else 0) := by
  simp [avl]
theorem avl2 (g : Int) (p q : Tr) : avl g 0 [p, q] = (if g ≥ p.2.2 then 1 else 0) + (if g + 1 ≥ q.2.2 then 2 else 0) := by
  simp [avl]
theorem avl3 (g : Int) (p q r : Tr) : avl g 0 [p, q, r] = (if g ≥ p.2.2 then 1 else 0) + ((if g + 1 ≥ q.2.2 then 2 else 0) + (if g + 2 ≥ r.2.2 then 4 else 0)) := by
  simp [avl]
theorem avl4 (g : Int) (p q r t : Tr) : avl g 0 [p, q, r, t] = (if g ≥ p.2.2 then 1 else 0) + ((if g + 1 ≥ q.2.2 then 2 else 0) + ((if g + 2 ≥ r.2.2 then 4 else 0) + (if g + 3 ≥ t.2.2 then 8 else 0))) := by
  simp [avl]
theorem conV {w a : Int} {l : List Tr} (h : TV w a l) (g : Int) (hg : 0 ≤ g ∧ g ≤ 1000000) : C5 94 [dT w a l, dI g] [dI (avl g 0 l)] := by
  have hn := h.n0
  have hb := h.b0
  have w0 : IntKind.wrap .i64 (g + 0) = g := by rw [w64 (by omega) (by omega)]; omega
  have w1 : IntKind.wrap .i64 (g + 1) = g + 1 := w64 (by omega) (by omega)
  have w2 : IntKind.wrap .i64 (g + 2) = g + 2 := w64 (by omega) (by omega)
  have w3 : IntKind.wrap .i64 (g + 3) = g + 3 := w64 (by omega) (by omega)
  refine con_walk hokC mixed (u := 8) (by decide) Tryz.func94 rfl (by show 1 ≤ 400; omega) (fun caps => ?_)
  match l, hn, hb with
  | [], hn, _ => exact absurd hn.1 (by decide)
  | [p], _, hb =>
    have hp := (hb p (by simp)).2
    show gV1 _ w a (caps 500) p.1 p.2.1 p.2.2 g _
    rw [gV1_text, avl1]
    simp only [at1 (show At [vI p.1, vI p.2.1, vI p.2.2] 2 1 [vI p.2.2] from ⟨by simp, rfl⟩), w0, w64 (z := g - p.2.2) (by omega) (by omega)]
    repeat' refine bc_dec (fun _ => ?_) (fun _ => ?_)
    all_goals (show [dI _] = [dI _]; repeat' split)
    all_goals first | rfl | omega
  | [p, q], _, hb =>
    have hp := (hb p (by simp)).2
    have hq := (hb q (by simp)).2
    show gV2 _ w a (caps 500) p.1 p.2.1 p.2.2 q.1 q.2.1 q.2.2 g _
    rw [gV2_text, avl2]
    have a2 : At [vI p.1, vI p.2.1, vI p.2.2, vI q.1, vI q.2.1, vI q.2.2] 2 1 [vI p.2.2] := ⟨by simp, rfl⟩
    have a5 : At [vI p.1, vI p.2.1, vI p.2.2, vI q.1, vI q.2.1, vI q.2.2] 5 1 [vI q.2.2] := ⟨by simp, rfl⟩
    simp only [at1 a2, at1 a5, w1', w0, w1, w64 (z := g - p.2.2) (by omega) (by omega), w64 (z := g + 1 - q.2.2) (by omega) (by omega)]
    repeat' refine bc_dec (fun _ => ?_) (fun _ => ?_)
    all_goals (show [dI _] = [dI _]; repeat' split)
    all_goals first | rfl | omega
  | [p, q, r], _, hb =>
    have hp := (hb p (by simp)).2
    have hq := (hb q (by simp)).2
    have hr := (hb r (by simp)).2
    show gV3 _ w a (caps 500) p.1 p.2.1 p.2.2 q.1 q.2.1 q.2.2 r.1 r.2.1 r.2.2 g _
    rw [gV3_text, avl3]
    have a2 : At [vI p.1, vI p.2.1, vI p.2.2, vI q.1, vI q.2.1, vI q.2.2, vI r.1, vI r.2.1, vI r.2.2] 2 1 [vI p.2.2] := ⟨by simp, rfl⟩
    have a5 : At [vI p.1, vI p.2.1, vI p.2.2, vI q.1, vI q.2.1, vI q.2.2, vI r.1, vI r.2.1, vI r.2.2] 5 1 [vI q.2.2] := ⟨by simp, rfl⟩
    have a8 : At [vI p.1, vI p.2.1, vI p.2.2, vI q.1, vI q.2.1, vI q.2.2, vI r.1, vI r.2.1, vI r.2.2] 8 1 [vI r.2.2] := ⟨by simp, rfl⟩
    simp only [at1 a2, at1 a5, at1 a8, w1', w2', w0, w1, w2, w64 (z := g - p.2.2) (by omega) (by omega), w64 (z := g + 1 - q.2.2) (by omega) (by omega), w64 (z := g + 2 - r.2.2) (by omega) (by omega)]
    repeat' refine bc_dec (fun _ => ?_) (fun _ => ?_)
    all_goals (show [dI _] = [dI _]; repeat' split)
    all_goals first | rfl | omega
  | [p, q, r, t], _, hb =>
    have hp := (hb p (by simp)).2
    have hq := (hb q (by simp)).2
    have hr := (hb r (by simp)).2
    have ht := (hb t (by simp)).2
    show gV4 _ w a (caps 500) p.1 p.2.1 p.2.2 q.1 q.2.1 q.2.2 r.1 r.2.1 r.2.2 t.1 t.2.1 t.2.2 g _
    rw [gV4_text, avl4]
    have a2 : At [vI p.1, vI p.2.1, vI p.2.2, vI q.1, vI q.2.1, vI q.2.2, vI r.1, vI r.2.1, vI r.2.2, vI t.1, vI t.2.1, vI t.2.2] 2 1 [vI p.2.2] := ⟨by simp, rfl⟩
    have a5 : At [vI p.1, vI p.2.1, vI p.2.2, vI q.1, vI q.2.1, vI q.2.2, vI r.1, vI r.2.1, vI r.2.2, vI t.1, vI t.2.1, vI t.2.2] 5 1 [vI q.2.2] := ⟨by simp, rfl⟩
    have a8 : At [vI p.1, vI p.2.1, vI p.2.2, vI q.1, vI q.2.1, vI q.2.2, vI r.1, vI r.2.1, vI r.2.2, vI t.1, vI t.2.1, vI t.2.2] 8 1 [vI r.2.2] := ⟨by simp, rfl⟩
    have aB : At [vI p.1, vI p.2.1, vI p.2.2, vI q.1, vI q.2.1, vI q.2.2, vI r.1, vI r.2.1, vI r.2.2, vI t.1, vI t.2.1, vI t.2.2] 11 1 [vI t.2.2] := ⟨by simp, rfl⟩
    simp only [at1 a2, at1 a5, at1 a8, at1 aB, w1', w2', w3', w0, w1, w2, w3, w64 (z := g - p.2.2) (by omega) (by omega), w64 (z := g + 1 - q.2.2) (by omega) (by omega), w64 (z := g + 2 - r.2.2) (by omega) (by omega), w64 (z := g + 3 - t.2.2) (by omega) (by omega)]
    repeat' refine bc_dec (fun _ => ?_) (fun _ => ?_)
    all_goals (show [dI _] = [dI _]; repeat' split)
    all_goals first | rfl | omega
  | _ :: _ :: _ :: _ :: _ :: _, hn, _ => exact absurd hn.2 (by simp only [List.length_cons]; omega)
theorem conA {w a : Int} {l : List Tr} (h : TV w a l) (g : Int) (hg : 0 ≤ g ∧ g ≤ 1000000) : C5 74 [dT w a l, dI g] [dI (avl g 0 l)] := by
  have hn := h.n0
  have hb := h.b0
  have w0 : IntKind.wrap .i64 (g + 0) = g := by rw [w64 (by omega) (by omega)]; omega
  have w1 : IntKind.wrap .i64 (g + 1) = g + 1 := w64 (by omega) (by omega)
  have w2 : IntKind.wrap .i64 (g + 2) = g + 2 := w64 (by omega) (by omega)
  have w3 : IntKind.wrap .i64 (g + 3) = g + 3 := w64 (by omega) (by omega)
  refine con_walk hokC mixed (u := 8) (by decide) Tryz.func74 rfl (by show 1 ≤ 400; omega) (fun caps => ?_)
  match l, hn, hb with
  | [], hn, _ => exact absurd hn.1 (by decide)
  | [p], _, hb =>
    show gA1 _ w a (caps 500) p.1 p.2.1 p.2.2 g _
    rw [gA1_text, avl1]
    simp only [at1 (show At [vI p.1, vI p.2.1, vI p.2.2] 2 1 [vI p.2.2] from ⟨by simp, rfl⟩), w0]
    repeat' refine bc_dec (fun _ => ?_) (fun _ => ?_)
    all_goals (show [dI _] = [dI _]; repeat' split)
    all_goals first | rfl | omega
  | [p, q], _, hb =>
    show gA2 _ w a (caps 500) p.1 p.2.1 p.2.2 q.1 q.2.1 q.2.2 g _
    rw [gA2_text, avl2]
    have a2 : At [vI p.1, vI p.2.1, vI p.2.2, vI q.1, vI q.2.1, vI q.2.2] 2 1 [vI p.2.2] := ⟨by simp, rfl⟩
    have a5 : At [vI p.1, vI p.2.1, vI p.2.2, vI q.1, vI q.2.1, vI q.2.2] 5 1 [vI q.2.2] := ⟨by simp, rfl⟩
    simp only [at1 a2, at1 a5, w1', w0, w1]
    repeat' refine bc_dec (fun _ => ?_) (fun _ => ?_)
    all_goals (show [dI _] = [dI _]; repeat' split)
    all_goals first | rfl | omega
  | [p, q, r], _, hb =>
    show gA3 _ w a (caps 500) p.1 p.2.1 p.2.2 q.1 q.2.1 q.2.2 r.1 r.2.1 r.2.2 g _
    rw [gA3_text, avl3]
    have a2 : At [vI p.1, vI p.2.1, vI p.2.2, vI q.1, vI q.2.1, vI q.2.2, vI r.1, vI r.2.1, vI r.2.2] 2 1 [vI p.2.2] := ⟨by simp, rfl⟩
    have a5 : At [vI p.1, vI p.2.1, vI p.2.2, vI q.1, vI q.2.1, vI q.2.2, vI r.1, vI r.2.1, vI r.2.2] 5 1 [vI q.2.2] := ⟨by simp, rfl⟩
    have a8 : At [vI p.1, vI p.2.1, vI p.2.2, vI q.1, vI q.2.1, vI q.2.2, vI r.1, vI r.2.1, vI r.2.2] 8 1 [vI r.2.2] := ⟨by simp, rfl⟩
    simp only [at1 a2, at1 a5, at1 a8, w1', w2', w0, w1, w2]
    repeat' refine bc_dec (fun _ => ?_) (fun _ => ?_)
    all_goals (show [dI _] = [dI _]; repeat' split)
    all_goals first | rfl | omega
  | [p, q, r, t], _, hb =>
    show gA4 _ w a (caps 500) p.1 p.2.1 p.2.2 q.1 q.2.1 q.2.2 r.1 r.2.1 r.2.2 t.1 t.2.1 t.2.2 g _
    rw [gA4_text, avl4]
    have a2 : At [vI p.1, vI p.2.1, vI p.2.2, vI q.1, vI q.2.1, vI q.2.2, vI r.1, vI r.2.1, vI r.2.2, vI t.1, vI t.2.1, vI t.2.2] 2 1 [vI p.2.2] := ⟨by simp, rfl⟩
    have a5 : At [vI p.1, vI p.2.1, vI p.2.2, vI q.1, vI q.2.1, vI q.2.2, vI r.1, vI r.2.1, vI r.2.2, vI t.1, vI t.2.1, vI t.2.2] 5 1 [vI q.2.2] := ⟨by simp, rfl⟩
    have a8 : At [vI p.1, vI p.2.1, vI p.2.2, vI q.1, vI q.2.1, vI q.2.2, vI r.1, vI r.2.1, vI r.2.2, vI t.1, vI t.2.1, vI t.2.2] 8 1 [vI r.2.2] := ⟨by simp, rfl⟩
    have aB : At [vI p.1, vI p.2.1, vI p.2.2, vI q.1, vI q.2.1, vI q.2.2, vI r.1, vI r.2.1, vI r.2.2, vI t.1, vI t.2.1, vI t.2.2] 11 1 [vI t.2.2] := ⟨by simp, rfl⟩
    simp only [at1 a2, at1 a5, at1 a8, at1 aB, w1', w2', w3', w0, w1, w2, w3]
    repeat' refine bc_dec (fun _ => ?_) (fun _ => ?_)
    all_goals (show [dI _] = [dI _]; repeat' split)
    all_goals first | rfl | omega
  | _ :: _ :: _ :: _ :: _ :: _, hn, _ => exact absurd hn.2 (by simp only [List.length_cons]; omega)
theorem conVn (w a g : Int) : C5 94 [.agg [dI w, dI a, .nil], dI g] [dI 0] := by
  refine con_walk hokC mixed (u := 8) (by decide) Tryz.func94 rfl (by show 0 ≤ 400; omega) (fun caps => ?_)
  show gVn _ w a g _
  rw [gVn_text]
end Go.Proofs.G5d

/- Chapter 8: exit ranges by the reference, in data. -/
namespace Go.Proofs.G5d
open Go Go.Abs Go.Proofs Go.Proofs.G8
set_option maxRecDepth 100000
theorem adz (k : Nat) : Go.Addr.add { block := 500, off := k } 0 = { block := 500, off := k } := rfl
theorem vi_snoc {L : List Int} {i : Nat} (h : i < L.length) : List.take (i * 1) (List.drop 0 (vi (L.take i))) ++ [vI (gd L i)] = vi (L.take (i + 1)) := by
  have e : (L.take i).length = i := by rw [List.length_take]; omega
  have := vi_whole (L.take i)
  rw [e] at this
  rw [this, List.take_succ_eq_append_getElem h, gd_at h]
  simp [vi]
theorem gd_hi {l : List Tr} {i : Nat} (h : i < l.length) : gd (his l) i = (tp l i).2.1 := by
  rw [← gd_at (show i < (his l).length by simpa using h), ← tp_at h]; simp
theorem gd_lo {l : List Tr} {i : Nat} (h : i < l.length) : gd (los l) i = (tp l i).1 := by
  rw [← gd_at (show i < (los l).length by simpa using h), ← tp_at h]; simp
theorem conQa {w a : Int} {l : List Tr} (h : TV w a l) (s x y : Int) (hs : 0 ≤ s ∧ s < 16) (hx : 0 ≤ x ∧ x ≤ 12000) (hy : 0 ≤ y ∧ y ≤ 12000) : C5 42 [dT w a l, dI s, .agg [dI x, dI y]] [.agg [dI (aft w a s 0 (his l) x), dI (aft w a s 0 (los l) y)]] := by
  have hn := h.n0
  let inv : Nat × Nat → Prop := fun q => q.1 ≤ l.length
  let st : Nat × Nat → Slots × Blocks := fun q => match q.1 with
    | 0 => zQa1 s 0 w a l.length q.2 x y 0 0 (trs l)
    | i + 1 => zQa2 s (i + 1) (i + 1) ((i + 1 : Nat) : Int) w a l.length q.2 x y 0 0 (vi ((los l).take (i + 1))) (vi ((his l).take (i + 1))) (trs l)
  refine con_of (L := fun _ s b => ∃ x, inv x ∧ st x = (s, b)) hokC mixed Tryz.func42 rfl (by show 1 ≤ 400; omega) rfl (ids := [0]) (by kernel_rfl) rfl (fun caps => ?_) (fun id hid => ?_)
  · show gQa _ _ w a l.length (caps 500) (trs l) s x y _
    rw [gQa_text]
    exact ⟨(0, caps 500), Nat.zero_le _, rfl⟩
  · obtain rfl := List.mem_singleton.1 hid
    refine ⟨Nat × Nat, st, inv, fun x => l.length - x.1, ⟨fun s b h => h, by kernel_rfl, ?_⟩⟩
    rintro ⟨i, cap⟩ hi
    have hi : i ≤ l.length := hi
    cases i with
    | zero =>
      show rQa1 _ _ s ((0 : Nat) : Int) w a l.length cap x y 0 0 (trs l) _ _ _
      rw [rQa1_text]
      have h0 : 0 < l.length := by omega
      have a0 := at_tp0 h0
      have a1 : At (trs l) (Go.Addr.off { block := 500, off := 0 + 0 * 3 } + 1) 1 [vI (tp l 0).2.1] := at_tp1 h0
      simp only [bc_t (show ((0 : Nat) : Int) < (l.length : Int) by omega), bc_t (show (0 : Int) ≤ ((0 : Nat) : Int) by omega), Int.toNat_natCast, adz, at1 a0, at1 a1, eq_self, true_and, and_true, wi1 h0 (show l.length < 1000000000 by omega)]
      refine ⟨(1, cap), h0, by show l.length - 1 < l.length - 0; omega, ?_⟩
      have e1 : vi ((los l).take 1) = [vI (tp l 0).1] := by
        rw [← vi_snoc (L := los l) (i := 0) (by simpa using h0), gd_lo h0]; simp [vi]
      have e2 : vi ((his l).take 1) = [vI (tp l 0).2.1] := by
        rw [← vi_snoc (L := his l) (i := 0) (by simpa using h0), gd_hi h0]; simp [vi]
      show zQa2 _ _ _ _ _ _ _ _ _ _ _ _ _ _ _ = _
      rw [e1, e2]
    | succ i =>
      show rQa2 _ _ s (i + 1) (i + 1) ((i + 1 : Nat) : Int) w a l.length cap x y 0 0 (vi ((los l).take (i + 1))) (vi ((his l).take (i + 1))) (trs l) _ _ _
      rw [rQa2_text]
      have e1 : (vi ((los l).take (i + 1))).length = i + 1 := by simp; omega
      have e2 : (vi ((his l).take (i + 1))).length = i + 1 := by simp; omega
      refine bc_dec (fun h1 => ?_) (fun h1 => ?_)
      · have h0 : i + 1 < l.length := by omega
        have a0 := at_tp0 h0
        have a1 : At (trs l) (Go.Addr.off { block := 500, off := 0 + (i + 1) * 3 } + 1) 1 [vI (tp l (i + 1)).2.1] := at_tp1 h0
        have f1 := vi_snoc (L := los l) (i := i + 1) (by simpa using h0)
        have f2 := vi_snoc (L := his l) (i := i + 1) (by simpa using h0)
        rw [gd_lo h0] at f1
        rw [gd_hi h0] at f2
        simp only [bc_t h1, bc_t (show (0 : Int) ≤ ((i + 1 : Nat) : Int) by omega), Int.toNat_natCast, adz, at1 a0, at1 a1, eq_self, true_and, and_true, wi1 h0 (show l.length < 1000000000 by omega), bc_t (show i + 1 < i + 1 + 1 by omega), bc_t (show (2 * (i + 1 + 1) + 768) * 8 ≤ 281474976710656 by omega), bc_t (show i + 1 + 1 ≤ 1099511627776 by omega), bc_t (show 0 + (i + 1) * 1 ≤ (vi ((los l).take (i + 1))).length by omega), bc_t (show 0 + (i + 1) * 1 = (vi ((los l).take (i + 1))).length by omega), bc_t (show 0 + (i + 1) * 1 ≤ (vi ((his l).take (i + 1))).length by omega), bc_t (show 0 + (i + 1) * 1 = (vi ((his l).take (i + 1))).length by omega), f1, f2]
        exact ⟨(i + 2, cap), h0, by show l.length - (i + 2) < l.length - (i + 1); omega, rfl⟩
      · show (if 0 = 0 then _ else _)
        rw [if_pos rfl]
        show nQa4 _ _ s (i + 1) (i + 1) w a l.length cap x y 0 0 (vi ((los l).take (i + 1))) (vi ((his l).take (i + 1))) (trs l) _
        have hl : i + 1 = l.length := by omega
        have t1 : (los l).take (i + 1) = los l := List.take_of_length_le (by simp; omega)
        have t2 : (his l).take (i + 1) = his l := List.take_of_length_le (by simp; omega)
        rw [nQa4_text, t1, t2, hl]
        have c1 := conAf h s x hs hx (his l) (by simp) h.hi
        have c2 := conAf h s y hs hy (los l) (by simp) h.lo
        have v1 := vi_whole (his l)
        have v2 := vi_whole (los l)
        have l1 := v1le (his l)
        have l2 := v1le (los l)
        have n1 : (his l).length = l.length := by simp
        have n2 : (los l).length = l.length := by simp
        rw [n1] at c1 v1 l1
        rw [n2] at c2 v2 l2
        simp only [eq_self, true_and, and_true, trs_whole, bc_t (v3le l), bc_t l1, bc_t l2, v1, v2]
        exact ⟨_, ⟨c1⟩, _, ⟨c2⟩, by trivial⟩
theorem bcF {x y : Prop} : bcase false x y = y := rfl
end Go.Proofs.G5d
