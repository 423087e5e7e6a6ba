/- Texts of the proof, put together: AbsX, Gc8C, Gc8K0, Gc8T2, AbsNum, G8H. -/
import Derived.Test.YtjimnhgpldmpnaaGreatDoorP3
import Derived.Test.YtjimnhgpldmpnaaGreatDoorP4
import Derived.Test.YtjimnhgpldmpnaaGreatDoorGc8A
import Derived.Test.YtjimnhgpldmpnaaGreatDoorCards
import Derived.Test.YtjimnhgpldmpnaaGreatDoorTie
import Derived.Handed
import Derived.JoinedCond
import Derived.Deep.DeepHandedRow
import Derived.Lib.LaidTab
import Derived.WalkKit
/- Handlers by a table hold if each entry does. -/
namespace Go.Abs
open Go.RowKit
variable {P : Program}
theorem saidH_ok {C : FuncId → List D → List D → Prop} (hC : ∀ f ds rs, C f ds rs → Con P f ds rs) : HandlerOK P (saidH P C) := by
  intro g args ats H k hk
  unfold saidH at hk
  split at hk
  · exact wpSaid_call hC hk
  · exact hk.elim
theorem fixH_ok {C : FuncId → List D → List D → Prop} (hC : ∀ f ds rs, C f ds rs → Con P f ds rs) {fix : List D → Option (List D)} : HandlerOK P (fixH C fix) := fun _ _ _ _ _ hk => wpFix_call hC hk
/-- (a state contract speaks of one function) -/
def PreOK (P : Program) (pre : FuncId → Option Handler) : Prop := ∀ g h, pre g = some h → ∀ args ats H k, h g args ats H k → CallH P g args H k
theorem handlerX_ok (hmix : P.follows .mixedOrders = true) {pre : FuncId → Option Handler} (hp : PreOK P pre) {u : Nat} (hu : u ≠ 0) : ∀ n, HandlerOK P (handlerX P pre u n)
  | 0 => fun _ _ _ _ _ h => h.elim
  | n + 1 => fun g args ats H k hk => by
    simp only [handlerX] at hk
    split at hk
    · rename_i h he
      exact hp g h he args ats H k hk
    · exact wpFn_call (handlerX_ok hmix hp hu n) hmix hu hk
theorem limC_out {g : FuncId} {lo hi e : Int} {n es : Nat} {cs : List Value} (h : Says limC g [.val (.int .i64 lo), .val (.int .i64 hi), .sl n es cs] [.val (.int .i64 e)]) : e = limE lo hi cs := h.out
theorem falseH_ok : HandlerOK P (fun _ _ _ _ _ => False) := fun _ _ _ _ _ h => h.elim
/-- A function whose loops are walked round by round. -/
theorem callS_walk {h : Handler} (hh : HandlerOK P h) (hmix : P.follows .mixedOrders = true) {u : Nat} (hu : u ≠ 0) {f : FuncId} {fn : Func} {c : Code} (hf : P.funcs[f]? = some fn) (hc : fn.body = some c) {args : List Value} {bs : Blocks} {K : Value → Blocks → Prop}
    (hk : wpFn P h (fun _ _ _ => False) u f args.toArray (heapOf bs) (stateK K)) : CallS P f args bs K := by
  intro w0 ρ w args' n g ha
  refine (wpFn_run (u := u) (b := false) hh hmix (fun h0 => absurd h0 hu) hf hc hk (fun h0 => absurd h0 hu) g n (by simpa using ha)).mono ?_
  rintro e w' ⟨v, H', ρ', v', hkv, rfl, hv, g', _⟩
  obtain ⟨v2, bs', ρ2, h1, h2, h3⟩ := stateK_out g' hv hkv
  exact ⟨v2, bs', ρ2, v', h1, rfl, h2, h3⟩
/-- The same, with data. -/
theorem con_walk {h : Handler} (hh : HandlerOK P h) (hmix : P.follows .mixedOrders = true) {u : Nat} (hu : u ≠ 0) {f : FuncId} {fn : Func} {c : Code} (hf : P.funcs[f]? = some fn) (hc : fn.body = some c) {ds rs : List D} (hcount : countV ds ≤ 400)
    (hk : ∀ caps, wpFn P h (fun _ _ _ => False) u f (layVals caps 500 ds).1.toArray (heapOf (layVals caps 500 ds).2) (dataK (· = rs))) : Con P f ds rs := by
  intro w args hr
  obtain ⟨caps, ρ, hst, g, ha⟩ := lay_gam hr hcount
  refine callsIn_wide.1 ((wpFn_run (u := u) (b := false) hh hmix (fun h0 => absurd h0 hu) hf hc (hk caps) (fun h0 => absurd h0 hu) g 0 (by simpa using ha)).mono ?_)
  rintro e w' ⟨v, H', ρ', v', hkv, rfl, hv, g', _⟩
  obtain ⟨vs, ds', u, rfl, h1, rfl⟩ := dataK_out g' hv hkv
  exact ⟨⟨vs, u, rfl, h1⟩, g'.below.below hst⟩
theorem callS_mono {f : FuncId} {args : List Value} {bs : Blocks} {K K' : Value → Blocks → Prop} (h : CallS P f args bs K) (hk : ∀ v b, K v b → K' v b) : CallS P f args bs K' := by
  intro w0 ρ w args' n g ha
  refine (h w0 ρ w args' n g ha).mono ?_
  rintro e w' ⟨v2, bs', ρ2, v', h1, h2, h3, h4⟩
  exact ⟨v2, bs', ρ2, v', hk _ _ h1, h2, h3, h4⟩
abbrev limBs (ti : TypeId) (cs : List Value) (lo hi : Int) : Blocks := [(900, .cells cs ti false 1), (901, .cells [.int .i64 lo] ti false 1), (902, .cells [.int .i64 hi] ti false 1)]
abbrev limArgs (n cap : Nat) : List Value := [.slice (some ⟨900, 0, none⟩) n cap, .pointer (some ⟨901, 0, none⟩), .pointer (some ⟨902, 0, none⟩)]
/-- What is left to show of the function that limit returns. -/
def limGoal (P : Program) (f : FuncId) (ti : TypeId) (n : Nat) (cs : List Value) (cap : Nat) (lo hi : Int) (K : Value → Blocks → Prop) : Prop :=
  wpFn P (fun _ _ _ _ _ => False) (fun _ _ _ => False) 6 f (limArgs n cap).toArray (heapOf (limBs ti cs lo hi)) (stateK K)
structure LimGood (P : Program) (f : FuncId) (ti : TypeId) : Prop where
  mix : P.follows .mixedOrders = true
  fn : ∃ fn c, P.funcs[f]? = some fn ∧ fn.body = some c
  one : ∀ cap lo hi x, limGoal P f ti 1 [.int .i64 x] cap lo hi (fun v b => v = .int .i64 (limE lo hi [.int .i64 x]) ∧ b = limBs ti [.int .i64 x] lo hi)
  two : ∀ cap lo hi x y, limGoal P f ti 2 [.int .i64 x, .int .i64 y] cap lo hi (fun v b => v = .int .i64 (limE lo hi [.int .i64 x, .int .i64 y]) ∧ b = limBs ti [.int .i64 x, .int .i64 y] lo hi)
  three : ∀ cap lo hi x y z, limGoal P f ti 3 [.int .i64 x, .int .i64 y, .int .i64 z] cap lo hi (fun v b => v = .int .i64 (limE lo hi [.int .i64 x, .int .i64 y, .int .i64 z]) ∧ b = limBs ti [.int .i64 x, .int .i64 y, .int .i64 z] lo hi)
  four : ∀ cap lo hi x y z u, limGoal P f ti 4 [.int .i64 x, .int .i64 y, .int .i64 z, .int .i64 u] cap lo hi (fun v b => v = .int .i64 (limE lo hi [.int .i64 x, .int .i64 y, .int .i64 z, .int .i64 u]) ∧ b = limBs ti [.int .i64 x, .int .i64 y, .int .i64 z, .int .i64 u] lo hi)
theorem lim_ok {f : FuncId} {ti : TypeId} (g : LimGood P f ti) {args : List Value} {bs : Blocks} {K : Value → Blocks → Prop} (hk : limAll ti args bs K) : CallS P f args bs K := by
  obtain ⟨fn, c, hf, hc⟩ := g.fn
  have run : ∀ {n : Nat} {cs : List Value} {cap : Nat} {lo hi : Int}, limGoal P f ti n cs cap lo hi (fun v b => v = .int .i64 (limE lo hi cs) ∧ b = limBs ti cs lo hi) → limOut lo hi cs (limBs ti cs lo hi) K → CallS P f (limArgs n cap) (limBs ti cs lo hi) K := by
    intro n cs cap lo hi h1 h2
    refine callS_mono (callS_walk falseH_ok g.mix (by decide) hf hc h1) ?_
    rintro v b ⟨rfl, rfl⟩
    obtain ⟨e, he, hK⟩ := h2
    rw [← limC_out he]; exact hK
  unfold limAll at hk
  split at hk
  · unfold limSpec at hk
    split at hk
    · rename_i e2
      split at hk
      · rename_i hc
        simp only [Bool.and_eq_true, beq_iff_eq] at hc
        obtain ⟨⟨⟨⟨⟨⟨⟨⟨⟨⟨⟨⟨⟨⟨⟨⟨rfl, rfl⟩, rfl⟩, rfl⟩, rfl⟩, rfl⟩, rfl⟩, rfl⟩, rfl⟩, rfl⟩, rfl⟩, rfl⟩, rfl⟩, rfl⟩, rfl⟩, hm⟩, hl⟩ := hc
        rw [e2]
        split at hk
        · subst hm; exact run (g.one _ _ _ _) hk
        · subst hm; exact run (g.two _ _ _ _ _) hk
        · subst hm; exact run (g.three _ _ _ _ _ _) hk
        · subst hm; exact run (g.four _ _ _ _ _ _ _) hk
        · exact hk.elim
      · exact hk.elim
    · exact hk.elim
  · exact hk.elim
end Go.Abs

/- Chapter 8: what small functions do, in data. -/
namespace Go.Proofs.G5c
open Go Go.Abs Go.Proofs
set_option maxRecDepth 100000
/-! ### how functions are met -/
theorem limE1 (lo hi a : Int) : limE lo hi [.int .i64 a] = if lo ≤ a ∧ a ≤ hi then 0 else 2 := by
  simp only [limE]; split <;> split <;> first | rfl | omega
theorem limE2 (lo hi a b : Int) : limE lo hi [.int .i64 a, .int .i64 b] = if (lo ≤ a ∧ a ≤ hi) ∧ lo ≤ b ∧ b ≤ hi then 0 else 2 := by
  simp only [limE]; repeat' split
  all_goals first | rfl | omega
theorem limE4 (lo hi a b c d : Int) : limE lo hi [.int .i64 a, .int .i64 b, .int .i64 c, .int .i64 d] = if (lo ≤ a ∧ a ≤ hi) ∧ (lo ≤ b ∧ b ≤ hi) ∧ (lo ≤ c ∧ c ≤ hi) ∧ lo ≤ d ∧ d ≤ hi then 0 else 2 := by
  simp only [limE]; repeat' split
  all_goals first | rfl | omega
theorem limGood : LimGood Tryz.prog 91 3 := by
  refine ⟨mixed, ⟨_, _, Tryz.func91, rfl⟩, fun cap lo hi x => ?_, fun cap lo hi x y => ?_, fun cap lo hi x y z => ?_, fun cap lo hi x y z u => ?_⟩
  · show lm1 cap lo hi x _
    rw [lm1_text, limE1]
    repeat' first | refine bc_dec (fun _ => ?_) (fun _ => ?_) | exact ⟨by rw [if_neg (by omega)], rfl⟩ | exact ⟨by rw [if_pos (by omega)], rfl⟩
  · show lm2 cap lo hi x y _
    rw [lm2_text, limE2]
    repeat' first | refine bc_dec (fun _ => ?_) (fun _ => ?_) | exact ⟨by rw [if_neg (by omega)], rfl⟩ | exact ⟨by rw [if_pos (by omega)], rfl⟩
  · show lm3 cap lo hi x y z _
    rw [lm3_text]
    have e : limE lo hi [.int .i64 x, .int .i64 y, .int .i64 z] = if (lo ≤ x ∧ x ≤ hi) ∧ (lo ≤ y ∧ y ≤ hi) ∧ lo ≤ z ∧ z ≤ hi then 0 else 2 := by
      simp only [limE]; repeat' split
      all_goals first | rfl | omega
    rw [e]
    repeat' first | refine bc_dec (fun _ => ?_) (fun _ => ?_) | exact ⟨by rw [if_neg (by omega)], rfl⟩ | exact ⟨by rw [if_pos (by omega)], rfl⟩
  · show lm4 cap lo hi x y z u _
    rw [lm4_text, limE4]
    repeat' first | refine bc_dec (fun _ => ?_) (fun _ => ?_) | exact ⟨by rw [if_neg (by omega)], rfl⟩ | exact ⟨by rw [if_pos (by omega)], rfl⟩
theorem ite_so {c : Prop} [Decidable c] {α : Type} {x h : α} {r : Option α} (e : (if c then some x else r) = some h) : (c ∧ x = h) ∨ r = some h := by
  by_cases hc : c
  · rw [if_pos hc] at e; exact .inl ⟨hc, Option.some.inj e⟩
  · rw [if_neg hc] at e; exact .inr e
theorem preAOK : PreOK Tryz.prog (preA C5) := by
  intro g h he args ats H k hk
  unfold preA at he
  rcases ite_so he with ⟨e, rfl⟩ | he
  · rw [beq_iff_eq] at e
    subst e
    exact wpState_call (fun args bs K hk => lim_ok limGood hk) hk
  rcases ite_so he with ⟨e, rfl⟩ | he
  · exact saidH_ok (fun _ _ _ h => h) _ _ _ _ _ hk
  · cases he
theorem hokA : HandlerOK Tryz.prog (hA C5) := handlerX_ok mixed preAOK (by decide) 6
theorem hokE : HandlerOK Tryz.prog (hE C5) := handlerX_ok mixed (fun g h he => by cases he) (by decide) 6
/-! ### lists of cells -/
abbrev Tr := Int × Int × Int
@[simp] theorem trs_length : ∀ l : List Tr, (trs l).length = l.length * 3
  | [] => rfl
  | p :: r => by simp only [trs, List.length_cons, trs_length r]; omega
theorem trs_drop : ∀ (l : List Tr) (i : Nat), (trs l).drop (i * 3) = trs (l.drop i)
  | l, 0 => by simp
  | [], i + 1 => by simp [trs]
  | p :: r, i + 1 => by
    rw [Nat.add_mul]
    simp only [trs, Nat.one_mul, List.drop_succ_cons]
    exact trs_drop r i
abbrev tp (l : List Tr) (i : Nat) : Tr := l.getD i (0, 0, 0)
theorem tp_at {l : List Tr} {i : Nat} (h : i < l.length) : l[i] = tp l i := by rw [tp, List.getD_eq_getElem?_getD, List.getElem?_eq_getElem h]; rfl
theorem tp_mem {l : List Tr} {i : Nat} (h : i < l.length) : tp l i ∈ l := by rw [← tp_at h]; exact List.getElem_mem h
theorem at_tp {l : List Tr} {i : Nat} (h : i < l.length) : At (trs l) (0 + i * 3) 3 [vI (tp l i).1, vI (tp l i).2.1, vI (tp l i).2.2] := by
  refine ⟨by rw [trs_length]; omega, ?_⟩
  rw [Nat.zero_add, trs_drop, List.drop_eq_getElem_cons h, ← tp_at h]
  rfl
theorem at_tp0 {l : List Tr} {i : Nat} (h : i < l.length) : At (trs l) (0 + i * 3) 1 [vI (tp l i).1] := by
  refine ⟨by rw [trs_length]; omega, ?_⟩
  rw [Nat.zero_add, trs_drop, List.drop_eq_getElem_cons h, ← tp_at h]
  rfl
theorem at_tp1 {l : List Tr} {i : Nat} (h : i < l.length) : At (trs l) (0 + i * 3 + 1) 1 [vI (tp l i).2.1] := by
  refine ⟨by rw [trs_length]; omega, ?_⟩
  rw [Nat.zero_add, ← List.drop_drop, trs_drop, List.drop_eq_getElem_cons h, ← tp_at h]
  rfl
theorem trs_whole (l : List Tr) : List.take (l.length * 3) (List.drop 0 (trs l)) = trs l := by simp [List.take_of_length_le]
theorem v3le (l : List Tr) : 0 + l.length * 3 ≤ (trs l).length := by simp
theorem v1le (l : List Int) : 0 + l.length * 1 ≤ (vi l).length := by simp
theorem at3 {l : List Value} {k : Nat} {a b c : Int} (h : At l k 3 [.int .i64 a, .int .i64 b, .int .i64 c]) {Q : Int → Int → Int → Prop} : (∃ n m o : Int, At l k 3 [.int .i64 n, .int .i64 m, .int .i64 o] ∧ Q n m o) = Q a b c := by
  apply propext
  constructor
  · rintro ⟨n, m, o, hn, hq⟩
    have e := hn.eq.symm.trans h.eq
    simp only [List.cons.injEq, Value.int.injEq, true_and, and_true] at e
    obtain ⟨rfl, rfl, rfl⟩ := e; exact hq
  · intro hq; exact ⟨a, b, c, h, hq⟩
abbrev gd (l : List Int) (i : Nat) : Int := l.getD i 0
theorem gd_at {l : List Int} {i : Nat} (h : i < l.length) : l[i] = gd l i := by rw [gd, List.getD_eq_getElem?_getD, List.getElem?_eq_getElem h]; rfl
theorem at_gd {l : List Int} {i : Nat} (h : i < l.length) : At (vi l) (0 + i * 1) 1 [vI (gd l i)] := by rw [← gd_at h]; exact vi_at l i h
theorem wi1 {i n : Nat} (h : i < n) (hn : n < 1000000000) : IntKind.wrap .i64 ((i : Int) + 1) = ((i + 1 : Nat) : Int) := by rw [w64 (by omega) (by omega)]; rfl
/-! ### small functions -/
theorem conFE (l : List Int) (hlen : l.length < 1000000000) : C5 50 [.sl l.length 1 (vi l)] [dI (fst0 l)] := by
  let inv : Nat × Nat → Prop := fun x => x.1 ≤ l.length ∧ fst0 l = fst0 (l.drop x.1)
  let st : Nat × Nat → Slots × Blocks := fun x => zFE1 l.length x.2 l.length x.1 (vi l)
  refine con_of (L := fun _ s b => ∃ x, inv x ∧ st x = (s, b)) hokA mixed Tryz.func50 rfl (by show 1 ≤ 400; omega) rfl (ids := [0]) (by kernel_rfl) rfl (fun caps => ?_) (fun id hid => ?_)
  · show gFE _ _ l.length (caps 500) (vi l) _
    rw [gFE_text]
    exact ⟨(0, caps 500), ⟨by simp, rfl⟩, rfl⟩
  · obtain rfl := List.mem_singleton.1 hid
    refine ⟨Nat × Nat, st, inv, fun x => l.length - x.1, ⟨fun s b h => h, by kernel_rfl, ?_⟩⟩
    rintro ⟨i, cap⟩ ⟨hi, hr⟩
    simp only at hi hr
    show rFE1 _ _ l.length cap l.length i (vi l) _ _ _
    rw [rFE1_text]
    refine bc_dec (fun h => ?_) (fun h => ?_)
    · have hi' : i < l.length := by omega
      rw [List.drop_eq_getElem_cons hi', fst0] at hr
      simp only [bc_t h, bc_t (show (0 : Int) ≤ (i : Int) by omega), Int.toNat_natCast, at1 (vi_at l i hi')]
      refine bc_bne (fun hc => ?_) (fun hc => ?_)
      · rw [if_neg hc] at hr
        show [dI l[i]] = [dI (fst0 l)]
        rw [hr]
      · rw [if_pos hc] at hr
        refine ⟨(i + 1, cap), ⟨by show i + 1 ≤ l.length; omega, hr⟩, by show l.length - (i + 1) < l.length - i; omega, ?_⟩
        rw [w64 (by omega) (by omega)]; rfl
    · show (if 0 = 0 then _ else _)
      rw [if_pos rfl]
      show nFE2 _ _ _
      rw [nFE2_text]
      have : i = l.length := by omega
      rw [this, List.drop_length] at hr
      show [dI 0] = [dI (fst0 l)]
      rw [hr]; rfl
def cntE (n a b : Int) : Int := if n < a then 10 else if n > b then 8 else 0
theorem cntE_ok {n a b : Int} : cntE n a b = 0 ↔ a ≤ n ∧ n ≤ b := by
  unfold cntE
  split
  · omega
  · split <;> omega
theorem conCC (n a b : Int) : C5 52 [dI n, dI a, dI b] [dI (cntE n a b)] := by
  refine con_flat hokA mixed Tryz.func52 rfl (by show 0 ≤ 400; omega) rfl (by kernel_rfl) (fun caps => ?_)
  show gCC _ _ n a b _
  rw [gCC_text]; unfold cntE
  refine bc_dec (fun h => ?_) (fun h => bc_dec (fun h2 => ?_) (fun h2 => ?_))
  · show _ = _; rw [if_pos h]
  · show _ = _; rw [if_neg h, if_pos h2]
  · show _ = _; rw [if_neg h, if_neg h2]
def ordE (a b : Int) : Int := if a > b then 9 else 0
theorem conCE (a b : Int) : C5 55 [.agg [dI a, dI b]] [dI (ordE a b)] := by
  refine con_flat hokA mixed Tryz.func55 rfl (by show 0 ≤ 400; omega) rfl (by kernel_rfl) (fun caps => ?_)
  show gCE _ _ a b _
  rw [gCE_text]; unfold ordE
  refine bc_dec (fun h => ?_) (fun h => ?_)
  · show _ = _; rw [if_pos h]
  · show _ = _; rw [if_neg h]
theorem conWi (a b c : Int) : C5 15 [dI a, dI b, dI c] [.val (.bool (decide (b ≤ a ∧ a ≤ c)))] := by
  refine con_flat hokA mixed Tryz.func15 rfl (by show 0 ≤ 400; omega) rfl (by kernel_rfl) (fun caps => ?_)
  show gWi _ _ a b c _
  rw [gWi_text]
  refine bc_dec (fun h => bc_dec (fun h2 => ?_) (fun h2 => ?_)) (fun h => ?_)
  · show _ = _; rw [decide_eq_true (show b ≤ a ∧ a ≤ c from ⟨h, h2⟩)]
  · show _ = _; rw [decide_eq_false (show ¬ (b ≤ a ∧ a ≤ c) by omega)]
  · show _ = _; rw [decide_eq_false (show ¬ (b ≤ a ∧ a ≤ c) by omega)]
theorem sayWt {a b c : Int} (h : b ≤ a ∧ a ≤ c) : Says C5 15 [dI a, dI b, dI c] [.val (.bool true)] := by
  have := conWi a b c
  rw [decide_eq_true h] at this
  exact ⟨this⟩
theorem sayWf {a b c : Int} (h : ¬ (b ≤ a ∧ a ≤ c)) : Says C5 15 [dI a, dI b, dI c] [.val (.bool false)] := by
  have := conWi a b c
  rw [decide_eq_false h] at this
  exact ⟨this⟩
theorem lim_s1 {lo hi x : Int} : Says limC 0 [dI lo, dI hi, .sl 1 1 [vI x]] [dI (if lo ≤ x ∧ x ≤ hi then 0 else 2)] := ⟨(limE1 lo hi x).symm⟩
theorem lim_s2 {lo hi x y : Int} : Says limC 0 [dI lo, dI hi, .sl 2 1 [vI x, vI y]] [dI (if (lo ≤ x ∧ x ≤ hi) ∧ lo ≤ y ∧ y ≤ hi then 0 else 2)] := ⟨(limE2 lo hi x y).symm⟩
theorem conK1 (a b d : Int) : C5 54 [.agg [dI a, dI b, dI d]] [dI (bankE a b d)] := by
  refine con_flat hokA mixed Tryz.func54 rfl (by show 0 ≤ 400; omega) rfl (by kernel_rfl) (fun caps => ?_)
  show gK1 _ _ a b d _
  rw [gK1_text]
  simp only [eq_self, true_and]
  refine ⟨_, lim_s2, _, lim_s1, _, ⟨conCE a b⟩, _, ⟨conFE [_, _, _] (by simp)⟩, ?_⟩
  have e : fst0 [if (0 ≤ a ∧ a ≤ 1000) ∧ 0 ≤ b ∧ b ≤ 1000 then 0 else 2, if 0 ≤ d ∧ d ≤ 8 then 0 else 2, ordE a b] = bankE a b d := by
    unfold bankE ordE
    simp only [fst0]
    repeat' split
    all_goals first | rfl | omega
  rw [e] <;> trivial
def degE (a b : Int) : Int := if (0 ≤ a ∧ a ≤ 12000) ∧ (0 ≤ b ∧ b ≤ 12000) then (if a > b then 9 else 0) else 2
theorem degE_ok {a b : Int} : degE a b = 0 ↔ 0 ≤ a ∧ a ≤ b ∧ b ≤ 12000 := by
  unfold degE
  split
  · split <;> omega
  · omega
theorem conD1 (a b : Int) : C5 93 [.agg [dI a, dI b]] [dI (degE a b)] := by
  refine con_flat hokA mixed Tryz.func93 rfl (by show 0 ≤ 400; omega) rfl (by kernel_rfl) (fun caps => ?_)
  show gD1 _ _ a b _
  rw [gD1_text]
  simp only [eq_self, true_and]
  refine ⟨_, lim_s2, _, ⟨conCE a b⟩, _, ⟨conFE [_, _] (by simp)⟩, ?_⟩
  have e : fst0 [if (0 ≤ a ∧ a ≤ 12000) ∧ 0 ≤ b ∧ b ≤ 12000 then 0 else 2, ordE a b] = degE a b := by
    unfold degE ordE
    simp only [fst0]
    repeat' split
    all_goals first | rfl | omega
  rw [e] <;> trivial
theorem conDG (a b : Int) : C5 58 [.sl 1 2 [vI a, vI b]] [dI (degE a b)] := by
  refine con_walk hokA mixed (u := 8) (by decide) Tryz.func58 rfl (by show 1 ≤ 400; omega) (fun caps => ?_)
  show gcD _ (caps 500) a b _
  rw [gcD_text]
  refine ⟨a, b, ⟨by simp, rfl⟩, _, ⟨conD1 a b⟩, bc_bne (fun h => ?_) (fun h => ?_)⟩
  · rfl
  · rw [h] <;> trivial
theorem conDE (a b : Int) : C5 18 [.agg [dI a, dI b]] [dI (degE a b)] := by
  refine con_flat hokA mixed Tryz.func18 rfl (by show 0 ≤ 400; omega) rfl (by kernel_rfl) (fun caps => ?_)
  show gDE _ _ a b _
  rw [gDE_text]; unfold degE
  by_cases h1 : 0 ≤ a ∧ a ≤ 12000
  · refine .inl ⟨sayWt h1, ?_⟩
    by_cases h2 : 0 ≤ b ∧ b ≤ 12000
    · refine .inl ⟨sayWt h2, ?_⟩
      rw [if_pos ⟨h1, h2⟩]
      refine bc_dec (fun h => ?_) (fun h => ?_)
      · rw [if_pos h] <;> trivial
      · rw [if_neg h] <;> trivial
    · refine .inr ⟨sayWf h2, ?_⟩
      rw [if_neg (fun h => h2 h.2)] <;> trivial
  · refine .inr ⟨sayWf h1, ?_⟩
    rw [if_neg (fun h => h1 h.1)] <;> trivial
/-! ### tables -/
abbrev dT (w a : Int) (l : List Tr) : D := .agg [dI w, dI a, .sl l.length 3 (trs l)]
theorem fbL_at {l : List Tr} {i : Nat} (h : i < l.length) (k : Int) : fbL k (trs (l.drop i)) = if bankE (tp l i).1 (tp l i).2.1 (tp l i).2.2 = 0 then fbL (k + 1) (trs (l.drop (i + 1))) else (k, bankE (tp l i).1 (tp l i).2.1 (tp l i).2.2) := by
  rw [List.drop_eq_getElem_cons h, ← tp_at h]; rfl
theorem conFB (l : List Tr) (hl : l.length < 1000000000) : C5 53 [.sl l.length 3 (trs l), .val (.func (.func 54) #[] #[])] [dI (fbL 0 (trs l)).1, dI (fbL 0 (trs l)).2] := by
  let inv : Nat × Nat → Prop := fun x => x.1 ≤ l.length ∧ fbL 0 (trs l) = fbL x.1 (trs (l.drop x.1))
  let st : Nat × Nat → Slots × Blocks := fun x => zFB1 l.length x.2 l.length x.1 (trs l)
  refine con_of (L := fun _ s b => ∃ x, inv x ∧ st x = (s, b)) hokA mixed Tryz.func53 rfl (by show 1 ≤ 400; omega) rfl (ids := [0]) (by kernel_rfl) rfl (fun caps => ?_) (fun id hid => ?_)
  · show gFB _ _ l.length (caps 500) (trs l) _
    rw [gFB_text]
    exact ⟨(0, caps 500), ⟨Nat.zero_le _, rfl⟩, rfl⟩
  · obtain rfl := List.mem_singleton.1 hid
    refine ⟨Nat × Nat, st, inv, fun x => l.length - x.1, ⟨fun s b h => h, by kernel_rfl, ?_⟩⟩
    rintro ⟨i, cap⟩ ⟨hi, hr⟩
    simp only at hi hr
    show rFB1 _ _ l.length cap l.length i (trs l) _ _ _
    rw [rFB1_text]
    refine bc_dec (fun h => ?_) (fun h => ?_)
    · have hi1 : i < l.length := by omega
      rw [fbL_at hi1] at hr
      simp only [bc_t h, bc_t (show (0 : Int) ≤ (i : Int) by omega), Int.toNat_natCast, at3 (at_tp hi1)]
      refine ⟨_, ⟨conK1 _ _ _⟩, bc_bne (fun h1 => ?_) (fun h1 => ?_)⟩
      · rw [if_neg h1] at hr
        show [_, _] = [_, _]
        rw [hr]
      · rw [if_pos h1] at hr
        refine ⟨(i + 1, cap), ⟨hi1, by rw [hr]; rfl⟩, by show l.length - (i + 1) < l.length - i; omega, ?_⟩
        rw [w64 (by omega) (by omega)]; rfl
    · show (if 0 = 0 then _ else _)
      rw [if_pos rfl]
      show nFB2 _ _ _
      rw [nFB2_text]
      rw [List.drop_eq_nil_of_le (by omega)] at hr
      show [_, _] = [_, _]
      rw [hr]; rfl
/-- the error of a table ahead of its banks, and all of it, with the bank -/
def headE (w a : Int) (n : Nat) : Int := if (0 ≤ w ∧ w ≤ 12000) ∧ (0 ≤ a ∧ a ≤ 100) then cntE n 1 4 else 2
def ctI (w a : Int) (l : List Tr) : Int := if headE w a l.length = 0 then (fbL 0 (trs l)).1 else 0
def ctE (w a : Int) (l : List Tr) : Int := if headE w a l.length = 0 then (fbL 0 (trs l)).2 else headE w a l.length
theorem headE_fst (w a : Int) (n : Nat) : fst0 [if 0 ≤ w ∧ w ≤ 12000 then 0 else 2, if 0 ≤ a ∧ a ≤ 100 then 0 else 2, cntE n 1 4] = headE w a n := by
  unfold headE
  simp only [fst0]
  repeat' split
  all_goals first | rfl | omega
theorem conCT (w a : Int) (l : List Tr) (hl : l.length < 1000000000) : C5 10 [dT w a l] [dI (ctI w a l), dI (ctE w a l)] := by
  refine con_flat hokA mixed Tryz.func10 rfl (by show 1 ≤ 400; omega) rfl (by kernel_rfl) (fun caps => ?_)
  show gCT _ _ w a l.length (caps 500) (trs l) _
  rw [gCT_text]
  simp only [eq_self, true_and, trs_whole, bc_t (v3le l)]
  refine ⟨_, lim_s1, _, lim_s1, _, ⟨conCC _ _ _⟩, _, ⟨conFE [_, _, _] (by simp)⟩, ?_⟩
  rw [headE_fst]
  refine bc_bne (fun h => ?_) (fun h => ?_)
  · rw [ctI, ctE, if_neg h, if_neg h] <;> trivial
  · rw [ctI, ctE, if_pos h, if_pos h]
    exact ⟨_, _, ⟨conFB l hl⟩, by trivial⟩
theorem conRT (w a : Int) (l : List Tr) (hl : l.length < 1000000000) : C5 14 [dT w a l] [dI (ctI w a l), dI (ctE w a l)] := by
  let inv : Nat × Nat → Prop := fun x => x.1 ≤ l.length ∧ headE w a l.length = 0 ∧ fbL 0 (trs l) = fbL x.1 (trs (l.drop x.1))
  let st : Nat × Nat → Slots × Blocks := fun x => zRT1 x.1 w a l.length x.2 (trs l)
  refine con_of (L := fun _ s b => ∃ x, inv x ∧ st x = (s, b)) hokA mixed Tryz.func14 rfl (by show 1 ≤ 400; omega) rfl (ids := [0]) (by kernel_rfl) rfl (fun caps => ?_) (fun id hid => ?_)
  · show gRT _ _ w a l.length (caps 500) (trs l) _
    rw [gRT_text]
    have bad : headE w a l.length ≠ 0 → [dI 0, dI (headE w a l.length)] = [dI (ctI w a l), dI (ctE w a l)] := fun h => by rw [ctI, ctE, if_neg h, if_neg h]
    by_cases h1 : 0 ≤ w ∧ w ≤ 12000
    · refine .inl ⟨sayWt h1, ?_⟩
      by_cases h2 : 0 ≤ a ∧ a ≤ 100
      · refine .inl ⟨sayWt h2, ?_⟩
        have e : headE w a l.length = cntE l.length 1 4 := if_pos ⟨h1, h2⟩
        refine bc_beq (fun h => ?_) (fun h => bc_dec (fun h3 => ?_) (fun h3 => ?_))
        · have e2 : headE w a l.length = 10 := by rw [e, cntE, if_pos (by omega)]
          have := bad (by omega)
          rw [e2] at this; exact this
        · have e2 : headE w a l.length = 8 := by rw [e, cntE, if_neg (by omega), if_pos h3]
          have := bad (by omega)
          rw [e2] at this; exact this
        · exact ⟨(0, caps 500), ⟨Nat.zero_le _, by rw [e, cntE, if_neg (by omega), if_neg h3], rfl⟩, rfl⟩
      · refine .inr ⟨sayWf h2, ?_⟩
        have e2 : headE w a l.length = 2 := if_neg (fun h => h2 h.2)
        have := bad (by omega)
        rw [e2] at this; exact this
    · refine .inr ⟨sayWf h1, ?_⟩
      have e2 : headE w a l.length = 2 := if_neg (fun h => h1 h.1)
      have := bad (by omega)
      rw [e2] at this; exact this
  · obtain rfl := List.mem_singleton.1 hid
    refine ⟨Nat × Nat, st, inv, fun x => l.length - x.1, ⟨fun s b h => h, by kernel_rfl, ?_⟩⟩
    rintro ⟨i, cap⟩ ⟨hi, hc, hr⟩
    simp only at hi hr
    have hk1 : ctI w a l = (fbL 0 (trs l)).1 := by rw [ctI, if_pos hc]
    have hk2 : ctE w a l = (fbL 0 (trs l)).2 := by rw [ctE, if_pos hc]
    show rRT1 _ _ i w a l.length cap (trs l) _ _ _
    rw [rRT1_text]
    refine bc_dec (fun h => ?_) (fun h => ?_)
    · have hi1 : i < l.length := by omega
      rw [fbL_at hi1] at hr
      simp only [bc_t h, bc_t (show (0 : Int) ≤ (i : Int) by omega), Int.toNat_natCast, at3 (at_tp hi1), wi1 hi1 hl]
      have bad : bankE (tp l i).1 (tp l i).2.1 (tp l i).2.2 ≠ 0 → [dI (i : Int), dI (bankE (tp l i).1 (tp l i).2.1 (tp l i).2.2)] = [dI (ctI w a l), dI (ctE w a l)] := fun e => by
        rw [if_neg e] at hr
        rw [hk1, hk2, hr]
      generalize tp l i = t at *
      by_cases h1 : 0 ≤ t.1 ∧ t.1 ≤ 1000
      · refine .inl ⟨sayWt h1, ?_⟩
        by_cases h2 : 0 ≤ t.2.1 ∧ t.2.1 ≤ 1000
        · refine .inl ⟨sayWt h2, ?_⟩
          by_cases h3 : 0 ≤ t.2.2 ∧ t.2.2 ≤ 8
          · refine .inl ⟨sayWt h3, ?_⟩
            refine bc_dec (fun h4 => ?_) (fun h4 => ?_)
            · have e : bankE t.1 t.2.1 t.2.2 = 9 := by rw [bankE, if_pos ⟨h1, h2⟩, if_pos h3, if_neg (by omega)]
              have := bad (by omega)
              rw [e] at this; exact this
            · have e : bankE t.1 t.2.1 t.2.2 = 0 := by rw [bankE, if_pos ⟨h1, h2⟩, if_pos h3, if_pos (by omega)]
              rw [if_pos e] at hr
              exact ⟨(i + 1, cap), ⟨hi1, hc, by rw [hr]; rfl⟩, by show l.length - (i + 1) < l.length - i; omega, rfl⟩
          · refine .inr ⟨sayWf h3, ?_⟩
            have e : bankE t.1 t.2.1 t.2.2 = 2 := by rw [bankE, if_pos ⟨h1, h2⟩, if_neg h3]
            have := bad (by omega)
            rw [e] at this; exact this
        · refine .inr ⟨sayWf h2, ?_⟩
          have e : bankE t.1 t.2.1 t.2.2 = 2 := by rw [bankE, if_neg (fun h => h2 h.2)]
          have := bad (by omega)
          rw [e] at this; exact this
      · refine .inr ⟨sayWf h1, ?_⟩
        have e : bankE t.1 t.2.1 t.2.2 = 2 := by rw [bankE, if_neg (fun h => h1 h.1)]
        have := bad (by omega)
        rw [e] at this; exact this
    · show (if 0 = 0 then _ else _)
      rw [if_pos rfl]
      show nRT2 _ _ _
      rw [nRT2_text]
      rw [List.drop_eq_nil_of_le (by omega)] at hr
      show _ = _; rw [hk1, hk2, hr]; rfl
theorem ctE_nil (w a : Int) : ctI w a [] = 0 ∧ ctE w a [] = (if (0 ≤ w ∧ w ≤ 12000) ∧ (0 ≤ a ∧ a ≤ 100) then 10 else 2) := by
  unfold ctI ctE headE
  repeat' split
  all_goals first | exact ⟨rfl, rfl⟩ | (constructor <;> first | rfl | omega) | skip
  all_goals first | (rename_i h; exact absurd h (by decide)) | skip
theorem conRTn (w a : Int) : C5 14 [.agg [dI w, dI a, .nil]] [dI (ctI w a []), dI (ctE w a [])] := by
  refine con_of (L := fun _ _ _ => False) hokA mixed Tryz.func14 rfl (by show 0 ≤ 400; omega) rfl (ids := [0]) (by kernel_rfl) rfl (fun caps => ?_) (fun id hid => ?_)
  · show gRTn _ _ w a _
    rw [gRTn_text, (ctE_nil w a).1, (ctE_nil w a).2]
    by_cases h1 : 0 ≤ w ∧ w ≤ 12000
    · refine .inl ⟨sayWt h1, ?_⟩
      by_cases h2 : 0 ≤ a ∧ a ≤ 100
      · refine .inl ⟨sayWt h2, ?_⟩
        rw [if_pos ⟨h1, h2⟩] <;> trivial
      · refine .inr ⟨sayWf h2, ?_⟩
        rw [if_neg (fun h => h2 h.2)] <;> trivial
    · refine .inr ⟨sayWf h1, ?_⟩
      rw [if_neg (fun h => h1 h.1)] <;> trivial
  · obtain rfl := List.mem_singleton.1 hid
    exact ⟨Nat, fun _ => ([], []), fun _ => False, fun _ => 0, ⟨fun s b h => h.elim, by kernel_rfl, fun j hj => hj.elim⟩⟩
theorem conTE (w a : Int) (l : List Tr) (hl : l.length < 1000000000) : C5 34 [dT w a l] [dI (ctE w a l)] := by
  refine con_flat hokA mixed Tryz.func34 rfl (by show 1 ≤ 400; omega) rfl (by kernel_rfl) (fun caps => ?_)
  show gTE _ _ w a l.length (caps 500) (trs l) _
  rw [gTE_text, trs_whole, bc_t (v3le l)]
  exact ⟨_, _, ⟨conRT w a l hl⟩, rfl⟩
theorem conTEn (w a : Int) : C5 34 [.agg [dI w, dI a, .nil]] [dI (ctE w a [])] := by
  refine con_flat hokA mixed Tryz.func34 rfl (by show 0 ≤ 400; omega) rfl (by kernel_rfl) (fun caps => ?_)
  show gTEn _ _ w a _
  rw [gTEn_text]
  exact ⟨_, _, ⟨conRTn w a⟩, rfl⟩
end Go.Proofs.G5c

/- Chapter 8: what the frames of the laws share: arguments read as data, a world with the listed tables. -/
namespace Go.Proofs.YtjimnhgpldmpnaaGreatDoor.K
open Go Go.Abs Go.RowKit Go.ChangeShapes Go.WideShapes Go.ChangeAt Go.Proofs Go.Flat Go.Proofs.G5c
set_option maxRecDepth 100000
theorem own : ownKnob Tryz.prog.godebug = none := by kernel_rfl
theorem laidP : laidOutB Tryz.prog = true := by kernel_rfl
theorem mapsP : mapsRowed Tryz.prog = true := by kernel_rfl
theorem slicesP : ∀ t e, t < Tryz.prog.types.size → Tryz.prog.underlying t = some (.slice e) → 0 < Tryz.prog.cellsOf e := slices_full_of Tryz.prog (by kernel_rfl)
theorem tsP {l : List TypeId} (h : l.all (fun t => decide (t < Tryz.prog.types.size)) = true) : ∀ t ∈ l, t < Tryz.prog.types.size := fun t ht => of_decide_eq_true (List.all_eq_true.1 h t ht)
theorem flat_vi : ∀ l : List Int, (l.flatMap fun a => [Value.int .i64 a]) = vi l
  | [] => rfl
  | a :: r => by rw [List.flatMap_cons, flat_vi r]; rfl
/-- lists of whole numbers -/
theorem leaf_ints {t e : TypeId} {d : D} (ht : Tryz.prog.underlying t = some (.slice e)) (he : leaves Tryz.prog 10 e = some [.int .i64]) (h : LeafD Tryz.prog t d) : d = .nil ∨ ∃ l : List Int, d = .sl l.length 1 (vi l) := by
  unfold LeafD at h
  rw [ht] at h
  simp only at h
  rcases h with h | ⟨n, cs, L, rfl, hL, hn, hl, hc⟩
  · exact .inl h
  · rw [he] at hL
    obtain rfl := Option.some.inj hL
    simp only [List.length_cons, List.length_nil, Nat.zero_add] at hl hc ⊢
    obtain ⟨ps, hp, rfl⟩ := chunks_of (f := fun a : Int => [Value.int .i64 a]) (k := 1) (fun _ => rfl) n cs hl (fun i hi => by
      have := hc i hi
      generalize (cs.drop (i * 1)).take 1 = x at this ⊢
      cases this with
      | cons h t => cases t; obtain ⟨a, rfl, _⟩ := h; exact ⟨a, rfl⟩)
    refine .inr ⟨ps, ?_⟩
    rw [hp]
    rw [flat_vi]
theorem leaf_int {t : TypeId} {d : D} (ht : Tryz.prog.underlying t = some (.int .i64)) (h : LeafD Tryz.prog t d) : ∃ n : Int, d = dI n ∧ (-9223372036854775808 ≤ n ∧ n ≤ 9223372036854775807) := by
  unfold LeafD at h
  rw [ht] at h
  obtain ⟨n, rfl, hw⟩ := h
  exact ⟨n, rfl, wf64 hw⟩
theorem flat_trs : ∀ l : List Tr, (l.flatMap fun p => [Value.int .i64 p.1, Value.int .i64 p.2.1, Value.int .i64 p.2.2]) = trs l
  | [] => rfl
  | a :: r => by rw [List.flatMap_cons, flat_trs r]; rfl
theorem leaf_trs {t e : TypeId} {d : D} (ht : Tryz.prog.underlying t = some (.slice e)) (he : leaves Tryz.prog 10 e = some [.int .i64, .int .i64, .int .i64]) (h : LeafD Tryz.prog t d) : d = .nil ∨ ∃ l : List Tr, d = .sl l.length 3 (trs l) := by
  unfold LeafD at h
  rw [ht] at h
  simp only at h
  rcases h with h | ⟨n, cs, L, rfl, hL, hn, hl, hc⟩
  · exact .inl h
  · rw [he] at hL
    obtain rfl := Option.some.inj hL
    simp only [List.length_cons, List.length_nil, Nat.zero_add] at hl hc ⊢
    obtain ⟨ps, hp, rfl⟩ := chunks_of (f := fun p : Tr => [Value.int .i64 p.1, Value.int .i64 p.2.1, Value.int .i64 p.2.2]) (k := 3) (fun _ => rfl) n cs hl (fun i hi => by
      have := hc i hi
      generalize (cs.drop (i * 3)).take 3 = x at this ⊢
      cases this with | cons h1 t => cases t with | cons h2 t => cases t with | cons h3 t =>
      cases t
      obtain ⟨a, rfl, _⟩ := h1
      obtain ⟨b, rfl, _⟩ := h2
      obtain ⟨c, rfl, _⟩ := h3
      exact ⟨(a, b, c), rfl⟩)
    exact .inr ⟨ps, by rw [hp, flat_trs]⟩
/-- The cells of data without addresses. -/
def cellsD : Nat → DataW Unit → List Value
  | 0, _ => []
  | n + 1, .agg ps => ps.flatMap (cellsD n)
  | _ + 1, .lit (.int k z) => [.int k z]
  | _ + 1, .lit (.bool b) => [.bool b]
  | _, _ => []
/-- A world in which the listed tables hold what is listed. -/
def layAt (h : Array Obj) (i : Nat) (d : DataW Unit) : Array Obj := h.modify i fun
  | .cells _ t frozen => .cells (cellsD 8 d).toArray t frozen
  | o => o
noncomputable def laidHeap (h : Array Obj) : Array Obj :=
  layAt (layAt (layAt h 2 Rows.laid_math_bits_deBruijn32tab) 3 Rows.laid_math_bits_deBruijn64tab) 1 Rows.laid_internal_strconv_uint64pow10
noncomputable def laidWorld (os : Os) : World := { World.holding Tryz.prog os ⟨#[], #[], []⟩ with heap := laidHeap (World.holding Tryz.prog os ⟨#[], #[], []⟩).heap }
theorem noStand {ps : Array TypeId} (h : (ps.toList.all fun t => !(Tryz.prog.wantsStandIn t)) = true) : ∀ (j : Nat) t, ps[j]? = some t → Tryz.prog.wantsStandIn t = false := by
  intro j t ht
  have := List.all_eq_true.1 h t (Array.mem_toList_iff.2 (Array.mem_of_getElem? ht))
  simpa using this
end Go.Proofs.YtjimnhgpldmpnaaGreatDoor.K

/- What is left to show of each function, written out; the kernel reckons it. -/
namespace Go.Proofs.G5c
open Go Go.Abs Go.Proofs
set_option maxRecDepth 100000
set_option linter.unusedVariables false
def preC (C : Ct) : FuncId → Option Handler := fun g => if g == 91 then some (stateH (limAll 3)) else if g == 11 then some (fixH C copyTab) else if g == 23 then some (fixH C copyStr) else if g == 62 then some (fixH C copyRan) else if g == 25 then some (fixH C copyInts) else if [94, 8, 50, 52, 61, 10, 58, 57, 83, 60, 59, 12, 13, 22, 99, 65, 66, 24, 26, 100, 15, 32, 30, 35, 14, 34, 43, 17, 18, 70, 36, 19, 16, 27, 67, 28, 68, 29, 31, 33, 69].contains g then some (saidH Tryz.prog C) else none
abbrev hC (C : Ct) : Handler := handlerX Tryz.prog (preC C) 12 6
def gP1 (C : Ct) (L : AtLoop) (x0 : Int) (x1 : Int) (n2 : Nat) (c2 : Nat) (l2 : List Value) (x3 : Int) (x4 : Int) (k : List D → Prop) : Prop := wpFn Tryz.prog (hC C) L 0 94 #[.agg #[.int .i64 x0, .int .i64 x1, .slice (some ⟨500, 0, none⟩) n2 c2], .int .i64 x3, .int .i64 x4, .func (.func 95) #[] #[]] (heapOf [(500, .sym l2 false 3)]) (dataK k)
theorem gP1_text (C : Ct) (L : AtLoop) (x0 : Int) (x1 : Int) (n2 : Nat) (c2 : Nat) (l2 : List Go.Value) (x3 : Int) (x4 : Int) (k : List D → Prop) : gP1 C L x0 x1 n2 c2 l2 x3 x4 k =
 (L 0 [(Prod.mk 1 (vI x3)), (Prod.mk 2 (vI x4)), (Prod.mk 3 (Go.Value.func (Go.Fn.func 95) [].toArray [].toArray)), (Prod.mk 4 (Go.Value.pointer (Option.some (Go.Addr.mk 1000 0 Option.none)))), (Prod.mk 13 (Go.Value.slice (Option.some (Go.Addr.mk 500 0 Option.none)) (n2) (c2))), (Prod.mk 14 (vI ((↑n2 : Int)))), (Prod.mk 15 (vI (0 : Int)))] [(Prod.mk 1000 (AObj.cells [(vI x0), (vI x1), (Go.Value.slice (Option.some (Go.Addr.mk 500 0 Option.none)) (n2) (c2))] 104 false 1)), (Prod.mk 500 (AObj.sym (l2) false 3))]) := by kernel_rfl
abbrev zP11 (x0 : Int) (x1 : Int) (n2 : Nat) (c3 : Nat) (x4 : Int) (x5 : Int) (x6 : Int) (x7 : Int) (n8 : Nat) (c9 : Nat) (l10 : List Value) : Slots × Blocks := ([(1, (Value.int .i64 x0)), (2, (Value.int .i64 x1)), (3, (Value.func (.func 95) #[] #[])), (4, (Value.pointer (some ⟨1000, 0, none⟩))), (13, (Value.slice (some ⟨500, 0, none⟩) n2 c3)), (14, (Value.int .i64 x4)), (15, (Value.int .i64 x5))], [(1000, (AObj.cells [(Value.int .i64 x6), (Value.int .i64 x7), (Value.slice (some ⟨500, 0, none⟩) n8 c9)] 104 false 1)), (500, (AObj.sym l10 false 3))])
def rP11 (C : Ct) (L : AtLoop) (x0 : Int) (x1 : Int) (n2 : Nat) (c3 : Nat) (x4 : Int) (x5 : Int) (x6 : Int) (x7 : Int) (n8 : Nat) (c9 : Nat) (l10 : List Value) (B : Bx) (X : Xx) (k : List D → Prop) : Prop := wpRound Tryz.prog (hC C) L 94 0 [(1, (Value.int .i64 x0)), (2, (Value.int .i64 x1)), (3, (Value.func (.func 95) #[] #[])), (4, (Value.pointer (some ⟨1000, 0, none⟩))), (13, (Value.slice (some ⟨500, 0, none⟩) n2 c3)), (14, (Value.int .i64 x4)), (15, (Value.int .i64 x5))] [(1000, (AObj.cells [(Value.int .i64 x6), (Value.int .i64 x7), (Value.slice (some ⟨500, 0, none⟩) n8 c9)] 104 false 1)), (500, (AObj.sym l10 false 3))] B X (dataK k)
theorem rP11_text (C : Ct) (L : AtLoop) (x0 : Int) (x1 : Int) (n2 : Nat) (c3 : Nat) (x4 : Int) (x5 : Int) (x6 : Int) (x7 : Int) (n8 : Nat) (c9 : Nat) (l10 : List Go.Value) (B : Bx) (X : Xx) (k : List D → Prop) : rP11 C L x0 x1 n2 c3 x4 x5 x6 x7 n8 c9 l10 B X k =
 (bcase (decide (x5 < x4))
 (bcase (decide (0 ≤ x5))
 (bcase (decide (x5 < (↑n2 : Int)))
 (∃ n1 : Int,
 (∃ n3 : Int,
 (∃ n4 : Int,
 ((At (l10) (0 + Int.toNat x5 * 3) 3 [(vI n1), (vI n3), (vI n4)]) ∧
 (((Says C 83 [(D.val (vI x0)), (D.val (vI x5))] [(D.val (Value.bool true))]) ∧
 ((((Go.Value.agg [(vI n1), (vI n3)].toArray) = (Go.Value.agg [(vI n1), (vI n3)].toArray)) ∧
 (((Go.Value.pointer (Option.some (Go.Addr.mk 1001 0 Option.none))) = (Go.Value.pointer (Option.some (Go.Addr.mk 1001 0 Option.none)))) ∧
 (((Go.Value.func (Go.Fn.func 95) [].toArray [].toArray) = (Go.Value.func (Go.Fn.func 95) [].toArray [].toArray)) ∧
 (((vI (if 0 > IntKind.wrap .i64 (x1 - x6) then 0 else IntKind.wrap .i64 (x1 - x6))) = (vI (if 0 > IntKind.wrap .i64 (x1 - x6) then 0 else IntKind.wrap .i64 (x1 - x6)))) ∧
 (((vI (IntKind.wrap .i64 (x1 - x6))) = (vI (IntKind.wrap .i64 (x1 - x6)))) ∧
 (((vI x6) = (vI x6)) ∧
 (((Go.Value.pointer (Option.some (Go.Addr.mk 1000 0 Option.none))) = (Go.Value.pointer (Option.some (Go.Addr.mk 1000 0 Option.none)))) ∧
 (((Go.Value.pointer (Option.some (Go.Addr.mk 1000 0 Option.none))) = (Go.Value.pointer (Option.some (Go.Addr.mk 1000 0 Option.none)))) ∧
 (((vI x1) = (vI x1)) ∧
 (((vI x1) = (vI x1)) ∧
 True)))))))))) ∧
 ((((vI (IntKind.wrap .i64 (x1 - IntKind.wrap .i64 (Int.tdiv (IntKind.wrap .i64 ((if 0 > IntKind.wrap .i64 (x1 - x6) then 0 else IntKind.wrap .i64 (x1 - x6)) * n3)) 1000)))) = (vI (IntKind.wrap .i64 (x1 - IntKind.wrap .i64 (Int.tdiv (IntKind.wrap .i64 ((if 0 > IntKind.wrap .i64 (x1 - x6) then 0 else IntKind.wrap .i64 (x1 - x6)) * n3)) 1000))))) ∧
 (((vI (IntKind.wrap .i64 (Int.tdiv (IntKind.wrap .i64 ((if 0 > IntKind.wrap .i64 (x1 - x6) then 0 else IntKind.wrap .i64 (x1 - x6)) * n3)) 1000))) = (vI (IntKind.wrap .i64 (Int.tdiv (IntKind.wrap .i64 ((if 0 > IntKind.wrap .i64 (x1 - x6) then 0 else IntKind.wrap .i64 (x1 - x6)) * n3)) 1000)))) ∧
 (((vI (IntKind.wrap .i64 ((if 0 > IntKind.wrap .i64 (x1 - x6) then 0 else IntKind.wrap .i64 (x1 - x6)) * n3))) = (vI (IntKind.wrap .i64 ((if 0 > IntKind.wrap .i64 (x1 - x6) then 0 else IntKind.wrap .i64 (x1 - x6)) * n3)))) ∧
 (((Go.Value.pointer (Option.some (Go.Addr.mk 1001 0 Option.none))) = (Go.Value.pointer (Option.some (Go.Addr.mk 1001 0 Option.none)))) ∧
 (((vI (if 0 > IntKind.wrap .i64 (x1 - x6) then 0 else IntKind.wrap .i64 (x1 - x6))) = (vI (if 0 > IntKind.wrap .i64 (x1 - x6) then 0 else IntKind.wrap .i64 (x1 - x6)))) ∧
 (((vI (IntKind.wrap .i64 (x1 - x6))) = (vI (IntKind.wrap .i64 (x1 - x6)))) ∧
 (((vI x6) = (vI x6)) ∧
 (((Go.Value.pointer (Option.some (Go.Addr.mk 1000 0 Option.none))) = (Go.Value.pointer (Option.some (Go.Addr.mk 1000 0 Option.none)))) ∧
 (((Go.Value.pointer (Option.some (Go.Addr.mk 1000 0 Option.none))) = (Go.Value.pointer (Option.some (Go.Addr.mk 1000 0 Option.none)))) ∧
 (((vI x1) = (vI x1)) ∧
 (((vI x1) = (vI x1)) ∧
 True))))))))))) ∧
 (True ∧
 (B [(Prod.mk 1 (vI x0)), (Prod.mk 2 (vI (if 0 > IntKind.wrap .i64 (IntKind.wrap .i64 (x1 - IntKind.wrap .i64 (Int.tdiv (IntKind.wrap .i64 ((if 0 > IntKind.wrap .i64 (x1 - x6) then 0 else IntKind.wrap .i64 (x1 - x6)) * n3)) 1000)) - x7) then 0 else IntKind.wrap .i64 (IntKind.wrap .i64 (x1 - IntKind.wrap .i64 (Int.tdiv (IntKind.wrap .i64 ((if 0 > IntKind.wrap .i64 (x1 - x6) then 0 else IntKind.wrap .i64 (x1 - x6)) * n3)) 1000)) - x7)))), (Prod.mk 3 (Go.Value.func (Go.Fn.func 95) [].toArray [].toArray)), (Prod.mk 4 (Go.Value.pointer (Option.some (Go.Addr.mk 1000 0 Option.none)))), (Prod.mk 13 (Go.Value.slice (Option.some (Go.Addr.mk 500 0 Option.none)) (n2) (c3))), (Prod.mk 14 (vI x4)), (Prod.mk 15 (vI (IntKind.wrap .i64 (x5 + 1))))] [(Prod.mk 1000 (AObj.cells [(vI x6), (vI x7), (Go.Value.slice (Option.some (Go.Addr.mk 500 0 Option.none)) (n8) (c9))] 104 false 1)), (Prod.mk 500 (AObj.sym (l10) false 3))]))))) ∨
 ((Says C 83 [(D.val (vI x0)), (D.val (vI x5))] [(D.val (Value.bool false))]) ∧
 (B [(Prod.mk 1 (vI x0)), (Prod.mk 2 (vI (if 0 > IntKind.wrap .i64 (x1 - x7) then 0 else IntKind.wrap .i64 (x1 - x7)))), (Prod.mk 3 (Go.Value.func (Go.Fn.func 95) [].toArray [].toArray)), (Prod.mk 4 (Go.Value.pointer (Option.some (Go.Addr.mk 1000 0 Option.none)))), (Prod.mk 13 (Go.Value.slice (Option.some (Go.Addr.mk 500 0 Option.none)) (n2) (c3))), (Prod.mk 14 (vI x4)), (Prod.mk 15 (vI (IntKind.wrap .i64 (x5 + 1))))] [(Prod.mk 1000 (AObj.cells [(vI x6), (vI x7), (Go.Value.slice (Option.some (Go.Addr.mk 500 0 Option.none)) (n8) (c9))] 104 false 1)), (Prod.mk 500 (AObj.sym (l10) false 3))])))))))
 False)
 False)
 (X 0 [(Prod.mk 2 (vI x1))] [])) := by kernel_rfl
def nP12 (C : Ct) (L : AtLoop) (x0 : Int) (k : List D → Prop) : Prop := wpNext Tryz.prog (hC C) L 94 0 .normal [(2, (Value.int .i64 x0))] [] (dataK k)
theorem nP12_text (C : Ct) (L : AtLoop) (x0 : Int) (k : List D → Prop) : nP12 C L x0 k =
 (k [(D.val (vI x0))]) := by kernel_rfl
def gP2 (C : Ct) (L : AtLoop) (x0 : Int) (x1 : Int) (n2 : Nat) (c2 : Nat) (l2 : List Value) (x3 : Int) (x4 : Int) (k : List D → Prop) : Prop := wpFn Tryz.prog (hC C) L 0 94 #[.agg #[.int .i64 x0, .int .i64 x1, .slice (some ⟨500, 0, none⟩) n2 c2], .int .i64 x3, .int .i64 x4, .func (.func 96) #[] #[]] (heapOf [(500, .sym l2 false 3)]) (dataK k)
theorem gP2_text (C : Ct) (L : AtLoop) (x0 : Int) (x1 : Int) (n2 : Nat) (c2 : Nat) (l2 : List Go.Value) (x3 : Int) (x4 : Int) (k : List D → Prop) : gP2 C L x0 x1 n2 c2 l2 x3 x4 k =
 (L 0 [(Prod.mk 1 (vI x3)), (Prod.mk 2 (vI x4)), (Prod.mk 3 (Go.Value.func (Go.Fn.func 96) [].toArray [].toArray)), (Prod.mk 4 (Go.Value.pointer (Option.some (Go.Addr.mk 1000 0 Option.none)))), (Prod.mk 13 (Go.Value.slice (Option.some (Go.Addr.mk 500 0 Option.none)) (n2) (c2))), (Prod.mk 14 (vI ((↑n2 : Int)))), (Prod.mk 15 (vI (0 : Int)))] [(Prod.mk 1000 (AObj.cells [(vI x0), (vI x1), (Go.Value.slice (Option.some (Go.Addr.mk 500 0 Option.none)) (n2) (c2))] 104 false 1)), (Prod.mk 500 (AObj.sym (l2) false 3))]) := by kernel_rfl
abbrev zP21 (x0 : Int) (x1 : Int) (n2 : Nat) (c3 : Nat) (x4 : Int) (x5 : Int) (x6 : Int) (x7 : Int) (n8 : Nat) (c9 : Nat) (l10 : List Value) : Slots × Blocks := ([(1, (Value.int .i64 x0)), (2, (Value.int .i64 x1)), (3, (Value.func (.func 96) #[] #[])), (4, (Value.pointer (some ⟨1000, 0, none⟩))), (13, (Value.slice (some ⟨500, 0, none⟩) n2 c3)), (14, (Value.int .i64 x4)), (15, (Value.int .i64 x5))], [(1000, (AObj.cells [(Value.int .i64 x6), (Value.int .i64 x7), (Value.slice (some ⟨500, 0, none⟩) n8 c9)] 104 false 1)), (500, (AObj.sym l10 false 3))])
def rP21 (C : Ct) (L : AtLoop) (x0 : Int) (x1 : Int) (n2 : Nat) (c3 : Nat) (x4 : Int) (x5 : Int) (x6 : Int) (x7 : Int) (n8 : Nat) (c9 : Nat) (l10 : List Value) (B : Bx) (X : Xx) (k : List D → Prop) : Prop := wpRound Tryz.prog (hC C) L 94 0 [(1, (Value.int .i64 x0)), (2, (Value.int .i64 x1)), (3, (Value.func (.func 96) #[] #[])), (4, (Value.pointer (some ⟨1000, 0, none⟩))), (13, (Value.slice (some ⟨500, 0, none⟩) n2 c3)), (14, (Value.int .i64 x4)), (15, (Value.int .i64 x5))] [(1000, (AObj.cells [(Value.int .i64 x6), (Value.int .i64 x7), (Value.slice (some ⟨500, 0, none⟩) n8 c9)] 104 false 1)), (500, (AObj.sym l10 false 3))] B X (dataK k)
theorem rP21_text (C : Ct) (L : AtLoop) (x0 : Int) (x1 : Int) (n2 : Nat) (c3 : Nat) (x4 : Int) (x5 : Int) (x6 : Int) (x7 : Int) (n8 : Nat) (c9 : Nat) (l10 : List Go.Value) (B : Bx) (X : Xx) (k : List D → Prop) : rP21 C L x0 x1 n2 c3 x4 x5 x6 x7 n8 c9 l10 B X k =
 (bcase (decide (x5 < x4))
 (bcase (decide (0 ≤ x5))
 (bcase (decide (x5 < (↑n2 : Int)))
 (∃ n1 : Int,
 (∃ n3 : Int,
 (∃ n4 : Int,
 ((At (l10) (0 + Int.toNat x5 * 3) 3 [(vI n1), (vI n3), (vI n4)]) ∧
 (((Says C 83 [(D.val (vI x0)), (D.val (vI x5))] [(D.val (Value.bool true))]) ∧
 ((((Go.Value.agg [(vI n1), (vI n3)].toArray) = (Go.Value.agg [(vI n1), (vI n3)].toArray)) ∧
 (((Go.Value.pointer (Option.some (Go.Addr.mk 1001 0 Option.none))) = (Go.Value.pointer (Option.some (Go.Addr.mk 1001 0 Option.none)))) ∧
 (((Go.Value.func (Go.Fn.func 96) [].toArray [].toArray) = (Go.Value.func (Go.Fn.func 96) [].toArray [].toArray)) ∧
 (((vI (if 0 > IntKind.wrap .i64 (x1 - x6) then 0 else IntKind.wrap .i64 (x1 - x6))) = (vI (if 0 > IntKind.wrap .i64 (x1 - x6) then 0 else IntKind.wrap .i64 (x1 - x6)))) ∧
 (((vI (IntKind.wrap .i64 (x1 - x6))) = (vI (IntKind.wrap .i64 (x1 - x6)))) ∧
 (((vI x6) = (vI x6)) ∧
 (((Go.Value.pointer (Option.some (Go.Addr.mk 1000 0 Option.none))) = (Go.Value.pointer (Option.some (Go.Addr.mk 1000 0 Option.none)))) ∧
 (((Go.Value.pointer (Option.some (Go.Addr.mk 1000 0 Option.none))) = (Go.Value.pointer (Option.some (Go.Addr.mk 1000 0 Option.none)))) ∧
 (((vI x1) = (vI x1)) ∧
 (((vI x1) = (vI x1)) ∧
 True)))))))))) ∧
 ((((vI (IntKind.wrap .i64 (x1 - IntKind.wrap .i64 (Int.tdiv (IntKind.wrap .i64 ((if 0 > IntKind.wrap .i64 (x1 - x6) then 0 else IntKind.wrap .i64 (x1 - x6)) * n1)) 1000)))) = (vI (IntKind.wrap .i64 (x1 - IntKind.wrap .i64 (Int.tdiv (IntKind.wrap .i64 ((if 0 > IntKind.wrap .i64 (x1 - x6) then 0 else IntKind.wrap .i64 (x1 - x6)) * n1)) 1000))))) ∧
 (((vI (IntKind.wrap .i64 (Int.tdiv (IntKind.wrap .i64 ((if 0 > IntKind.wrap .i64 (x1 - x6) then 0 else IntKind.wrap .i64 (x1 - x6)) * n1)) 1000))) = (vI (IntKind.wrap .i64 (Int.tdiv (IntKind.wrap .i64 ((if 0 > IntKind.wrap .i64 (x1 - x6) then 0 else IntKind.wrap .i64 (x1 - x6)) * n1)) 1000)))) ∧
 (((vI (IntKind.wrap .i64 ((if 0 > IntKind.wrap .i64 (x1 - x6) then 0 else IntKind.wrap .i64 (x1 - x6)) * n1))) = (vI (IntKind.wrap .i64 ((if 0 > IntKind.wrap .i64 (x1 - x6) then 0 else IntKind.wrap .i64 (x1 - x6)) * n1)))) ∧
 (((Go.Value.pointer (Option.some (Go.Addr.mk 1001 0 Option.none))) = (Go.Value.pointer (Option.some (Go.Addr.mk 1001 0 Option.none)))) ∧
 (((vI (if 0 > IntKind.wrap .i64 (x1 - x6) then 0 else IntKind.wrap .i64 (x1 - x6))) = (vI (if 0 > IntKind.wrap .i64 (x1 - x6) then 0 else IntKind.wrap .i64 (x1 - x6)))) ∧
 (((vI (IntKind.wrap .i64 (x1 - x6))) = (vI (IntKind.wrap .i64 (x1 - x6)))) ∧
 (((vI x6) = (vI x6)) ∧
 (((Go.Value.pointer (Option.some (Go.Addr.mk 1000 0 Option.none))) = (Go.Value.pointer (Option.some (Go.Addr.mk 1000 0 Option.none)))) ∧
 (((Go.Value.pointer (Option.some (Go.Addr.mk 1000 0 Option.none))) = (Go.Value.pointer (Option.some (Go.Addr.mk 1000 0 Option.none)))) ∧
 (((vI x1) = (vI x1)) ∧
 (((vI x1) = (vI x1)) ∧
 True))))))))))) ∧
 (True ∧
 (B [(Prod.mk 1 (vI x0)), (Prod.mk 2 (vI (if 0 > IntKind.wrap .i64 (IntKind.wrap .i64 (x1 - IntKind.wrap .i64 (Int.tdiv (IntKind.wrap .i64 ((if 0 > IntKind.wrap .i64 (x1 - x6) then 0 else IntKind.wrap .i64 (x1 - x6)) * n1)) 1000)) - x7) then 0 else IntKind.wrap .i64 (IntKind.wrap .i64 (x1 - IntKind.wrap .i64 (Int.tdiv (IntKind.wrap .i64 ((if 0 > IntKind.wrap .i64 (x1 - x6) then 0 else IntKind.wrap .i64 (x1 - x6)) * n1)) 1000)) - x7)))), (Prod.mk 3 (Go.Value.func (Go.Fn.func 96) [].toArray [].toArray)), (Prod.mk 4 (Go.Value.pointer (Option.some (Go.Addr.mk 1000 0 Option.none)))), (Prod.mk 13 (Go.Value.slice (Option.some (Go.Addr.mk 500 0 Option.none)) (n2) (c3))), (Prod.mk 14 (vI x4)), (Prod.mk 15 (vI (IntKind.wrap .i64 (x5 + 1))))] [(Prod.mk 1000 (AObj.cells [(vI x6), (vI x7), (Go.Value.slice (Option.some (Go.Addr.mk 500 0 Option.none)) (n8) (c9))] 104 false 1)), (Prod.mk 500 (AObj.sym (l10) false 3))]))))) ∨
 ((Says C 83 [(D.val (vI x0)), (D.val (vI x5))] [(D.val (Value.bool false))]) ∧
 (B [(Prod.mk 1 (vI x0)), (Prod.mk 2 (vI (if 0 > IntKind.wrap .i64 (x1 - x7) then 0 else IntKind.wrap .i64 (x1 - x7)))), (Prod.mk 3 (Go.Value.func (Go.Fn.func 96) [].toArray [].toArray)), (Prod.mk 4 (Go.Value.pointer (Option.some (Go.Addr.mk 1000 0 Option.none)))), (Prod.mk 13 (Go.Value.slice (Option.some (Go.Addr.mk 500 0 Option.none)) (n2) (c3))), (Prod.mk 14 (vI x4)), (Prod.mk 15 (vI (IntKind.wrap .i64 (x5 + 1))))] [(Prod.mk 1000 (AObj.cells [(vI x6), (vI x7), (Go.Value.slice (Option.some (Go.Addr.mk 500 0 Option.none)) (n8) (c9))] 104 false 1)), (Prod.mk 500 (AObj.sym (l10) false 3))])))))))
 False)
 False)
 (X 0 [(Prod.mk 2 (vI x1))] [])) := by kernel_rfl
def nP22 (C : Ct) (L : AtLoop) (x0 : Int) (k : List D → Prop) : Prop := wpNext Tryz.prog (hC C) L 94 0 .normal [(2, (Value.int .i64 x0))] [] (dataK k)
theorem nP22_text (C : Ct) (L : AtLoop) (x0 : Int) (k : List D → Prop) : nP22 C L x0 k =
 (k [(D.val (vI x0))]) := by kernel_rfl
def gAf (C : Ct) (L : AtLoop) (x0 : Int) (x1 : Int) (n2 : Nat) (c2 : Nat) (l2 : List Value) (x3 : Int) (x4 : Int) (n5 : Nat) (c5 : Nat) (l5 : List Value) (k : List D → Prop) : Prop := wpFn Tryz.prog (hC C) L 0 36 #[.agg #[.int .i64 x0, .int .i64 x1, .slice (some ⟨500, 0, none⟩) n2 c2], .int .i64 x3, .int .i64 x4, .slice (some ⟨501, 0, none⟩) n5 c5] (heapOf [(500, .sym l2 false 3), (501, .sym l5 false 1)]) (dataK k)
theorem gAf_text (C : Ct) (L : AtLoop) (x0 : Int) (x1 : Int) (n2 : Nat) (c2 : Nat) (l2 : List Go.Value) (x3 : Int) (x4 : Int) (n5 : Nat) (c5 : Nat) (l5 : List Go.Value) (k : List D → Prop) : gAf C L x0 x1 n2 c2 l2 x3 x4 n5 c5 l5 k =
 (L 0 [(Prod.mk 1 (vI x3)), (Prod.mk 2 (vI x4)), (Prod.mk 3 (Go.Value.slice (Option.some (Go.Addr.mk 501 0 Option.none)) (n5) (c5))), (Prod.mk 4 (Go.Value.pointer (Option.some (Go.Addr.mk 1000 0 Option.none)))), (Prod.mk 9 (vI (0 : Int)))] [(Prod.mk 501 (AObj.sym (l5) false 1)), (Prod.mk 1000 (AObj.cells [(vI x0), (vI x1), (Go.Value.slice (Option.some (Go.Addr.mk 500 0 Option.none)) (n2) (c2))] 24 false 1)), (Prod.mk 500 (AObj.sym (l2) false 3))]) := by kernel_rfl
abbrev zAf1 (x0 : Int) (x1 : Int) (n2 : Nat) (c3 : Nat) (x4 : Int) (l5 : List Value) (x6 : Int) (x7 : Int) (n8 : Nat) (c9 : Nat) (l10 : List Value) : Slots × Blocks := ([(1, (Value.int .i64 x0)), (2, (Value.int .i64 x1)), (3, (Value.slice (some ⟨501, 0, none⟩) n2 c3)), (4, (Value.pointer (some ⟨1000, 0, none⟩))), (9, (Value.int .i64 x4))], [(501, (AObj.sym l5 false 1)), (1000, (AObj.cells [(Value.int .i64 x6), (Value.int .i64 x7), (Value.slice (some ⟨500, 0, none⟩) n8 c9)] 24 false 1)), (500, (AObj.sym l10 false 3))])
def rAf1 (C : Ct) (L : AtLoop) (x0 : Int) (x1 : Int) (n2 : Nat) (c3 : Nat) (x4 : Int) (l5 : List Value) (x6 : Int) (x7 : Int) (n8 : Nat) (c9 : Nat) (l10 : List Value) (B : Bx) (X : Xx) (k : List D → Prop) : Prop := wpRound Tryz.prog (hC C) L 36 0 [(1, (Value.int .i64 x0)), (2, (Value.int .i64 x1)), (3, (Value.slice (some ⟨501, 0, none⟩) n2 c3)), (4, (Value.pointer (some ⟨1000, 0, none⟩))), (9, (Value.int .i64 x4))] [(501, (AObj.sym l5 false 1)), (1000, (AObj.cells [(Value.int .i64 x6), (Value.int .i64 x7), (Value.slice (some ⟨500, 0, none⟩) n8 c9)] 24 false 1)), (500, (AObj.sym l10 false 3))] B X (dataK k)
theorem rAf1_text (C : Ct) (L : AtLoop) (x0 : Int) (x1 : Int) (n2 : Nat) (c3 : Nat) (x4 : Int) (l5 : List Go.Value) (x6 : Int) (x7 : Int) (n8 : Nat) (c9 : Nat) (l10 : List Go.Value) (B : Bx) (X : Xx) (k : List D → Prop) : rAf1 C L x0 x1 n2 c3 x4 l5 x6 x7 n8 c9 l10 B X k =
 (bcase (decide (x4 < (↑n8 : Int)))
 (((Says C 70 [(D.val (vI x0)), (D.val (vI x4))] [(D.val (Value.bool true))]) ∧
 (bcase (decide (x1 > x6))
 (bcase (decide (0 ≤ x4))
 (bcase (decide (x4 < (↑n2 : Int)))
 (∃ n1 : Int,
 ((At (l5) (0 + Int.toNat x4 * 1) 1 [(vI n1)]) ∧
 ((((vI (IntKind.wrap .i64 (x1 - IntKind.wrap .i64 (Int.tdiv (IntKind.wrap .i64 (IntKind.wrap .i64 (x1 - x6) * n1)) 1000)))) = (vI (IntKind.wrap .i64 (x1 - IntKind.wrap .i64 (Int.tdiv (IntKind.wrap .i64 (IntKind.wrap .i64 (x1 - x6) * n1)) 1000))))) ∧
 (((vI (IntKind.wrap .i64 (Int.tdiv (IntKind.wrap .i64 (IntKind.wrap .i64 (x1 - x6) * n1)) 1000))) = (vI (IntKind.wrap .i64 (Int.tdiv (IntKind.wrap .i64 (IntKind.wrap .i64 (x1 - x6) * n1)) 1000)))) ∧
 (((vI (IntKind.wrap .i64 (IntKind.wrap .i64 (x1 - x6) * n1))) = (vI (IntKind.wrap .i64 (IntKind.wrap .i64 (x1 - x6) * n1)))) ∧
 ((∃ n3 : Int,
 ((At (l5) (0 + Int.toNat x4 * 1) 1 [(vI n3)]) ∧
 ((vI n3) = (vI n1)))) ∧
 ((bcase (decide (0 ≤ x4))
 (bcase (decide (x4 < (↑n2 : Int)))
 ((Go.Value.pointer (Option.some (Go.Addr.mk 501 (0 + Int.toNat x4 * 1) Option.none))) = (Go.Value.pointer (Option.some (Go.Addr.mk 501 (0 + Int.toNat x4 * 1) Option.none))))
 False)
 False) ∧
 (((vI x4) = (vI x4)) ∧
 (((Go.Value.slice (Option.some (Go.Addr.mk 501 0 Option.none)) (n2) (c3)) = (Go.Value.slice (Option.some (Go.Addr.mk 501 0 Option.none)) (n2) (c3))) ∧
 (((vI (IntKind.wrap .i64 (x1 - x6))) = (vI (IntKind.wrap .i64 (x1 - x6)))) ∧
 (((vI x6) = (vI x6)) ∧
 (((Go.Value.pointer (Option.some (Go.Addr.mk 1000 0 Option.none))) = (Go.Value.pointer (Option.some (Go.Addr.mk 1000 0 Option.none)))) ∧
 (((vI x1) = (vI x1)) ∧
 (((vI x1) = (vI x1)) ∧
 True)))))))))))) ∧
 (True ∧
 (B [(Prod.mk 1 (vI x0)), (Prod.mk 2 (vI (if IntKind.wrap .i64 (IntKind.wrap .i64 (x1 - IntKind.wrap .i64 (Int.tdiv (IntKind.wrap .i64 (IntKind.wrap .i64 (x1 - x6) * n1)) 1000)) - x7) > 0 then IntKind.wrap .i64 (IntKind.wrap .i64 (x1 - IntKind.wrap .i64 (Int.tdiv (IntKind.wrap .i64 (IntKind.wrap .i64 (x1 - x6) * n1)) 1000)) - x7) else 0))), (Prod.mk 3 (Go.Value.slice (Option.some (Go.Addr.mk 501 0 Option.none)) (n2) (c3))), (Prod.mk 4 (Go.Value.pointer (Option.some (Go.Addr.mk 1000 0 Option.none)))), (Prod.mk 9 (vI (IntKind.wrap .i64 (x4 + 1))))] [(Prod.mk 501 (AObj.sym (l5) false 1)), (Prod.mk 1000 (AObj.cells [(vI x6), (vI x7), (Go.Value.slice (Option.some (Go.Addr.mk 500 0 Option.none)) (n8) (c9))] 24 false 1)), (Prod.mk 500 (AObj.sym (l10) false 3))])))))
 False)
 False)
 (B [(Prod.mk 1 (vI x0)), (Prod.mk 2 (vI (if IntKind.wrap .i64 (x1 - x7) > 0 then IntKind.wrap .i64 (x1 - x7) else 0))), (Prod.mk 3 (Go.Value.slice (Option.some (Go.Addr.mk 501 0 Option.none)) (n2) (c3))), (Prod.mk 4 (Go.Value.pointer (Option.some (Go.Addr.mk 1000 0 Option.none)))), (Prod.mk 9 (vI (IntKind.wrap .i64 (x4 + 1))))] [(Prod.mk 501 (AObj.sym (l5) false 1)), (Prod.mk 1000 (AObj.cells [(vI x6), (vI x7), (Go.Value.slice (Option.some (Go.Addr.mk 500 0 Option.none)) (n8) (c9))] 24 false 1)), (Prod.mk 500 (AObj.sym (l10) false 3))]))) ∨
 ((Says C 70 [(D.val (vI x0)), (D.val (vI x4))] [(D.val (Value.bool false))]) ∧
 (B [(Prod.mk 1 (vI x0)), (Prod.mk 2 (vI (if IntKind.wrap .i64 (x1 - x7) > 0 then IntKind.wrap .i64 (x1 - x7) else 0))), (Prod.mk 3 (Go.Value.slice (Option.some (Go.Addr.mk 501 0 Option.none)) (n2) (c3))), (Prod.mk 4 (Go.Value.pointer (Option.some (Go.Addr.mk 1000 0 Option.none)))), (Prod.mk 9 (vI (IntKind.wrap .i64 (x4 + 1))))] [(Prod.mk 501 (AObj.sym (l5) false 1)), (Prod.mk 1000 (AObj.cells [(vI x6), (vI x7), (Go.Value.slice (Option.some (Go.Addr.mk 500 0 Option.none)) (n8) (c9))] 24 false 1)), (Prod.mk 500 (AObj.sym (l10) false 3))])))
 (X 0 [(Prod.mk 2 (vI x1))] [])) := by kernel_rfl
def nAf2 (C : Ct) (L : AtLoop) (x0 : Int) (k : List D → Prop) : Prop := wpNext Tryz.prog (hC C) L 36 0 .normal [(2, (Value.int .i64 x0))] [] (dataK k)
theorem nAf2_text (C : Ct) (L : AtLoop) (x0 : Int) (k : List D → Prop) : nAf2 C L x0 k =
 (k [(D.val (vI x0))]) := by kernel_rfl
def gV1 (C : Ct) (x0 : Int) (x1 : Int) (c2 : Nat) (y2_0 : Int) (y2_1 : Int) (y2_2 : Int) (x3 : Int) (k : List D → Prop) : Prop := wpFn Tryz.prog (hC C) (fun _ _ _ => False) 8 60 #[.agg #[.int .i64 x0, .int .i64 x1, .slice (some ⟨500, 0, none⟩) 1 c2], .int .i64 x3] (heapOf [(500, .sym [.int .i64 y2_0, .int .i64 y2_1, .int .i64 y2_2] false 3)]) (dataK k)
theorem gV1_text (C : Ct) (x0 : Int) (x1 : Int) (c2 : Nat) (y2_0 : Int) (y2_1 : Int) (y2_2 : Int) (x3 : Int) (k : List D → Prop) : gV1 C x0 x1 c2 y2_0 y2_1 y2_2 x3 k =
 (∃ n1 : Int,
 ((At [(vI y2_0), (vI y2_1), (vI y2_2)] 2 1 [(vI n1)]) ∧
 (bcase (decide (IntKind.wrap .i64 (IntKind.wrap .i64 (x3 + 0) - n1) ≥ 0))
 (k [(D.val (vI (1 : Int)))])
 (k [(D.val (vI (0 : Int)))])))) := by kernel_rfl
def gV2 (C : Ct) (x0 : Int) (x1 : Int) (c2 : Nat) (y2_0 : Int) (y2_1 : Int) (y2_2 : Int) (y2_3 : Int) (y2_4 : Int) (y2_5 : Int) (x3 : Int) (k : List D → Prop) : Prop := wpFn Tryz.prog (hC C) (fun _ _ _ => False) 8 60 #[.agg #[.int .i64 x0, .int .i64 x1, .slice (some ⟨500, 0, none⟩) 2 c2], .int .i64 x3] (heapOf [(500, .sym [.int .i64 y2_0, .int .i64 y2_1, .int .i64 y2_2, .int .i64 y2_3, .int .i64 y2_4, .int .i64 y2_5] false 3)]) (dataK k)
theorem gV2_text (C : Ct) (x0 : Int) (x1 : Int) (c2 : Nat) (y2_0 : Int) (y2_1 : Int) (y2_2 : Int) (y2_3 : Int) (y2_4 : Int) (y2_5 : Int) (x3 : Int) (k : List D → Prop) : gV2 C x0 x1 c2 y2_0 y2_1 y2_2 y2_3 y2_4 y2_5 x3 k =
 (∃ n1 : Int,
 ((At [(vI y2_0), (vI y2_1), (vI y2_2), (vI y2_3), (vI y2_4), (vI y2_5)] 2 1 [(vI n1)]) ∧
 (bcase (decide (IntKind.wrap .i64 (IntKind.wrap .i64 (x3 + 0) - n1) ≥ 0))
 (∃ n2 : Int,
 ((At [(vI y2_0), (vI y2_1), (vI y2_2), (vI y2_3), (vI y2_4), (vI y2_5)] 5 1 [(vI n2)]) ∧
 (bcase (decide (IntKind.wrap .i64 (IntKind.wrap .i64 (x3 + IntKind.wrap .i64 (0 + 1)) - n2) ≥ 0))
 (k [(D.val (vI (3 : Int)))])
 (k [(D.val (vI (1 : Int)))]))))
 (∃ n2 : Int,
 ((At [(vI y2_0), (vI y2_1), (vI y2_2), (vI y2_3), (vI y2_4), (vI y2_5)] 5 1 [(vI n2)]) ∧
 (bcase (decide (IntKind.wrap .i64 (IntKind.wrap .i64 (x3 + IntKind.wrap .i64 (0 + 1)) - n2) ≥ 0))
 (k [(D.val (vI (2 : Int)))])
 (k [(D.val (vI (0 : Int)))]))))))) := by kernel_rfl
def gV3 (C : Ct) (x0 : Int) (x1 : Int) (c2 : Nat) (y2_0 : Int) (y2_1 : Int) (y2_2 : Int) (y2_3 : Int) (y2_4 : Int) (y2_5 : Int) (y2_6 : Int) (y2_7 : Int) (y2_8 : Int) (x3 : Int) (k : List D → Prop) : Prop := wpFn Tryz.prog (hC C) (fun _ _ _ => False) 8 60 #[.agg #[.int .i64 x0, .int .i64 x1, .slice (some ⟨500, 0, none⟩) 3 c2], .int .i64 x3] (heapOf [(500, .sym [.int .i64 y2_0, .int .i64 y2_1, .int .i64 y2_2, .int .i64 y2_3, .int .i64 y2_4, .int .i64 y2_5, .int .i64 y2_6, .int .i64 y2_7, .int .i64 y2_8] false 3)]) (dataK k)
theorem gV3_text (C : Ct) (x0 : Int) (x1 : Int) (c2 : Nat) (y2_0 : Int) (y2_1 : Int) (y2_2 : Int) (y2_3 : Int) (y2_4 : Int) (y2_5 : Int) (y2_6 : Int) (y2_7 : Int) (y2_8 : Int) (x3 : Int) (k : List D → Prop) : gV3 C x0 x1 c2 y2_0 y2_1 y2_2 y2_3 y2_4 y2_5 y2_6 y2_7 y2_8 x3 k =
 (∃ n1 : Int,
 ((At [(vI y2_0), (vI y2_1), (vI y2_2), (vI y2_3), (vI y2_4), (vI y2_5), (vI y2_6), (vI y2_7), (vI y2_8)] 2 1 [(vI n1)]) ∧
 (bcase (decide (IntKind.wrap .i64 (IntKind.wrap .i64 (x3 + 0) - n1) ≥ 0))
 (∃ n2 : Int,
 ((At [(vI y2_0), (vI y2_1), (vI y2_2), (vI y2_3), (vI y2_4), (vI y2_5), (vI y2_6), (vI y2_7), (vI y2_8)] 5 1 [(vI n2)]) ∧
 (bcase (decide (IntKind.wrap .i64 (IntKind.wrap .i64 (x3 + IntKind.wrap .i64 (0 + 1)) - n2) ≥ 0))
 (∃ n3 : Int,
 ((At [(vI y2_0), (vI y2_1), (vI y2_2), (vI y2_3), (vI y2_4), (vI y2_5), (vI y2_6), (vI y2_7), (vI y2_8)] 8 1 [(vI n3)]) ∧
 (bcase (decide (IntKind.wrap .i64 (IntKind.wrap .i64 (x3 + IntKind.wrap .i64 (IntKind.wrap .i64 (0 + 1) + 1)) - n3) ≥ 0))
 (k [(D.val (vI (7 : Int)))])
 (k [(D.val (vI (3 : Int)))]))))
 (∃ n3 : Int,
 ((At [(vI y2_0), (vI y2_1), (vI y2_2), (vI y2_3), (vI y2_4), (vI y2_5), (vI y2_6), (vI y2_7), (vI y2_8)] 8 1 [(vI n3)]) ∧
 (bcase (decide (IntKind.wrap .i64 (IntKind.wrap .i64 (x3 + IntKind.wrap .i64 (IntKind.wrap .i64 (0 + 1) + 1)) - n3) ≥ 0))
 (k [(D.val (vI (5 : Int)))])
 (k [(D.val (vI (1 : Int)))])))))))
 (∃ n2 : Int,
 ((At [(vI y2_0), (vI y2_1), (vI y2_2), (vI y2_3), (vI y2_4), (vI y2_5), (vI y2_6), (vI y2_7), (vI y2_8)] 5 1 [(vI n2)]) ∧
 (bcase (decide (IntKind.wrap .i64 (IntKind.wrap .i64 (x3 + IntKind.wrap .i64 (0 + 1)) - n2) ≥ 0))
 (∃ n3 : Int,
 ((At [(vI y2_0), (vI y2_1), (vI y2_2), (vI y2_3), (vI y2_4), (vI y2_5), (vI y2_6), (vI y2_7), (vI y2_8)] 8 1 [(vI n3)]) ∧
 (bcase (decide (IntKind.wrap .i64 (IntKind.wrap .i64 (x3 + IntKind.wrap .i64 (IntKind.wrap .i64 (0 + 1) + 1)) - n3) ≥ 0))
 (k [(D.val (vI (6 : Int)))])
 (k [(D.val (vI (2 : Int)))]))))
 (∃ n3 : Int,
 ((At [(vI y2_0), (vI y2_1), (vI y2_2), (vI y2_3), (vI y2_4), (vI y2_5), (vI y2_6), (vI y2_7), (vI y2_8)] 8 1 [(vI n3)]) ∧
 (bcase (decide (IntKind.wrap .i64 (IntKind.wrap .i64 (x3 + IntKind.wrap .i64 (IntKind.wrap .i64 (0 + 1) + 1)) - n3) ≥ 0))
 (k [(D.val (vI (4 : Int)))])
 (k [(D.val (vI (0 : Int)))])))))))))) := by kernel_rfl
def gV4 (C : Ct) (x0 : Int) (x1 : Int) (c2 : Nat) (y2_0 : Int) (y2_1 : Int) (y2_2 : Int) (y2_3 : Int) (y2_4 : Int) (y2_5 : Int) (y2_6 : Int) (y2_7 : Int) (y2_8 : Int) (y2_9 : Int) (y2_10 : Int) (y2_11 : Int) (x3 : Int) (k : List D → Prop) : Prop := wpFn Tryz.prog (hC C) (fun _ _ _ => False) 8 60 #[.agg #[.int .i64 x0, .int .i64 x1, .slice (some ⟨500, 0, none⟩) 4 c2], .int .i64 x3] (heapOf [(500, .sym [.int .i64 y2_0, .int .i64 y2_1, .int .i64 y2_2, .int .i64 y2_3, .int .i64 y2_4, .int .i64 y2_5, .int .i64 y2_6, .int .i64 y2_7, .int .i64 y2_8, .int .i64 y2_9, .int .i64 y2_10, .int .i64 y2_11] false 3)]) (dataK k)
theorem gV4_text (C : Ct) (x0 : Int) (x1 : Int) (c2 : Nat) (y2_0 : Int) (y2_1 : Int) (y2_2 : Int) (y2_3 : Int) (y2_4 : Int) (y2_5 : Int) (y2_6 : Int) (y2_7 : Int) (y2_8 : Int) (y2_9 : Int) (y2_10 : Int) (y2_11 : Int) (x3 : Int) (k : List D → Prop) : gV4 C x0 x1 c2 y2_0 y2_1 y2_2 y2_3 y2_4 y2_5 y2_6 y2_7 y2_8 y2_9 y2_10 y2_11 x3 k =
 (∃ n1 : Int,
 ((At [(vI y2_0), (vI y2_1), (vI y2_2), (vI y2_3), (vI y2_4), (vI y2_5), (vI y2_6), (vI y2_7), (vI y2_8), (vI y2_9), (vI y2_10), (vI y2_11)] 2 1 [(vI n1)]) ∧
 (bcase (decide (IntKind.wrap .i64 (IntKind.wrap .i64 (x3 + 0) - n1) ≥ 0))
 (∃ n2 : Int,
 ((At [(vI y2_0), (vI y2_1), (vI y2_2), (vI y2_3), (vI y2_4), (vI y2_5), (vI y2_6), (vI y2_7), (vI y2_8), (vI y2_9), (vI y2_10), (vI y2_11)] 5 1 [(vI n2)]) ∧
 (bcase (decide (IntKind.wrap .i64 (IntKind.wrap .i64 (x3 + IntKind.wrap .i64 (0 + 1)) - n2) ≥ 0))
 (∃ n3 : Int,
 ((At [(vI y2_0), (vI y2_1), (vI y2_2), (vI y2_3), (vI y2_4), (vI y2_5), (vI y2_6), (vI y2_7), (vI y2_8), (vI y2_9), (vI y2_10), (vI y2_11)] 8 1 [(vI n3)]) ∧
 (bcase (decide (IntKind.wrap .i64 (IntKind.wrap .i64 (x3 + IntKind.wrap .i64 (IntKind.wrap .i64 (0 + 1) + 1)) - n3) ≥ 0))
 (∃ n4 : Int,
 ((At [(vI y2_0), (vI y2_1), (vI y2_2), (vI y2_3), (vI y2_4), (vI y2_5), (vI y2_6), (vI y2_7), (vI y2_8), (vI y2_9), (vI y2_10), (vI y2_11)] 11 1 [(vI n4)]) ∧
 (bcase (decide (IntKind.wrap .i64 (IntKind.wrap .i64 (x3 + IntKind.wrap .i64 (IntKind.wrap .i64 (IntKind.wrap .i64 (0 + 1) + 1) + 1)) - n4) ≥ 0))
 (k [(D.val (vI (15 : Int)))])
 (k [(D.val (vI (7 : Int)))]))))
 (∃ n4 : Int,
 ((At [(vI y2_0), (vI y2_1), (vI y2_2), (vI y2_3), (vI y2_4), (vI y2_5), (vI y2_6), (vI y2_7), (vI y2_8), (vI y2_9), (vI y2_10), (vI y2_11)] 11 1 [(vI n4)]) ∧
 (bcase (decide (IntKind.wrap .i64 (IntKind.wrap .i64 (x3 + IntKind.wrap .i64 (IntKind.wrap .i64 (IntKind.wrap .i64 (0 + 1) + 1) + 1)) - n4) ≥ 0))
 (k [(D.val (vI (11 : Int)))])
 (k [(D.val (vI (3 : Int)))])))))))
 (∃ n3 : Int,
 ((At [(vI y2_0), (vI y2_1), (vI y2_2), (vI y2_3), (vI y2_4), (vI y2_5), (vI y2_6), (vI y2_7), (vI y2_8), (vI y2_9), (vI y2_10), (vI y2_11)] 8 1 [(vI n3)]) ∧
 (bcase (decide (IntKind.wrap .i64 (IntKind.wrap .i64 (x3 + IntKind.wrap .i64 (IntKind.wrap .i64 (0 + 1) + 1)) - n3) ≥ 0))
 (∃ n4 : Int,
 ((At [(vI y2_0), (vI y2_1), (vI y2_2), (vI y2_3), (vI y2_4), (vI y2_5), (vI y2_6), (vI y2_7), (vI y2_8), (vI y2_9), (vI y2_10), (vI y2_11)] 11 1 [(vI n4)]) ∧
 (bcase (decide (IntKind.wrap .i64 (IntKind.wrap .i64 (x3 + IntKind.wrap .i64 (IntKind.wrap .i64 (IntKind.wrap .i64 (0 + 1) + 1) + 1)) - n4) ≥ 0))
 (k [(D.val (vI (13 : Int)))])
 (k [(D.val (vI (5 : Int)))]))))
 (∃ n4 : Int,
 ((At [(vI y2_0), (vI y2_1), (vI y2_2), (vI y2_3), (vI y2_4), (vI y2_5), (vI y2_6), (vI y2_7), (vI y2_8), (vI y2_9), (vI y2_10), (vI y2_11)] 11 1 [(vI n4)]) ∧
 (bcase (decide (IntKind.wrap .i64 (IntKind.wrap .i64 (x3 + IntKind.wrap .i64 (IntKind.wrap .i64 (IntKind.wrap .i64 (0 + 1) + 1) + 1)) - n4) ≥ 0))
 (k [(D.val (vI (9 : Int)))])
 (k [(D.val (vI (1 : Int)))]))))))))))
 (∃ n2 : Int,
 ((At [(vI y2_0), (vI y2_1), (vI y2_2), (vI y2_3), (vI y2_4), (vI y2_5), (vI y2_6), (vI y2_7), (vI y2_8), (vI y2_9), (vI y2_10), (vI y2_11)] 5 1 [(vI n2)]) ∧
 (bcase (decide (IntKind.wrap .i64 (IntKind.wrap .i64 (x3 + IntKind.wrap .i64 (0 + 1)) - n2) ≥ 0))
 (∃ n3 : Int,
 ((At [(vI y2_0), (vI y2_1), (vI y2_2), (vI y2_3), (vI y2_4), (vI y2_5), (vI y2_6), (vI y2_7), (vI y2_8), (vI y2_9), (vI y2_10), (vI y2_11)] 8 1 [(vI n3)]) ∧
 (bcase (decide (IntKind.wrap .i64 (IntKind.wrap .i64 (x3 + IntKind.wrap .i64 (IntKind.wrap .i64 (0 + 1) + 1)) - n3) ≥ 0))
 (∃ n4 : Int,
 ((At [(vI y2_0), (vI y2_1), (vI y2_2), (vI y2_3), (vI y2_4), (vI y2_5), (vI y2_6), (vI y2_7), (vI y2_8), (vI y2_9), (vI y2_10), (vI y2_11)] 11 1 [(vI n4)]) ∧
 (bcase (decide (IntKind.wrap .i64 (IntKind.wrap .i64 (x3 + IntKind.wrap .i64 (IntKind.wrap .i64 (IntKind.wrap .i64 (0 + 1) + 1) + 1)) - n4) ≥ 0))
 (k [(D.val (vI (14 : Int)))])
 (k [(D.val (vI (6 : Int)))]))))
 (∃ n4 : Int,
 ((At [(vI y2_0), (vI y2_1), (vI y2_2), (vI y2_3), (vI y2_4), (vI y2_5), (vI y2_6), (vI y2_7), (vI y2_8), (vI y2_9), (vI y2_10), (vI y2_11)] 11 1 [(vI n4)]) ∧
 (bcase (decide (IntKind.wrap .i64 (IntKind.wrap .i64 (x3 + IntKind.wrap .i64 (IntKind.wrap .i64 (IntKind.wrap .i64 (0 + 1) + 1) + 1)) - n4) ≥ 0))
 (k [(D.val (vI (10 : Int)))])
 (k [(D.val (vI (2 : Int)))])))))))
 (∃ n3 : Int,
 ((At [(vI y2_0), (vI y2_1), (vI y2_2), (vI y2_3), (vI y2_4), (vI y2_5), (vI y2_6), (vI y2_7), (vI y2_8), (vI y2_9), (vI y2_10), (vI y2_11)] 8 1 [(vI n3)]) ∧
 (bcase (decide (IntKind.wrap .i64 (IntKind.wrap .i64 (x3 + IntKind.wrap .i64 (IntKind.wrap .i64 (0 + 1) + 1)) - n3) ≥ 0))
 (∃ n4 : Int,
 ((At [(vI y2_0), (vI y2_1), (vI y2_2), (vI y2_3), (vI y2_4), (vI y2_5), (vI y2_6), (vI y2_7), (vI y2_8), (vI y2_9), (vI y2_10), (vI y2_11)] 11 1 [(vI n4)]) ∧
 (bcase (decide (IntKind.wrap .i64 (IntKind.wrap .i64 (x3 + IntKind.wrap .i64 (IntKind.wrap .i64 (IntKind.wrap .i64 (0 + 1) + 1) + 1)) - n4) ≥ 0))
 (k [(D.val (vI (12 : Int)))])
 (k [(D.val (vI (4 : Int)))]))))
 (∃ n4 : Int,
 ((At [(vI y2_0), (vI y2_1), (vI y2_2), (vI y2_3), (vI y2_4), (vI y2_5), (vI y2_6), (vI y2_7), (vI y2_8), (vI y2_9), (vI y2_10), (vI y2_11)] 11 1 [(vI n4)]) ∧
 (bcase (decide (IntKind.wrap .i64 (IntKind.wrap .i64 (x3 + IntKind.wrap .i64 (IntKind.wrap .i64 (IntKind.wrap .i64 (0 + 1) + 1) + 1)) - n4) ≥ 0))
 (k [(D.val (vI (8 : Int)))])
 (k [(D.val (vI (0 : Int)))]))))))))))))) := by kernel_rfl
def gA1 (C : Ct) (x0 : Int) (x1 : Int) (c2 : Nat) (y2_0 : Int) (y2_1 : Int) (y2_2 : Int) (x3 : Int) (k : List D → Prop) : Prop := wpFn Tryz.prog (hC C) (fun _ _ _ => False) 8 16 #[.agg #[.int .i64 x0, .int .i64 x1, .slice (some ⟨500, 0, none⟩) 1 c2], .int .i64 x3] (heapOf [(500, .sym [.int .i64 y2_0, .int .i64 y2_1, .int .i64 y2_2] false 3)]) (dataK k)
theorem gA1_text (C : Ct) (x0 : Int) (x1 : Int) (c2 : Nat) (y2_0 : Int) (y2_1 : Int) (y2_2 : Int) (x3 : Int) (k : List D → Prop) : gA1 C x0 x1 c2 y2_0 y2_1 y2_2 x3 k =
 (∃ n1 : Int,
 ((At [(vI y2_0), (vI y2_1), (vI y2_2)] 2 1 [(vI n1)]) ∧
 (bcase (decide (IntKind.wrap .i64 (x3 + 0) ≥ n1))
 (k [(D.val (vI (1 : Int)))])
 (k [(D.val (vI (0 : Int)))])))) := by kernel_rfl
def gA2 (C : Ct) (x0 : Int) (x1 : Int) (c2 : Nat) (y2_0 : Int) (y2_1 : Int) (y2_2 : Int) (y2_3 : Int) (y2_4 : Int) (y2_5 : Int) (x3 : Int) (k : List D → Prop) : Prop := wpFn Tryz.prog (hC C) (fun _ _ _ => False) 8 16 #[.agg #[.int .i64 x0, .int .i64 x1, .slice (some ⟨500, 0, none⟩) 2 c2], .int .i64 x3] (heapOf [(500, .sym [.int .i64 y2_0, .int .i64 y2_1, .int .i64 y2_2, .int .i64 y2_3, .int .i64 y2_4, .int .i64 y2_5] false 3)]) (dataK k)
theorem gA2_text (C : Ct) (x0 : Int) (x1 : Int) (c2 : Nat) (y2_0 : Int) (y2_1 : Int) (y2_2 : Int) (y2_3 : Int) (y2_4 : Int) (y2_5 : Int) (x3 : Int) (k : List D → Prop) : gA2 C x0 x1 c2 y2_0 y2_1 y2_2 y2_3 y2_4 y2_5 x3 k =
 (∃ n1 : Int,
 ((At [(vI y2_0), (vI y2_1), (vI y2_2), (vI y2_3), (vI y2_4), (vI y2_5)] 2 1 [(vI n1)]) ∧
 (bcase (decide (IntKind.wrap .i64 (x3 + 0) ≥ n1))
 (∃ n2 : Int,
 ((At [(vI y2_0), (vI y2_1), (vI y2_2), (vI y2_3), (vI y2_4), (vI y2_5)] 5 1 [(vI n2)]) ∧
 (bcase (decide (IntKind.wrap .i64 (x3 + IntKind.wrap .i64 (0 + 1)) ≥ n2))
 (k [(D.val (vI (3 : Int)))])
 (k [(D.val (vI (1 : Int)))]))))
 (∃ n2 : Int,
 ((At [(vI y2_0), (vI y2_1), (vI y2_2), (vI y2_3), (vI y2_4), (vI y2_5)] 5 1 [(vI n2)]) ∧
 (bcase (decide (IntKind.wrap .i64 (x3 + IntKind.wrap .i64 (0 + 1)) ≥ n2))
 (k [(D.val (vI (2 : Int)))])
 (k [(D.val (vI (0 : Int)))]))))))) := by kernel_rfl
def gA3 (C : Ct) (x0 : Int) (x1 : Int) (c2 : Nat) (y2_0 : Int) (y2_1 : Int) (y2_2 : Int) (y2_3 : Int) (y2_4 : Int) (y2_5 : Int) (y2_6 : Int) (y2_7 : Int) (y2_8 : Int) (x3 : Int) (k : List D → Prop) : Prop := wpFn Tryz.prog (hC C) (fun _ _ _ => False) 8 16 #[.agg #[.int .i64 x0, .int .i64 x1, .slice (some ⟨500, 0, none⟩) 3 c2], .int .i64 x3] (heapOf [(500, .sym [.int .i64 y2_0, .int .i64 y2_1, .int .i64 y2_2, .int .i64 y2_3, .int .i64 y2_4, .int .i64 y2_5, .int .i64 y2_6, .int .i64 y2_7, .int .i64 y2_8] false 3)]) (dataK k)
theorem gA3_text (C : Ct) (x0 : Int) (x1 : Int) (c2 : Nat) (y2_0 : Int) (y2_1 : Int) (y2_2 : Int) (y2_3 : Int) (y2_4 : Int) (y2_5 : Int) (y2_6 : Int) (y2_7 : Int) (y2_8 : Int) (x3 : Int) (k : List D → Prop) : gA3 C x0 x1 c2 y2_0 y2_1 y2_2 y2_3 y2_4 y2_5 y2_6 y2_7 y2_8 x3 k =
 (∃ n1 : Int,
 ((At [(vI y2_0), (vI y2_1), (vI y2_2), (vI y2_3), (vI y2_4), (vI y2_5), (vI y2_6), (vI y2_7), (vI y2_8)] 2 1 [(vI n1)]) ∧
 (bcase (decide (IntKind.wrap .i64 (x3 + 0) ≥ n1))
 (∃ n2 : Int,
 ((At [(vI y2_0), (vI y2_1), (vI y2_2), (vI y2_3), (vI y2_4), (vI y2_5), (vI y2_6), (vI y2_7), (vI y2_8)] 5 1 [(vI n2)]) ∧
 (bcase (decide (IntKind.wrap .i64 (x3 + IntKind.wrap .i64 (0 + 1)) ≥ n2))
 (∃ n3 : Int,
 ((At [(vI y2_0), (vI y2_1), (vI y2_2), (vI y2_3), (vI y2_4), (vI y2_5), (vI y2_6), (vI y2_7), (vI y2_8)] 8 1 [(vI n3)]) ∧
 (bcase (decide (IntKind.wrap .i64 (x3 + IntKind.wrap .i64 (IntKind.wrap .i64 (0 + 1) + 1)) ≥ n3))
 (k [(D.val (vI (7 : Int)))])
 (k [(D.val (vI (3 : Int)))]))))
 (∃ n3 : Int,
 ((At [(vI y2_0), (vI y2_1), (vI y2_2), (vI y2_3), (vI y2_4), (vI y2_5), (vI y2_6), (vI y2_7), (vI y2_8)] 8 1 [(vI n3)]) ∧
 (bcase (decide (IntKind.wrap .i64 (x3 + IntKind.wrap .i64 (IntKind.wrap .i64 (0 + 1) + 1)) ≥ n3))
 (k [(D.val (vI (5 : Int)))])
 (k [(D.val (vI (1 : Int)))])))))))
 (∃ n2 : Int,
 ((At [(vI y2_0), (vI y2_1), (vI y2_2), (vI y2_3), (vI y2_4), (vI y2_5), (vI y2_6), (vI y2_7), (vI y2_8)] 5 1 [(vI n2)]) ∧
 (bcase (decide (IntKind.wrap .i64 (x3 + IntKind.wrap .i64 (0 + 1)) ≥ n2))
 (∃ n3 : Int,
 ((At [(vI y2_0), (vI y2_1), (vI y2_2), (vI y2_3), (vI y2_4), (vI y2_5), (vI y2_6), (vI y2_7), (vI y2_8)] 8 1 [(vI n3)]) ∧
 (bcase (decide (IntKind.wrap .i64 (x3 + IntKind.wrap .i64 (IntKind.wrap .i64 (0 + 1) + 1)) ≥ n3))
 (k [(D.val (vI (6 : Int)))])
 (k [(D.val (vI (2 : Int)))]))))
 (∃ n3 : Int,
 ((At [(vI y2_0), (vI y2_1), (vI y2_2), (vI y2_3), (vI y2_4), (vI y2_5), (vI y2_6), (vI y2_7), (vI y2_8)] 8 1 [(vI n3)]) ∧
 (bcase (decide (IntKind.wrap .i64 (x3 + IntKind.wrap .i64 (IntKind.wrap .i64 (0 + 1) + 1)) ≥ n3))
 (k [(D.val (vI (4 : Int)))])
 (k [(D.val (vI (0 : Int)))])))))))))) := by kernel_rfl
def gA4 (C : Ct) (x0 : Int) (x1 : Int) (c2 : Nat) (y2_0 : Int) (y2_1 : Int) (y2_2 : Int) (y2_3 : Int) (y2_4 : Int) (y2_5 : Int) (y2_6 : Int) (y2_7 : Int) (y2_8 : Int) (y2_9 : Int) (y2_10 : Int) (y2_11 : Int) (x3 : Int) (k : List D → Prop) : Prop := wpFn Tryz.prog (hC C) (fun _ _ _ => False) 8 16 #[.agg #[.int .i64 x0, .int .i64 x1, .slice (some ⟨500, 0, none⟩) 4 c2], .int .i64 x3] (heapOf [(500, .sym [.int .i64 y2_0, .int .i64 y2_1, .int .i64 y2_2, .int .i64 y2_3, .int .i64 y2_4, .int .i64 y2_5, .int .i64 y2_6, .int .i64 y2_7, .int .i64 y2_8, .int .i64 y2_9, .int .i64 y2_10, .int .i64 y2_11] false 3)]) (dataK k)
theorem gA4_text (C : Ct) (x0 : Int) (x1 : Int) (c2 : Nat) (y2_0 : Int) (y2_1 : Int) (y2_2 : Int) (y2_3 : Int) (y2_4 : Int) (y2_5 : Int) (y2_6 : Int) (y2_7 : Int) (y2_8 : Int) (y2_9 : Int) (y2_10 : Int) (y2_11 : Int) (x3 : Int) (k : List D → Prop) : gA4 C x0 x1 c2 y2_0 y2_1 y2_2 y2_3 y2_4 y2_5 y2_6 y2_7 y2_8 y2_9 y2_10 y2_11 x3 k =
 (∃ n1 : Int,
 ((At [(vI y2_0), (vI y2_1), (vI y2_2), (vI y2_3), (vI y2_4), (vI y2_5), (vI y2_6), (vI y2_7), (vI y2_8), (vI y2_9), (vI y2_10), (vI y2_11)] 2 1 [(vI n1)]) ∧
 (bcase (decide (IntKind.wrap .i64 (x3 + 0) ≥ n1))
 (∃ n2 : Int,
 ((At [(vI y2_0), (vI y2_1), (vI y2_2), (vI y2_3), (vI y2_4), (vI y2_5), (vI y2_6), (vI y2_7), (vI y2_8), (vI y2_9), (vI y2_10), (vI y2_11)] 5 1 [(vI n2)]) ∧
 (bcase (decide (IntKind.wrap .i64 (x3 + IntKind.wrap .i64 (0 + 1)) ≥ n2))
 (∃ n3 : Int,
 ((At [(vI y2_0), (vI y2_1), (vI y2_2), (vI y2_3), (vI y2_4), (vI y2_5), (vI y2_6), (vI y2_7), (vI y2_8), (vI y2_9), (vI y2_10), (vI y2_11)] 8 1 [(vI n3)]) ∧
 (bcase (decide (IntKind.wrap .i64 (x3 + IntKind.wrap .i64 (IntKind.wrap .i64 (0 + 1) + 1)) ≥ n3))
 (∃ n4 : Int,
 ((At [(vI y2_0), (vI y2_1), (vI y2_2), (vI y2_3), (vI y2_4), (vI y2_5), (vI y2_6), (vI y2_7), (vI y2_8), (vI y2_9), (vI y2_10), (vI y2_11)] 11 1 [(vI n4)]) ∧
 (bcase (decide (IntKind.wrap .i64 (x3 + IntKind.wrap .i64 (IntKind.wrap .i64 (IntKind.wrap .i64 (0 + 1) + 1) + 1)) ≥ n4))
 (k [(D.val (vI (15 : Int)))])
 (k [(D.val (vI (7 : Int)))]))))
 (∃ n4 : Int,
 ((At [(vI y2_0), (vI y2_1), (vI y2_2), (vI y2_3), (vI y2_4), (vI y2_5), (vI y2_6), (vI y2_7), (vI y2_8), (vI y2_9), (vI y2_10), (vI y2_11)] 11 1 [(vI n4)]) ∧
 (bcase (decide (IntKind.wrap .i64 (x3 + IntKind.wrap .i64 (IntKind.wrap .i64 (IntKind.wrap .i64 (0 + 1) + 1) + 1)) ≥ n4))
 (k [(D.val (vI (11 : Int)))])
 (k [(D.val (vI (3 : Int)))])))))))
 (∃ n3 : Int,
 ((At [(vI y2_0), (vI y2_1), (vI y2_2), (vI y2_3), (vI y2_4), (vI y2_5), (vI y2_6), (vI y2_7), (vI y2_8), (vI y2_9), (vI y2_10), (vI y2_11)] 8 1 [(vI n3)]) ∧
 (bcase (decide (IntKind.wrap .i64 (x3 + IntKind.wrap .i64 (IntKind.wrap .i64 (0 + 1) + 1)) ≥ n3))
 (∃ n4 : Int,
 ((At [(vI y2_0), (vI y2_1), (vI y2_2), (vI y2_3), (vI y2_4), (vI y2_5), (vI y2_6), (vI y2_7), (vI y2_8), (vI y2_9), (vI y2_10), (vI y2_11)] 11 1 [(vI n4)]) ∧
 (bcase (decide (IntKind.wrap .i64 (x3 + IntKind.wrap .i64 (IntKind.wrap .i64 (IntKind.wrap .i64 (0 + 1) + 1) + 1)) ≥ n4))
 (k [(D.val (vI (13 : Int)))])
 (k [(D.val (vI (5 : Int)))]))))
 (∃ n4 : Int,
 ((At [(vI y2_0), (vI y2_1), (vI y2_2), (vI y2_3), (vI y2_4), (vI y2_5), (vI y2_6), (vI y2_7), (vI y2_8), (vI y2_9), (vI y2_10), (vI y2_11)] 11 1 [(vI n4)]) ∧
 (bcase (decide (IntKind.wrap .i64 (x3 + IntKind.wrap .i64 (IntKind.wrap .i64 (IntKind.wrap .i64 (0 + 1) + 1) + 1)) ≥ n4))
 (k [(D.val (vI (9 : Int)))])
 (k [(D.val (vI (1 : Int)))]))))))))))
 (∃ n2 : Int,
 ((At [(vI y2_0), (vI y2_1), (vI y2_2), (vI y2_3), (vI y2_4), (vI y2_5), (vI y2_6), (vI y2_7), (vI y2_8), (vI y2_9), (vI y2_10), (vI y2_11)] 5 1 [(vI n2)]) ∧
 (bcase (decide (IntKind.wrap .i64 (x3 + IntKind.wrap .i64 (0 + 1)) ≥ n2))
 (∃ n3 : Int,
 ((At [(vI y2_0), (vI y2_1), (vI y2_2), (vI y2_3), (vI y2_4), (vI y2_5), (vI y2_6), (vI y2_7), (vI y2_8), (vI y2_9), (vI y2_10), (vI y2_11)] 8 1 [(vI n3)]) ∧
 (bcase (decide (IntKind.wrap .i64 (x3 + IntKind.wrap .i64 (IntKind.wrap .i64 (0 + 1) + 1)) ≥ n3))
 (∃ n4 : Int,
 ((At [(vI y2_0), (vI y2_1), (vI y2_2), (vI y2_3), (vI y2_4), (vI y2_5), (vI y2_6), (vI y2_7), (vI y2_8), (vI y2_9), (vI y2_10), (vI y2_11)] 11 1 [(vI n4)]) ∧
 (bcase (decide (IntKind.wrap .i64 (x3 + IntKind.wrap .i64 (IntKind.wrap .i64 (IntKind.wrap .i64 (0 + 1) + 1) + 1)) ≥ n4))
 (k [(D.val (vI (14 : Int)))])
 (k [(D.val (vI (6 : Int)))]))))
 (∃ n4 : Int,
 ((At [(vI y2_0), (vI y2_1), (vI y2_2), (vI y2_3), (vI y2_4), (vI y2_5), (vI y2_6), (vI y2_7), (vI y2_8), (vI y2_9), (vI y2_10), (vI y2_11)] 11 1 [(vI n4)]) ∧
 (bcase (decide (IntKind.wrap .i64 (x3 + IntKind.wrap .i64 (IntKind.wrap .i64 (IntKind.wrap .i64 (0 + 1) + 1) + 1)) ≥ n4))
 (k [(D.val (vI (10 : Int)))])
 (k [(D.val (vI (2 : Int)))])))))))
 (∃ n3 : Int,
 ((At [(vI y2_0), (vI y2_1), (vI y2_2), (vI y2_3), (vI y2_4), (vI y2_5), (vI y2_6), (vI y2_7), (vI y2_8), (vI y2_9), (vI y2_10), (vI y2_11)] 8 1 [(vI n3)]) ∧
 (bcase (decide (IntKind.wrap .i64 (x3 + IntKind.wrap .i64 (IntKind.wrap .i64 (0 + 1) + 1)) ≥ n3))
 (∃ n4 : Int,
 ((At [(vI y2_0), (vI y2_1), (vI y2_2), (vI y2_3), (vI y2_4), (vI y2_5), (vI y2_6), (vI y2_7), (vI y2_8), (vI y2_9), (vI y2_10), (vI y2_11)] 11 1 [(vI n4)]) ∧
 (bcase (decide (IntKind.wrap .i64 (x3 + IntKind.wrap .i64 (IntKind.wrap .i64 (IntKind.wrap .i64 (0 + 1) + 1) + 1)) ≥ n4))
 (k [(D.val (vI (12 : Int)))])
 (k [(D.val (vI (4 : Int)))]))))
 (∃ n4 : Int,
 ((At [(vI y2_0), (vI y2_1), (vI y2_2), (vI y2_3), (vI y2_4), (vI y2_5), (vI y2_6), (vI y2_7), (vI y2_8), (vI y2_9), (vI y2_10), (vI y2_11)] 11 1 [(vI n4)]) ∧
 (bcase (decide (IntKind.wrap .i64 (x3 + IntKind.wrap .i64 (IntKind.wrap .i64 (IntKind.wrap .i64 (0 + 1) + 1) + 1)) ≥ n4))
 (k [(D.val (vI (8 : Int)))])
 (k [(D.val (vI (0 : Int)))]))))))))))))) := by kernel_rfl
def gQa (C : Ct) (L : AtLoop) (x0 : Int) (x1 : Int) (n2 : Nat) (c2 : Nat) (l2 : List Value) (x3 : Int) (x4 : Int) (x5 : Int) (k : List D → Prop) : Prop := wpFn Tryz.prog (hC C) L 0 19 #[.agg #[.int .i64 x0, .int .i64 x1, .slice (some ⟨500, 0, none⟩) n2 c2], .int .i64 x3, .agg #[.int .i64 x4, .int .i64 x5]] (heapOf [(500, .sym l2 false 3)]) (dataK k)
theorem gQa_text (C : Ct) (L : AtLoop) (x0 : Int) (x1 : Int) (n2 : Nat) (c2 : Nat) (l2 : List Go.Value) (x3 : Int) (x4 : Int) (x5 : Int) (k : List D → Prop) : gQa C L x0 x1 n2 c2 l2 x3 x4 x5 k =
 (L 0 [(Prod.mk 1 (vI x3)), (Prod.mk 3 (Go.Value.pointer (Option.some (Go.Addr.mk 1000 0 Option.none)))), (Prod.mk 5 (Go.Value.pointer (Option.some (Go.Addr.mk 1001 0 Option.none)))), (Prod.mk 6 (Go.Value.pointer (Option.some (Go.Addr.mk 1002 0 Option.none)))), (Prod.mk 7 (Go.Value.slice Option.none 0 0)), (Prod.mk 8 (Go.Value.slice Option.none 0 0)), (Prod.mk 9 (vI (0 : Int)))] [(Prod.mk 1000 (AObj.cells [(vI x0), (vI x1), (Go.Value.slice (Option.some (Go.Addr.mk 500 0 Option.none)) (n2) (c2))] 24 false 1)), (Prod.mk 1001 (AObj.cells [(vI x4), (vI x5)] 26 false 1)), (Prod.mk 1002 (AObj.cells [(vI (0 : Int)), (vI (0 : Int))] 26 false 2)), (Prod.mk 500 (AObj.sym (l2) false 3))]) := by kernel_rfl
abbrev zQa1 (x0 : Int) (x1 : Int) (x2 : Int) (x3 : Int) (n4 : Nat) (c5 : Nat) (x6 : Int) (x7 : Int) (x8 : Int) (x9 : Int) (l10 : List Value) : Slots × Blocks := ([(1, (Value.int .i64 x0)), (3, (Value.pointer (some ⟨1000, 0, none⟩))), (5, (Value.pointer (some ⟨1001, 0, none⟩))), (6, (Value.pointer (some ⟨1002, 0, none⟩))), (7, (Value.slice none 0 0)), (8, (Value.slice none 0 0)), (9, (Value.int .i64 x1))], [(1000, (AObj.cells [(Value.int .i64 x2), (Value.int .i64 x3), (Value.slice (some ⟨500, 0, none⟩) n4 c5)] 24 false 1)), (1001, (AObj.cells [(Value.int .i64 x6), (Value.int .i64 x7)] 26 false 1)), (1002, (AObj.cells [(Value.int .i64 x8), (Value.int .i64 x9)] 26 false 2)), (500, (AObj.sym l10 false 3))])
def rQa1 (C : Ct) (L : AtLoop) (x0 : Int) (x1 : Int) (x2 : Int) (x3 : Int) (n4 : Nat) (c5 : Nat) (x6 : Int) (x7 : Int) (x8 : Int) (x9 : Int) (l10 : List Value) (B : Bx) (X : Xx) (k : List D → Prop) : Prop := wpRound Tryz.prog (hC C) L 19 0 [(1, (Value.int .i64 x0)), (3, (Value.pointer (some ⟨1000, 0, none⟩))), (5, (Value.pointer (some ⟨1001, 0, none⟩))), (6, (Value.pointer (some ⟨1002, 0, none⟩))), (7, (Value.slice none 0 0)), (8, (Value.slice none 0 0)), (9, (Value.int .i64 x1))] [(1000, (AObj.cells [(Value.int .i64 x2), (Value.int .i64 x3), (Value.slice (some ⟨500, 0, none⟩) n4 c5)] 24 false 1)), (1001, (AObj.cells [(Value.int .i64 x6), (Value.int .i64 x7)] 26 false 1)), (1002, (AObj.cells [(Value.int .i64 x8), (Value.int .i64 x9)] 26 false 2)), (500, (AObj.sym l10 false 3))] B X (dataK k)
theorem rQa1_text (C : Ct) (L : AtLoop) (x0 : Int) (x1 : Int) (x2 : Int) (x3 : Int) (n4 : Nat) (c5 : Nat) (x6 : Int) (x7 : Int) (x8 : Int) (x9 : Int) (l10 : List Go.Value) (B : Bx) (X : Xx) (k : List D → Prop) : rQa1 C L x0 x1 x2 x3 n4 c5 x6 x7 x8 x9 l10 B X k =
 (bcase (decide (x1 < (↑n4 : Int)))
 (bcase (decide (0 ≤ x1))
 (bcase (decide (x1 < (↑n4 : Int)))
 (∃ n1 : Int,
 ((At (l10) (0 + Int.toNat x1 * 3) 1 [(vI n1)]) ∧
 (bcase (decide (0 ≤ x1))
 (bcase (decide (x1 < (↑n4 : Int)))
 (∃ n2 : Int,
 ((At (l10) (Go.Addr.off (Go.Addr.add { block := 500, off := 0 + Int.toNat x1 * 3 } 0) + 1) 1 [(vI n2)]) ∧
 (((((Go.Value.slice (Option.some (Go.Addr.mk 1004 0 Option.none)) 1 1) = (Go.Value.slice (Option.some (Go.Addr.mk 1004 0 Option.none)) 1 1)) ∧
 ((Option.some (AObj.cells [(vI n2)] 3 false 1)) = (Option.some (AObj.cells [(vI n2)] 3 false 1)))) ∧
 ((∃ n3 : Int,
 ((At (l10) (Go.Addr.off (Go.Addr.add { block := 500, off := 0 + Int.toNat x1 * 3 } 0) + 1) 1 [(vI n3)]) ∧
 ((vI n3) = (vI n2)))) ∧
 (((Go.Value.pointer (Option.some (Go.Addr.mk 500 (Go.Addr.off { block := 500, off := 0 + Int.toNat x1 * 3 } + 1) Option.none))) = (Go.Value.pointer (Option.some (Go.Addr.mk 500 (Go.Addr.off (Go.Addr.add { block := 500, off := 0 + Int.toNat x1 * 3 } 0) + 1) Option.none)))) ∧
 (((Go.Value.pointer (Option.some (Go.Addr.mk 500 (0 + Int.toNat x1 * 3) Option.none))) = (Go.Value.pointer (Option.some (Go.Addr.mk 500 (0 + Int.toNat x1 * 3) Option.none)))) ∧
 ((bcase (decide (0 ≤ x1))
 (bcase (decide (x1 < (↑n4 : Int)))
 ((Go.Value.pointer (Option.some (Go.Addr.mk 500 (0 + Int.toNat x1 * 3) Option.none))) = (Go.Value.pointer (Option.some (Go.Addr.mk 500 (0 + Int.toNat x1 * 3) Option.none))))
 False)
 False) ∧
 (((vI x1) = (vI x1)) ∧
 (((Go.Value.slice (Option.some (Go.Addr.mk 500 0 Option.none)) (n4) (c5)) = (Go.Value.slice (Option.some (Go.Addr.mk 500 0 Option.none)) (n4) (c5))) ∧
 (((Go.Value.pointer (Option.some (Go.Addr.mk 1000 2 Option.none))) = (Go.Value.pointer (Option.some (Go.Addr.mk 1000 2 Option.none)))) ∧
 (((Go.Value.slice Option.none 0 0) = (Go.Value.slice Option.none 0 0)) ∧
 ((((Go.Value.slice (Option.some (Go.Addr.mk 1003 0 Option.none)) 1 1) = (Go.Value.slice (Option.some (Go.Addr.mk 1003 0 Option.none)) 1 1)) ∧
 ((Option.some (AObj.cells [(vI n1)] 3 false 1)) = (Option.some (AObj.cells [(vI n1)] 3 false 1)))) ∧
 ((∃ n3 : Int,
 ((At (l10) (0 + Int.toNat x1 * 3) 1 [(vI n3)]) ∧
 ((vI n3) = (vI n1)))) ∧
 (((Go.Value.pointer (Option.some (Go.Addr.mk 500 (0 + Int.toNat x1 * 3) Option.none))) = (Go.Value.pointer (Option.some (Go.Addr.mk 500 (0 + Int.toNat x1 * 3) Option.none)))) ∧
 (((Go.Value.pointer (Option.some (Go.Addr.mk 500 (0 + Int.toNat x1 * 3) Option.none))) = (Go.Value.pointer (Option.some (Go.Addr.mk 500 (0 + Int.toNat x1 * 3) Option.none)))) ∧
 ((bcase (decide (0 ≤ x1))
 (bcase (decide (x1 < (↑n4 : Int)))
 ((Go.Value.pointer (Option.some (Go.Addr.mk 500 (0 + Int.toNat x1 * 3) Option.none))) = (Go.Value.pointer (Option.some (Go.Addr.mk 500 (0 + Int.toNat x1 * 3) Option.none))))
 False)
 False) ∧
 (((vI x1) = (vI x1)) ∧
 (((Go.Value.slice (Option.some (Go.Addr.mk 500 0 Option.none)) (n4) (c5)) = (Go.Value.slice (Option.some (Go.Addr.mk 500 0 Option.none)) (n4) (c5))) ∧
 (((Go.Value.pointer (Option.some (Go.Addr.mk 1000 2 Option.none))) = (Go.Value.pointer (Option.some (Go.Addr.mk 1000 2 Option.none)))) ∧
 (((Go.Value.slice Option.none 0 0) = (Go.Value.slice Option.none 0 0)) ∧
 True)))))))))))))))))) ∧
 (((((Go.Value.slice (Option.some (Go.Addr.mk 1004 0 Option.none)) 1 1) = (Go.Value.slice (Option.some (Go.Addr.mk 1004 0 Option.none)) 1 1)) ∧
 ((Option.some (AObj.cells [(vI n2)] 3 false 1)) = (Option.some (AObj.cells [(vI n2)] 3 false 1)))) ∧
 ((∃ n3 : Int,
 ((At (l10) (Go.Addr.off (Go.Addr.add { block := 500, off := 0 + Int.toNat x1 * 3 } 0) + 1) 1 [(vI n3)]) ∧
 ((vI n3) = (vI n2)))) ∧
 (((Go.Value.pointer (Option.some (Go.Addr.mk 500 (Go.Addr.off { block := 500, off := 0 + Int.toNat x1 * 3 } + 1) Option.none))) = (Go.Value.pointer (Option.some (Go.Addr.mk 500 (Go.Addr.off (Go.Addr.add { block := 500, off := 0 + Int.toNat x1 * 3 } 0) + 1) Option.none)))) ∧
 (((Go.Value.pointer (Option.some (Go.Addr.mk 500 (0 + Int.toNat x1 * 3) Option.none))) = (Go.Value.pointer (Option.some (Go.Addr.mk 500 (0 + Int.toNat x1 * 3) Option.none)))) ∧
 ((bcase (decide (0 ≤ x1))
 (bcase (decide (x1 < (↑n4 : Int)))
 ((Go.Value.pointer (Option.some (Go.Addr.mk 500 (0 + Int.toNat x1 * 3) Option.none))) = (Go.Value.pointer (Option.some (Go.Addr.mk 500 (0 + Int.toNat x1 * 3) Option.none))))
 False)
 False) ∧
 (((vI x1) = (vI x1)) ∧
 (((Go.Value.slice (Option.some (Go.Addr.mk 500 0 Option.none)) (n4) (c5)) = (Go.Value.slice (Option.some (Go.Addr.mk 500 0 Option.none)) (n4) (c5))) ∧
 (((Go.Value.pointer (Option.some (Go.Addr.mk 1000 2 Option.none))) = (Go.Value.pointer (Option.some (Go.Addr.mk 1000 2 Option.none)))) ∧
 (((Go.Value.slice Option.none 0 0) = (Go.Value.slice Option.none 0 0)) ∧
 ((∃ n3 : Int,
 ((At (l10) (0 + Int.toNat x1 * 3) 1 [(vI n3)]) ∧
 ((vI n3) = (vI n1)))) ∧
 (((Go.Value.pointer (Option.some (Go.Addr.mk 500 (0 + Int.toNat x1 * 3) Option.none))) = (Go.Value.pointer (Option.some (Go.Addr.mk 500 (0 + Int.toNat x1 * 3) Option.none)))) ∧
 (((Go.Value.pointer (Option.some (Go.Addr.mk 500 (0 + Int.toNat x1 * 3) Option.none))) = (Go.Value.pointer (Option.some (Go.Addr.mk 500 (0 + Int.toNat x1 * 3) Option.none)))) ∧
 ((bcase (decide (0 ≤ x1))
 (bcase (decide (x1 < (↑n4 : Int)))
 ((Go.Value.pointer (Option.some (Go.Addr.mk 500 (0 + Int.toNat x1 * 3) Option.none))) = (Go.Value.pointer (Option.some (Go.Addr.mk 500 (0 + Int.toNat x1 * 3) Option.none))))
 False)
 False) ∧
 (((vI x1) = (vI x1)) ∧
 (((Go.Value.slice (Option.some (Go.Addr.mk 500 0 Option.none)) (n4) (c5)) = (Go.Value.slice (Option.some (Go.Addr.mk 500 0 Option.none)) (n4) (c5))) ∧
 (((Go.Value.pointer (Option.some (Go.Addr.mk 1000 2 Option.none))) = (Go.Value.pointer (Option.some (Go.Addr.mk 1000 2 Option.none)))) ∧
 True)))))))))))))))) ∧
 (((∃ n3 : Int,
 ((At (l10) (Go.Addr.off (Go.Addr.add { block := 500, off := 0 + Int.toNat x1 * 3 } 0) + 1) 1 [(vI n3)]) ∧
 ((vI n3) = (vI n2)))) ∧
 (((Go.Value.pointer (Option.some (Go.Addr.mk 500 (Go.Addr.off { block := 500, off := 0 + Int.toNat x1 * 3 } + 1) Option.none))) = (Go.Value.pointer (Option.some (Go.Addr.mk 500 (Go.Addr.off (Go.Addr.add { block := 500, off := 0 + Int.toNat x1 * 3 } 0) + 1) Option.none)))) ∧
 (((Go.Value.pointer (Option.some (Go.Addr.mk 500 (0 + Int.toNat x1 * 3) Option.none))) = (Go.Value.pointer (Option.some (Go.Addr.mk 500 (0 + Int.toNat x1 * 3) Option.none)))) ∧
 ((bcase (decide (0 ≤ x1))
 (bcase (decide (x1 < (↑n4 : Int)))
 ((Go.Value.pointer (Option.some (Go.Addr.mk 500 (0 + Int.toNat x1 * 3) Option.none))) = (Go.Value.pointer (Option.some (Go.Addr.mk 500 (0 + Int.toNat x1 * 3) Option.none))))
 False)
 False) ∧
 (((vI x1) = (vI x1)) ∧
 (((Go.Value.slice (Option.some (Go.Addr.mk 500 0 Option.none)) (n4) (c5)) = (Go.Value.slice (Option.some (Go.Addr.mk 500 0 Option.none)) (n4) (c5))) ∧
 (((Go.Value.pointer (Option.some (Go.Addr.mk 1000 2 Option.none))) = (Go.Value.pointer (Option.some (Go.Addr.mk 1000 2 Option.none)))) ∧
 ((∃ n3 : Int,
 ((At (l10) (0 + Int.toNat x1 * 3) 1 [(vI n3)]) ∧
 ((vI n3) = (vI n1)))) ∧
 (((Go.Value.pointer (Option.some (Go.Addr.mk 500 (0 + Int.toNat x1 * 3) Option.none))) = (Go.Value.pointer (Option.some (Go.Addr.mk 500 (0 + Int.toNat x1 * 3) Option.none)))) ∧
 (((Go.Value.pointer (Option.some (Go.Addr.mk 500 (0 + Int.toNat x1 * 3) Option.none))) = (Go.Value.pointer (Option.some (Go.Addr.mk 500 (0 + Int.toNat x1 * 3) Option.none)))) ∧
 ((bcase (decide (0 ≤ x1))
 (bcase (decide (x1 < (↑n4 : Int)))
 ((Go.Value.pointer (Option.some (Go.Addr.mk 500 (0 + Int.toNat x1 * 3) Option.none))) = (Go.Value.pointer (Option.some (Go.Addr.mk 500 (0 + Int.toNat x1 * 3) Option.none))))
 False)
 False) ∧
 (((vI x1) = (vI x1)) ∧
 (((Go.Value.slice (Option.some (Go.Addr.mk 500 0 Option.none)) (n4) (c5)) = (Go.Value.slice (Option.some (Go.Addr.mk 500 0 Option.none)) (n4) (c5))) ∧
 (((Go.Value.pointer (Option.some (Go.Addr.mk 1000 2 Option.none))) = (Go.Value.pointer (Option.some (Go.Addr.mk 1000 2 Option.none)))) ∧
 True)))))))))))))) ∧
 (((∃ n3 : Int,
 ((At (l10) (Go.Addr.off (Go.Addr.add { block := 500, off := 0 + Int.toNat x1 * 3 } 0) + 1) 1 [(vI n3)]) ∧
 ((vI n3) = (vI n2)))) ∧
 (((Go.Value.pointer (Option.some (Go.Addr.mk 500 (Go.Addr.off { block := 500, off := 0 + Int.toNat x1 * 3 } + 1) Option.none))) = (Go.Value.pointer (Option.some (Go.Addr.mk 500 (Go.Addr.off (Go.Addr.add { block := 500, off := 0 + Int.toNat x1 * 3 } 0) + 1) Option.none)))) ∧
 (((Go.Value.pointer (Option.some (Go.Addr.mk 500 (0 + Int.toNat x1 * 3) Option.none))) = (Go.Value.pointer (Option.some (Go.Addr.mk 500 (0 + Int.toNat x1 * 3) Option.none)))) ∧
 ((bcase (decide (0 ≤ x1))
 (bcase (decide (x1 < (↑n4 : Int)))
 ((Go.Value.pointer (Option.some (Go.Addr.mk 500 (0 + Int.toNat x1 * 3) Option.none))) = (Go.Value.pointer (Option.some (Go.Addr.mk 500 (0 + Int.toNat x1 * 3) Option.none))))
 False)
 False) ∧
 (((vI x1) = (vI x1)) ∧
 (((Go.Value.slice (Option.some (Go.Addr.mk 500 0 Option.none)) (n4) (c5)) = (Go.Value.slice (Option.some (Go.Addr.mk 500 0 Option.none)) (n4) (c5))) ∧
 (((Go.Value.pointer (Option.some (Go.Addr.mk 1000 2 Option.none))) = (Go.Value.pointer (Option.some (Go.Addr.mk 1000 2 Option.none)))) ∧
 True))))))) ∧
 (True ∧
 (B [(Prod.mk 1 (vI x0)), (Prod.mk 3 (Go.Value.pointer (Option.some (Go.Addr.mk 1000 0 Option.none)))), (Prod.mk 5 (Go.Value.pointer (Option.some (Go.Addr.mk 1001 0 Option.none)))), (Prod.mk 6 (Go.Value.pointer (Option.some (Go.Addr.mk 1002 0 Option.none)))), (Prod.mk 7 (Go.Value.slice (Option.some (Go.Addr.mk 1003 0 Option.none)) 1 1)), (Prod.mk 8 (Go.Value.slice (Option.some (Go.Addr.mk 1004 0 Option.none)) 1 1)), (Prod.mk 9 (vI (IntKind.wrap .i64 (x1 + 1))))] [(Prod.mk 1000 (AObj.cells [(vI x2), (vI x3), (Go.Value.slice (Option.some (Go.Addr.mk 500 0 Option.none)) (n4) (c5))] 24 false 1)), (Prod.mk 1001 (AObj.cells [(vI x6), (vI x7)] 26 false 1)), (Prod.mk 1002 (AObj.cells [(vI x8), (vI x9)] 26 false 2)), (Prod.mk 1003 (AObj.sym [(vI n1)] true 1)), (Prod.mk 1004 (AObj.sym [(vI n2)] true 1)), (Prod.mk 500 (AObj.sym (l10) false 3))]))))))))
 False)
 False)))
 False)
 False)
 (X 0 [(Prod.mk 1 (vI x0)), (Prod.mk 3 (Go.Value.pointer (Option.some (Go.Addr.mk 1000 0 Option.none)))), (Prod.mk 5 (Go.Value.pointer (Option.some (Go.Addr.mk 1001 0 Option.none)))), (Prod.mk 6 (Go.Value.pointer (Option.some (Go.Addr.mk 1002 0 Option.none)))), (Prod.mk 7 (Go.Value.slice Option.none 0 0)), (Prod.mk 8 (Go.Value.slice Option.none 0 0))] [(Prod.mk 1000 (AObj.cells [(vI x2), (vI x3), (Go.Value.slice (Option.some (Go.Addr.mk 500 0 Option.none)) (n4) (c5))] 24 false 1)), (Prod.mk 1001 (AObj.cells [(vI x6), (vI x7)] 26 false 1)), (Prod.mk 1002 (AObj.cells [(vI x8), (vI x9)] 26 false 2)), (Prod.mk 500 (AObj.sym (l10) false 3))])) := by kernel_rfl
abbrev zQa2 (x0 : Int) (n1 : Nat) (n2 : Nat) (x3 : Int) (x4 : Int) (x5 : Int) (n6 : Nat) (c7 : Nat) (x8 : Int) (x9 : Int) (x10 : Int) (x11 : Int) (l12 : List Value) (l13 : List Value) (l14 : List Value) : Slots × Blocks := ([(1, (Value.int .i64 x0)), (3, (Value.pointer (some ⟨1000, 0, none⟩))), (5, (Value.pointer (some ⟨1001, 0, none⟩))), (6, (Value.pointer (some ⟨1002, 0, none⟩))), (7, (Value.slice (some ⟨1003, 0, none⟩) n1 n1)), (8, (Value.slice (some ⟨1004, 0, none⟩) n2 n2)), (9, (Value.int .i64 x3))], [(1000, (AObj.cells [(Value.int .i64 x4), (Value.int .i64 x5), (Value.slice (some ⟨500, 0, none⟩) n6 c7)] 24 false 1)), (1001, (AObj.cells [(Value.int .i64 x8), (Value.int .i64 x9)] 26 false 1)), (1002, (AObj.cells [(Value.int .i64 x10), (Value.int .i64 x11)] 26 false 2)), (1003, (AObj.sym l12 true 1)), (1004, (AObj.sym l13 true 1)), (500, (AObj.sym l14 false 3))])
def rQa2 (C : Ct) (L : AtLoop) (x0 : Int) (n1 : Nat) (n2 : Nat) (x3 : Int) (x4 : Int) (x5 : Int) (n6 : Nat) (c7 : Nat) (x8 : Int) (x9 : Int) (x10 : Int) (x11 : Int) (l12 : List Value) (l13 : List Value) (l14 : List Value) (B : Bx) (X : Xx) (k : List D → Prop) : Prop := wpRound Tryz.prog (hC C) L 19 0 [(1, (Value.int .i64 x0)), (3, (Value.pointer (some ⟨1000, 0, none⟩))), (5, (Value.pointer (some ⟨1001, 0, none⟩))), (6, (Value.pointer (some ⟨1002, 0, none⟩))), (7, (Value.slice (some ⟨1003, 0, none⟩) n1 n1)), (8, (Value.slice (some ⟨1004, 0, none⟩) n2 n2)), (9, (Value.int .i64 x3))] [(1000, (AObj.cells [(Value.int .i64 x4), (Value.int .i64 x5), (Value.slice (some ⟨500, 0, none⟩) n6 c7)] 24 false 1)), (1001, (AObj.cells [(Value.int .i64 x8), (Value.int .i64 x9)] 26 false 1)), (1002, (AObj.cells [(Value.int .i64 x10), (Value.int .i64 x11)] 26 false 2)), (1003, (AObj.sym l12 true 1)), (1004, (AObj.sym l13 true 1)), (500, (AObj.sym l14 false 3))] B X (dataK k)
theorem rQa2_text (C : Ct) (L : AtLoop) (x0 : Int) (n1 : Nat) (n2 : Nat) (x3 : Int) (x4 : Int) (x5 : Int) (n6 : Nat) (c7 : Nat) (x8 : Int) (x9 : Int) (x10 : Int) (x11 : Int) (l12 : List Go.Value) (l13 : List Go.Value) (l14 : List Go.Value) (B : Bx) (X : Xx) (k : List D → Prop) : rQa2 C L x0 n1 n2 x3 x4 x5 n6 c7 x8 x9 x10 x11 l12 l13 l14 B X k =
 (bcase (decide (x3 < (↑n6 : Int)))
 (bcase (decide (0 ≤ x3))
 (bcase (decide (x3 < (↑n6 : Int)))
 (∃ n3 : Int,
 ((At (l14) (0 + Int.toNat x3 * 3) 1 [(vI n3)]) ∧
 (bcase (decide (0 ≤ x3))
 (bcase (decide (x3 < (↑n6 : Int)))
 (∃ n4 : Int,
 ((At (l14) (Go.Addr.off (Go.Addr.add { block := 500, off := 0 + Int.toNat x3 * 3 } 0) + 1) 1 [(vI n4)]) ∧
 (((((Go.Value.slice (Option.some (Go.Addr.mk 1006 0 Option.none)) 1 1) = (Go.Value.slice (Option.some (Go.Addr.mk 1006 0 Option.none)) 1 1)) ∧
 ((Option.some (AObj.cells [(vI n4)] 3 false 1)) = (Option.some (AObj.cells [(vI n4)] 3 false 1)))) ∧
 ((∃ n5 : Int,
 ((At (l14) (Go.Addr.off (Go.Addr.add { block := 500, off := 0 + Int.toNat x3 * 3 } 0) + 1) 1 [(vI n5)]) ∧
 ((vI n5) = (vI n4)))) ∧
 (((Go.Value.pointer (Option.some (Go.Addr.mk 500 (Go.Addr.off { block := 500, off := 0 + Int.toNat x3 * 3 } + 1) Option.none))) = (Go.Value.pointer (Option.some (Go.Addr.mk 500 (Go.Addr.off (Go.Addr.add { block := 500, off := 0 + Int.toNat x3 * 3 } 0) + 1) Option.none)))) ∧
 (((Go.Value.pointer (Option.some (Go.Addr.mk 500 (0 + Int.toNat x3 * 3) Option.none))) = (Go.Value.pointer (Option.some (Go.Addr.mk 500 (0 + Int.toNat x3 * 3) Option.none)))) ∧
 ((bcase (decide (0 ≤ x3))
 (bcase (decide (x3 < (↑n6 : Int)))
 ((Go.Value.pointer (Option.some (Go.Addr.mk 500 (0 + Int.toNat x3 * 3) Option.none))) = (Go.Value.pointer (Option.some (Go.Addr.mk 500 (0 + Int.toNat x3 * 3) Option.none))))
 False)
 False) ∧
 (((vI x3) = (vI x3)) ∧
 (((Go.Value.slice (Option.some (Go.Addr.mk 500 0 Option.none)) (n6) (c7)) = (Go.Value.slice (Option.some (Go.Addr.mk 500 0 Option.none)) (n6) (c7))) ∧
 (((Go.Value.pointer (Option.some (Go.Addr.mk 1000 2 Option.none))) = (Go.Value.pointer (Option.some (Go.Addr.mk 1000 2 Option.none)))) ∧
 (((Go.Value.slice (Option.some (Go.Addr.mk 1004 0 Option.none)) (n2) (n2)) = (Go.Value.slice (Option.some (Go.Addr.mk 1004 0 Option.none)) (n2) (n2))) ∧
 ((((Go.Value.slice (Option.some (Go.Addr.mk 1005 0 Option.none)) 1 1) = (Go.Value.slice (Option.some (Go.Addr.mk 1005 0 Option.none)) 1 1)) ∧
 ((Option.some (AObj.cells [(vI n3)] 3 false 1)) = (Option.some (AObj.cells [(vI n3)] 3 false 1)))) ∧
 ((∃ n5 : Int,
 ((At (l14) (0 + Int.toNat x3 * 3) 1 [(vI n5)]) ∧
 ((vI n5) = (vI n3)))) ∧
 (((Go.Value.pointer (Option.some (Go.Addr.mk 500 (0 + Int.toNat x3 * 3) Option.none))) = (Go.Value.pointer (Option.some (Go.Addr.mk 500 (0 + Int.toNat x3 * 3) Option.none)))) ∧
 (((Go.Value.pointer (Option.some (Go.Addr.mk 500 (0 + Int.toNat x3 * 3) Option.none))) = (Go.Value.pointer (Option.some (Go.Addr.mk 500 (0 + Int.toNat x3 * 3) Option.none)))) ∧
 ((bcase (decide (0 ≤ x3))
 (bcase (decide (x3 < (↑n6 : Int)))
 ((Go.Value.pointer (Option.some (Go.Addr.mk 500 (0 + Int.toNat x3 * 3) Option.none))) = (Go.Value.pointer (Option.some (Go.Addr.mk 500 (0 + Int.toNat x3 * 3) Option.none))))
 False)
 False) ∧
 (((vI x3) = (vI x3)) ∧
 (((Go.Value.slice (Option.some (Go.Addr.mk 500 0 Option.none)) (n6) (c7)) = (Go.Value.slice (Option.some (Go.Addr.mk 500 0 Option.none)) (n6) (c7))) ∧
 (((Go.Value.pointer (Option.some (Go.Addr.mk 1000 2 Option.none))) = (Go.Value.pointer (Option.some (Go.Addr.mk 1000 2 Option.none)))) ∧
 (((Go.Value.slice (Option.some (Go.Addr.mk 1003 0 Option.none)) (n1) (n1)) = (Go.Value.slice (Option.some (Go.Addr.mk 1003 0 Option.none)) (n1) (n1))) ∧
 True)))))))))))))))))) ∧
 (bcase (decide (n1 < n1 + 1))
 (bcase (decide ((2 * (n1 + 1) + 768) * 8 ≤ 281474976710656))
 (bcase (decide (n1 + 1 ≤ 1099511627776))
 (bcase (decide (0 + n1 * 1 ≤ List.length l12))
 (bcase (decide (0 + n1 * 1 = List.length l12))
 (((((Go.Value.slice (Option.some (Go.Addr.mk 1006 0 Option.none)) 1 1) = (Go.Value.slice (Option.some (Go.Addr.mk 1006 0 Option.none)) 1 1)) ∧
 ((Option.some (AObj.cells [(vI n4)] 3 false 1)) = (Option.some (AObj.cells [(vI n4)] 3 false 1)))) ∧
 ((∃ n5 : Int,
 ((At (l14) (Go.Addr.off (Go.Addr.add { block := 500, off := 0 + Int.toNat x3 * 3 } 0) + 1) 1 [(vI n5)]) ∧
 ((vI n5) = (vI n4)))) ∧
 (((Go.Value.pointer (Option.some (Go.Addr.mk 500 (Go.Addr.off { block := 500, off := 0 + Int.toNat x3 * 3 } + 1) Option.none))) = (Go.Value.pointer (Option.some (Go.Addr.mk 500 (Go.Addr.off (Go.Addr.add { block := 500, off := 0 + Int.toNat x3 * 3 } 0) + 1) Option.none)))) ∧
 (((Go.Value.pointer (Option.some (Go.Addr.mk 500 (0 + Int.toNat x3 * 3) Option.none))) = (Go.Value.pointer (Option.some (Go.Addr.mk 500 (0 + Int.toNat x3 * 3) Option.none)))) ∧
 ((bcase (decide (0 ≤ x3))
 (bcase (decide (x3 < (↑n6 : Int)))
 ((Go.Value.pointer (Option.some (Go.Addr.mk 500 (0 + Int.toNat x3 * 3) Option.none))) = (Go.Value.pointer (Option.some (Go.Addr.mk 500 (0 + Int.toNat x3 * 3) Option.none))))
 False)
 False) ∧
 (((vI x3) = (vI x3)) ∧
 (((Go.Value.slice (Option.some (Go.Addr.mk 500 0 Option.none)) (n6) (c7)) = (Go.Value.slice (Option.some (Go.Addr.mk 500 0 Option.none)) (n6) (c7))) ∧
 (((Go.Value.pointer (Option.some (Go.Addr.mk 1000 2 Option.none))) = (Go.Value.pointer (Option.some (Go.Addr.mk 1000 2 Option.none)))) ∧
 (((Go.Value.slice (Option.some (Go.Addr.mk 1004 0 Option.none)) (n2) (n2)) = (Go.Value.slice (Option.some (Go.Addr.mk 1004 0 Option.none)) (n2) (n2))) ∧
 ((∃ n5 : Int,
 ((At (l14) (0 + Int.toNat x3 * 3) 1 [(vI n5)]) ∧
 ((vI n5) = (vI n3)))) ∧
 (((Go.Value.pointer (Option.some (Go.Addr.mk 500 (0 + Int.toNat x3 * 3) Option.none))) = (Go.Value.pointer (Option.some (Go.Addr.mk 500 (0 + Int.toNat x3 * 3) Option.none)))) ∧
 (((Go.Value.pointer (Option.some (Go.Addr.mk 500 (0 + Int.toNat x3 * 3) Option.none))) = (Go.Value.pointer (Option.some (Go.Addr.mk 500 (0 + Int.toNat x3 * 3) Option.none)))) ∧
 ((bcase (decide (0 ≤ x3))
 (bcase (decide (x3 < (↑n6 : Int)))
 ((Go.Value.pointer (Option.some (Go.Addr.mk 500 (0 + Int.toNat x3 * 3) Option.none))) = (Go.Value.pointer (Option.some (Go.Addr.mk 500 (0 + Int.toNat x3 * 3) Option.none))))
 False)
 False) ∧
 (((vI x3) = (vI x3)) ∧
 (((Go.Value.slice (Option.some (Go.Addr.mk 500 0 Option.none)) (n6) (c7)) = (Go.Value.slice (Option.some (Go.Addr.mk 500 0 Option.none)) (n6) (c7))) ∧
 (((Go.Value.pointer (Option.some (Go.Addr.mk 1000 2 Option.none))) = (Go.Value.pointer (Option.some (Go.Addr.mk 1000 2 Option.none)))) ∧
 True)))))))))))))))) ∧
 (bcase (decide (n2 < n2 + 1))
 (bcase (decide ((2 * (n2 + 1) + 768) * 8 ≤ 281474976710656))
 (bcase (decide (n2 + 1 ≤ 1099511627776))
 (bcase (decide (0 + n2 * 1 ≤ List.length l13))
 (bcase (decide (0 + n2 * 1 = List.length l13))
 (((∃ n5 : Int,
 ((At (l14) (Go.Addr.off (Go.Addr.add { block := 500, off := 0 + Int.toNat x3 * 3 } 0) + 1) 1 [(vI n5)]) ∧
 ((vI n5) = (vI n4)))) ∧
 (((Go.Value.pointer (Option.some (Go.Addr.mk 500 (Go.Addr.off { block := 500, off := 0 + Int.toNat x3 * 3 } + 1) Option.none))) = (Go.Value.pointer (Option.some (Go.Addr.mk 500 (Go.Addr.off (Go.Addr.add { block := 500, off := 0 + Int.toNat x3 * 3 } 0) + 1) Option.none)))) ∧
 (((Go.Value.pointer (Option.some (Go.Addr.mk 500 (0 + Int.toNat x3 * 3) Option.none))) = (Go.Value.pointer (Option.some (Go.Addr.mk 500 (0 + Int.toNat x3 * 3) Option.none)))) ∧
 ((bcase (decide (0 ≤ x3))
 (bcase (decide (x3 < (↑n6 : Int)))
 ((Go.Value.pointer (Option.some (Go.Addr.mk 500 (0 + Int.toNat x3 * 3) Option.none))) = (Go.Value.pointer (Option.some (Go.Addr.mk 500 (0 + Int.toNat x3 * 3) Option.none))))
 False)
 False) ∧
 (((vI x3) = (vI x3)) ∧
 (((Go.Value.slice (Option.some (Go.Addr.mk 500 0 Option.none)) (n6) (c7)) = (Go.Value.slice (Option.some (Go.Addr.mk 500 0 Option.none)) (n6) (c7))) ∧
 (((Go.Value.pointer (Option.some (Go.Addr.mk 1000 2 Option.none))) = (Go.Value.pointer (Option.some (Go.Addr.mk 1000 2 Option.none)))) ∧
 ((∃ n5 : Int,
 ((At (l14) (0 + Int.toNat x3 * 3) 1 [(vI n5)]) ∧
 ((vI n5) = (vI n3)))) ∧
 (((Go.Value.pointer (Option.some (Go.Addr.mk 500 (0 + Int.toNat x3 * 3) Option.none))) = (Go.Value.pointer (Option.some (Go.Addr.mk 500 (0 + Int.toNat x3 * 3) Option.none)))) ∧
 (((Go.Value.pointer (Option.some (Go.Addr.mk 500 (0 + Int.toNat x3 * 3) Option.none))) = (Go.Value.pointer (Option.some (Go.Addr.mk 500 (0 + Int.toNat x3 * 3) Option.none)))) ∧
 ((bcase (decide (0 ≤ x3))
 (bcase (decide (x3 < (↑n6 : Int)))
 ((Go.Value.pointer (Option.some (Go.Addr.mk 500 (0 + Int.toNat x3 * 3) Option.none))) = (Go.Value.pointer (Option.some (Go.Addr.mk 500 (0 + Int.toNat x3 * 3) Option.none))))
 False)
 False) ∧
 (((vI x3) = (vI x3)) ∧
 (((Go.Value.slice (Option.some (Go.Addr.mk 500 0 Option.none)) (n6) (c7)) = (Go.Value.slice (Option.some (Go.Addr.mk 500 0 Option.none)) (n6) (c7))) ∧
 (((Go.Value.pointer (Option.some (Go.Addr.mk 1000 2 Option.none))) = (Go.Value.pointer (Option.some (Go.Addr.mk 1000 2 Option.none)))) ∧
 True)))))))))))))) ∧
 (((∃ n5 : Int,
 ((At (l14) (Go.Addr.off (Go.Addr.add { block := 500, off := 0 + Int.toNat x3 * 3 } 0) + 1) 1 [(vI n5)]) ∧
 ((vI n5) = (vI n4)))) ∧
 (((Go.Value.pointer (Option.some (Go.Addr.mk 500 (Go.Addr.off { block := 500, off := 0 + Int.toNat x3 * 3 } + 1) Option.none))) = (Go.Value.pointer (Option.some (Go.Addr.mk 500 (Go.Addr.off (Go.Addr.add { block := 500, off := 0 + Int.toNat x3 * 3 } 0) + 1) Option.none)))) ∧
 (((Go.Value.pointer (Option.some (Go.Addr.mk 500 (0 + Int.toNat x3 * 3) Option.none))) = (Go.Value.pointer (Option.some (Go.Addr.mk 500 (0 + Int.toNat x3 * 3) Option.none)))) ∧
 ((bcase (decide (0 ≤ x3))
 (bcase (decide (x3 < (↑n6 : Int)))
 ((Go.Value.pointer (Option.some (Go.Addr.mk 500 (0 + Int.toNat x3 * 3) Option.none))) = (Go.Value.pointer (Option.some (Go.Addr.mk 500 (0 + Int.toNat x3 * 3) Option.none))))
 False)
 False) ∧
 (((vI x3) = (vI x3)) ∧
 (((Go.Value.slice (Option.some (Go.Addr.mk 500 0 Option.none)) (n6) (c7)) = (Go.Value.slice (Option.some (Go.Addr.mk 500 0 Option.none)) (n6) (c7))) ∧
 (((Go.Value.pointer (Option.some (Go.Addr.mk 1000 2 Option.none))) = (Go.Value.pointer (Option.some (Go.Addr.mk 1000 2 Option.none)))) ∧
 True))))))) ∧
 (True ∧
 (B [(Prod.mk 1 (vI x0)), (Prod.mk 3 (Go.Value.pointer (Option.some (Go.Addr.mk 1000 0 Option.none)))), (Prod.mk 5 (Go.Value.pointer (Option.some (Go.Addr.mk 1001 0 Option.none)))), (Prod.mk 6 (Go.Value.pointer (Option.some (Go.Addr.mk 1002 0 Option.none)))), (Prod.mk 7 (Go.Value.slice (Option.some (Go.Addr.mk 1003 0 Option.none)) (n1 + 1) (n1 + 1))), (Prod.mk 8 (Go.Value.slice (Option.some (Go.Addr.mk 1004 0 Option.none)) (n2 + 1) (n2 + 1))), (Prod.mk 9 (vI (IntKind.wrap .i64 (x3 + 1))))] [(Prod.mk 1000 (AObj.cells [(vI x4), (vI x5), (Go.Value.slice (Option.some (Go.Addr.mk 500 0 Option.none)) (n6) (c7))] 24 false 1)), (Prod.mk 1001 (AObj.cells [(vI x8), (vI x9)] 26 false 1)), (Prod.mk 1002 (AObj.cells [(vI x10), (vI x11)] 26 false 2)), (Prod.mk 1003 (AObj.sym ((List.take (n1 * 1) (List.drop 0 l12)) ++ [(vI n3)]) true 1)), (Prod.mk 1004 (AObj.sym ((List.take (n2 * 1) (List.drop 0 l13)) ++ [(vI n4)]) true 1)), (Prod.mk 500 (AObj.sym (l14) false 3))]))))
 False)
 False)
 False)
 False)
 False))
 False)
 False)
 False)
 False)
 False))))
 False)
 False)))
 False)
 False)
 (X 0 [(Prod.mk 1 (vI x0)), (Prod.mk 3 (Go.Value.pointer (Option.some (Go.Addr.mk 1000 0 Option.none)))), (Prod.mk 5 (Go.Value.pointer (Option.some (Go.Addr.mk 1001 0 Option.none)))), (Prod.mk 6 (Go.Value.pointer (Option.some (Go.Addr.mk 1002 0 Option.none)))), (Prod.mk 7 (Go.Value.slice (Option.some (Go.Addr.mk 1003 0 Option.none)) (n1) (n1))), (Prod.mk 8 (Go.Value.slice (Option.some (Go.Addr.mk 1004 0 Option.none)) (n2) (n2)))] [(Prod.mk 1000 (AObj.cells [(vI x4), (vI x5), (Go.Value.slice (Option.some (Go.Addr.mk 500 0 Option.none)) (n6) (c7))] 24 false 1)), (Prod.mk 1001 (AObj.cells [(vI x8), (vI x9)] 26 false 1)), (Prod.mk 1002 (AObj.cells [(vI x10), (vI x11)] 26 false 2)), (Prod.mk 1003 (AObj.sym (l12) true 1)), (Prod.mk 1004 (AObj.sym (l13) true 1)), (Prod.mk 500 (AObj.sym (l14) false 3))])) := by kernel_rfl
def nQa4 (C : Ct) (L : AtLoop) (x0 : Int) (n1 : Nat) (n2 : Nat) (x3 : Int) (x4 : Int) (n5 : Nat) (c6 : Nat) (x7 : Int) (x8 : Int) (x9 : Int) (x10 : Int) (l11 : List Value) (l12 : List Value) (l13 : List Value) (k : List D → Prop) : Prop := wpNext Tryz.prog (hC C) L 19 0 .normal [(1, (Value.int .i64 x0)), (3, (Value.pointer (some ⟨1000, 0, none⟩))), (5, (Value.pointer (some ⟨1001, 0, none⟩))), (6, (Value.pointer (some ⟨1002, 0, none⟩))), (7, (Value.slice (some ⟨1003, 0, none⟩) n1 n1)), (8, (Value.slice (some ⟨1004, 0, none⟩) n2 n2))] [(1000, (AObj.cells [(Value.int .i64 x3), (Value.int .i64 x4), (Value.slice (some ⟨500, 0, none⟩) n5 c6)] 24 false 1)), (1001, (AObj.cells [(Value.int .i64 x7), (Value.int .i64 x8)] 26 false 1)), (1002, (AObj.cells [(Value.int .i64 x9), (Value.int .i64 x10)] 26 false 2)), (1003, (AObj.sym l11 true 1)), (1004, (AObj.sym l12 true 1)), (500, (AObj.sym l13 false 3))] (dataK k)
theorem nQa4_text (C : Ct) (L : AtLoop) (x0 : Int) (n1 : Nat) (n2 : Nat) (x3 : Int) (x4 : Int) (n5 : Nat) (c6 : Nat) (x7 : Int) (x8 : Int) (x9 : Int) (x10 : Int) (l11 : List Go.Value) (l12 : List Go.Value) (l13 : List Go.Value) (k : List D → Prop) : nQa4 C L x0 n1 n2 x3 x4 n5 c6 x7 x8 x9 x10 l11 l12 l13 k =
 ((((Go.Value.slice (Option.some (Go.Addr.mk 1003 0 Option.none)) (n1) (n1)) = (Go.Value.slice (Option.some (Go.Addr.mk 1003 0 Option.none)) (n1) (n1))) ∧
 (((vI x8) = (vI x8)) ∧
 (((Go.Value.pointer (Option.some (Go.Addr.mk 1001 1 Option.none))) = (Go.Value.pointer (Option.some (Go.Addr.mk 1001 1 Option.none)))) ∧
 (((vI x0) = (vI x0)) ∧
 (((Go.Value.agg [(vI x3), (vI x4), (Go.Value.slice (Option.some (Go.Addr.mk 500 0 Option.none)) (n5) (c6))].toArray) = (Go.Value.agg [(vI x3), (vI x4), (Go.Value.slice (Option.some (Go.Addr.mk 500 0 Option.none)) (n5) (c6))].toArray)) ∧
 (((Go.Value.slice (Option.some (Go.Addr.mk 1004 0 Option.none)) (n2) (n2)) = (Go.Value.slice (Option.some (Go.Addr.mk 1004 0 Option.none)) (n2) (n2))) ∧
 (((vI x7) = (vI x7)) ∧
 (((Go.Value.pointer (Option.some (Go.Addr.mk 1001 0 Option.none))) = (Go.Value.pointer (Option.some (Go.Addr.mk 1001 0 Option.none)))) ∧
 (((vI x0) = (vI x0)) ∧
 (((Go.Value.agg [(vI x3), (vI x4), (Go.Value.slice (Option.some (Go.Addr.mk 500 0 Option.none)) (n5) (c6))].toArray) = (Go.Value.agg [(vI x3), (vI x4), (Go.Value.slice (Option.some (Go.Addr.mk 500 0 Option.none)) (n5) (c6))].toArray)) ∧
 True)))))))))) ∧
 (bcase (decide (0 + n5 * 3 ≤ List.length l13))
 (bcase (decide (0 + n2 * 1 ≤ List.length l12))
 (∃ n3 : Int,
 ((Says C 36 [(D.agg [(D.val (vI x3)), (D.val (vI x4)), (D.sl (n5) 3 (List.take (n5 * 3) (List.drop 0 l13)))]), (D.val (vI x0)), (D.val (vI x7)), (D.sl (n2) 1 (List.take (n2 * 1) (List.drop 0 l12)))] [(D.val (vI n3))]) ∧
 ((((Go.Value.slice (Option.some (Go.Addr.mk 1003 0 Option.none)) (n1) (n1)) = (Go.Value.slice (Option.some (Go.Addr.mk 1003 0 Option.none)) (n1) (n1))) ∧
 (((vI x8) = (vI x8)) ∧
 (((Go.Value.pointer (Option.some (Go.Addr.mk 1001 1 Option.none))) = (Go.Value.pointer (Option.some (Go.Addr.mk 1001 1 Option.none)))) ∧
 (((vI x0) = (vI x0)) ∧
 (((Go.Value.agg [(vI x3), (vI x4), (Go.Value.slice (Option.some (Go.Addr.mk 500 0 Option.none)) (n5) (c6))].toArray) = (Go.Value.agg [(vI x3), (vI x4), (Go.Value.slice (Option.some (Go.Addr.mk 500 0 Option.none)) (n5) (c6))].toArray)) ∧
 (((Go.Value.pointer (Option.some (Go.Addr.mk 1001 0 Option.none))) = (Go.Value.pointer (Option.some (Go.Addr.mk 1001 0 Option.none)))) ∧
 True)))))) ∧
 (bcase (decide (0 + n5 * 3 ≤ List.length l13))
 (bcase (decide (0 + n1 * 1 ≤ List.length l11))
 (∃ n4 : Int,
 ((Says C 36 [(D.agg [(D.val (vI x3)), (D.val (vI x4)), (D.sl (n5) 3 (List.take (n5 * 3) (List.drop 0 l13)))]), (D.val (vI x0)), (D.val (vI x8)), (D.sl (n1) 1 (List.take (n1 * 1) (List.drop 0 l11)))] [(D.val (vI n4))]) ∧
 ((((Go.Value.agg [(vI n3), (vI n4)].toArray) = (Go.Value.agg [(vI n3), (vI n4)].toArray)) ∧
 (((Go.Value.pointer (Option.some (Go.Addr.mk 1001 1 Option.none))) = (Go.Value.pointer (Option.some (Go.Addr.mk 1001 1 Option.none)))) ∧
 (((Go.Value.pointer (Option.some (Go.Addr.mk 1001 0 Option.none))) = (Go.Value.pointer (Option.some (Go.Addr.mk 1001 0 Option.none)))) ∧
 True))) ∧
 (True ∧
 (k [(D.agg [(D.val (vI n3)), (D.val (vI n4))])])))))
 False)
 False))))
 False)
 False)) := by kernel_rfl
def gEx (C : Ct) (L : AtLoop) (x0 : Int) (x1 : Int) (n2 : Nat) (c2 : Nat) (l2 : List Value) (x3 : Int) (x4 : Int) (x5 : Int) (k : List D → Prop) : Prop := wpFn Tryz.prog (hC C) L 0 59 #[.agg #[.int .i64 x0, .int .i64 x1, .slice (some ⟨500, 0, none⟩) n2 c2], .int .i64 x3, .agg #[.int .i64 x4, .int .i64 x5]] (heapOf [(500, .sym l2 false 3)]) (dataK k)
theorem gEx_text (C : Ct) (L : AtLoop) (x0 : Int) (x1 : Int) (n2 : Nat) (c2 : Nat) (l2 : List Go.Value) (x3 : Int) (x4 : Int) (x5 : Int) (k : List D → Prop) : gEx C L x0 x1 n2 c2 l2 x3 x4 x5 k =
 ((((vI x5) = (vI x5)) ∧
 (((Go.Value.pointer (Option.some (Go.Addr.mk 1001 1 Option.none))) = (Go.Value.pointer (Option.some (Go.Addr.mk 1001 1 Option.none)))) ∧
 (((vI x3) = (vI x3)) ∧
 (((Go.Value.agg [(vI x0), (vI x1), (Go.Value.slice (Option.some (Go.Addr.mk 500 0 Option.none)) (n2) (c2))].toArray) = (Go.Value.agg [(vI x0), (vI x1), (Go.Value.slice (Option.some (Go.Addr.mk 500 0 Option.none)) (n2) (c2))].toArray)) ∧
 (((vI x4) = (vI x4)) ∧
 (((Go.Value.pointer (Option.some (Go.Addr.mk 1001 0 Option.none))) = (Go.Value.pointer (Option.some (Go.Addr.mk 1001 0 Option.none)))) ∧
 (((vI x3) = (vI x3)) ∧
 (((Go.Value.agg [(vI x0), (vI x1), (Go.Value.slice (Option.some (Go.Addr.mk 500 0 Option.none)) (n2) (c2))].toArray) = (Go.Value.agg [(vI x0), (vI x1), (Go.Value.slice (Option.some (Go.Addr.mk 500 0 Option.none)) (n2) (c2))].toArray)) ∧
 True)))))))) ∧
 (bcase (decide (0 + n2 * 3 ≤ List.length l2))
 (∃ n1 : Int,
 ((Says C 94 [(D.agg [(D.val (vI x0)), (D.val (vI x1)), (D.sl (n2) 3 (List.take (n2 * 3) (List.drop 0 l2)))]), (D.val (vI x3)), (D.val (vI x4)), (D.val (Go.Value.func (Go.Fn.func 95) [].toArray [].toArray))] [(D.val (vI n1))]) ∧
 ((((vI x5) = (vI x5)) ∧
 (((Go.Value.pointer (Option.some (Go.Addr.mk 1001 1 Option.none))) = (Go.Value.pointer (Option.some (Go.Addr.mk 1001 1 Option.none)))) ∧
 (((vI x3) = (vI x3)) ∧
 (((Go.Value.agg [(vI x0), (vI x1), (Go.Value.slice (Option.some (Go.Addr.mk 500 0 Option.none)) (n2) (c2))].toArray) = (Go.Value.agg [(vI x0), (vI x1), (Go.Value.slice (Option.some (Go.Addr.mk 500 0 Option.none)) (n2) (c2))].toArray)) ∧
 (((Go.Value.pointer (Option.some (Go.Addr.mk 1001 0 Option.none))) = (Go.Value.pointer (Option.some (Go.Addr.mk 1001 0 Option.none)))) ∧
 True))))) ∧
 (bcase (decide (0 + n2 * 3 ≤ List.length l2))
 (∃ n3 : Int,
 ((Says C 94 [(D.agg [(D.val (vI x0)), (D.val (vI x1)), (D.sl (n2) 3 (List.take (n2 * 3) (List.drop 0 l2)))]), (D.val (vI x3)), (D.val (vI x5)), (D.val (Go.Value.func (Go.Fn.func 96) [].toArray [].toArray))] [(D.val (vI n3))]) ∧
 ((((Go.Value.agg [(vI n1), (vI n3)].toArray) = (Go.Value.agg [(vI n1), (vI n3)].toArray)) ∧
 (((Go.Value.pointer (Option.some (Go.Addr.mk 1001 1 Option.none))) = (Go.Value.pointer (Option.some (Go.Addr.mk 1001 1 Option.none)))) ∧
 (((Go.Value.pointer (Option.some (Go.Addr.mk 1001 0 Option.none))) = (Go.Value.pointer (Option.some (Go.Addr.mk 1001 0 Option.none)))) ∧
 True))) ∧
 (True ∧
 (k [(D.agg [(D.val (vI n1)), (D.val (vI n3))])])))))
 False))))
 False)) := by kernel_rfl
def gPB (C : Ct) (L : AtLoop) (x0 : Int) (x1 : Int) (n2 : Nat) (c2 : Nat) (l2 : List Value) (x3 : Int) (x4 : Int) (x5 : Int) (k : List D → Prop) : Prop := wpFn Tryz.prog (hC C) L 0 12 #[.agg #[.int .i64 x0, .int .i64 x1, .slice (some ⟨500, 0, none⟩) n2 c2], .int .i64 x3, .agg #[.int .i64 x4, .int .i64 x5]] (heapOf [(500, .sym l2 false 3)]) (dataK k)
theorem gPB_text (C : Ct) (L : AtLoop) (x0 : Int) (x1 : Int) (n2 : Nat) (c2 : Nat) (l2 : List Go.Value) (x3 : Int) (x4 : Int) (x5 : Int) (k : List D → Prop) : gPB C L x0 x1 n2 c2 l2 x3 x4 x5 k =
 (bcase (decide (0 + n2 * 3 ≤ List.length l2))
 (∃ n1 : Int,
 (∃ n3 : Int,
 ((Says C 10 [(D.agg [(D.val (vI x0)), (D.val (vI x1)), (D.sl (n2) 3 (List.take (n2 * 3) (List.drop 0 l2)))])] [(D.val (vI n1)), (D.val (vI n3))]) ∧
 (bcase (n3 != 0)
 (((((Go.Value.slice (Option.some (Go.Addr.mk 1006 0 Option.none)) 1 1) = (Go.Value.slice (Option.some (Go.Addr.mk 1006 0 Option.none)) 1 1)) ∧
 ((Option.some (AObj.cells [(vI x4), (vI x5)] 26 false 2)) = (Option.some (AObj.cells [(vI x4), (vI x5)] 26 false 2)))) ∧
 (((Go.Value.agg [(vI x4), (vI x5)].toArray) = (Go.Value.agg [(vI x4), (vI x5)].toArray)) ∧
 (((vI x3) = (vI x3)) ∧
 (((Go.Value.agg [(vI (0 : Int)), (vI (0 : Int)), (Go.Value.slice Option.none 0 0)].toArray) = (Go.Value.agg [(vI (0 : Int)), (vI (0 : Int)), (Go.Value.slice Option.none 0 0)].toArray)) ∧
 (((vI n3) = (vI n3)) ∧
 True))))) ∧
 (∃ n4 : Int,
 ((Says C 57 [(D.agg [(D.val (vI (0 : Int))), (D.val (vI (0 : Int))), D.nil]), (D.val (vI x3))] [(D.val (vI n4))]) ∧
 (((((Go.Value.slice (Option.some (Go.Addr.mk 1006 0 Option.none)) 1 1) = (Go.Value.slice (Option.some (Go.Addr.mk 1006 0 Option.none)) 1 1)) ∧
 ((Option.some (AObj.cells [(vI x4), (vI x5)] 26 false 2)) = (Option.some (AObj.cells [(vI x4), (vI x5)] 26 false 2)))) ∧
 (((Go.Value.agg [(vI x4), (vI x5)].toArray) = (Go.Value.agg [(vI x4), (vI x5)].toArray)) ∧
 (((vI n3) = (vI n3)) ∧
 True))) ∧
 (∃ n5 : Int,
 ((Says C 58 [(D.sl 1 2 [(vI x4), (vI x5)])] [(D.val (vI n5))]) ∧
 (((((Go.Value.slice (Option.some (Go.Addr.mk 1007 0 Option.none)) 3 3) = (Go.Value.slice (Option.some (Go.Addr.mk 1007 0 Option.none)) 3 3)) ∧
 ((Option.some (AObj.cells [(vI n3), (vI n4), (vI n5)] 31 false 1)) = (Option.some (AObj.cells [(vI n3), (vI n4), (vI n5)] 31 false 1)))) ∧
 (((Go.Value.agg [(vI x4), (vI x5)].toArray) = (Go.Value.agg [(vI x4), (vI x5)].toArray)) ∧
 (((vI n3) = (vI n3)) ∧
 True))) ∧
 (∃ n6 : Int,
 ((Says C 50 [(D.sl 3 1 [(vI n3), (vI n4), (vI n5)])] [(D.val (vI n6))]) ∧
 ((((Go.Value.agg [(vI x4), (vI x5)].toArray) = (Go.Value.agg [(vI x4), (vI x5)].toArray)) ∧
 (((vI n3) = (vI n3)) ∧
 True)) ∧
 (True ∧
 (bcase (n6 != 0)
 (k [(D.agg [(D.val (vI (0 : Int))), (D.val (vI (0 : Int)))]), (D.val (vI n6))])
 (∃ n7 : Int,
 (∃ n8 : Int,
 ((Says C 59 [(D.agg [(D.val (vI (0 : Int))), (D.val (vI (0 : Int))), D.nil]), (D.val (vI x3)), (D.agg [(D.val (vI x4)), (D.val (vI x5))])] [(D.agg [(D.val (vI n7)), (D.val (vI n8))])]) ∧
 (k [(D.agg [(D.val (vI n7)), (D.val (vI n8))]), (D.val (vI (0 : Int)))]))))))))))))))))
 (((((Go.Value.slice (Option.some (Go.Addr.mk 1006 0 Option.none)) 1 1) = (Go.Value.slice (Option.some (Go.Addr.mk 1006 0 Option.none)) 1 1)) ∧
 ((Option.some (AObj.cells [(vI x4), (vI x5)] 26 false 2)) = (Option.some (AObj.cells [(vI x4), (vI x5)] 26 false 2)))) ∧
 (((Go.Value.agg [(vI x4), (vI x5)].toArray) = (Go.Value.agg [(vI x4), (vI x5)].toArray)) ∧
 (((vI x3) = (vI x3)) ∧
 (((Go.Value.agg [(vI x0), (vI x1), (Go.Value.slice (Option.some (Go.Addr.mk 500 0 Option.none)) (n2) (c2))].toArray) = (Go.Value.agg [(vI x0), (vI x1), (Go.Value.slice (Option.some (Go.Addr.mk 500 0 Option.none)) (n2) (c2))].toArray)) ∧
 (((vI (0 : Int)) = (vI (0 : Int))) ∧
 True))))) ∧
 (bcase (decide (0 + n2 * 3 ≤ List.length l2))
 (∃ n4 : Int,
 ((Says C 57 [(D.agg [(D.val (vI x0)), (D.val (vI x1)), (D.sl (n2) 3 (List.take (n2 * 3) (List.drop 0 l2)))]), (D.val (vI x3))] [(D.val (vI n4))]) ∧
 (((((Go.Value.slice (Option.some (Go.Addr.mk 1006 0 Option.none)) 1 1) = (Go.Value.slice (Option.some (Go.Addr.mk 1006 0 Option.none)) 1 1)) ∧
 ((Option.some (AObj.cells [(vI x4), (vI x5)] 26 false 2)) = (Option.some (AObj.cells [(vI x4), (vI x5)] 26 false 2)))) ∧
 (((Go.Value.agg [(vI x4), (vI x5)].toArray) = (Go.Value.agg [(vI x4), (vI x5)].toArray)) ∧
 (((vI (0 : Int)) = (vI (0 : Int))) ∧
 True))) ∧
 (∃ n5 : Int,
 ((Says C 58 [(D.sl 1 2 [(vI x4), (vI x5)])] [(D.val (vI n5))]) ∧
 (((((Go.Value.slice (Option.some (Go.Addr.mk 1007 0 Option.none)) 3 3) = (Go.Value.slice (Option.some (Go.Addr.mk 1007 0 Option.none)) 3 3)) ∧
 ((Option.some (AObj.cells [(vI (0 : Int)), (vI n4), (vI n5)] 31 false 1)) = (Option.some (AObj.cells [(vI (0 : Int)), (vI n4), (vI n5)] 31 false 1)))) ∧
 (((Go.Value.agg [(vI x4), (vI x5)].toArray) = (Go.Value.agg [(vI x4), (vI x5)].toArray)) ∧
 (((vI (0 : Int)) = (vI (0 : Int))) ∧
 True))) ∧
 (∃ n6 : Int,
 ((Says C 50 [(D.sl 3 1 [(vI (0 : Int)), (vI n4), (vI n5)])] [(D.val (vI n6))]) ∧
 ((((Go.Value.agg [(vI x4), (vI x5)].toArray) = (Go.Value.agg [(vI x4), (vI x5)].toArray)) ∧
 (((vI (0 : Int)) = (vI (0 : Int))) ∧
 True)) ∧
 (True ∧
 (bcase (n6 != 0)
 (k [(D.agg [(D.val (vI (0 : Int))), (D.val (vI (0 : Int)))]), (D.val (vI n6))])
 (bcase (decide (0 + n2 * 3 ≤ List.length l2))
 (∃ n7 : Int,
 (∃ n8 : Int,
 ((Says C 59 [(D.agg [(D.val (vI x0)), (D.val (vI x1)), (D.sl (n2) 3 (List.take (n2 * 3) (List.drop 0 l2)))]), (D.val (vI x3)), (D.agg [(D.val (vI x4)), (D.val (vI x5))])] [(D.agg [(D.val (vI n7)), (D.val (vI n8))])]) ∧
 (k [(D.agg [(D.val (vI n7)), (D.val (vI n8))]), (D.val (vI (0 : Int)))]))))
 False))))))))))))
 False))))))
 False) := by kernel_rfl
def gAA (C : Ct) (L : AtLoop) (x0 : Int) (x1 : Int) (n2 : Nat) (c2 : Nat) (l2 : List Value) (x3 : Int) (k : List D → Prop) : Prop := wpFn Tryz.prog (hC C) L 0 13 #[.agg #[.int .i64 x0, .int .i64 x1, .slice (some ⟨500, 0, none⟩) n2 c2], .int .i64 x3] (heapOf [(500, .sym l2 false 3)]) (dataK k)
theorem gAA_text (C : Ct) (L : AtLoop) (x0 : Int) (x1 : Int) (n2 : Nat) (c2 : Nat) (l2 : List Go.Value) (x3 : Int) (k : List D → Prop) : gAA C L x0 x1 n2 c2 l2 x3 k =
 (bcase (decide (0 + n2 * 3 ≤ List.length l2))
 (∃ n1 : Int,
 (∃ n3 : Int,
 ((Says C 10 [(D.agg [(D.val (vI x0)), (D.val (vI x1)), (D.sl (n2) 3 (List.take (n2 * 3) (List.drop 0 l2)))])] [(D.val (vI n1)), (D.val (vI n3))]) ∧
 (bcase (n3 != 0)
 (bcase (n3 != 0)
 (k [(D.val (vI (0 : Int))), (D.val (vI n3))])
 (bcase (decide (x3 < 0))
 (k [(D.val (vI (0 : Int))), (D.val (vI (6 : Int)))])
 (bcase (decide (x3 ≥ 12))
 (k [(D.val (vI (0 : Int))), (D.val (vI (6 : Int)))])
 (∃ n4 : Int,
 ((Says C 60 [(D.agg [(D.val (vI (0 : Int))), (D.val (vI (0 : Int))), D.nil]), (D.val (vI x3))] [(D.val (vI n4))]) ∧
 (k [(D.val (vI n4)), (D.val (vI (0 : Int)))]))))))
 (bcase (decide (x3 < 0))
 (k [(D.val (vI (0 : Int))), (D.val (vI (6 : Int)))])
 (bcase (decide (x3 ≥ 12))
 (k [(D.val (vI (0 : Int))), (D.val (vI (6 : Int)))])
 (bcase (decide (0 + n2 * 3 ≤ List.length l2))
 (∃ n4 : Int,
 ((Says C 60 [(D.agg [(D.val (vI x0)), (D.val (vI x1)), (D.sl (n2) 3 (List.take (n2 * 3) (List.drop 0 l2)))]), (D.val (vI x3))] [(D.val (vI n4))]) ∧
 (k [(D.val (vI n4)), (D.val (vI (0 : Int)))])))
 False)))))))
 False) := by kernel_rfl
def gLT (C : Ct) (L : AtLoop) (x0 : Int) (x1 : Int) (n2 : Nat) (c2 : Nat) (l2 : List Value) (x3 : Int) (x4 : Int) (x5 : Int) (x6 : Int) (k : List D → Prop) : Prop := wpFn Tryz.prog (hC C) L 0 3 #[.agg #[.int .i64 x0, .int .i64 x1, .slice (some ⟨500, 0, none⟩) n2 c2], .agg #[.int .i64 x3, .int .i64 x4, .int .i64 x5, .int .i64 x6]] (heapOf [(500, .sym l2 false 3)]) (dataK k)
theorem gLT_text (C : Ct) (L : AtLoop) (x0 : Int) (x1 : Int) (n2 : Nat) (c2 : Nat) (l2 : List Go.Value) (x3 : Int) (x4 : Int) (x5 : Int) (x6 : Int) (k : List D → Prop) : gLT C L x0 x1 n2 c2 l2 x3 x4 x5 x6 k =
 (((Says C 8 [] [(D.val (Value.bool true))]) ∧
 (bcase (decide ((↑n2 : Int) ≤ 6))
 (bcase (decide (0 + n2 * 3 ≤ List.length l2))
 ((Says C 11 [(D.agg [(D.val (vI x0)), (D.val (vI x1)), (D.sl (n2) 3 (List.take (n2 * 3) (List.drop 0 l2)))])] [(D.agg [(D.val (vI x0)), (D.val (vI x1)), (D.sl (n2) 3 (List.take (n2 * 3) (List.drop 0 l2)))])]) ∧
 (bcase (decide (0 + n2 * 3 ≤ List.length (List.take (n2 * 3) (List.drop 0 l2))))
 (∃ n1 : Int,
 (∃ n3 : Int,
 ((Says C 10 [(D.agg [(D.val (vI x0)), (D.val (vI x1)), (D.sl (n2) 3 (List.take (n2 * 3) (List.drop 0 (List.take (n2 * 3) (List.drop 0 l2)))))])] [(D.val (vI n1)), (D.val (vI n3))]) ∧
 (((((Go.Value.pointer (Option.some (Go.Addr.mk 1004 0 Option.none))) = (Go.Value.pointer (Option.some (Go.Addr.mk 1004 0 Option.none)))) ∧
 ((Option.some (AObj.cells [(vI (0 : Int)), (vI (0 : Int))] 26 false 2)) = (Option.some (AObj.cells [(vI (0 : Int)), (vI (0 : Int))] 26 false 2)))) ∧
 (((Go.Value.agg [(vI x4), (vI x5)].toArray) = (Go.Value.agg [(vI x4), (vI x5)].toArray)) ∧
 (((Go.Value.pointer (Option.some (Go.Addr.mk 1001 1 Option.none))) = (Go.Value.pointer (Option.some (Go.Addr.mk 1001 1 Option.none)))) ∧
 (((vI x3) = (vI x3)) ∧
 (((Go.Value.pointer (Option.some (Go.Addr.mk 1001 0 Option.none))) = (Go.Value.pointer (Option.some (Go.Addr.mk 1001 0 Option.none)))) ∧
 (((Go.Value.agg [(vI x0), (vI x1), (Go.Value.slice (Option.some (Go.Addr.mk 500 0 Option.none)) (n2) (c2))].toArray) = (Go.Value.agg [(vI x0), (vI x1), (Go.Value.slice (Option.some (Go.Addr.mk 500 0 Option.none)) (n2) (c2))].toArray)) ∧
 True)))))) ∧
 (bcase (decide (0 + n2 * 3 ≤ List.length l2))
 ((Says C 11 [(D.agg [(D.val (vI x0)), (D.val (vI x1)), (D.sl (n2) 3 (List.take (n2 * 3) (List.drop 0 l2)))])] [(D.agg [(D.val (vI x0)), (D.val (vI x1)), (D.sl (n2) 3 (List.take (n2 * 3) (List.drop 0 l2)))])]) ∧
 (((((Go.Value.pointer (Option.some (Go.Addr.mk 1004 0 Option.none))) = (Go.Value.pointer (Option.some (Go.Addr.mk 1004 0 Option.none)))) ∧
 ((Option.some (AObj.cells [(vI (0 : Int)), (vI (0 : Int))] 26 false 2)) = (Option.some (AObj.cells [(vI (0 : Int)), (vI (0 : Int))] 26 false 2)))) ∧
 (((Go.Value.agg [(vI x4), (vI x5)].toArray) = (Go.Value.agg [(vI x4), (vI x5)].toArray)) ∧
 (((Go.Value.pointer (Option.some (Go.Addr.mk 1001 1 Option.none))) = (Go.Value.pointer (Option.some (Go.Addr.mk 1001 1 Option.none)))) ∧
 (((vI x3) = (vI x3)) ∧
 (((Go.Value.pointer (Option.some (Go.Addr.mk 1001 0 Option.none))) = (Go.Value.pointer (Option.some (Go.Addr.mk 1001 0 Option.none)))) ∧
 True))))) ∧
 (bcase (decide (0 + n2 * 3 ≤ List.length (List.take (n2 * 3) (List.drop 0 l2))))
 (∃ n4 : Int,
 (∃ n5 : Int,
 (∃ n6 : Int,
 ((Says C 12 [(D.agg [(D.val (vI x0)), (D.val (vI x1)), (D.sl (n2) 3 (List.take (n2 * 3) (List.drop 0 (List.take (n2 * 3) (List.drop 0 l2)))))]), (D.val (vI x3)), (D.agg [(D.val (vI x4)), (D.val (vI x5))])] [(D.agg [(D.val (vI n4)), (D.val (vI n5))]), (D.val (vI n6))]) ∧
 ((((vI n6) = (vI n6)) ∧
 (((Go.Value.agg [(vI n4), (vI n5)].toArray) = (Go.Value.agg [(vI n4), (vI n5)].toArray)) ∧
 (((Go.Value.tuple [(Go.Value.agg [(vI n4), (vI n5)].toArray), (vI n6)].toArray) = (Go.Value.tuple [(Go.Value.agg [(vI n4), (vI n5)].toArray), (vI n6)].toArray)) ∧
 ((((Go.Value.pointer (Option.some (Go.Addr.mk 1004 0 Option.none))) = (Go.Value.pointer (Option.some (Go.Addr.mk 1004 0 Option.none)))) ∧
 ((Option.some (AObj.cells [(vI (0 : Int)), (vI (0 : Int))] 26 false 2)) = (Option.some (AObj.cells [(vI (0 : Int)), (vI (0 : Int))] 26 false 2)))) ∧
 (((Go.Value.pointer (Option.some (Go.Addr.mk 1001 1 Option.none))) = (Go.Value.pointer (Option.some (Go.Addr.mk 1001 1 Option.none)))) ∧
 (((Go.Value.pointer (Option.some (Go.Addr.mk 1001 0 Option.none))) = (Go.Value.pointer (Option.some (Go.Addr.mk 1001 0 Option.none)))) ∧
 True)))))) ∧
 ((((vI n6) = (vI n6)) ∧
 True) ∧
 (True ∧
 ((((vI x6) = (vI x6)) ∧
 (((Go.Value.pointer (Option.some (Go.Addr.mk 1001 3 Option.none))) = (Go.Value.pointer (Option.some (Go.Addr.mk 1001 3 Option.none)))) ∧
 (((Go.Value.agg [(vI x0), (vI x1), (Go.Value.slice (Option.some (Go.Addr.mk 500 0 Option.none)) (n2) (c2))].toArray) = (Go.Value.agg [(vI x0), (vI x1), (Go.Value.slice (Option.some (Go.Addr.mk 500 0 Option.none)) (n2) (c2))].toArray)) ∧
 True))) ∧
 (bcase (decide (0 + n2 * 3 ≤ List.length l2))
 ((Says C 11 [(D.agg [(D.val (vI x0)), (D.val (vI x1)), (D.sl (n2) 3 (List.take (n2 * 3) (List.drop 0 l2)))])] [(D.agg [(D.val (vI x0)), (D.val (vI x1)), (D.sl (n2) 3 (List.take (n2 * 3) (List.drop 0 l2)))])]) ∧
 ((((vI x6) = (vI x6)) ∧
 (((Go.Value.pointer (Option.some (Go.Addr.mk 1001 3 Option.none))) = (Go.Value.pointer (Option.some (Go.Addr.mk 1001 3 Option.none)))) ∧
 True)) ∧
 (bcase (decide (0 + n2 * 3 ≤ List.length (List.take (n2 * 3) (List.drop 0 l2))))
 (∃ n7 : Int,
 (∃ n8 : Int,
 ((Says C 13 [(D.agg [(D.val (vI x0)), (D.val (vI x1)), (D.sl (n2) 3 (List.take (n2 * 3) (List.drop 0 (List.take (n2 * 3) (List.drop 0 l2)))))]), (D.val (vI x6))] [(D.val (vI n7)), (D.val (vI n8))]) ∧
 ((((vI n8) = (vI n8)) ∧
 (((vI n7) = (vI n7)) ∧
 (((Go.Value.tuple [(vI n7), (vI n8)].toArray) = (Go.Value.tuple [(vI n7), (vI n8)].toArray)) ∧
 (((Go.Value.pointer (Option.some (Go.Addr.mk 1001 3 Option.none))) = (Go.Value.pointer (Option.some (Go.Addr.mk 1001 3 Option.none)))) ∧
 True)))) ∧
 ((((vI n8) = (vI n8)) ∧
 True) ∧
 (True ∧
 (bcase (decide (0 + n2 * 3 ≤ List.length l2))
 (∃ n9 : Int,
 (∃ n10 : Int,
 ((Says C 14 [(D.agg [(D.val (vI x0)), (D.val (vI x1)), (D.sl (n2) 3 (List.take (n2 * 3) (List.drop 0 l2)))])] [(D.val (vI n9)), (D.val (vI n10))]) ∧
 (bcase (n3 != n10)
 (k [(D.val (Value.bool false))])
 (bcase (n1 != n9)
 (k [(D.val (Value.bool false))])
 (bcase (n10 != 0)
 (bcase (n6 == n10)
 (bcase (n8 == n10)
 (bcase (if Bool.false = Bool.true then !(n4 == 0 && (n5 == 0 && Bool.true)) else n4 == 0 && (n5 == 0 && Bool.true))
 (bcase (n7 == 0)
 (k [(D.val (Value.bool true))])
 (k [(D.val (Value.bool false))]))
 (k [(D.val (Value.bool false))]))
 (k [(D.val (Value.bool false))]))
 (k [(D.val (Value.bool false))]))
 (((Says C 15 [(D.val (vI x6)), (D.val (vI (0 : Int))), (D.val (vI (11 : Int)))] [(D.val (Value.bool true))]) ∧
 (bcase (n8 != 0)
 (k [(D.val (Value.bool false))])
 (bcase (decide (0 + n2 * 3 ≤ List.length l2))
 (∃ n11 : Int,
 ((Says C 16 [(D.agg [(D.val (vI x0)), (D.val (vI x1)), (D.sl (n2) 3 (List.take (n2 * 3) (List.drop 0 l2)))]), (D.val (vI x6))] [(D.val (vI n11))]) ∧
 (bcase (n7 != n11)
 (k [(D.val (Value.bool false))])
 (bcase (decide (0 + n2 * 3 ≤ List.length l2))
 (∃ n12 : Int,
 ((Says C 17 [(D.agg [(D.val (vI x0)), (D.val (vI x1)), (D.sl (n2) 3 (List.take (n2 * 3) (List.drop 0 l2)))]), (D.val (vI x3))] [(D.val (vI n12))]) ∧
 (bcase (n12 == 0)
 (∃ n13 : Int,
 ((Says C 18 [(D.agg [(D.val (vI x4)), (D.val (vI x5))])] [(D.val (vI n13))]) ∧
 (bcase (n13 != 0)
 (bcase (n6 == n13)
 (bcase (if Bool.false = Bool.true then !(n4 == 0 && (n5 == 0 && Bool.true)) else n4 == 0 && (n5 == 0 && Bool.true))
 (k [(D.val (Value.bool true))])
 (k [(D.val (Value.bool false))]))
 (k [(D.val (Value.bool false))]))
 (bcase (n6 == 0)
 ((((Go.Value.agg [(vI x4), (vI x5)].toArray) = (Go.Value.agg [(vI x4), (vI x5)].toArray)) ∧
 (((Go.Value.pointer (Option.some (Go.Addr.mk 1001 1 Option.none))) = (Go.Value.pointer (Option.some (Go.Addr.mk 1001 1 Option.none)))) ∧
 (((vI x3) = (vI x3)) ∧
 (((Go.Value.pointer (Option.some (Go.Addr.mk 1001 0 Option.none))) = (Go.Value.pointer (Option.some (Go.Addr.mk 1001 0 Option.none)))) ∧
 (((Go.Value.agg [(vI x0), (vI x1), (Go.Value.slice (Option.some (Go.Addr.mk 500 0 Option.none)) (n2) (c2))].toArray) = (Go.Value.agg [(vI x0), (vI x1), (Go.Value.slice (Option.some (Go.Addr.mk 500 0 Option.none)) (n2) (c2))].toArray)) ∧
 (((Go.Value.agg [(vI n4), (vI n5)].toArray) = (Go.Value.agg [(vI n4), (vI n5)].toArray)) ∧
 (((Value.bool true) = (Value.bool true)) ∧
 ((bcase (n6 == 0)
 ((Value.bool true) = (Value.bool true))
 ((Value.bool false) = (Value.bool true))) ∧
 (((vI n6) = (vI n6)) ∧
 True))))))))) ∧
 (bcase (decide (0 + n2 * 3 ≤ List.length l2))
 (∃ n14 : Int,
 (∃ n15 : Int,
 ((Says C 19 [(D.agg [(D.val (vI x0)), (D.val (vI x1)), (D.sl (n2) 3 (List.take (n2 * 3) (List.drop 0 l2)))]), (D.val (vI x3)), (D.agg [(D.val (vI x4)), (D.val (vI x5))])] [(D.agg [(D.val (vI n14)), (D.val (vI n15))])]) ∧
 (bcase (if Bool.false = Bool.true then !(n4 == n14 && (n5 == n15 && Bool.true)) else n4 == n14 && (n5 == n15 && Bool.true))
 ((((Value.bool true) = (Value.bool true)) ∧
 ((bcase (if Bool.false = Bool.true then !(n4 == n14 && (n5 == n15 && Bool.true)) else n4 == n14 && (n5 == n15 && Bool.true))
 ((Value.bool true) = (Value.bool true))
 ((Value.bool false) = (Value.bool true))) ∧
 (((Go.Value.pointer (Option.some (Go.Addr.mk 1001 1 Option.none))) = (Go.Value.pointer (Option.some (Go.Addr.mk 1001 1 Option.none)))) ∧
 (((Go.Value.pointer (Option.some (Go.Addr.mk 1001 0 Option.none))) = (Go.Value.pointer (Option.some (Go.Addr.mk 1001 0 Option.none)))) ∧
 (((Go.Value.agg [(vI n4), (vI n5)].toArray) = (Go.Value.agg [(vI n4), (vI n5)].toArray)) ∧
 ((bcase (n6 == 0)
 ((Value.bool true) = (Value.bool true))
 ((Value.bool false) = (Value.bool true))) ∧
 (((vI n6) = (vI n6)) ∧
 True))))))) ∧
 (True ∧
 (k [(D.val (Value.bool true))])))
 ((((Value.bool false) = (Value.bool false)) ∧
 ((bcase (if Bool.false = Bool.true then !(n4 == n14 && (n5 == n15 && Bool.true)) else n4 == n14 && (n5 == n15 && Bool.true))
 ((Value.bool true) = (Value.bool false))
 ((Value.bool false) = (Value.bool false))) ∧
 (((Go.Value.pointer (Option.some (Go.Addr.mk 1001 1 Option.none))) = (Go.Value.pointer (Option.some (Go.Addr.mk 1001 1 Option.none)))) ∧
 (((Go.Value.pointer (Option.some (Go.Addr.mk 1001 0 Option.none))) = (Go.Value.pointer (Option.some (Go.Addr.mk 1001 0 Option.none)))) ∧
 (((Go.Value.agg [(vI n4), (vI n5)].toArray) = (Go.Value.agg [(vI n4), (vI n5)].toArray)) ∧
 ((bcase (n6 == 0)
 ((Value.bool true) = (Value.bool true))
 ((Value.bool false) = (Value.bool true))) ∧
 (((vI n6) = (vI n6)) ∧
 True))))))) ∧
 (True ∧
 (k [(D.val (Value.bool false))])))))))
 False))
 ((((Go.Value.tuple [].toArray) = (Go.Value.tuple [].toArray)) ∧
 (((Go.Value.tuple [].toArray) = (Go.Value.tuple [].toArray)) ∧
 (((Go.Value.tuple [].toArray) = (Go.Value.tuple [].toArray)) ∧
 (((Go.Value.tuple [].toArray) = (Go.Value.tuple [].toArray)) ∧
 (((Go.Value.tuple [].toArray) = (Go.Value.tuple [].toArray)) ∧
 (((Go.Value.tuple [].toArray) = (Go.Value.tuple [].toArray)) ∧
 (((Value.bool false) = (Value.bool false)) ∧
 ((bcase (n6 == 0)
 ((Value.bool true) = (Value.bool false))
 ((Value.bool false) = (Value.bool false))) ∧
 (((vI n6) = (vI n6)) ∧
 True))))))))) ∧
 ((((Value.bool false) = (Value.bool false)) ∧
 (((Go.Value.tuple [].toArray) = (Go.Value.tuple [].toArray)) ∧
 (((Go.Value.tuple [].toArray) = (Go.Value.tuple [].toArray)) ∧
 (((Go.Value.tuple [].toArray) = (Go.Value.tuple [].toArray)) ∧
 (((Go.Value.tuple [].toArray) = (Go.Value.tuple [].toArray)) ∧
 ((bcase (n6 == 0)
 ((Value.bool true) = (Value.bool false))
 ((Value.bool false) = (Value.bool false))) ∧
 (((vI n6) = (vI n6)) ∧
 True))))))) ∧
 (True ∧
 (k [(D.val (Value.bool false))]))))))))
 (bcase (n12 != 0)
 (bcase (n6 == n12)
 (bcase (if Bool.false = Bool.true then !(n4 == 0 && (n5 == 0 && Bool.true)) else n4 == 0 && (n5 == 0 && Bool.true))
 (k [(D.val (Value.bool true))])
 (k [(D.val (Value.bool false))]))
 (k [(D.val (Value.bool false))]))
 (bcase (n6 == 0)
 ((((Go.Value.agg [(vI x4), (vI x5)].toArray) = (Go.Value.agg [(vI x4), (vI x5)].toArray)) ∧
 (((Go.Value.pointer (Option.some (Go.Addr.mk 1001 1 Option.none))) = (Go.Value.pointer (Option.some (Go.Addr.mk 1001 1 Option.none)))) ∧
 (((vI x3) = (vI x3)) ∧
 (((Go.Value.pointer (Option.some (Go.Addr.mk 1001 0 Option.none))) = (Go.Value.pointer (Option.some (Go.Addr.mk 1001 0 Option.none)))) ∧
 (((Go.Value.agg [(vI x0), (vI x1), (Go.Value.slice (Option.some (Go.Addr.mk 500 0 Option.none)) (n2) (c2))].toArray) = (Go.Value.agg [(vI x0), (vI x1), (Go.Value.slice (Option.some (Go.Addr.mk 500 0 Option.none)) (n2) (c2))].toArray)) ∧
 (((Go.Value.agg [(vI n4), (vI n5)].toArray) = (Go.Value.agg [(vI n4), (vI n5)].toArray)) ∧
 (((Value.bool true) = (Value.bool true)) ∧
 ((bcase (n6 == 0)
 ((Value.bool true) = (Value.bool true))
 ((Value.bool false) = (Value.bool true))) ∧
 (((vI n6) = (vI n6)) ∧
 True))))))))) ∧
 (bcase (decide (0 + n2 * 3 ≤ List.length l2))
 (∃ n13 : Int,
 (∃ n14 : Int,
 ((Says C 19 [(D.agg [(D.val (vI x0)), (D.val (vI x1)), (D.sl (n2) 3 (List.take (n2 * 3) (List.drop 0 l2)))]), (D.val (vI x3)), (D.agg [(D.val (vI x4)), (D.val (vI x5))])] [(D.agg [(D.val (vI n13)), (D.val (vI n14))])]) ∧
 (bcase (if Bool.false = Bool.true then !(n4 == n13 && (n5 == n14 && Bool.true)) else n4 == n13 && (n5 == n14 && Bool.true))
 ((((Value.bool true) = (Value.bool true)) ∧
 ((bcase (if Bool.false = Bool.true then !(n4 == n13 && (n5 == n14 && Bool.true)) else n4 == n13 && (n5 == n14 && Bool.true))
 ((Value.bool true) = (Value.bool true))
 ((Value.bool false) = (Value.bool true))) ∧
 (((Go.Value.pointer (Option.some (Go.Addr.mk 1001 1 Option.none))) = (Go.Value.pointer (Option.some (Go.Addr.mk 1001 1 Option.none)))) ∧
 (((Go.Value.pointer (Option.some (Go.Addr.mk 1001 0 Option.none))) = (Go.Value.pointer (Option.some (Go.Addr.mk 1001 0 Option.none)))) ∧
 (((Go.Value.agg [(vI n4), (vI n5)].toArray) = (Go.Value.agg [(vI n4), (vI n5)].toArray)) ∧
 ((bcase (n6 == 0)
 ((Value.bool true) = (Value.bool true))
 ((Value.bool false) = (Value.bool true))) ∧
 (((vI n6) = (vI n6)) ∧
 True))))))) ∧
 (True ∧
 (k [(D.val (Value.bool true))])))
 ((((Value.bool false) = (Value.bool false)) ∧
 ((bcase (if Bool.false = Bool.true then !(n4 == n13 && (n5 == n14 && Bool.true)) else n4 == n13 && (n5 == n14 && Bool.true))
 ((Value.bool true) = (Value.bool false))
 ((Value.bool false) = (Value.bool false))) ∧
 (((Go.Value.pointer (Option.some (Go.Addr.mk 1001 1 Option.none))) = (Go.Value.pointer (Option.some (Go.Addr.mk 1001 1 Option.none)))) ∧
 (((Go.Value.pointer (Option.some (Go.Addr.mk 1001 0 Option.none))) = (Go.Value.pointer (Option.some (Go.Addr.mk 1001 0 Option.none)))) ∧
 (((Go.Value.agg [(vI n4), (vI n5)].toArray) = (Go.Value.agg [(vI n4), (vI n5)].toArray)) ∧
 ((bcase (n6 == 0)
 ((Value.bool true) = (Value.bool true))
 ((Value.bool false) = (Value.bool true))) ∧
 (((vI n6) = (vI n6)) ∧
 True))))))) ∧
 (True ∧
 (k [(D.val (Value.bool false))])))))))
 False))
 ((((Go.Value.tuple [].toArray) = (Go.Value.tuple [].toArray)) ∧
 (((Go.Value.tuple [].toArray) = (Go.Value.tuple [].toArray)) ∧
 (((Go.Value.tuple [].toArray) = (Go.Value.tuple [].toArray)) ∧
 (((Go.Value.tuple [].toArray) = (Go.Value.tuple [].toArray)) ∧
 (((Go.Value.tuple [].toArray) = (Go.Value.tuple [].toArray)) ∧
 (((Go.Value.tuple [].toArray) = (Go.Value.tuple [].toArray)) ∧
 (((Value.bool false) = (Value.bool false)) ∧
 ((bcase (n6 == 0)
 ((Value.bool true) = (Value.bool false))
 ((Value.bool false) = (Value.bool false))) ∧
 (((vI n6) = (vI n6)) ∧
 True))))))))) ∧
 ((((Value.bool false) = (Value.bool false)) ∧
 (((Go.Value.tuple [].toArray) = (Go.Value.tuple [].toArray)) ∧
 (((Go.Value.tuple [].toArray) = (Go.Value.tuple [].toArray)) ∧
 (((Go.Value.tuple [].toArray) = (Go.Value.tuple [].toArray)) ∧
 (((Go.Value.tuple [].toArray) = (Go.Value.tuple [].toArray)) ∧
 ((bcase (n6 == 0)
 ((Value.bool true) = (Value.bool false))
 ((Value.bool false) = (Value.bool false))) ∧
 (((vI n6) = (vI n6)) ∧
 True))))))) ∧
 (True ∧
 (k [(D.val (Value.bool false))])))))))))
 False))))
 False))) ∨
 ((Says C 15 [(D.val (vI x6)), (D.val (vI (0 : Int))), (D.val (vI (11 : Int)))] [(D.val (Value.bool false))]) ∧
 (bcase (n8 != 6)
 (k [(D.val (Value.bool false))])
 (bcase (n7 != 0)
 (k [(D.val (Value.bool false))])
 (bcase (decide (0 + n2 * 3 ≤ List.length l2))
 (∃ n11 : Int,
 ((Says C 17 [(D.agg [(D.val (vI x0)), (D.val (vI x1)), (D.sl (n2) 3 (List.take (n2 * 3) (List.drop 0 l2)))]), (D.val (vI x3))] [(D.val (vI n11))]) ∧
 (bcase (n11 == 0)
 (∃ n12 : Int,
 ((Says C 18 [(D.agg [(D.val (vI x4)), (D.val (vI x5))])] [(D.val (vI n12))]) ∧
 (bcase (n12 != 0)
 (bcase (n6 == n12)
 (bcase (if Bool.false = Bool.true then !(n4 == 0 && (n5 == 0 && Bool.true)) else n4 == 0 && (n5 == 0 && Bool.true))
 (k [(D.val (Value.bool true))])
 (k [(D.val (Value.bool false))]))
 (k [(D.val (Value.bool false))]))
 (bcase (n6 == 0)
 ((((Go.Value.agg [(vI x4), (vI x5)].toArray) = (Go.Value.agg [(vI x4), (vI x5)].toArray)) ∧
 (((Go.Value.pointer (Option.some (Go.Addr.mk 1001 1 Option.none))) = (Go.Value.pointer (Option.some (Go.Addr.mk 1001 1 Option.none)))) ∧
 (((vI x3) = (vI x3)) ∧
 (((Go.Value.pointer (Option.some (Go.Addr.mk 1001 0 Option.none))) = (Go.Value.pointer (Option.some (Go.Addr.mk 1001 0 Option.none)))) ∧
 (((Go.Value.agg [(vI x0), (vI x1), (Go.Value.slice (Option.some (Go.Addr.mk 500 0 Option.none)) (n2) (c2))].toArray) = (Go.Value.agg [(vI x0), (vI x1), (Go.Value.slice (Option.some (Go.Addr.mk 500 0 Option.none)) (n2) (c2))].toArray)) ∧
 (((Go.Value.agg [(vI n4), (vI n5)].toArray) = (Go.Value.agg [(vI n4), (vI n5)].toArray)) ∧
 (((Value.bool true) = (Value.bool true)) ∧
 ((bcase (n6 == 0)
 ((Value.bool true) = (Value.bool true))
 ((Value.bool false) = (Value.bool true))) ∧
 (((vI n6) = (vI n6)) ∧
 True))))))))) ∧
 (bcase (decide (0 + n2 * 3 ≤ List.length l2))
 (∃ n13 : Int,
 (∃ n14 : Int,
 ((Says C 19 [(D.agg [(D.val (vI x0)), (D.val (vI x1)), (D.sl (n2) 3 (List.take (n2 * 3) (List.drop 0 l2)))]), (D.val (vI x3)), (D.agg [(D.val (vI x4)), (D.val (vI x5))])] [(D.agg [(D.val (vI n13)), (D.val (vI n14))])]) ∧
 (bcase (if Bool.false = Bool.true then !(n4 == n13 && (n5 == n14 && Bool.true)) else n4 == n13 && (n5 == n14 && Bool.true))
 ((((Value.bool true) = (Value.bool true)) ∧
 ((bcase (if Bool.false = Bool.true then !(n4 == n13 && (n5 == n14 && Bool.true)) else n4 == n13 && (n5 == n14 && Bool.true))
 ((Value.bool true) = (Value.bool true))
 ((Value.bool false) = (Value.bool true))) ∧
 (((Go.Value.pointer (Option.some (Go.Addr.mk 1001 1 Option.none))) = (Go.Value.pointer (Option.some (Go.Addr.mk 1001 1 Option.none)))) ∧
 (((Go.Value.pointer (Option.some (Go.Addr.mk 1001 0 Option.none))) = (Go.Value.pointer (Option.some (Go.Addr.mk 1001 0 Option.none)))) ∧
 (((Go.Value.agg [(vI n4), (vI n5)].toArray) = (Go.Value.agg [(vI n4), (vI n5)].toArray)) ∧
 ((bcase (n6 == 0)
 ((Value.bool true) = (Value.bool true))
 ((Value.bool false) = (Value.bool true))) ∧
 (((vI n6) = (vI n6)) ∧
 True))))))) ∧
 (True ∧
 (k [(D.val (Value.bool true))])))
 ((((Value.bool false) = (Value.bool false)) ∧
 ((bcase (if Bool.false = Bool.true then !(n4 == n13 && (n5 == n14 && Bool.true)) else n4 == n13 && (n5 == n14 && Bool.true))
 ((Value.bool true) = (Value.bool false))
 ((Value.bool false) = (Value.bool false))) ∧
 (((Go.Value.pointer (Option.some (Go.Addr.mk 1001 1 Option.none))) = (Go.Value.pointer (Option.some (Go.Addr.mk 1001 1 Option.none)))) ∧
 (((Go.Value.pointer (Option.some (Go.Addr.mk 1001 0 Option.none))) = (Go.Value.pointer (Option.some (Go.Addr.mk 1001 0 Option.none)))) ∧
 (((Go.Value.agg [(vI n4), (vI n5)].toArray) = (Go.Value.agg [(vI n4), (vI n5)].toArray)) ∧
 ((bcase (n6 == 0)
 ((Value.bool true) = (Value.bool true))
 ((Value.bool false) = (Value.bool true))) ∧
 (((vI n6) = (vI n6)) ∧
 True))))))) ∧
 (True ∧
 (k [(D.val (Value.bool false))])))))))
 False))
 ((((Go.Value.tuple [].toArray) = (Go.Value.tuple [].toArray)) ∧
 (((Go.Value.tuple [].toArray) = (Go.Value.tuple [].toArray)) ∧
 (((Go.Value.tuple [].toArray) = (Go.Value.tuple [].toArray)) ∧
 (((Go.Value.tuple [].toArray) = (Go.Value.tuple [].toArray)) ∧
 (((Go.Value.tuple [].toArray) = (Go.Value.tuple [].toArray)) ∧
 (((Go.Value.tuple [].toArray) = (Go.Value.tuple [].toArray)) ∧
 (((Value.bool false) = (Value.bool false)) ∧
 ((bcase (n6 == 0)
 ((Value.bool true) = (Value.bool false))
 ((Value.bool false) = (Value.bool false))) ∧
 (((vI n6) = (vI n6)) ∧
 True))))))))) ∧
 ((((Value.bool false) = (Value.bool false)) ∧
 (((Go.Value.tuple [].toArray) = (Go.Value.tuple [].toArray)) ∧
 (((Go.Value.tuple [].toArray) = (Go.Value.tuple [].toArray)) ∧
 (((Go.Value.tuple [].toArray) = (Go.Value.tuple [].toArray)) ∧
 (((Go.Value.tuple [].toArray) = (Go.Value.tuple [].toArray)) ∧
 ((bcase (n6 == 0)
 ((Value.bool true) = (Value.bool false))
 ((Value.bool false) = (Value.bool false))) ∧
 (((vI n6) = (vI n6)) ∧
 True))))))) ∧
 (True ∧
 (k [(D.val (Value.bool false))]))))))))
 (bcase (n11 != 0)
 (bcase (n6 == n11)
 (bcase (if Bool.false = Bool.true then !(n4 == 0 && (n5 == 0 && Bool.true)) else n4 == 0 && (n5 == 0 && Bool.true))
 (k [(D.val (Value.bool true))])
 (k [(D.val (Value.bool false))]))
 (k [(D.val (Value.bool false))]))
 (bcase (n6 == 0)
 ((((Go.Value.agg [(vI x4), (vI x5)].toArray) = (Go.Value.agg [(vI x4), (vI x5)].toArray)) ∧
 (((Go.Value.pointer (Option.some (Go.Addr.mk 1001 1 Option.none))) = (Go.Value.pointer (Option.some (Go.Addr.mk 1001 1 Option.none)))) ∧
 (((vI x3) = (vI x3)) ∧
 (((Go.Value.pointer (Option.some (Go.Addr.mk 1001 0 Option.none))) = (Go.Value.pointer (Option.some (Go.Addr.mk 1001 0 Option.none)))) ∧
 (((Go.Value.agg [(vI x0), (vI x1), (Go.Value.slice (Option.some (Go.Addr.mk 500 0 Option.none)) (n2) (c2))].toArray) = (Go.Value.agg [(vI x0), (vI x1), (Go.Value.slice (Option.some (Go.Addr.mk 500 0 Option.none)) (n2) (c2))].toArray)) ∧
 (((Go.Value.agg [(vI n4), (vI n5)].toArray) = (Go.Value.agg [(vI n4), (vI n5)].toArray)) ∧
 (((Value.bool true) = (Value.bool true)) ∧
 ((bcase (n6 == 0)
 ((Value.bool true) = (Value.bool true))
 ((Value.bool false) = (Value.bool true))) ∧
 (((vI n6) = (vI n6)) ∧
 True))))))))) ∧
 (bcase (decide (0 + n2 * 3 ≤ List.length l2))
 (∃ n12 : Int,
 (∃ n13 : Int,
 ((Says C 19 [(D.agg [(D.val (vI x0)), (D.val (vI x1)), (D.sl (n2) 3 (List.take (n2 * 3) (List.drop 0 l2)))]), (D.val (vI x3)), (D.agg [(D.val (vI x4)), (D.val (vI x5))])] [(D.agg [(D.val (vI n12)), (D.val (vI n13))])]) ∧
 (bcase (if Bool.false = Bool.true then !(n4 == n12 && (n5 == n13 && Bool.true)) else n4 == n12 && (n5 == n13 && Bool.true))
 ((((Value.bool true) = (Value.bool true)) ∧
 ((bcase (if Bool.false = Bool.true then !(n4 == n12 && (n5 == n13 && Bool.true)) else n4 == n12 && (n5 == n13 && Bool.true))
 ((Value.bool true) = (Value.bool true))
 ((Value.bool false) = (Value.bool true))) ∧
 (((Go.Value.pointer (Option.some (Go.Addr.mk 1001 1 Option.none))) = (Go.Value.pointer (Option.some (Go.Addr.mk 1001 1 Option.none)))) ∧
 (((Go.Value.pointer (Option.some (Go.Addr.mk 1001 0 Option.none))) = (Go.Value.pointer (Option.some (Go.Addr.mk 1001 0 Option.none)))) ∧
 (((Go.Value.agg [(vI n4), (vI n5)].toArray) = (Go.Value.agg [(vI n4), (vI n5)].toArray)) ∧
 ((bcase (n6 == 0)
 ((Value.bool true) = (Value.bool true))
 ((Value.bool false) = (Value.bool true))) ∧
 (((vI n6) = (vI n6)) ∧
 True))))))) ∧
 (True ∧
 (k [(D.val (Value.bool true))])))
 ((((Value.bool false) = (Value.bool false)) ∧
 ((bcase (if Bool.false = Bool.true then !(n4 == n12 && (n5 == n13 && Bool.true)) else n4 == n12 && (n5 == n13 && Bool.true))
 ((Value.bool true) = (Value.bool false))
 ((Value.bool false) = (Value.bool false))) ∧
 (((Go.Value.pointer (Option.some (Go.Addr.mk 1001 1 Option.none))) = (Go.Value.pointer (Option.some (Go.Addr.mk 1001 1 Option.none)))) ∧
 (((Go.Value.pointer (Option.some (Go.Addr.mk 1001 0 Option.none))) = (Go.Value.pointer (Option.some (Go.Addr.mk 1001 0 Option.none)))) ∧
 (((Go.Value.agg [(vI n4), (vI n5)].toArray) = (Go.Value.agg [(vI n4), (vI n5)].toArray)) ∧
 ((bcase (n6 == 0)
 ((Value.bool true) = (Value.bool true))
 ((Value.bool false) = (Value.bool true))) ∧
 (((vI n6) = (vI n6)) ∧
 True))))))) ∧
 (True ∧
 (k [(D.val (Value.bool false))])))))))
 False))
 ((((Go.Value.tuple [].toArray) = (Go.Value.tuple [].toArray)) ∧
 (((Go.Value.tuple [].toArray) = (Go.Value.tuple [].toArray)) ∧
 (((Go.Value.tuple [].toArray) = (Go.Value.tuple [].toArray)) ∧
 (((Go.Value.tuple [].toArray) = (Go.Value.tuple [].toArray)) ∧
 (((Go.Value.tuple [].toArray) = (Go.Value.tuple [].toArray)) ∧
 (((Go.Value.tuple [].toArray) = (Go.Value.tuple [].toArray)) ∧
 (((Value.bool false) = (Value.bool false)) ∧
 ((bcase (n6 == 0)
 ((Value.bool true) = (Value.bool false))
 ((Value.bool false) = (Value.bool false))) ∧
 (((vI n6) = (vI n6)) ∧
 True))))))))) ∧
 ((((Value.bool false) = (Value.bool false)) ∧
 (((Go.Value.tuple [].toArray) = (Go.Value.tuple [].toArray)) ∧
 (((Go.Value.tuple [].toArray) = (Go.Value.tuple [].toArray)) ∧
 (((Go.Value.tuple [].toArray) = (Go.Value.tuple [].toArray)) ∧
 (((Go.Value.tuple [].toArray) = (Go.Value.tuple [].toArray)) ∧
 ((bcase (n6 == 0)
 ((Value.bool true) = (Value.bool false))
 ((Value.bool false) = (Value.bool false))) ∧
 (((vI n6) = (vI n6)) ∧
 True))))))) ∧
 (True ∧
 (k [(D.val (Value.bool false))])))))))))
 False)))))))))))
 False)))))))
 False)))
 False)))))))))
 False)))
 False)))))
 False))
 False)
 (k [(D.val (Value.bool true))]))) ∨
 ((Says C 8 [] [(D.val (Value.bool false))]) ∧
 (k [(D.val (Value.bool false))]))) := by kernel_rfl
def gLTn (C : Ct) (L : AtLoop) (x0 : Int) (x1 : Int) (x3 : Int) (x4 : Int) (x5 : Int) (x6 : Int) (k : List D → Prop) : Prop := wpFn Tryz.prog (hC C) L 0 3 #[.agg #[.int .i64 x0, .int .i64 x1, .slice none 0 0], .agg #[.int .i64 x3, .int .i64 x4, .int .i64 x5, .int .i64 x6]] (heapOf []) (dataK k)
theorem gLTn_text (C : Ct) (L : AtLoop) (x0 : Int) (x1 : Int) (x3 : Int) (x4 : Int) (x5 : Int) (x6 : Int) (k : List D → Prop) : gLTn C L x0 x1 x3 x4 x5 x6 k =
 (((Says C 8 [] [(D.val (Value.bool true))]) ∧
 ((Says C 11 [(D.agg [(D.val (vI x0)), (D.val (vI x1)), D.nil])] [(D.agg [(D.val (vI x0)), (D.val (vI x1)), (D.sl 0 3 [])])]) ∧
 (∃ n1 : Int,
 (∃ n2 : Int,
 ((Says C 10 [(D.agg [(D.val (vI x0)), (D.val (vI x1)), (D.sl 0 3 [])])] [(D.val (vI n1)), (D.val (vI n2))]) ∧
 (((((Go.Value.pointer (Option.some (Go.Addr.mk 1004 0 Option.none))) = (Go.Value.pointer (Option.some (Go.Addr.mk 1004 0 Option.none)))) ∧
 ((Option.some (AObj.cells [(vI (0 : Int)), (vI (0 : Int))] 26 false 2)) = (Option.some (AObj.cells [(vI (0 : Int)), (vI (0 : Int))] 26 false 2)))) ∧
 (((Go.Value.agg [(vI x4), (vI x5)].toArray) = (Go.Value.agg [(vI x4), (vI x5)].toArray)) ∧
 (((Go.Value.pointer (Option.some (Go.Addr.mk 1001 1 Option.none))) = (Go.Value.pointer (Option.some (Go.Addr.mk 1001 1 Option.none)))) ∧
 (((vI x3) = (vI x3)) ∧
 (((Go.Value.pointer (Option.some (Go.Addr.mk 1001 0 Option.none))) = (Go.Value.pointer (Option.some (Go.Addr.mk 1001 0 Option.none)))) ∧
 (((Go.Value.agg [(vI x0), (vI x1), (Go.Value.slice Option.none 0 0)].toArray) = (Go.Value.agg [(vI x0), (vI x1), (Go.Value.slice Option.none 0 0)].toArray)) ∧
 True)))))) ∧
 ((Says C 11 [(D.agg [(D.val (vI x0)), (D.val (vI x1)), D.nil])] [(D.agg [(D.val (vI x0)), (D.val (vI x1)), (D.sl 0 3 [])])]) ∧
 (((((Go.Value.pointer (Option.some (Go.Addr.mk 1004 0 Option.none))) = (Go.Value.pointer (Option.some (Go.Addr.mk 1004 0 Option.none)))) ∧
 ((Option.some (AObj.cells [(vI (0 : Int)), (vI (0 : Int))] 26 false 2)) = (Option.some (AObj.cells [(vI (0 : Int)), (vI (0 : Int))] 26 false 2)))) ∧
 (((Go.Value.agg [(vI x4), (vI x5)].toArray) = (Go.Value.agg [(vI x4), (vI x5)].toArray)) ∧
 (((Go.Value.pointer (Option.some (Go.Addr.mk 1001 1 Option.none))) = (Go.Value.pointer (Option.some (Go.Addr.mk 1001 1 Option.none)))) ∧
 (((vI x3) = (vI x3)) ∧
 (((Go.Value.pointer (Option.some (Go.Addr.mk 1001 0 Option.none))) = (Go.Value.pointer (Option.some (Go.Addr.mk 1001 0 Option.none)))) ∧
 True))))) ∧
 (∃ n3 : Int,
 (∃ n4 : Int,
 (∃ n5 : Int,
 ((Says C 12 [(D.agg [(D.val (vI x0)), (D.val (vI x1)), (D.sl 0 3 [])]), (D.val (vI x3)), (D.agg [(D.val (vI x4)), (D.val (vI x5))])] [(D.agg [(D.val (vI n3)), (D.val (vI n4))]), (D.val (vI n5))]) ∧
 ((((vI n5) = (vI n5)) ∧
 (((Go.Value.agg [(vI n3), (vI n4)].toArray) = (Go.Value.agg [(vI n3), (vI n4)].toArray)) ∧
 (((Go.Value.tuple [(Go.Value.agg [(vI n3), (vI n4)].toArray), (vI n5)].toArray) = (Go.Value.tuple [(Go.Value.agg [(vI n3), (vI n4)].toArray), (vI n5)].toArray)) ∧
 ((((Go.Value.pointer (Option.some (Go.Addr.mk 1004 0 Option.none))) = (Go.Value.pointer (Option.some (Go.Addr.mk 1004 0 Option.none)))) ∧
 ((Option.some (AObj.cells [(vI (0 : Int)), (vI (0 : Int))] 26 false 2)) = (Option.some (AObj.cells [(vI (0 : Int)), (vI (0 : Int))] 26 false 2)))) ∧
 (((Go.Value.pointer (Option.some (Go.Addr.mk 1001 1 Option.none))) = (Go.Value.pointer (Option.some (Go.Addr.mk 1001 1 Option.none)))) ∧
 (((Go.Value.pointer (Option.some (Go.Addr.mk 1001 0 Option.none))) = (Go.Value.pointer (Option.some (Go.Addr.mk 1001 0 Option.none)))) ∧
 True)))))) ∧
 ((((vI n5) = (vI n5)) ∧
 True) ∧
 (True ∧
 ((((vI x6) = (vI x6)) ∧
 (((Go.Value.pointer (Option.some (Go.Addr.mk 1001 3 Option.none))) = (Go.Value.pointer (Option.some (Go.Addr.mk 1001 3 Option.none)))) ∧
 (((Go.Value.agg [(vI x0), (vI x1), (Go.Value.slice Option.none 0 0)].toArray) = (Go.Value.agg [(vI x0), (vI x1), (Go.Value.slice Option.none 0 0)].toArray)) ∧
 True))) ∧
 ((Says C 11 [(D.agg [(D.val (vI x0)), (D.val (vI x1)), D.nil])] [(D.agg [(D.val (vI x0)), (D.val (vI x1)), (D.sl 0 3 [])])]) ∧
 ((((vI x6) = (vI x6)) ∧
 (((Go.Value.pointer (Option.some (Go.Addr.mk 1001 3 Option.none))) = (Go.Value.pointer (Option.some (Go.Addr.mk 1001 3 Option.none)))) ∧
 True)) ∧
 (∃ n6 : Int,
 (∃ n7 : Int,
 ((Says C 13 [(D.agg [(D.val (vI x0)), (D.val (vI x1)), (D.sl 0 3 [])]), (D.val (vI x6))] [(D.val (vI n6)), (D.val (vI n7))]) ∧
 ((((vI n7) = (vI n7)) ∧
 (((vI n6) = (vI n6)) ∧
 (((Go.Value.tuple [(vI n6), (vI n7)].toArray) = (Go.Value.tuple [(vI n6), (vI n7)].toArray)) ∧
 (((Go.Value.pointer (Option.some (Go.Addr.mk 1001 3 Option.none))) = (Go.Value.pointer (Option.some (Go.Addr.mk 1001 3 Option.none)))) ∧
 True)))) ∧
 ((((vI n7) = (vI n7)) ∧
 True) ∧
 (True ∧
 (∃ n8 : Int,
 (∃ n9 : Int,
 ((Says C 14 [(D.agg [(D.val (vI x0)), (D.val (vI x1)), D.nil])] [(D.val (vI n8)), (D.val (vI n9))]) ∧
 (bcase (n2 != n9)
 (k [(D.val (Value.bool false))])
 (bcase (n1 != n8)
 (k [(D.val (Value.bool false))])
 (bcase (n9 != 0)
 (bcase (n5 == n9)
 (bcase (n7 == n9)
 (bcase (if Bool.false = Bool.true then !(n3 == 0 && (n4 == 0 && Bool.true)) else n3 == 0 && (n4 == 0 && Bool.true))
 (bcase (n6 == 0)
 (k [(D.val (Value.bool true))])
 (k [(D.val (Value.bool false))]))
 (k [(D.val (Value.bool false))]))
 (k [(D.val (Value.bool false))]))
 (k [(D.val (Value.bool false))]))
 (((Says C 15 [(D.val (vI x6)), (D.val (vI (0 : Int))), (D.val (vI (11 : Int)))] [(D.val (Value.bool true))]) ∧
 (bcase (n7 != 0)
 (k [(D.val (Value.bool false))])
 (∃ n10 : Int,
 ((Says C 16 [(D.agg [(D.val (vI x0)), (D.val (vI x1)), D.nil]), (D.val (vI x6))] [(D.val (vI n10))]) ∧
 (bcase (n6 != n10)
 (k [(D.val (Value.bool false))])
 (∃ n11 : Int,
 ((Says C 17 [(D.agg [(D.val (vI x0)), (D.val (vI x1)), D.nil]), (D.val (vI x3))] [(D.val (vI n11))]) ∧
 (bcase (n11 == 0)
 (∃ n12 : Int,
 ((Says C 18 [(D.agg [(D.val (vI x4)), (D.val (vI x5))])] [(D.val (vI n12))]) ∧
 (bcase (n12 != 0)
 (bcase (n5 == n12)
 (bcase (if Bool.false = Bool.true then !(n3 == 0 && (n4 == 0 && Bool.true)) else n3 == 0 && (n4 == 0 && Bool.true))
 (k [(D.val (Value.bool true))])
 (k [(D.val (Value.bool false))]))
 (k [(D.val (Value.bool false))]))
 (bcase (n5 == 0)
 ((((Go.Value.agg [(vI x4), (vI x5)].toArray) = (Go.Value.agg [(vI x4), (vI x5)].toArray)) ∧
 (((Go.Value.pointer (Option.some (Go.Addr.mk 1001 1 Option.none))) = (Go.Value.pointer (Option.some (Go.Addr.mk 1001 1 Option.none)))) ∧
 (((vI x3) = (vI x3)) ∧
 (((Go.Value.pointer (Option.some (Go.Addr.mk 1001 0 Option.none))) = (Go.Value.pointer (Option.some (Go.Addr.mk 1001 0 Option.none)))) ∧
 (((Go.Value.agg [(vI x0), (vI x1), (Go.Value.slice Option.none 0 0)].toArray) = (Go.Value.agg [(vI x0), (vI x1), (Go.Value.slice Option.none 0 0)].toArray)) ∧
 (((Go.Value.agg [(vI n3), (vI n4)].toArray) = (Go.Value.agg [(vI n3), (vI n4)].toArray)) ∧
 (((Value.bool true) = (Value.bool true)) ∧
 ((bcase (n5 == 0)
 ((Value.bool true) = (Value.bool true))
 ((Value.bool false) = (Value.bool true))) ∧
 (((vI n5) = (vI n5)) ∧
 True))))))))) ∧
 (∃ n13 : Int,
 (∃ n14 : Int,
 ((Says C 19 [(D.agg [(D.val (vI x0)), (D.val (vI x1)), D.nil]), (D.val (vI x3)), (D.agg [(D.val (vI x4)), (D.val (vI x5))])] [(D.agg [(D.val (vI n13)), (D.val (vI n14))])]) ∧
 (bcase (if Bool.false = Bool.true then !(n3 == n13 && (n4 == n14 && Bool.true)) else n3 == n13 && (n4 == n14 && Bool.true))
 ((((Value.bool true) = (Value.bool true)) ∧
 ((bcase (if Bool.false = Bool.true then !(n3 == n13 && (n4 == n14 && Bool.true)) else n3 == n13 && (n4 == n14 && Bool.true))
 ((Value.bool true) = (Value.bool true))
 ((Value.bool false) = (Value.bool true))) ∧
 (((Go.Value.pointer (Option.some (Go.Addr.mk 1001 1 Option.none))) = (Go.Value.pointer (Option.some (Go.Addr.mk 1001 1 Option.none)))) ∧
 (((Go.Value.pointer (Option.some (Go.Addr.mk 1001 0 Option.none))) = (Go.Value.pointer (Option.some (Go.Addr.mk 1001 0 Option.none)))) ∧
 (((Go.Value.agg [(vI n3), (vI n4)].toArray) = (Go.Value.agg [(vI n3), (vI n4)].toArray)) ∧
 ((bcase (n5 == 0)
 ((Value.bool true) = (Value.bool true))
 ((Value.bool false) = (Value.bool true))) ∧
 (((vI n5) = (vI n5)) ∧
 True))))))) ∧
 (True ∧
 (k [(D.val (Value.bool true))])))
 ((((Value.bool false) = (Value.bool false)) ∧
 ((bcase (if Bool.false = Bool.true then !(n3 == n13 && (n4 == n14 && Bool.true)) else n3 == n13 && (n4 == n14 && Bool.true))
 ((Value.bool true) = (Value.bool false))
 ((Value.bool false) = (Value.bool false))) ∧
 (((Go.Value.pointer (Option.some (Go.Addr.mk 1001 1 Option.none))) = (Go.Value.pointer (Option.some (Go.Addr.mk 1001 1 Option.none)))) ∧
 (((Go.Value.pointer (Option.some (Go.Addr.mk 1001 0 Option.none))) = (Go.Value.pointer (Option.some (Go.Addr.mk 1001 0 Option.none)))) ∧
 (((Go.Value.agg [(vI n3), (vI n4)].toArray) = (Go.Value.agg [(vI n3), (vI n4)].toArray)) ∧
 ((bcase (n5 == 0)
 ((Value.bool true) = (Value.bool true))
 ((Value.bool false) = (Value.bool true))) ∧
 (((vI n5) = (vI n5)) ∧
 True))))))) ∧
 (True ∧
 (k [(D.val (Value.bool false))]))))))))
 ((((Go.Value.tuple [].toArray) = (Go.Value.tuple [].toArray)) ∧
 (((Go.Value.tuple [].toArray) = (Go.Value.tuple [].toArray)) ∧
 (((Go.Value.tuple [].toArray) = (Go.Value.tuple [].toArray)) ∧
 (((Go.Value.tuple [].toArray) = (Go.Value.tuple [].toArray)) ∧
 (((Go.Value.tuple [].toArray) = (Go.Value.tuple [].toArray)) ∧
 (((Go.Value.tuple [].toArray) = (Go.Value.tuple [].toArray)) ∧
 (((Value.bool false) = (Value.bool false)) ∧
 ((bcase (n5 == 0)
 ((Value.bool true) = (Value.bool false))
 ((Value.bool false) = (Value.bool false))) ∧
 (((vI n5) = (vI n5)) ∧
 True))))))))) ∧
 ((((Value.bool false) = (Value.bool false)) ∧
 (((Go.Value.tuple [].toArray) = (Go.Value.tuple [].toArray)) ∧
 (((Go.Value.tuple [].toArray) = (Go.Value.tuple [].toArray)) ∧
 (((Go.Value.tuple [].toArray) = (Go.Value.tuple [].toArray)) ∧
 (((Go.Value.tuple [].toArray) = (Go.Value.tuple [].toArray)) ∧
 ((bcase (n5 == 0)
 ((Value.bool true) = (Value.bool false))
 ((Value.bool false) = (Value.bool false))) ∧
 (((vI n5) = (vI n5)) ∧
 True))))))) ∧
 (True ∧
 (k [(D.val (Value.bool false))]))))))))
 (bcase (n11 != 0)
 (bcase (n5 == n11)
 (bcase (if Bool.false = Bool.true then !(n3 == 0 && (n4 == 0 && Bool.true)) else n3 == 0 && (n4 == 0 && Bool.true))
 (k [(D.val (Value.bool true))])
 (k [(D.val (Value.bool false))]))
 (k [(D.val (Value.bool false))]))
 (bcase (n5 == 0)
 ((((Go.Value.agg [(vI x4), (vI x5)].toArray) = (Go.Value.agg [(vI x4), (vI x5)].toArray)) ∧
 (((Go.Value.pointer (Option.some (Go.Addr.mk 1001 1 Option.none))) = (Go.Value.pointer (Option.some (Go.Addr.mk 1001 1 Option.none)))) ∧
 (((vI x3) = (vI x3)) ∧
 (((Go.Value.pointer (Option.some (Go.Addr.mk 1001 0 Option.none))) = (Go.Value.pointer (Option.some (Go.Addr.mk 1001 0 Option.none)))) ∧
 (((Go.Value.agg [(vI x0), (vI x1), (Go.Value.slice Option.none 0 0)].toArray) = (Go.Value.agg [(vI x0), (vI x1), (Go.Value.slice Option.none 0 0)].toArray)) ∧
 (((Go.Value.agg [(vI n3), (vI n4)].toArray) = (Go.Value.agg [(vI n3), (vI n4)].toArray)) ∧
 (((Value.bool true) = (Value.bool true)) ∧
 ((bcase (n5 == 0)
 ((Value.bool true) = (Value.bool true))
 ((Value.bool false) = (Value.bool true))) ∧
 (((vI n5) = (vI n5)) ∧
 True))))))))) ∧
 (∃ n12 : Int,
 (∃ n13 : Int,
 ((Says C 19 [(D.agg [(D.val (vI x0)), (D.val (vI x1)), D.nil]), (D.val (vI x3)), (D.agg [(D.val (vI x4)), (D.val (vI x5))])] [(D.agg [(D.val (vI n12)), (D.val (vI n13))])]) ∧
 (bcase (if Bool.false = Bool.true then !(n3 == n12 && (n4 == n13 && Bool.true)) else n3 == n12 && (n4 == n13 && Bool.true))
 ((((Value.bool true) = (Value.bool true)) ∧
 ((bcase (if Bool.false = Bool.true then !(n3 == n12 && (n4 == n13 && Bool.true)) else n3 == n12 && (n4 == n13 && Bool.true))
 ((Value.bool true) = (Value.bool true))
 ((Value.bool false) = (Value.bool true))) ∧
 (((Go.Value.pointer (Option.some (Go.Addr.mk 1001 1 Option.none))) = (Go.Value.pointer (Option.some (Go.Addr.mk 1001 1 Option.none)))) ∧
 (((Go.Value.pointer (Option.some (Go.Addr.mk 1001 0 Option.none))) = (Go.Value.pointer (Option.some (Go.Addr.mk 1001 0 Option.none)))) ∧
 (((Go.Value.agg [(vI n3), (vI n4)].toArray) = (Go.Value.agg [(vI n3), (vI n4)].toArray)) ∧
 ((bcase (n5 == 0)
 ((Value.bool true) = (Value.bool true))
 ((Value.bool false) = (Value.bool true))) ∧
 (((vI n5) = (vI n5)) ∧
 True))))))) ∧
 (True ∧
 (k [(D.val (Value.bool true))])))
 ((((Value.bool false) = (Value.bool false)) ∧
 ((bcase (if Bool.false = Bool.true then !(n3 == n12 && (n4 == n13 && Bool.true)) else n3 == n12 && (n4 == n13 && Bool.true))
 ((Value.bool true) = (Value.bool false))
 ((Value.bool false) = (Value.bool false))) ∧
 (((Go.Value.pointer (Option.some (Go.Addr.mk 1001 1 Option.none))) = (Go.Value.pointer (Option.some (Go.Addr.mk 1001 1 Option.none)))) ∧
 (((Go.Value.pointer (Option.some (Go.Addr.mk 1001 0 Option.none))) = (Go.Value.pointer (Option.some (Go.Addr.mk 1001 0 Option.none)))) ∧
 (((Go.Value.agg [(vI n3), (vI n4)].toArray) = (Go.Value.agg [(vI n3), (vI n4)].toArray)) ∧
 ((bcase (n5 == 0)
 ((Value.bool true) = (Value.bool true))
 ((Value.bool false) = (Value.bool true))) ∧
 (((vI n5) = (vI n5)) ∧
 True))))))) ∧
 (True ∧
 (k [(D.val (Value.bool false))]))))))))
 ((((Go.Value.tuple [].toArray) = (Go.Value.tuple [].toArray)) ∧
 (((Go.Value.tuple [].toArray) = (Go.Value.tuple [].toArray)) ∧
 (((Go.Value.tuple [].toArray) = (Go.Value.tuple [].toArray)) ∧
 (((Go.Value.tuple [].toArray) = (Go.Value.tuple [].toArray)) ∧
 (((Go.Value.tuple [].toArray) = (Go.Value.tuple [].toArray)) ∧
 (((Go.Value.tuple [].toArray) = (Go.Value.tuple [].toArray)) ∧
 (((Value.bool false) = (Value.bool false)) ∧
 ((bcase (n5 == 0)
 ((Value.bool true) = (Value.bool false))
 ((Value.bool false) = (Value.bool false))) ∧
 (((vI n5) = (vI n5)) ∧
 True))))))))) ∧
 ((((Value.bool false) = (Value.bool false)) ∧
 (((Go.Value.tuple [].toArray) = (Go.Value.tuple [].toArray)) ∧
 (((Go.Value.tuple [].toArray) = (Go.Value.tuple [].toArray)) ∧
 (((Go.Value.tuple [].toArray) = (Go.Value.tuple [].toArray)) ∧
 (((Go.Value.tuple [].toArray) = (Go.Value.tuple [].toArray)) ∧
 ((bcase (n5 == 0)
 ((Value.bool true) = (Value.bool false))
 ((Value.bool false) = (Value.bool false))) ∧
 (((vI n5) = (vI n5)) ∧
 True))))))) ∧
 (True ∧
 (k [(D.val (Value.bool false))])))))))))))))) ∨
 ((Says C 15 [(D.val (vI x6)), (D.val (vI (0 : Int))), (D.val (vI (11 : Int)))] [(D.val (Value.bool false))]) ∧
 (bcase (n7 != 6)
 (k [(D.val (Value.bool false))])
 (bcase (n6 != 0)
 (k [(D.val (Value.bool false))])
 (∃ n10 : Int,
 ((Says C 17 [(D.agg [(D.val (vI x0)), (D.val (vI x1)), D.nil]), (D.val (vI x3))] [(D.val (vI n10))]) ∧
 (bcase (n10 == 0)
 (∃ n11 : Int,
 ((Says C 18 [(D.agg [(D.val (vI x4)), (D.val (vI x5))])] [(D.val (vI n11))]) ∧
 (bcase (n11 != 0)
 (bcase (n5 == n11)
 (bcase (if Bool.false = Bool.true then !(n3 == 0 && (n4 == 0 && Bool.true)) else n3 == 0 && (n4 == 0 && Bool.true))
 (k [(D.val (Value.bool true))])
 (k [(D.val (Value.bool false))]))
 (k [(D.val (Value.bool false))]))
 (bcase (n5 == 0)
 ((((Go.Value.agg [(vI x4), (vI x5)].toArray) = (Go.Value.agg [(vI x4), (vI x5)].toArray)) ∧
 (((Go.Value.pointer (Option.some (Go.Addr.mk 1001 1 Option.none))) = (Go.Value.pointer (Option.some (Go.Addr.mk 1001 1 Option.none)))) ∧
 (((vI x3) = (vI x3)) ∧
 (((Go.Value.pointer (Option.some (Go.Addr.mk 1001 0 Option.none))) = (Go.Value.pointer (Option.some (Go.Addr.mk 1001 0 Option.none)))) ∧
 (((Go.Value.agg [(vI x0), (vI x1), (Go.Value.slice Option.none 0 0)].toArray) = (Go.Value.agg [(vI x0), (vI x1), (Go.Value.slice Option.none 0 0)].toArray)) ∧
 (((Go.Value.agg [(vI n3), (vI n4)].toArray) = (Go.Value.agg [(vI n3), (vI n4)].toArray)) ∧
 (((Value.bool true) = (Value.bool true)) ∧
 ((bcase (n5 == 0)
 ((Value.bool true) = (Value.bool true))
 ((Value.bool false) = (Value.bool true))) ∧
 (((vI n5) = (vI n5)) ∧
 True))))))))) ∧
 (∃ n12 : Int,
 (∃ n13 : Int,
 ((Says C 19 [(D.agg [(D.val (vI x0)), (D.val (vI x1)), D.nil]), (D.val (vI x3)), (D.agg [(D.val (vI x4)), (D.val (vI x5))])] [(D.agg [(D.val (vI n12)), (D.val (vI n13))])]) ∧
 (bcase (if Bool.false = Bool.true then !(n3 == n12 && (n4 == n13 && Bool.true)) else n3 == n12 && (n4 == n13 && Bool.true))
 ((((Value.bool true) = (Value.bool true)) ∧
 ((bcase (if Bool.false = Bool.true then !(n3 == n12 && (n4 == n13 && Bool.true)) else n3 == n12 && (n4 == n13 && Bool.true))
 ((Value.bool true) = (Value.bool true))
 ((Value.bool false) = (Value.bool true))) ∧
 (((Go.Value.pointer (Option.some (Go.Addr.mk 1001 1 Option.none))) = (Go.Value.pointer (Option.some (Go.Addr.mk 1001 1 Option.none)))) ∧
 (((Go.Value.pointer (Option.some (Go.Addr.mk 1001 0 Option.none))) = (Go.Value.pointer (Option.some (Go.Addr.mk 1001 0 Option.none)))) ∧
 (((Go.Value.agg [(vI n3), (vI n4)].toArray) = (Go.Value.agg [(vI n3), (vI n4)].toArray)) ∧
 ((bcase (n5 == 0)
 ((Value.bool true) = (Value.bool true))
 ((Value.bool false) = (Value.bool true))) ∧
 (((vI n5) = (vI n5)) ∧
 True))))))) ∧
 (True ∧
 (k [(D.val (Value.bool true))])))
 ((((Value.bool false) = (Value.bool false)) ∧
 ((bcase (if Bool.false = Bool.true then !(n3 == n12 && (n4 == n13 && Bool.true)) else n3 == n12 && (n4 == n13 && Bool.true))
 ((Value.bool true) = (Value.bool false))
 ((Value.bool false) = (Value.bool false))) ∧
 (((Go.Value.pointer (Option.some (Go.Addr.mk 1001 1 Option.none))) = (Go.Value.pointer (Option.some (Go.Addr.mk 1001 1 Option.none)))) ∧
 (((Go.Value.pointer (Option.some (Go.Addr.mk 1001 0 Option.none))) = (Go.Value.pointer (Option.some (Go.Addr.mk 1001 0 Option.none)))) ∧
 (((Go.Value.agg [(vI n3), (vI n4)].toArray) = (Go.Value.agg [(vI n3), (vI n4)].toArray)) ∧
 ((bcase (n5 == 0)
 ((Value.bool true) = (Value.bool true))
 ((Value.bool false) = (Value.bool true))) ∧
 (((vI n5) = (vI n5)) ∧
 True))))))) ∧
 (True ∧
 (k [(D.val (Value.bool false))]))))))))
 ((((Go.Value.tuple [].toArray) = (Go.Value.tuple [].toArray)) ∧
 (((Go.Value.tuple [].toArray) = (Go.Value.tuple [].toArray)) ∧
 (((Go.Value.tuple [].toArray) = (Go.Value.tuple [].toArray)) ∧
 (((Go.Value.tuple [].toArray) = (Go.Value.tuple [].toArray)) ∧
 (((Go.Value.tuple [].toArray) = (Go.Value.tuple [].toArray)) ∧
 (((Go.Value.tuple [].toArray) = (Go.Value.tuple [].toArray)) ∧
 (((Value.bool false) = (Value.bool false)) ∧
 ((bcase (n5 == 0)
 ((Value.bool true) = (Value.bool false))
 ((Value.bool false) = (Value.bool false))) ∧
 (((vI n5) = (vI n5)) ∧
 True))))))))) ∧
 ((((Value.bool false) = (Value.bool false)) ∧
 (((Go.Value.tuple [].toArray) = (Go.Value.tuple [].toArray)) ∧
 (((Go.Value.tuple [].toArray) = (Go.Value.tuple [].toArray)) ∧
 (((Go.Value.tuple [].toArray) = (Go.Value.tuple [].toArray)) ∧
 (((Go.Value.tuple [].toArray) = (Go.Value.tuple [].toArray)) ∧
 ((bcase (n5 == 0)
 ((Value.bool true) = (Value.bool false))
 ((Value.bool false) = (Value.bool false))) ∧
 (((vI n5) = (vI n5)) ∧
 True))))))) ∧
 (True ∧
 (k [(D.val (Value.bool false))]))))))))
 (bcase (n10 != 0)
 (bcase (n5 == n10)
 (bcase (if Bool.false = Bool.true then !(n3 == 0 && (n4 == 0 && Bool.true)) else n3 == 0 && (n4 == 0 && Bool.true))
 (k [(D.val (Value.bool true))])
 (k [(D.val (Value.bool false))]))
 (k [(D.val (Value.bool false))]))
 (bcase (n5 == 0)
 ((((Go.Value.agg [(vI x4), (vI x5)].toArray) = (Go.Value.agg [(vI x4), (vI x5)].toArray)) ∧
 (((Go.Value.pointer (Option.some (Go.Addr.mk 1001 1 Option.none))) = (Go.Value.pointer (Option.some (Go.Addr.mk 1001 1 Option.none)))) ∧
 (((vI x3) = (vI x3)) ∧
 (((Go.Value.pointer (Option.some (Go.Addr.mk 1001 0 Option.none))) = (Go.Value.pointer (Option.some (Go.Addr.mk 1001 0 Option.none)))) ∧
 (((Go.Value.agg [(vI x0), (vI x1), (Go.Value.slice Option.none 0 0)].toArray) = (Go.Value.agg [(vI x0), (vI x1), (Go.Value.slice Option.none 0 0)].toArray)) ∧
 (((Go.Value.agg [(vI n3), (vI n4)].toArray) = (Go.Value.agg [(vI n3), (vI n4)].toArray)) ∧
 (((Value.bool true) = (Value.bool true)) ∧
 ((bcase (n5 == 0)
 ((Value.bool true) = (Value.bool true))
 ((Value.bool false) = (Value.bool true))) ∧
 (((vI n5) = (vI n5)) ∧
 True))))))))) ∧
 (∃ n11 : Int,
 (∃ n12 : Int,
 ((Says C 19 [(D.agg [(D.val (vI x0)), (D.val (vI x1)), D.nil]), (D.val (vI x3)), (D.agg [(D.val (vI x4)), (D.val (vI x5))])] [(D.agg [(D.val (vI n11)), (D.val (vI n12))])]) ∧
 (bcase (if Bool.false = Bool.true then !(n3 == n11 && (n4 == n12 && Bool.true)) else n3 == n11 && (n4 == n12 && Bool.true))
 ((((Value.bool true) = (Value.bool true)) ∧
 ((bcase (if Bool.false = Bool.true then !(n3 == n11 && (n4 == n12 && Bool.true)) else n3 == n11 && (n4 == n12 && Bool.true))
 ((Value.bool true) = (Value.bool true))
 ((Value.bool false) = (Value.bool true))) ∧
 (((Go.Value.pointer (Option.some (Go.Addr.mk 1001 1 Option.none))) = (Go.Value.pointer (Option.some (Go.Addr.mk 1001 1 Option.none)))) ∧
 (((Go.Value.pointer (Option.some (Go.Addr.mk 1001 0 Option.none))) = (Go.Value.pointer (Option.some (Go.Addr.mk 1001 0 Option.none)))) ∧
 (((Go.Value.agg [(vI n3), (vI n4)].toArray) = (Go.Value.agg [(vI n3), (vI n4)].toArray)) ∧
 ((bcase (n5 == 0)
 ((Value.bool true) = (Value.bool true))
 ((Value.bool false) = (Value.bool true))) ∧
 (((vI n5) = (vI n5)) ∧
 True))))))) ∧
 (True ∧
 (k [(D.val (Value.bool true))])))
 ((((Value.bool false) = (Value.bool false)) ∧
 ((bcase (if Bool.false = Bool.true then !(n3 == n11 && (n4 == n12 && Bool.true)) else n3 == n11 && (n4 == n12 && Bool.true))
 ((Value.bool true) = (Value.bool false))
 ((Value.bool false) = (Value.bool false))) ∧
 (((Go.Value.pointer (Option.some (Go.Addr.mk 1001 1 Option.none))) = (Go.Value.pointer (Option.some (Go.Addr.mk 1001 1 Option.none)))) ∧
 (((Go.Value.pointer (Option.some (Go.Addr.mk 1001 0 Option.none))) = (Go.Value.pointer (Option.some (Go.Addr.mk 1001 0 Option.none)))) ∧
 (((Go.Value.agg [(vI n3), (vI n4)].toArray) = (Go.Value.agg [(vI n3), (vI n4)].toArray)) ∧
 ((bcase (n5 == 0)
 ((Value.bool true) = (Value.bool true))
 ((Value.bool false) = (Value.bool true))) ∧
 (((vI n5) = (vI n5)) ∧
 True))))))) ∧
 (True ∧
 (k [(D.val (Value.bool false))]))))))))
 ((((Go.Value.tuple [].toArray) = (Go.Value.tuple [].toArray)) ∧
 (((Go.Value.tuple [].toArray) = (Go.Value.tuple [].toArray)) ∧
 (((Go.Value.tuple [].toArray) = (Go.Value.tuple [].toArray)) ∧
 (((Go.Value.tuple [].toArray) = (Go.Value.tuple [].toArray)) ∧
 (((Go.Value.tuple [].toArray) = (Go.Value.tuple [].toArray)) ∧
 (((Go.Value.tuple [].toArray) = (Go.Value.tuple [].toArray)) ∧
 (((Value.bool false) = (Value.bool false)) ∧
 ((bcase (n5 == 0)
 ((Value.bool true) = (Value.bool false))
 ((Value.bool false) = (Value.bool false))) ∧
 (((vI n5) = (vI n5)) ∧
 True))))))))) ∧
 ((((Value.bool false) = (Value.bool false)) ∧
 (((Go.Value.tuple [].toArray) = (Go.Value.tuple [].toArray)) ∧
 (((Go.Value.tuple [].toArray) = (Go.Value.tuple [].toArray)) ∧
 (((Go.Value.tuple [].toArray) = (Go.Value.tuple [].toArray)) ∧
 (((Go.Value.tuple [].toArray) = (Go.Value.tuple [].toArray)) ∧
 ((bcase (n5 == 0)
 ((Value.bool true) = (Value.bool false))
 ((Value.bool false) = (Value.bool false))) ∧
 (((vI n5) = (vI n5)) ∧
 True))))))) ∧
 (True ∧
 (k [(D.val (Value.bool false))]))))))))))))))))))))))))))))))))))))))))))) ∨
 ((Says C 8 [] [(D.val (Value.bool false))]) ∧
 (k [(D.val (Value.bool false))]))) := by kernel_rfl
end Go.Proofs.G5c

/- Numbers: greatest divisors, quotients rounded down, fractions in lowest terms. -/
namespace Go.Abs
theorem natAbs_tmod (a b : Int) : (a.tmod b).natAbs = a.natAbs % b.natAbs := Int.natAbs_tmod a b
theorem tdiv_nn {a b : Int} (h : 0 ≤ a) : a.tdiv b = a / b := Int.tdiv_eq_ediv_of_nonneg h
end Go.Abs

/- Chapter 8: a temperature under banks of water; no program in it. -/
namespace Go.Proofs.G8
open Go Go.Abs
theorem mul_bd {x r : Int} (hx : 0 ≤ x ∧ x ≤ 12000) (hr : 0 ≤ r ∧ r ≤ 1000) : 0 ≤ x * r ∧ x * r ≤ 12000000 := by
  refine ⟨Int.mul_nonneg hx.1 hr.1, ?_⟩
  have := Int.mul_le_mul hx.2 hr.2 hr.1 (show (0 : Int) ≤ 12000 by omega)
  omega
theorem stp_bd {w a r d : Int} {on : Bool} (ha : 0 ≤ a) (hw : 0 ≤ w) (hr : 0 ≤ r) (hd : 0 ≤ d ∧ d ≤ 12000) : 0 ≤ stp w a on r d ∧ stp w a on r d ≤ 12000 := by
  unfold stp
  simp only
  have : d > w → 0 ≤ (d - w) * r := fun h => Int.mul_nonneg (by omega) hr
  split
  · split
    · have := this (by rename_i h _; exact h.2)
      omega
    · omega
  · split <;> omega
theorem stp_on {w a r d : Int} (h : d > w) : stp w a true r d = if d - (d - w) * r / 1000 - a > 0 then d - (d - w) * r / 1000 - a else 0 := by
  unfold stp
  rw [if_pos (show true = true ∧ d > w from ⟨rfl, h⟩)]
theorem stp_off {w a r d : Int} {on : Bool} (h : ¬ (on = true ∧ d > w)) : stp w a on r d = if d - a > 0 then d - a else 0 := by
  unfold stp
  rw [if_neg h]
theorem prog_on {w a r d : Int} (hw : 0 ≤ w ∧ w ≤ 12000) (ha : 0 ≤ a ∧ a ≤ 100) (hr : 0 ≤ r ∧ r ≤ 1000) (hd : 0 ≤ d ∧ d ≤ 12000) :
    (if 0 > IntKind.wrap .i64 (IntKind.wrap .i64 (d - IntKind.wrap .i64 (Int.tdiv (IntKind.wrap .i64 ((if 0 > IntKind.wrap .i64 (d - w) then 0 else IntKind.wrap .i64 (d - w)) * r)) 1000)) - a) then 0 else IntKind.wrap .i64 (IntKind.wrap .i64 (d - IntKind.wrap .i64 (Int.tdiv (IntKind.wrap .i64 ((if 0 > IntKind.wrap .i64 (d - w) then 0 else IntKind.wrap .i64 (d - w)) * r)) 1000)) - a)) = stp w a true r d := by
  rw [w64 (z := d - w) (by omega) (by omega)]
  by_cases h : d > w
  · rw [if_neg (show ¬ 0 > d - w by omega)]
    have hm := mul_bd (x := d - w) ⟨by omega, by omega⟩ hr
    rw [w64 (z := (d - w) * r) (by omega) (by omega), tdiv_nn hm.1, w64 (z := (d - w) * r / 1000) (by omega) (by omega), w64 (z := d - (d - w) * r / 1000) (by omega) (by omega), w64 (by omega) (by omega)]
    rw [stp_on h]
    split <;> split <;> omega
  · have e : (if 0 > d - w then 0 else d - w) = 0 := by split <;> omega
    have e2 : IntKind.wrap .i64 (Int.tdiv (IntKind.wrap .i64 (0 * r)) 1000) = 0 := by rw [Int.zero_mul]; rfl
    rw [e, e2, Int.sub_zero, w64 (z := d) (by omega) (by omega), w64 (by omega) (by omega)]
    rw [stp_off (fun hh => h hh.2)]
    split <;> split <;> omega
theorem prog_off {w a r d : Int} (ha : 0 ≤ a ∧ a ≤ 100) (hd : 0 ≤ d ∧ d ≤ 12000) :
    (if 0 > IntKind.wrap .i64 (d - a) then 0 else IntKind.wrap .i64 (d - a)) = stp w a false r d := by
  rw [w64 (by omega) (by omega)]
  rw [stp_off (by simp)]
  split <;> split <;> omega
theorem ref_on {w a r d : Int} (hw : 0 ≤ w ∧ w ≤ 12000) (ha : 0 ≤ a ∧ a ≤ 100) (hr : 0 ≤ r ∧ r ≤ 1000) (hd : 0 ≤ d ∧ d ≤ 12000) (h : d > w) :
    (if IntKind.wrap .i64 (IntKind.wrap .i64 (d - IntKind.wrap .i64 (Int.tdiv (IntKind.wrap .i64 (IntKind.wrap .i64 (d - w) * r)) 1000)) - a) > 0 then IntKind.wrap .i64 (IntKind.wrap .i64 (d - IntKind.wrap .i64 (Int.tdiv (IntKind.wrap .i64 (IntKind.wrap .i64 (d - w) * r)) 1000)) - a) else 0) = stp w a true r d := by
  have hm := mul_bd (x := d - w) ⟨by omega, by omega⟩ hr
  rw [w64 (z := d - w) (by omega) (by omega), w64 (z := (d - w) * r) (by omega) (by omega), tdiv_nn hm.1, w64 (z := (d - w) * r / 1000) (by omega) (by omega), w64 (z := d - (d - w) * r / 1000) (by omega) (by omega), w64 (by omega) (by omega)]
  rw [stp_on h]
theorem ref_off {w a r d : Int} {on : Bool} (ha : 0 ≤ a ∧ a ≤ 100) (hd : 0 ≤ d ∧ d ≤ 12000) (h : ¬ (on = true ∧ d > w)) :
    (if IntKind.wrap .i64 (d - a) > 0 then IntKind.wrap .i64 (d - a) else 0) = stp w a on r d := by
  rw [w64 (by omega) (by omega), stp_off h]
/-- a set's bit, as a number -/
theorem land1 {q : Int} : ((BitVec.toNat (BitVec.ofInt 64 q &&& BitVec.ofInt 64 1) : Nat) : Int) = q % 2 := by
  rw [BitVec.toNat_and, BitVec.toNat_ofInt, show (BitVec.ofInt 64 1).toNat = 1 by decide, Nat.and_one_is_mod]
  omega
theorem fdiv_pow {s : Int} {b : Nat} (hb : b < 64) : Int.fdiv s (2 ^ Min.min (Int.toNat (b : Int)) 64) = s / 2 ^ b := by
  rw [Int.toNat_natCast, show Min.min b 64 = b from Nat.min_eq_left (by omega), Int.fdiv_eq_ediv_of_nonneg _ (Int.pow_nonneg (by omega))]
theorem div_small {s : Int} {b : Nat} (hs : 0 ≤ s ∧ s < 16) : 0 ≤ s / 2 ^ b ∧ s / 2 ^ b < 16 := by
  have hp : (0 : Int) < 2 ^ b := Int.pow_pos (by omega)
  refine ⟨Int.ediv_nonneg hs.1 (by omega), ?_⟩
  have := Int.ediv_le_self (2 ^ b : Int) hs.1
  omega
end Go.Proofs.G8
