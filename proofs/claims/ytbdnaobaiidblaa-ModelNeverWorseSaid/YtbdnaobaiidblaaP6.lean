/- Texts of the proof, put together: AbsTab, AbsNum, AbsLow, GlML1, GStr, GStr2, GStr3, GName, AbsStr, GlML2, G4S, GlML3, GlML4, GlML5, GlML6, GlML7, GlMLA, AbsShort2, GlMV0, GlML8, AbsGood, GlMLK0, GlMNM, GlMV1, GlMV2, GlMV3, GlML9, GlMN0. -/
import Derived.Test.YtbdnaobaiidblaaP3
import Derived.Test.YtbdnaobaiidblaaGlMT
import Derived.Test.YtbdnaobaiidblaaP4
import Derived.Lib.Join
import Derived.Lib.Split
import Derived.Lib.IndexMore
import Derived.Lib.Strings
import Derived.Lib.ItoaNum
import Derived.Lib.Atoi
import Derived.Lib.LaidTab
import Derived.Test.YtbdnaobaiidblaaRows
import Derived.Handed
import Derived.JoinedCond
/- The evaluator with a table: calls whose outcome on some data is known are not entered. -/
namespace Go.Abs
open Go.RowKit
variable {P : Program} {ρ : Ren} {w0 : Start P} {w : World} {H : Heap}

/-! ### Data of values, computed -/
def readCO (H : Heap) : List Value → Option (List D)
  | [] => some []
  | v :: r =>
    match v with
    | .slice none 0 0 => (readCO H r).map (.nil :: ·)
    | .slice (some ⟨i, o, none⟩) len _ =>
      match H.get i with
      | some (.sym cs _ es) => if o + len * es ≤ cs.length then (readCO H r).map (.sl len es ((cs.drop o).take (len * es)) :: ·) else none
      | some (.cells cs _ _ es) => if o + len * es ≤ cs.length then (if ((cs.drop o).take (len * es)).all cellP then (readCO H r).map (.sl len es ((cs.drop o).take (len * es)) :: ·) else none) else none
      | _ => none
    | v => if plain 8 v then (readCO H r).map (.val v :: ·) else none
def readVO (H : Heap) : List Value → Option (List D)
  | [] => some []
  | .agg cs :: r => (readCO H cs.toList).bind fun ds => (readVO H r).map (.agg ds :: ·)
  | v :: r => (readCO H [v]).bind fun ds => (readVO H r).map (ds ++ ·)
theorem readCO_ok : ∀ {l : List Value} {ds : List D}, readCO H l = some ds → ∀ k : List D → Prop, k ds → readCells H l k
  | [], ds, h, k, hk => by
    simp only [readCO, Option.some.injEq] at h; subst h; exact hk
  | v :: r, ds, h, k, hk => by
    unfold readCO at h
    unfold readCells
    split at h
    · obtain ⟨x, hx, rfl⟩ := Option.map_eq_some_iff.1 h
      exact readCO_ok hx _ hk
    · simp only
      split at h
      · rename_i hg
        simp only [hg]
        split at h
        · rename_i hle
          obtain ⟨x, hx, rfl⟩ := Option.map_eq_some_iff.1 h
          exact bcase_intro (fun _ => readCO_ok hx _ hk) (fun hf => absurd hle (of_decide_eq_false hf))
        · cases h
      · rename_i hg
        simp only [hg]
        split at h
        · rename_i hle
          split at h
          · rename_i hall
            obtain ⟨x, hx, rfl⟩ := Option.map_eq_some_iff.1 h
            exact bcase_intro (fun _ => bcase_intro (fun _ => readCO_ok hx _ hk) (fun hf => by rw [hall] at hf; cases hf)) (fun hf => absurd hle (of_decide_eq_false hf))
          · cases h
        · cases h
      · cases h
    · rename_i h1 h2
      split
      · exact absurd rfl h1
      · exact absurd rfl (h2 _ _ _ _)
      · split at h
        · rename_i hp
          obtain ⟨x, hx, rfl⟩ := Option.map_eq_some_iff.1 h
          rw [if_pos hp]
          exact readCO_ok hx _ hk
        · cases h
theorem readVO_ok : ∀ {l : List Value} {ds : List D}, readVO H l = some ds → ∀ k : List D → Prop, k ds → readVals H l k
  | [], ds, h, k, hk => by
    simp only [readVO, Option.some.injEq] at h; subst h; exact hk
  | v :: r, ds, h, k, hk => by
    unfold readVO at h
    unfold readVals
    split at h
    · rename_i e; cases e
    · rename_i e; cases e
      obtain ⟨x, hx, h⟩ := Option.bind_eq_some_iff.1 h
      obtain ⟨y, hy, rfl⟩ := Option.map_eq_some_iff.1 h
      exact readCO_ok hx _ (readVO_ok hy _ hk)
    · rename_i h1 e; cases e
      obtain ⟨x, hx, h⟩ := Option.bind_eq_some_iff.1 h
      obtain ⟨y, hy, rfl⟩ := Option.map_eq_some_iff.1 h
      split
      · rename_i e; cases e
      · rename_i e; cases e; exact absurd rfl (h1 _)
      · rename_i e; cases e
        exact readCO_ok hx _ (readVO_ok hy _ hk)

/-! ### Data laid, computed -/
def layCO : List D → Heap → Option (List Value × Heap)
  | [], H => some ([], H)
  | .nil :: r, H => (layCO r H).map fun x => (.slice none 0 0 :: x.1, x.2)
  | .sl n es cs :: r, H => (layCO r (H.new (.sym cs true es))).map fun x => (.slice (some ⟨H.next, 0, none⟩) n n :: x.1, x.2)
  | .val v :: r, H => match v with
    | .agg _ => none
    | v => (layCO r H).map fun x => (v :: x.1, x.2)
  | .agg _ :: _, _ => none
def layVO : List D → Heap → Option (List Value × Heap)
  | [], H => some ([], H)
  | .agg ds :: r, H => (layCO ds H).bind fun x => (layVO r x.2).map fun y => (.agg x.1.toArray :: y.1, y.2)
  | d :: r, H => (layCO [d] H).bind fun x => match x.1 with
    | [v] => (layVO r x.2).map fun y => (v :: y.1, y.2)
    | _ => none
theorem layCO_ok : ∀ {ds : List D} {H : Heap} {x : List Value × Heap}, layCO ds H = some x → ∀ k : List Value → Heap → Prop, k x.1 x.2 → layC ds H k
  | [], H, x, h, k, hk => by
    simp only [layCO, Option.some.injEq] at h; subst h; exact hk
  | .nil :: r, H, x, h, k, hk => by
    obtain ⟨y, hy, rfl⟩ := Option.map_eq_some_iff.1 h
    exact layCO_ok hy _ hk
  | .sl n es cs :: r, H, x, h, k, hk => by
    obtain ⟨y, hy, rfl⟩ := Option.map_eq_some_iff.1 h
    exact layCO_ok hy _ hk
  | .val v :: r, H, x, h, k, hk => by
    unfold layCO at h
    unfold layC
    split at h
    · cases h
    · rename_i hv
      obtain ⟨y, hy, rfl⟩ := Option.map_eq_some_iff.1 h
      first
        | exact layCO_ok hy _ hk
        | (split
           · exact absurd rfl (hv _)
           · exact layCO_ok hy _ hk)
  | .agg _ :: _, H, x, h, k, hk => by cases h
theorem layVO_ok : ∀ {ds : List D} {H : Heap} {x : List Value × Heap}, layVO ds H = some x → ∀ k : List Value → Heap → Prop, k x.1 x.2 → layV ds H k
  | [], H, x, h, k, hk => by
    simp only [layVO, Option.some.injEq] at h; subst h; exact hk
  | d :: r, H, x, h, k, hk => by
    unfold layVO at h
    unfold layV
    split at h
    · rename_i e; cases e
    · rename_i e; cases e
      obtain ⟨y, hy, h⟩ := Option.bind_eq_some_iff.1 h
      obtain ⟨z, hz, rfl⟩ := Option.map_eq_some_iff.1 h
      exact layCO_ok hy _ (layVO_ok hz _ hk)
    · rename_i h1 e; cases e
      obtain ⟨y, hy, h⟩ := Option.bind_eq_some_iff.1 h
      split at h
      · rename_i he
        obtain ⟨z, hz, rfl⟩ := Option.map_eq_some_iff.1 h
        split
        · rename_i e; cases e
        · rename_i e; cases e; exact absurd rfl (h1 _)
        · rename_i e; cases e
          refine layCO_ok hy _ ?_
          simp only [he]
          exact layVO_ok hz _ hk
      · cases h

/-! ### Data given, computed -/
def giveCO (H : Heap) : List Nat → List Value → Option (List Nat × List D)
  | used, [] => some (used, [])
  | used, v :: r =>
    match v with
    | .slice none 0 0 => (giveCO H used r).map fun x => (x.1, .nil :: x.2)
    | .slice (some ⟨i, 0, none⟩) len cap =>
      if gbase ≤ i ∧ used.contains i = false then
        match H.get i with
        | some (.sym cs true es) => if len = cap ∧ cs.length = len * es then (giveCO H (i :: used) r).map fun x => (x.1, .sl len es cs :: x.2) else none
        | some (.cells cs _ _ es) => if len = cap ∧ cs.length = len * es then (if cs.all cellP then (giveCO H (i :: used) r).map fun x => (x.1, .sl len es cs :: x.2) else none) else none
        | _ => none
      else none
    | v => if plain 8 v then (giveCO H used r).map fun x => (x.1, .val v :: x.2) else none
def giveVO (H : Heap) : List Nat → List Value → Option (List D)
  | _, [] => some []
  | used, .agg cs :: r => (giveCO H used cs.toList).bind fun x => (giveVO H x.1 r).map (.agg x.2 :: ·)
  | used, v :: r => (giveCO H used [v]).bind fun x => (giveVO H x.1 r).map (x.2 ++ ·)
def giveO (v : Value) (H : Heap) : Option (List D) :=
  match v with
  | .tuple vs => if vs.size = 1 then none else giveVO H [] vs.toList
  | v => giveVO H [] [v]
theorem giveCO_ok : ∀ {l : List Value} {used : List Nat} {x : List Nat × List D}, giveCO H used l = some x → ∀ k : List Nat → List D → Prop, k x.1 x.2 → giveCells H used l k
  | [], used, x, h, k, hk => by
    simp only [giveCO, Option.some.injEq] at h; subst h; exact hk
  | v :: r, used, x, h, k, hk => by
    unfold giveCO at h
    unfold giveCells
    split at h
    · obtain ⟨y, hy, rfl⟩ := Option.map_eq_some_iff.1 h
      exact giveCO_ok hy _ hk
    · simp only
      split at h
      · rename_i hc
        rw [if_pos hc]
        split at h
        · rename_i hg
          simp only [hg]
          split at h
          · rename_i hl
            obtain ⟨y, hy, rfl⟩ := Option.map_eq_some_iff.1 h
            exact ⟨hl, giveCO_ok hy _ hk⟩
          · cases h
        · rename_i hg
          simp only [hg]
          split at h
          · rename_i hl
            split at h
            · rename_i hall
              obtain ⟨y, hy, rfl⟩ := Option.map_eq_some_iff.1 h
              exact ⟨hl, bcase_intro (fun _ => giveCO_ok hy _ hk) (fun hf => by rw [hall] at hf; cases hf)⟩
            · cases h
          · cases h
        · cases h
      · cases h
    · rename_i h1 h2
      split
      · exact absurd rfl h1
      · exact absurd rfl (h2 _ _ _)
      · split at h
        · rename_i hp
          obtain ⟨y, hy, rfl⟩ := Option.map_eq_some_iff.1 h
          rw [if_pos hp]
          exact giveCO_ok hy _ hk
        · cases h
theorem giveVO_ok : ∀ {l : List Value} {used : List Nat} {ds : List D}, giveVO H used l = some ds → ∀ k : List D → Prop, k ds → giveVals H used l k
  | [], used, ds, h, k, hk => by
    simp only [giveVO, Option.some.injEq] at h; subst h; exact hk
  | v :: r, used, ds, h, k, hk => by
    unfold giveVO at h
    unfold giveVals
    split at h
    · rename_i e; cases e
    · rename_i e; cases e
      obtain ⟨x, hx, h⟩ := Option.bind_eq_some_iff.1 h
      obtain ⟨y, hy, rfl⟩ := Option.map_eq_some_iff.1 h
      exact giveCO_ok hx _ (giveVO_ok hy _ hk)
    · rename_i h1 e; cases e
      obtain ⟨x, hx, h⟩ := Option.bind_eq_some_iff.1 h
      obtain ⟨y, hy, rfl⟩ := Option.map_eq_some_iff.1 h
      split
      · rename_i e; cases e
      · rename_i e; cases e; exact absurd rfl (h1 _)
      · rename_i e; cases e
        exact giveCO_ok hx _ (giveVO_ok hy _ hk)
theorem giveO_ok {v : Value} {ds : List D} (h : giveO v H = some ds) : dataK (· = ds) v H := by
  unfold giveO at h
  unfold dataK
  split at h
  · split at h
    · cases h
    · rename_i hs
      simp only [if_neg hs]
      exact giveVO_ok h _ rfl
  · rename_i hn
    split
    · exact absurd rfl (hn _)
    · exact giveVO_ok h _ rfl

/-! ### Data compared -/
def cEq : Value → Value → Bool
  | .int j a, .int k b => j == k && a == b
  | .bool a, .bool b => a == b
  | .string a, .string b => a.data.toList == b.data.toList
  | _, _ => false
def csEq : List Value → List Value → Bool
  | [], [] => true
  | a :: xs, b :: bs => cEq a b && csEq xs bs
  | _, _ => false
def d1Eq : D → D → Bool
  | .nil, .nil => true
  | .val a, .val b => cEq a b
  | .sl n es cs, .sl m fs bs => n == m && es == fs && csEq cs bs
  | _, _ => false
def d2Eq : List D → List D → Bool
  | [], [] => true
  | a :: xs, b :: bs => d1Eq a b && d2Eq xs bs
  | _, _ => false
def dEq : D → D → Bool
  | .agg a, .agg b => d2Eq a b
  | a, b => d1Eq a b
def dsEq : List D → List D → Bool
  | [], [] => true
  | a :: xs, b :: bs => dEq a b && dsEq xs bs
  | _, _ => false
theorem cEq_ok : ∀ {a b : Value}, cEq a b = true → a = b := by
  intro a b h
  unfold cEq at h
  split at h
  · simp only [Bool.and_eq_true, beq_iff_eq] at h; rw [h.1, h.2]
  · rw [eq_of_beq h]
  · rename_i x y
    have e := eq_of_beq h
    obtain ⟨x⟩ := x
    obtain ⟨y⟩ := y
    have : x = y := Array.ext' e
    rw [this]
  · cases h
theorem csEq_ok : ∀ {a b : List Value}, csEq a b = true → a = b
  | [], [], _ => rfl
  | a :: xs, b :: bs, h => by
    simp only [csEq, Bool.and_eq_true] at h
    rw [cEq_ok h.1, csEq_ok h.2]
  | [], _ :: _, h => by cases h
  | _ :: _, [], h => by cases h
theorem d1Eq_ok {a b : D} (h : d1Eq a b = true) : a = b := by
  unfold d1Eq at h
  split at h
  · rfl
  · rw [cEq_ok h]
  · simp only [Bool.and_eq_true, beq_iff_eq] at h
    rw [h.1.1, h.1.2, csEq_ok h.2]
  · cases h
theorem d2Eq_ok : ∀ {a b : List D}, d2Eq a b = true → a = b
  | [], [], _ => rfl
  | a :: xs, b :: bs, h => by
    simp only [d2Eq, Bool.and_eq_true] at h
    rw [d1Eq_ok h.1, d2Eq_ok h.2]
  | [], _ :: _, h => by cases h
  | _ :: _, [], h => by cases h
theorem dEq_ok {a b : D} (h : dEq a b = true) : a = b := by
  unfold dEq at h
  split at h
  · rw [d2Eq_ok h]
  · exact d1Eq_ok h
theorem dsEq_ok : ∀ {a b : List D}, dsEq a b = true → a = b
  | [], [], _ => rfl
  | a :: xs, b :: bs, h => by
    simp only [dsEq, Bool.and_eq_true] at h
    rw [dEq_ok h.1, dsEq_ok h.2]
  | [], _ :: _, h => by cases h
  | _ :: _, [], h => by cases h

/-! ### The evaluator with a table -/
abbrev Tab := FuncId → Option (List D → Option (List D))
/-- (a list of what is known) -/
def tabLook : List (List D × List D) → List D → Option (List D)
  | [], _ => none
  | p :: r, ds => if dsEq p.1 ds then some p.2 else tabLook r ds
theorem tabLook_ok : ∀ {t : List (List D × List D)} {ds rs : List D}, tabLook t ds = some rs → (ds, rs) ∈ t
  | [], _, _, h => by cases h
  | p :: r, ds, rs, h => by
    unfold tabLook at h
    split at h
    · rename_i he
      simp only [Option.some.injEq] at h
      rw [← dsEq_ok he, ← h]
      exact List.mem_cons_self ..
    · exact List.mem_cons_of_mem _ (tabLook_ok h)
def tabCall (t : List D → Option (List D)) (args : Array Value) (H : Heap) : Option (Value × Heap) :=
  (readVO H args.toList).bind fun ds => (t ds).bind fun rs => (layVO rs H).map fun x => (tupleOf x.1, x.2)
def evalT (P : Program) (tab : Tab) : Nat → Self
  | 0 => ⟨fun _ _ _ => none, fun _ _ _ _ => none⟩
  | n + 1 => ⟨fun f args H => match tab f with | none => callBody P (evalT P tab n) f args H | some t => tabCall t args H, fun round c A H => codeA P (evalT P tab n) round c A H⟩
def TabOK (P : Program) (tab : Tab) : Prop := ∀ f t, tab f = some t → ∀ ds rs, t ds = some rs → Con P f ds rs
theorem tabCall_sound {f : FuncId} {t : List D → Option (List D)} (ht : ∀ ds rs, t ds = some rs → Con P f ds rs) {args : Array Value} {v : Value} {H' : Heap} (h : tabCall t args H = some (v, H')) : CallH P f args H (fun u K => u = v ∧ K = H') := by
  obtain ⟨ds, h1, h⟩ := Option.bind_eq_some_iff.1 h
  obtain ⟨rs, h2, h⟩ := Option.bind_eq_some_iff.1 h
  obtain ⟨x, h3, h⟩ := Option.map_eq_some_iff.1 h
  simp only [Prod.mk.injEq] at h
  obtain ⟨rfl, rfl⟩ := h
  refine wpFix_call (C := fun g ds rs => g = f ∧ t ds = some rs ∨ Con P g ds rs) (fun g ds rs hc => ?_) (fix := t) ?_
  · rcases hc with ⟨rfl, hm⟩ | hc
    · exact ht _ _ hm
    · exact hc
  · unfold wpFix
    refine readVO_ok h1 _ ?_
    simp only [h2]
    exact ⟨⟨.inl ⟨rfl, h2⟩⟩, layVO_ok h3 _ ⟨rfl, rfl⟩⟩
theorem evalT_sound {tab : Tab} (htab : TabOK P tab) (hmix : P.follows .mixedOrders = true) : ∀ n, SelfS P w0 (evalT P tab n)
  | 0 => ⟨fun n _ _ h => by simp [evalT] at h, fun n _ _ _ h => by simp [evalT] at h, fun n _ _ _ h => by simp [evalT] at h⟩
  | k + 1 => ⟨fun {ρ H w f args args' v H'} n g ha h => by
      simp only [evalT] at h
      split at h
      · exact callBody_sound (evalT_sound htab hmix k) g n ha h
      · rename_i t ht
        refine (tabCall_sound (htab f t ht) h w0 ρ w args' n g ha).mono ?_
        rintro e w' ⟨u, K, ρ', v', ⟨rfl, rfl⟩, h1, h2, h3, h4⟩
        exact ⟨ρ', v', h1, h2, h3, h4⟩, fun n g rr ra h => codeA_sound (evalT_sound htab hmix k) hmix n _ g rr ra h,
      fun n g rr ra h => loopIn_once (loop_body (evalT_sound htab hmix k) n _ (fun g rr ra h => codeA_sound (evalT_sound htab hmix k) hmix n _ g rr ra h) g rr ra h)⟩
/-- A call of known data is run. -/
def runOK (P : Program) (tab : Tab) (n : Nat) (f : FuncId) (ds rs : List D) (caps : Nat → Nat) : Bool :=
  match (evalT P tab n).call f (layVals caps 500 ds).1.toArray (heapOf (layVals caps 500 ds).2) with
  | some (v, H) => (match giveO v H with | some rs' => dsEq rs' rs | none => false)
  | none => false
theorem con_run {tab : Tab} (htab : TabOK P tab) (hmix : P.follows .mixedOrders = true) {n : Nat} {f : FuncId} {ds rs : List D} (hcount : countV ds ≤ 400) (h : ∀ caps, runOK P tab n f ds rs caps = true) : Con P f ds rs := by
  intro w args hgood hr
  obtain ⟨caps, ρ, hst, g, ha⟩ := lay_gam hgood hr hcount
  have h := h caps
  unfold runOK at h
  split at h
  · rename_i v H hc
    split at h
    · rename_i rs' hg
      have e := dsEq_ok h
      subst e
      refine callsIn_wide.1 (((evalT_sound htab hmix n).call 0 g (by simpa using ha) hc).mono ?_)
      rintro e w' ⟨ρ', v', rfl, hv, g', ext'⟩
      obtain ⟨vs, ds', u, rfl, h1, rfl⟩ := dataK_out g' hv (giveO_ok hg)
      exact ⟨⟨vs, u, rfl, h1⟩, g'.below.below hst⟩
    · cases h
  · cases h
end Go.Abs

/- Numbers: greatest divisors, quotients rounded down, fractions in lowest terms. -/
namespace Go.Abs
theorem natAbs_tmod (a b : Int) : (a.tmod b).natAbs = a.natAbs % b.natAbs := Int.natAbs_tmod a b
/-- one step of the division of both -/
theorem gcd_step (a b : Int) : (Int.gcd b (a.tmod b) : Int) = Int.gcd a b := by
  have : Int.gcd b (a.tmod b) = Int.gcd a b := by
    show Nat.gcd b.natAbs (a.tmod b).natAbs = Nat.gcd a.natAbs b.natAbs
    rw [natAbs_tmod, Nat.gcd_comm b.natAbs, ← Nat.gcd_rec, Nat.gcd_comm]
  rw [this]
theorem gcd_step_lt {a b : Int} (h : b ≠ 0) : (a.tmod b).natAbs < b.natAbs := by
  rw [natAbs_tmod]; exact Nat.mod_lt _ (by omega)
theorem gcd_end (a : Int) : (Int.gcd a 0 : Int) = if a < 0 then -a else a := by
  have : Int.gcd a 0 = a.natAbs := Nat.gcd_zero_right _
  rw [this]; split <;> omega
theorem gcd_pos {a b : Int} (h : a ≠ 0 ∨ b ≠ 0) : 0 < (Int.gcd a b : Int) := by
  have : Int.gcd a b ≠ 0 := fun e => by
    have := Int.gcd_eq_zero_iff.1 e
    omega
  omega
theorem gcd_dvd1 (a b : Int) : (Int.gcd a b : Int) ∣ a := Int.gcd_dvd_left ..
theorem gcd_dvd2 (a b : Int) : (Int.gcd a b : Int) ∣ b := Int.gcd_dvd_right ..
theorem tdiv_nn {a b : Int} (h : 0 ≤ a) : a.tdiv b = a / b := Int.tdiv_eq_ediv_of_nonneg h
end Go.Abs

/- Fractions in lowest terms: their parts, and how they compare. -/
namespace Go.Abs
/-- a fraction in lowest terms -/
def low (n d : Int) : Int × Int := if d < 0 then ((0 - n).tdiv (Int.gcd n d), (0 - d).tdiv (Int.gcd n d)) else (n.tdiv (Int.gcd n d), d.tdiv (Int.gcd n d))
theorem gcd_neg2 (n d : Int) : Int.gcd (0 - n) (0 - d) = Int.gcd n d := by
  show Nat.gcd (0 - n).natAbs (0 - d).natAbs = Nat.gcd n.natAbs d.natAbs
  congr 1 <;> omega
theorem tdiv_small {n g : Int} (hn : -4611686018427387904 ≤ n ∧ n ≤ 4611686018427387904) (_ : 0 < g) : -4611686018427387904 ≤ n.tdiv g ∧ n.tdiv g ≤ 4611686018427387904 := by
  have h := Int.natAbs_tdiv_le_natAbs n g
  omega
theorem low_parts {n d : Int} (hd : 0 < d) : ∃ g : Int, 0 < g ∧ n = g * (low n d).1 ∧ d = g * (low n d).2 ∧ ((Int.gcd (low n d).1 (low n d).2 : Nat) : Int) = 1 := by
  have hg := gcd_pos (a := n) (b := d) (.inr (by omega))
  obtain ⟨A, hA⟩ := gcd_dvd1 n d
  obtain ⟨B, hB⟩ := gcd_dvd2 n d
  have e1 : (low n d).1 = A := by
    rw [low, if_neg (by omega)]
    show n.tdiv _ = A
    generalize hG : ((Int.gcd n d : Nat) : Int) = G at hA hg ⊢
    rw [hA]
    exact Int.mul_tdiv_cancel_left A (by omega)
  have e2 : (low n d).2 = B := by
    rw [low, if_neg (by omega)]
    show d.tdiv _ = B
    generalize hG : ((Int.gcd n d : Nat) : Int) = G at hB hg ⊢
    rw [hB]
    exact Int.mul_tdiv_cancel_left B (by omega)
  refine ⟨Int.gcd n d, hg, by rw [e1]; exact hA, by rw [e2]; exact hB, ?_⟩
  rw [e1, e2]
  have h3 : Int.gcd n d = Int.gcd n d * Int.gcd A B := by
    have : Int.gcd ((Int.gcd n d : Int) * A) ((Int.gcd n d : Int) * B) = Int.gcd n d * Int.gcd A B := by
      rw [Int.gcd_mul_left]; rfl
    rw [← hA, ← hB] at this
    exact this
  have h4 : Int.gcd A B = 1 := by
    have hp : 0 < Int.gcd n d := by omega
    exact Nat.eq_of_mul_eq_mul_left hp (by omega)
  omega
theorem low_den {n d : Int} (hd : 0 < d) : 0 < (low n d).2 ∧ (low n d).2 ≤ d := by
  obtain ⟨g, hg, h1, h2, _⟩ := low_parts (n := n) hd
  have hp : 0 < (low n d).2 := by
    rw [h2] at hd
    exact Int.pos_of_mul_pos_right hd hg
  refine ⟨hp, ?_⟩
  have := Int.mul_le_mul_of_nonneg_right (show 1 ≤ g by omega) (Int.le_of_lt hp)
  omega
/-- how two of them compare -/
theorem low_le {n d m e : Int} (hd : 0 < d) (he : 0 < e) : (low n d).1 * (low m e).2 ≤ (low m e).1 * (low n d).2 ↔ n * e ≤ m * d := by
  obtain ⟨g, hg, h1, h2, _⟩ := low_parts (n := n) hd
  obtain ⟨k, hk, h3, h4, _⟩ := low_parts (n := m) he
  have e1 : n * e = (g * k) * ((low n d).1 * (low m e).2) := by
    conv => lhs; rw [h1]; rhs; rw [h4]
    simp only [Int.mul_assoc, Int.mul_left_comm]
  have e2 : m * d = (g * k) * ((low m e).1 * (low n d).2) := by
    conv => lhs; rw [h3]; rhs; rw [h2]
    simp only [Int.mul_assoc, Int.mul_left_comm, Int.mul_comm]
  rw [e1, e2]
  have hgk := Int.mul_pos hg hk
  exact ⟨fun h => Int.mul_le_mul_of_nonneg_left h (Int.le_of_lt hgk), fun h => Int.le_of_mul_le_mul_left h hgk⟩
end Go.Abs

/- Chapter 4, losses: how functions are met. -/
namespace Go.Proofs.G5l
open Go Go.Abs Go.Proofs Go.Abs.MD
set_option maxRecDepth 100000
theorem mixed : Try.prog.follows .mixedOrders = true := by kernel_rfl
abbrev C5 : FuncId → List D → List D → Prop := Con Try.prog
theorem hokE : HandlerOK Try.prog (hE C5) := handlerX_ok mixed (fun g h he => by cases he) (by decide) 6
theorem ite_so {c : Prop} [Decidable c] {α : Type} {x h : α} {r : Option α} (e : (if c then some x else r) = some h) : (c ∧ x = h) ∨ r = some h := by
  by_cases hc : c
  · rw [if_pos hc] at e; exact .inl ⟨hc, Option.some.inj e⟩
  · rw [if_neg hc] at e; exact .inr e
theorem limE1 (lo hi a : Int) : limE lo hi [.int .i64 a] = if lo ≤ a ∧ a ≤ hi then 0 else 2 := by
  simp only [limE]; split <;> split <;> first | rfl | omega
theorem limE2 (lo hi a b : Int) : limE lo hi [.int .i64 a, .int .i64 b] = if (lo ≤ a ∧ a ≤ hi) ∧ lo ≤ b ∧ b ≤ hi then 0 else 2 := by
  simp only [limE]; repeat' split
  all_goals first | rfl | omega
theorem limE4 (lo hi a b c d : Int) : limE lo hi [.int .i64 a, .int .i64 b, .int .i64 c, .int .i64 d] = if (lo ≤ a ∧ a ≤ hi) ∧ (lo ≤ b ∧ b ≤ hi) ∧ (lo ≤ c ∧ c ≤ hi) ∧ lo ≤ d ∧ d ≤ hi then 0 else 2 := by
  simp only [limE]; repeat' split
  all_goals first | rfl | omega
theorem limGood : LimGood Try.prog 86 3 := by
  refine ⟨mixed, ⟨_, _, Try.func86, rfl⟩, fun cap lo hi x => ?_, fun cap lo hi x y => ?_, fun cap lo hi x y z => ?_, fun cap lo hi x y z u => ?_⟩
  · show lm1 cap lo hi x _
    rw [lm1_text, limE1]
    repeat' first | refine bc_dec (fun _ => ?_) (fun _ => ?_) | exact ⟨by rw [if_neg (by omega)], rfl⟩ | exact ⟨by rw [if_pos (by omega)], rfl⟩
  · show lm2 cap lo hi x y _
    rw [lm2_text, limE2]
    repeat' first | refine bc_dec (fun _ => ?_) (fun _ => ?_) | exact ⟨by rw [if_neg (by omega)], rfl⟩ | exact ⟨by rw [if_pos (by omega)], rfl⟩
  · show lm3 cap lo hi x y z _
    rw [lm3_text]
    have e : limE lo hi [.int .i64 x, .int .i64 y, .int .i64 z] = if (lo ≤ x ∧ x ≤ hi) ∧ (lo ≤ y ∧ y ≤ hi) ∧ lo ≤ z ∧ z ≤ hi then 0 else 2 := by
      simp only [limE]; repeat' split
      all_goals first | rfl | omega
    rw [e]
    repeat' first | refine bc_dec (fun _ => ?_) (fun _ => ?_) | exact ⟨by rw [if_neg (by omega)], rfl⟩ | exact ⟨by rw [if_pos (by omega)], rfl⟩
  · show lm4 cap lo hi x y z u _
    rw [lm4_text, limE4]
    repeat' first | refine bc_dec (fun _ => ?_) (fun _ => ?_) | exact ⟨by rw [if_neg (by omega)], rfl⟩ | exact ⟨by rw [if_pos (by omega)], rfl⟩

theorem limE_drop {lo hi : Int} (l : List Int) (i : Nat) (h : i < l.length) : limE lo hi (vi (l.drop i)) = if l[i] < lo ∨ l[i] > hi then 2 else limE lo hi (vi (l.drop (i + 1))) := by
  rw [List.drop_eq_getElem_cons h]; rfl
abbrev lW (lo hi : Int) : Blocks := [(900, .cells [.int .i64 lo] 3 false 1), (901, .cells [.int .i64 hi] 3 false 1)]
theorem limH (cap : Nat) (lo hi : Int) (l : List Int) (hlen : l.length < 1000000000) : CallS Try.prog 86 [.slice (some ⟨500, 0, none⟩) l.length cap, P1 900 0, P1 901 0] ((500, .sym (vi l) false 1) :: lW lo hi) (fun v b => v = .int .i64 (limE lo hi (vi l)) ∧ b = lW lo hi) := by
  let inv : Nat → Prop := fun i => i ≤ l.length ∧ limE lo hi (vi l) = limE lo hi (vi (l.drop i))
  let st : Nat → Slots × Blocks := fun i => zLo1 l.length cap l.length i lo hi (vi l)
  refine callS_ofG (L := fun _ s b => ∃ x, inv x ∧ st x = (s, b)) hokE mixed Try.func86 rfl rfl (ids := [0]) (by kernel_rfl) rfl ?_ (fun id hid => ?_)
  · show gLo _ _ lo hi l.length cap (vi l) _
    rw [gLo_text]
    exact ⟨0, ⟨Nat.zero_le _, rfl⟩, rfl⟩
  · obtain rfl := List.mem_singleton.1 hid
    refine ⟨_, st, inv, fun i => l.length - i, ⟨fun s b h => h, by kernel_rfl, ?_⟩⟩
    rintro i ⟨hi', hm⟩
    show rLo1 _ _ l.length cap l.length (i : Int) lo hi (vi l) _ _ _
    rw [rLo1_text]
    refine bc_dec (fun h => ?_) (fun h => ?_)
    · have hi2 : i < l.length := by omega
      rw [limE_drop l i hi2] at hm
      simp only [bc_t h, bc_t (show (0 : Int) ≤ (i : Int) by omega), Int.toNat_natCast, at1 (vi_at l i hi2)]
      refine bc_dec (fun h1 => ?_) (fun h1 => bc_dec (fun h2 => ?_) (fun h2 => ?_))
      · rw [if_pos (.inl h1)] at hm; exact ⟨by rw [hm], by first | trivial | rfl⟩
      · rw [if_pos (.inr h2)] at hm; exact ⟨by rw [hm], by first | trivial | rfl⟩
      · rw [if_neg (by omega)] at hm
        refine ⟨i + 1, ⟨hi2, hm⟩, by omega, ?_⟩
        rw [w64 (by omega) (by omega)]; rfl
    · show (if 0 = 0 then _ else _)
      rw [if_pos rfl]
      show nLo2 _ _ lo hi _
      rw [nLo2_text]
      have : i = l.length := by omega
      rw [this, List.drop_length] at hm
      exact ⟨by rw [hm]; rfl, rfl⟩
theorem limL_ok {args : List Value} {bs : Blocks} {K : Value → Blocks → Prop} (hk : limL 3 args bs K) : CallS Try.prog 86 args bs K := by
  unfold limL at hk
  split at hk
  · split at hk
    · rename_i hc
      simp only [Bool.and_eq_true, beq_iff_eq] at hc
      obtain ⟨⟨⟨⟨⟨⟨⟨⟨⟨⟨⟨⟨⟨rfl, rfl⟩, rfl⟩, rfl⟩, rfl⟩, rfl⟩, rfl⟩, rfl⟩, rfl⟩, rfl⟩, rfl⟩, rfl⟩, rfl⟩, rfl⟩ := hc
      obtain ⟨l, rfl, rfl, hl, e, he, hK⟩ := hk
      refine callS_mono (limH _ _ _ l hl) ?_
      rintro v b ⟨rfl, rfl⟩
      have e1 : e = limE _ _ (vi l) := limC_out he
      rw [← e1]; exact hK
    · exact hk.elim
  · exact lim_ok limGood hk
end Go.Proofs.G5l

/- Strings as lists of bytes: pieces between separators, decimal numbers. -/
namespace Go.Str

/-- The string of a list of bytes. -/
abbrev bs (l : List UInt8) : ByteArray := ⟨l.toArray⟩
theorem bs_data (s : ByteArray) : bs s.data.toList = s := by cases s; simp [bs]
theorem bs_size (l : List UInt8) : (bs l).size = l.length := by simp [ByteArray.size]
theorem bs_get (l : List UInt8) (i : Nat) : (bs l)[i]? = l[i]? := by
  show (if h : i < (bs l).size then some ((bs l)[i]'h) else none) = _
  by_cases h : i < (bs l).size
  · rw [dif_pos h]
    have h2 : i < l.length := by rw [bs_size] at h; exact h
    rw [List.getElem?_eq_getElem h2]
    rfl
  · rw [dif_neg h]
    rw [bs_size] at h
    rw [List.getElem?_eq_none (by omega)]

/-! ### Pieces between separators -/
/-! ### Numbers -/
def isDig (b : UInt8) : Bool := decide (48 ≤ b.toNat) && decide (b.toNat ≤ 57)
/-- the number of some digits, behind others -/
def numF (n : Int) (l : List UInt8) : Int := l.foldl (fun n b => 10 * n + ((b.toNat : Int) - 48)) n
/-- so many digits at the most, no zero ahead of others -/
def okNum (d : Nat) (l : List UInt8) : Bool := decide (1 ≤ l.length) && decide (l.length ≤ d) && !(decide (1 < l.length) && l.head? == some 48) && l.all isDig
end Go.Str

/- Decimal numerals against the numbers that they spell. -/
namespace Go.Str
/-! ### strconv.Itoa, strconv.Atoi -/
/-- two numbers with a sign between them -/
def two (c : UInt8) (d : Nat) (w : List UInt8) : Option (Int × Int) :=
  if okNum d (Lib.cut w [c]).1 && okNum d (Lib.cut w [c]).2.1 then some (numF 0 (Lib.cut w [c]).1, numF 0 (Lib.cut w [c]).2.1) else none
end Go.Str

/- Words that are read by a reader; pairs of numbers that may be below naught. -/
namespace Go.Str
variable {α : Type}
/-! ### readings by strconv.Atoi -/
end Go.Str

/- Names: a letter, then letters, digits and hyphens. -/
namespace Go.Str
open Go Go.Abs
def isLet (b : UInt8) : Bool := (decide (97 ≤ b.toNat) && decide (b.toNat ≤ 122)) || (decide (65 ≤ b.toNat) && decide (b.toNat ≤ 90))
def nameC (b : UInt8) : Bool := isLet b || isDig b || b.toNat == 45
def nameOK (l : List UInt8) : Bool := decide (1 ≤ l.length) && decide (l.length ≤ 12) && l.head?.any isLet && l.all nameC
theorem let_t {b : UInt8} (h : (97 ≤ b.toNat ∧ b.toNat ≤ 122) ∨ (65 ≤ b.toNat ∧ b.toNat ≤ 90)) : isLet b = true := by
  simp [isLet]; omega
theorem let_f {b : UInt8} (h : ¬ ((97 ≤ b.toNat ∧ b.toNat ≤ 122) ∨ (65 ≤ b.toNat ∧ b.toNat ≤ 90))) : isLet b = false := by
  simp [isLet]; omega
theorem dig_t {b : UInt8} (h : 48 ≤ b.toNat ∧ b.toNat ≤ 57) : isDig b = true := by simp [isDig, h]
theorem dig_f {b : UInt8} (h : ¬ (48 ≤ b.toNat ∧ b.toNat ≤ 57)) : isDig b = false := by simp [isDig]; omega
theorem name_t {b : UInt8} (h : ((97 ≤ b.toNat ∧ b.toNat ≤ 122) ∨ (65 ≤ b.toNat ∧ b.toNat ≤ 90)) ∨ (48 ≤ b.toNat ∧ b.toNat ≤ 57) ∨ b.toNat = 45) : nameC b = true := by
  simp [nameC, isLet, isDig]; omega
theorem name_f {b : UInt8} (h : ¬ (((97 ≤ b.toNat ∧ b.toNat ≤ 122) ∨ (65 ≤ b.toNat ∧ b.toNat ≤ 90)) ∨ (48 ≤ b.toNat ∧ b.toNat ≤ 57) ∨ b.toNat = 45)) : nameC b = false := by
  simp [nameC, isLet, isDig]; omega
/-- how far a walk over a name has come: what is left decides -/
def goesN (l : List UInt8) (i : Nat) : Prop := i ≤ l.length ∧ (1 ≤ l.length ∧ l.length ≤ 12) ∧ (i = 0 ∨ l.head?.any isLet = true) ∧ l.all nameC = (l.drop i).all nameC
theorem goesN_0 {l : List UInt8} (h : 1 ≤ l.length ∧ l.length ≤ 12) : goesN l 0 := ⟨Nat.zero_le _, h, .inl rfl, rfl⟩
theorem nameOK_len {l : List UInt8} (h : ¬ (1 ≤ l.length ∧ l.length ≤ 12)) : nameOK l = false := by
  unfold nameOK
  rcases Nat.lt_or_ge l.length 1 with h1 | h1
  · rw [decide_eq_false (by omega : ¬ 1 ≤ l.length)]; rfl
  · rw [decide_eq_false (by omega : ¬ l.length ≤ 12)]; simp
theorem head_of {l : List UInt8} (h : 0 < l.length) : l.head? = some l[0] := by
  cases l with
  | nil => cases h
  | cons a r => rfl
theorem nameOK_head {l : List UInt8} (h : 0 < l.length) (hb : isLet l[0] = false) : nameOK l = false := by
  unfold nameOK
  rw [head_of h]
  simp [hb]
theorem goesN_bad {l : List UInt8} {i : Nat} (h : goesN l i) (hi : i < l.length) (hb : nameC l[i] = false) : nameOK l = false := by
  obtain ⟨_, _, _, h4⟩ := h
  unfold nameOK
  rw [h4, List.drop_eq_getElem_cons hi, List.all_cons, hb]
  simp
theorem goesN_first {l : List UInt8} {i : Nat} (hi : i < l.length) (h0 : i = 0) (hb : isLet l[i] = false) : nameOK l = false := by
  subst h0; exact nameOK_head hi hb
theorem goesN_step {l : List UInt8} {i : Nat} (h : goesN l i) (hi : i < l.length) (hb : nameC l[i] = true) (h0 : i = 0 → isLet l[i] = true) : goesN l (i + 1) := by
  obtain ⟨h1, h2, h3, h4⟩ := h
  refine ⟨hi, h2, .inr ?_, ?_⟩
  · rcases h3 with h3 | h3
    · have := h0 h3
      subst h3
      rw [head_of hi]; simpa using this
    · exact h3
  · rw [h4, List.drop_eq_getElem_cons hi, List.all_cons, hb]; simp
theorem goesN_end {l : List UInt8} {i : Nat} (h : goesN l i) (hi : ¬ i < l.length) : nameOK l = true := by
  obtain ⟨h1, h2, h3, h4⟩ := h
  have e : i = l.length := by omega
  subst e
  rw [List.drop_length] at h4
  have h5 : l.head?.any isLet = true := by
    rcases h3 with h3 | h3
    · omega
    · exact h3
  unfold nameOK
  rw [h4, h5, decide_eq_true h2.1, decide_eq_true h2.2]; rfl
end Go.Str

/- Strings and lists of strings as cells. -/
namespace Go.Abs
open Go.Str
abbrev str (l : List UInt8) : Value := .string (bs l)
abbrev dS (l : List UInt8) : D := .val (str l)
abbrev dB (b : Bool) : D := .val (.bool b)
/-- what is read of a string is what is there -/
theorem byte1 {l : List UInt8} {i : Nat} {b : UInt8} (h : l[i]? = some b) {Q : UInt8 → Prop} : (∃ x : UInt8, ByteAt (bs l) i x ∧ Q x) = Q b := by
  apply propext
  constructor
  · rintro ⟨x, hx, hq⟩
    have e := hx.out
    rw [bs_get, h] at e
    obtain rfl := Option.some.inj e
    exact hq
  · intro hq; exact ⟨b, ⟨by rw [bs_get]; exact h⟩, hq⟩
theorem wi1 {i n : Nat} (h : i < n) (hn : n < 4294967296) : IntKind.wrap .i64 ((i : Int) + 1) = ((i + 1 : Nat) : Int) := by rw [w64 (by omega) (by omega)]; rfl
end Go.Abs

/- Chapter 4, losses: small functions and names, in data. -/
namespace Go.Proofs.G5l
open Go Go.Abs Go.Proofs Go.Abs.MD Go.Str
set_option maxRecDepth 100000
theorem preLOK : PreOK Try.prog (preL C5) := by
  intro g h he args ats H k hk
  unfold preL at he
  split at he
  · cases he
  rename_i hne
  unfold preM at he
  rcases ite_so he with ⟨e, rfl⟩ | he
  · rw [beq_iff_eq] at e; subst e
    exact wpState_call (fun args bs K hk => limL_ok hk) hk
  rcases ite_so he with ⟨e, rfl⟩ | he
  · rw [beq_iff_eq] at e; rw [e] at hne; exact absurd rfl hne
  rcases ite_so he with ⟨e, rfl⟩ | he
  · exact fixH_ok (fun _ _ _ h => h) _ _ _ _ _ hk
  rcases ite_so he with ⟨e, rfl⟩ | he
  · exact fixH_ok (fun _ _ _ h => h) _ _ _ _ _ hk
  rcases ite_so he with ⟨e, rfl⟩ | he
  · exact saidH_ok (fun _ _ _ h => h) _ _ _ _ _ hk
  · cases he
theorem hokL : HandlerOK Try.prog (hL C5) := handlerX_ok mixed preLOK (by decide) 6
theorem v2le (l : List (Int × Int)) : 0 + l.length * 2 ≤ (vp l).length := by simp
theorem bc_nf {a : Int} {x y : Prop} : bcase (a != a) x y = y := by rw [show (a != a) = false by simp]; rfl
theorem bc_qt {a : Int} {x y : Prop} : bcase (a == a) x y = x := by rw [show (a == a) = true by simp]; rfl
theorem bc_q {a b : Int} {x y : Prop} (h : a ≠ b) : bcase (a == b) x y = y := by rw [show (a == b) = false by simpa using h]; rfl
theorem bcF {x y : Prop} : bcase false x y = y := rfl
theorem bcT {x y : Prop} : bcase true x y = x := rfl
theorem conFE (l : List Int) (hlen : l.length < 1000000000) : C5 37 [.sl l.length 1 (vi l)] [dI (fst0 l)] := by
  let inv : Nat × Nat → Prop := fun x => x.1 ≤ l.length ∧ fst0 l = fst0 (l.drop x.1)
  let st : Nat × Nat → Slots × Blocks := fun x => zFE1 l.length x.2 l.length x.1 (vi l)
  refine con_of (L := fun _ s b => ∃ x, inv x ∧ st x = (s, b)) hokE mixed Try.func37 rfl (by show 1 ≤ 400; omega) rfl (ids := [0]) (by kernel_rfl) rfl (fun caps => ?_) (fun id hid => ?_)
  · show gFE _ _ l.length (caps 500) (vi l) _
    rw [gFE_text]
    exact ⟨(0, caps 500), ⟨by simp, rfl⟩, rfl⟩
  · obtain rfl := List.mem_singleton.1 hid
    refine ⟨Nat × Nat, st, inv, fun x => l.length - x.1, ⟨fun s b h => h, by kernel_rfl, ?_⟩⟩
    rintro ⟨i, cap⟩ ⟨hi, hr⟩
    simp only at hi hr
    show rFE1 _ _ l.length cap l.length i (vi l) _ _ _
    rw [rFE1_text]
    refine bc_dec (fun h => ?_) (fun h => ?_)
    · have hi' : i < l.length := by omega
      rw [List.drop_eq_getElem_cons hi', fst0] at hr
      simp only [bc_t h, bc_t (show (0 : Int) ≤ (i : Int) by omega), Int.toNat_natCast, at1 (vi_at l i hi')]
      refine bc_bne (fun hc => ?_) (fun hc => ?_)
      · rw [if_neg hc] at hr
        show [dI l[i]] = [dI (fst0 l)]
        rw [hr]
      · rw [if_pos hc] at hr
        refine ⟨(i + 1, cap), ⟨by show i + 1 ≤ l.length; omega, hr⟩, by show l.length - (i + 1) < l.length - i; omega, ?_⟩
        rw [w64 (by omega) (by omega)]; rfl
    · show (if 0 = 0 then _ else _)
      rw [if_pos rfl]
      show nFE2 _ _ _
      rw [nFE2_text]
      have : i = l.length := by omega
      rw [this, List.drop_length] at hr
      show [dI 0] = [dI (fst0 l)]
      rw [hr]; rfl
theorem conWi (a b c : Int) : C5 21 [dI a, dI b, dI c] [.val (.bool (decide (b ≤ a ∧ a ≤ c)))] := by
  refine con_flat hokE mixed Try.func21 rfl (by show 0 ≤ 400; omega) rfl (by kernel_rfl) (fun caps => ?_)
  show gWi _ _ a b c _
  rw [gWi_text]
  refine bc_dec (fun h => bc_dec (fun h2 => ?_) (fun h2 => ?_)) (fun h => ?_)
  · show _ = _; rw [decide_eq_true (show b ≤ a ∧ a ≤ c from ⟨h, h2⟩)]
  · show _ = _; rw [decide_eq_false (show ¬ (b ≤ a ∧ a ≤ c) by omega)]
  · show _ = _; rw [decide_eq_false (show ¬ (b ≤ a ∧ a ≤ c) by omega)]
theorem sayWt {a b c : Int} (h : b ≤ a ∧ a ≤ c) : Says C5 21 [dI a, dI b, dI c] [.val (.bool true)] := by
  have := conWi a b c
  rw [decide_eq_true h] at this
  exact ⟨this⟩
theorem sayWf {a b c : Int} (h : ¬ (b ≤ a ∧ a ≤ c)) : Says C5 21 [dI a, dI b, dI c] [.val (.bool false)] := by
  have := conWi a b c
  rw [decide_eq_false h] at this
  exact ⟨this⟩
def szI (a : Int) : Int := if -a > a then -a else a
theorem conSi (a : Int) (h : -9223372036854775807 ≤ a ∧ a ≤ 9223372036854775807) : C5 76 [dI a] [dI (szI a)] := by
  refine con_flat hokE mixed Try.func76 rfl (by show 0 ≤ 400; omega) rfl (by kernel_rfl) (fun caps => ?_)
  show gSi _ _ a _
  rw [gSi_text, w64 (by omega) (by omega)]
  show [dI _] = [dI _]
  rw [show (0 : Int) - a = -a by omega]; rfl
theorem conGc (a b : Int) (ha : -9223372036854775808 ≤ a ∧ a ≤ 9223372036854775807) (hb : -9223372036854775807 ≤ b ∧ b ≤ 9223372036854775807) (h0 : b = 0 → -9223372036854775807 ≤ a) : C5 49 [dI a, dI b] [dI (Int.gcd a b)] := by
  let inv : Int × Int → Prop := fun x => (-9223372036854775808 ≤ x.1 ∧ x.1 ≤ 9223372036854775807) ∧ (-9223372036854775807 ≤ x.2 ∧ x.2 ≤ 9223372036854775807) ∧ (x.2 = 0 → -9223372036854775807 ≤ x.1) ∧ Int.gcd x.1 x.2 = Int.gcd a b
  let st : Int × Int → Slots × Blocks := fun x => zGc1 x.1 x.2
  refine con_of (L := fun _ s b => ∃ x, inv x ∧ st x = (s, b)) hokL mixed Try.func49 rfl (by show 0 ≤ 400; omega) rfl (ids := [0]) (by kernel_rfl) rfl (fun caps => ?_) (fun id hid => ?_)
  · show gGc _ _ a b _
    rw [gGc_text]
    exact ⟨(a, b), ⟨ha, hb, h0, rfl⟩, rfl⟩
  · obtain rfl := List.mem_singleton.1 hid
    refine ⟨Int × Int, st, inv, fun x => x.2.natAbs, ⟨fun s b h => h, by kernel_rfl, ?_⟩⟩
    rintro ⟨x, y⟩ ⟨hx, hy, hxy, hg⟩
    simp only at hx hy hxy hg
    show rGc1 _ _ x y _ _ _
    rw [rGc1_text]
    refine bc_bne (fun h => ?_) (fun h => ?_)
    · simp only [bc_n h, true_and, and_true]
      have hlt := gcd_step_lt (a := x) h
      have hst := gcd_step x y
      refine ⟨(y, x.tmod y), ⟨⟨by show -9223372036854775808 ≤ y; omega, hy.2⟩, ?_, fun _ => hy.1, by show Int.gcd y (x.tmod y) = _; omega⟩, hlt, rfl⟩
      show -9223372036854775807 ≤ x.tmod y ∧ x.tmod y ≤ 9223372036854775807
      have : (x.tmod y).natAbs < y.natAbs := hlt
      omega
    · show (if 0 = 0 then _ else _)
      rw [if_pos rfl]
      show nGc2 _ _ x _
      have hxl := hxy h
      rw [nGc2_text]
      refine ⟨_, ⟨conSi x (by omega)⟩, ?_⟩
      subst h
      have := gcd_end x
      show [dI _] = [dI _]
      rw [show ((Int.gcd a b : Nat) : Int) = (Int.gcd x 0 : Nat) by rw [hg], this]
      have e : szI x = (if x < 0 then -x else x) := by unfold szI; split <;> split <;> omega
      rw [e]
theorem sayOr {f : FuncId} {args : List D} {b : Bool} {A B : Prop} (h : C5 f args [dB b]) (h1 : b = true → A) (h2 : b = false → B) : (Says C5 f args [.val (.bool true)] ∧ A) ∨ (Says C5 f args [.val (.bool false)] ∧ B) := by
  cases b with
  | true => exact .inl ⟨⟨h⟩, h1 rfl⟩
  | false => exact .inr ⟨⟨h⟩, h2 rfl⟩
theorem coniL (b : UInt8) : C5 87 [.val (.int .u8 (b.toNat : Int))] [dB (isLet b)] := by
  refine con_flat hokL mixed Try.func87 rfl (by show 0 ≤ 400; omega) rfl (by kernel_rfl) (fun caps => ?_)
  show giL _ _ (b.toNat : Int) _
  rw [giL_text]
  repeat' refine bc_dec (fun _ => ?_) (fun _ => ?_)
  all_goals first
    | (show [D.val (Value.bool true)] = [dB (isLet b)]; rw [let_t (by omega)])
    | (show [D.val (Value.bool false)] = [dB (isLet b)]; rw [let_f (by omega)])
theorem coniD (b : UInt8) : C5 88 [.val (.int .u8 (b.toNat : Int))] [dB (isDig b)] := by
  refine con_flat hokL mixed Try.func88 rfl (by show 0 ≤ 400; omega) rfl (by kernel_rfl) (fun caps => ?_)
  show giD _ _ (b.toNat : Int) _
  rw [giD_text]
  repeat' refine bc_dec (fun _ => ?_) (fun _ => ?_)
  all_goals first
    | (show [D.val (Value.bool true)] = [dB (isDig b)]; rw [dig_t (by omega)])
    | (show [D.val (Value.bool false)] = [dB (isDig b)]; rw [dig_f (by omega)])
def nameE (l : List UInt8) : Int := if nameOK l = true then 0 else 4
theorem nameE_bad {l : List UInt8} (h : nameOK l = false) : nameE l = 4 := by unfold nameE; rw [h]; rfl
theorem nameE_ok {l : List UInt8} (h : nameOK l = true) : nameE l = 0 := by unfold nameE; rw [h]; rfl
theorem concN (l : List UInt8) : C5 64 [dS l] [dI (nameE l)] := by
  let inv : Nat → Prop := fun i => goesN l i ∧ l.head?.any isLet = true
  let st : Nat → Slots × Blocks := fun i => zcN1 (bs l) l.length i
  refine con_of (L := fun _ s b => ∃ x, inv x ∧ st x = (s, b)) hokL mixed Try.func64 rfl (by show 0 ≤ 400; omega) rfl (ids := [0]) (by kernel_rfl) rfl (fun caps => ?_) (fun id hid => ?_)
  · show gcN _ _ (bs l) _
    rw [gcN_text]
    simp only [bs_size]
    refine bc_beq (fun h => ?_) (fun h => bc_dec (fun h2 => ?_) (fun h2 => ?_))
    · show [dI 4] = [dI (nameE l)]
      rw [nameE_bad (nameOK_len (by omega))]
    · show [dI 4] = [dI (nameE l)]
      rw [nameE_bad (nameOK_len (by omega))]
    · have hl : 0 < l.length := by omega
      simp only [byte1 (List.getElem?_eq_getElem hl)]
      refine sayOr (coniL _) (fun h3 => ⟨0, ⟨goesN_0 (by omega), ?_⟩, rfl⟩) (fun h3 => ?_)
      · rw [head_of hl]; simpa using h3
      · show [dI 4] = [dI (nameE l)]
        rw [nameE_bad (nameOK_head hl h3)]
  · obtain rfl := List.mem_singleton.1 hid
    refine ⟨Nat, st, inv, fun x => l.length - x, ⟨fun s b h => h, by kernel_rfl, ?_⟩⟩
    rintro i ⟨hg, hh⟩
    have hb := hg.1
    have h12 := hg.2.1
    show rcN1 _ _ (bs l) l.length i _ _ _
    rw [rcN1_text]
    refine bc_dec (fun h => ?_) (fun h => ?_)
    · have hi : i < l.length := by omega
      have h0 : i = 0 → isLet l[i] = true := by
        rintro rfl
        rw [head_of hi] at hh; simpa using hh
      simp only [bc_t (show (0 : Int) ≤ (i : Int) by omega), Int.toNat_natCast, byte1 (List.getElem?_eq_getElem hi), wi1 hi (by omega)]
      have good : nameC l[i] = true → ∃ x, inv x ∧ l.length - x < l.length - i ∧ st x = ([(0, Value.string (bs l)), (19, .int .i64 (l.length : Int)), (20, .int .i64 ((i + 1 : Nat) : Int))], []) := fun hc =>
        ⟨i + 1, ⟨goesN_step hg hi hc h0, hh⟩, by omega, rfl⟩
      refine sayOr (coniL _) (fun h1 => good (by unfold nameC; rw [h1]; rfl)) (fun h1 => ?_)
      refine sayOr (coniD _) (fun h2 => good (by unfold nameC; rw [h2]; simp)) (fun h2 => ?_)
      refine bc_bne (fun h3 => ?_) (fun h3 => good (by unfold nameC; rw [show l[i].toNat = 45 by omega]; simp))
      show [dI 4] = [dI (nameE l)]
      rw [nameE_bad (goesN_bad hg hi (by unfold nameC; rw [h1, h2]; simp; omega))]
    · show (if 0 = 0 then _ else _)
      rw [if_pos rfl]
      show ncN2 _ _ _
      rw [ncN2_text]
      show [dI 0] = [dI (nameE l)]
      rw [nameE_ok (goesN_end hg (by omega))]
theorem conIN (l : List UInt8) : C5 44 [dS l] [dB (nameOK l)] := by
  let inv : Nat → Prop := fun i => goesN l i
  let st : Nat → Slots × Blocks := fun i => zIN1 (bs l) i
  refine con_of (L := fun _ s b => ∃ x, inv x ∧ st x = (s, b)) hokL mixed Try.func44 rfl (by show 0 ≤ 400; omega) rfl (ids := [0]) (by kernel_rfl) rfl (fun caps => ?_) (fun id hid => ?_)
  · show gIN _ _ (bs l) _
    rw [gIN_text]
    simp only [bs_size]
    refine bc_dec (fun h => ?_) (fun h => bc_dec (fun h2 => ?_) (fun h2 => ⟨0, goesN_0 (by omega), rfl⟩))
    · show [D.val (Value.bool false)] = [dB (nameOK l)]
      rw [nameOK_len (by omega)]
    · show [D.val (Value.bool false)] = [dB (nameOK l)]
      rw [nameOK_len (by omega)]
  · obtain rfl := List.mem_singleton.1 hid
    refine ⟨Nat, st, inv, fun x => l.length - x, ⟨fun s b h => h, by kernel_rfl, ?_⟩⟩
    intro i hg
    have hb := hg.1
    have h12 := hg.2.1
    show rIN1 _ _ (bs l) i _ _ _
    rw [rIN1_text]
    simp only [bs_size]
    refine bc_dec (fun h => ?_) (fun h => ?_)
    · have hi : i < l.length := by omega
      simp only [bc_t (show (0 : Int) ≤ (i : Int) by omega), Int.toNat_natCast, byte1 (List.getElem?_eq_getElem hi), wi1 hi (by omega)]
      have good : nameC l[i] = true → (i = 0 → isLet l[i] = true) → ∃ x, inv x ∧ l.length - x < l.length - i ∧ st x = ([(0, Value.string (bs l)), (3, .int .i64 ((i + 1 : Nat) : Int))], []) := fun hc h0 =>
        ⟨i + 1, goesN_step hg hi hc h0, by omega, rfl⟩
      repeat' first
        | refine bc_dec (fun _ => ?_) (fun _ => ?_)
        | refine bc_beq (fun _ => ?_) (fun _ => ?_)
        | refine bc_bne (fun _ => ?_) (fun _ => ?_)
      all_goals first
        | exact good (name_t (by omega)) (fun _ => let_t (by omega))
        | exact good (name_t (by omega)) (fun h0 => absurd h0 (by omega))
        | (show [D.val (Value.bool false)] = [dB (nameOK l)]; rw [goesN_bad hg hi (name_f (by omega))])
        | (show [D.val (Value.bool false)] = [dB (nameOK l)]; rw [goesN_first hi (by omega) (let_f (by omega))])
    · show nIN2 _ _ _
      rw [nIN2_text]
      show [D.val (Value.bool true)] = [dB (nameOK l)]
      rw [goesN_end hg (by omega)]

theorem concT (l : List Int) (hl : l.length < 1000000000) : C5 51 [.sl l.length 1 (vi l)] [dI (limE 0 20000 (vi l))] := by
  refine con_flat hokL mixed Try.func51 rfl (by show 1 ≤ 400; omega) rfl (by kernel_rfl) (fun caps => ?_)
  show gcT _ _ l.length (caps 500) (vi l) _
  rw [gcT_text]
  exact ⟨l, rfl, rfl, hl, _, ⟨limC_of rfl⟩, rfl⟩
theorem concT1 (a : Int) : C5 51 [.sl 1 1 [vI a]] [dI (xErr a)] := by
  have := concT [a] (by simp)
  rw [show limE 0 20000 (vi [a]) = xErr a from limE1 ..] at this; exact this
def cntE (n most : Int) : Int := if n = 0 then 10 else if n > most then 8 else 0
theorem concC (n most : Int) : C5 65 [dI n, dI most] [dI (cntE n most)] := by
  refine con_flat hokE mixed Try.func65 rfl (by show 0 ≤ 400; omega) rfl (by kernel_rfl) (fun caps => ?_)
  show gcC _ _ n most _
  rw [gcC_text]; unfold cntE
  refine bc_beq (fun h => ?_) (fun h => bc_dec (fun h2 => ?_) (fun h2 => ?_))
  · show _ = _; rw [if_pos h]
  · show _ = _; rw [if_neg h, if_pos h2]
  · show _ = _; rw [if_neg h, if_neg h2]
/-- the greatest divisor of both; b is above 0 -/
theorem condv (a b : Int) (_ : -9223372036854775808 ≤ a ∧ a ≤ 9223372036854775807) (hb : 0 < b ∧ b ≤ 9223372036854775807) : C5 85 [dI a, dI b] [dI (Int.gcd a b)] := by
  let inv : Int × Int → Prop := fun x => 0 ≤ x.1 ∧ 0 ≤ x.2 ∧ Int.gcd x.1 x.2 = Int.gcd a b
  let st : Int × Int → Slots × Blocks := fun x => zdv1 x.1 x.2
  refine con_of (L := fun _ s b => ∃ x, inv x ∧ st x = (s, b)) hokE mixed Try.func85 rfl (by show 0 ≤ 400; omega) rfl (ids := [0]) (by kernel_rfl) rfl (fun caps => ?_) (fun id hid => ?_)
  · show gdv _ _ a b _
    rw [gdv_text, bc_n (show b ≠ 0 by omega)]
    have hlt := gcd_step_lt (a := a) (b := b) (by omega)
    have hst := gcd_step a b
    have hw : IntKind.wrap .i64 (0 - a.tmod b) = 0 - a.tmod b := w64 (by omega) (by omega)
    rw [hw]
    refine ⟨(b, if 0 - a.tmod b > a.tmod b then 0 - a.tmod b else a.tmod b), ⟨by show 0 ≤ b; omega, ?_, ?_⟩, rfl⟩
    · show 0 ≤ (if 0 - a.tmod b > a.tmod b then 0 - a.tmod b else a.tmod b)
      split <;> omega
    · show Int.gcd b (if 0 - a.tmod b > a.tmod b then 0 - a.tmod b else a.tmod b) = _
      split
      · have e : Int.gcd b (0 - a.tmod b) = Int.gcd b (a.tmod b) := by
          rw [show (0 : Int) - a.tmod b = -(a.tmod b) by omega, Int.gcd_neg]
        omega
      · omega
  · obtain rfl := List.mem_singleton.1 hid
    refine ⟨Int × Int, st, inv, fun x => x.2.natAbs, ⟨fun s b h => h, by kernel_rfl, ?_⟩⟩
    rintro ⟨x, y⟩ ⟨hx, hy, hg⟩
    simp only at hx hy hg
    show rdv1 _ _ x y _ _ _
    rw [rdv1_text]
    refine bc_dec (fun h => ?_) (fun h => ?_)
    · have hne : y ≠ 0 := by omega
      simp only [bc_n hne, true_and, and_true]
      have hlt := gcd_step_lt (a := x) hne
      have hst := gcd_step x y
      exact ⟨(y, x.tmod y), ⟨hy, Int.tmod_nonneg _ hx, by show Int.gcd y (x.tmod y) = _; omega⟩, hlt, rfl⟩
    · show (if 0 = 0 then _ else _)
      rw [if_pos rfl]
      show ndv2 _ _ x _
      obtain rfl : y = 0 := by omega
      have he := gcd_end x
      rw [if_neg (by omega)] at he
      rw [ndv2_text]
      show [dI _] = [dI _]
      rw [← hg, he]
/-- is a fraction in lowest terms -/
def lowP (n d : Int) : Prop := 0 < d ∧ Int.gcd n d = 1
instance (n d : Int) : Decidable (lowP n d) := by unfold lowP; infer_instance
def I64 (a : Int) : Prop := -9223372036854775808 ≤ a ∧ a ≤ 9223372036854775807
theorem concF (a b c d : Int) (ha : I64 a) (hb : I64 b) (hc : I64 c) (hd : I64 d) : C5 62 [.sl 2 2 [vI a, vI b, vI c, vI d]] [dI (if lowP a b ∧ lowP c d then 0 else 3)] := by
  refine con_walk hokL mixed (u := 8) (by decide) Try.func62 rfl (by show 1 ≤ 400; omega) (fun caps => ?_)
  show gcF _ (caps 500) a b c d _
  rw [gcF_text]
  try simp only [eq_self, true_and, and_true]
  have A1 : At [vI a, vI b, vI c, vI d] 0 2 [vI a, vI b] := ⟨by simp, rfl⟩
  have A2 : At [vI a, vI b, vI c, vI d] 2 2 [vI c, vI d] := ⟨by simp, rfl⟩
  simp only [at2 A1, at2 A2]
  by_cases h1 : 0 < b
  · rw [bc_f (show ¬ b ≤ 0 by omega)]
    refine ⟨_, ⟨condv a b ha ⟨h1, hb.2⟩⟩, bc_bne (fun h2 => ?_) (fun h2 => ?_)⟩
    · show [dI _] = [dI _]
      rw [if_neg (fun h => h2 (by have := h.1.2; omega))]
    · by_cases h3 : 0 < d
      · rw [bc_f (show ¬ d ≤ 0 by omega)]
        refine ⟨_, ⟨condv c d hc ⟨h3, hd.2⟩⟩, bc_bne (fun h4 => ?_) (fun h4 => ?_)⟩
        · show [dI _] = [dI _]
          rw [if_neg (fun h => h4 (by have := h.2.2; omega))]
        · show [dI _] = [dI _]
          rw [if_pos ⟨⟨h1, by omega⟩, h3, by omega⟩]
      · rw [bc_t (show d ≤ 0 by omega)]
        rw [if_neg (fun h => h3 h.2.1)]
  · rw [bc_t (show b ≤ 0 by omega)]
    rw [if_neg (fun h => h1 h.1.1)]
theorem conXE (a : Int) : C5 45 [dI a] [dI (xErr a)] := by
  refine con_flat hokL mixed Try.func45 rfl (by show 0 ≤ 400; omega) rfl (by kernel_rfl) (fun caps => ?_)
  show gXE _ _ a _
  rw [gXE_text]
  by_cases h : 0 ≤ a ∧ a ≤ 20000
  · exact .inl ⟨sayWt h, by rw [xErr, if_pos h]⟩
  · exact .inr ⟨sayWf h, by rw [xErr, if_neg h]⟩
theorem conIl (a b : Int) (ha : I64 a) (hb : I64 b) : C5 22 [.agg [dI a, dI b]] [.val (.bool (decide (lowP a b)))] := by
  refine con_flat hokL mixed Try.func22 rfl (by show 0 ≤ 400; omega) rfl (by kernel_rfl) (fun caps => ?_)
  show gIL _ _ a b _
  rw [gIL_text]
  refine bc_dec (fun h => ?_) (fun h => ?_)
  · refine ⟨_, ⟨conGc a b ha ⟨by omega, hb.2⟩ (fun h0 => by omega)⟩, bc_beq (fun h2 => ?_) (fun h2 => ?_)⟩
    · show _ = _; rw [decide_eq_true (show lowP a b from ⟨h, by omega⟩)]
    · show _ = _; rw [decide_eq_false (show ¬ lowP a b from fun hh => h2 (by have := hh.2; omega))]
  · show _ = _; rw [decide_eq_false (show ¬ lowP a b from fun hh => h hh.1)]
theorem coniG (a b : Int) : C5 75 [.agg [dI a, dI b]] [.val (.bool (decide ((1 ≤ a ∧ a ≤ 900) ∧ b ≤ 900)))] := by
  refine con_flat hokL mixed Try.func75 rfl (by show 0 ≤ 400; omega) rfl (by kernel_rfl) (fun caps => ?_)
  show giG _ _ a b _
  rw [giG_text]
  by_cases h : 1 ≤ a ∧ a ≤ 900
  · refine .inl ⟨sayWt h, bc_dec (fun h2 => ?_) (fun h2 => ?_)⟩
    · show _ = _; rw [decide_eq_true (show (1 ≤ a ∧ a ≤ 900) ∧ b ≤ 900 from ⟨h, h2⟩)]
    · show _ = _; rw [decide_eq_false (show ¬ ((1 ≤ a ∧ a ≤ 900) ∧ b ≤ 900) from fun hh => h2 hh.2)]
  · refine .inr ⟨sayWf h, ?_⟩
    show _ = _; rw [decide_eq_false (show ¬ ((1 ≤ a ∧ a ≤ 900) ∧ b ≤ 900) from fun hh => h hh.1)]
end Go.Proofs.G5l

/- Chapter 4 in data: tables, their values. -/
namespace Go.Abs.MD
open Go Go.Abs
theorem xErr0 {a : Int} : xErr a = 0 ↔ 0 ≤ a ∧ a ≤ 20000 := by unfold xErr; split <;> simp_all
theorem vErr0 {a : Int} : vErr a = 0 ↔ 1 ≤ a ∧ a ≤ 100000 := by unfold vErr; split <;> simp_all
theorem xErr_or (a : Int) : xErr a = 0 ∨ xErr a = 2 := by unfold xErr; split <;> simp
theorem vErr_or (a : Int) : vErr a = 0 ∨ vErr a = 2 := by unfold vErr; split <;> simp
theorem tchk_cons (p : Int × Int) (r : List (Int × Int)) (q : Option (Int × Int)) (i : Int) : tchk (p :: r) q i = if xErr p.1 = 0 ∧ vErr p.2 = 0 then (match q with
    | none => tchk r (some p) (i + 1)
    | some q => if p.1 ≤ q.1 then (i, 9) else tchk r (some p) (i + 1)) else (i, 2) := by cases q <;> rfl
abbrev dTab (ps : List (Int × Int)) : D := .sl ps.length 2 (vp ps)
theorem prs_vp : ∀ l : List (Int × Int), prs l = vp l
  | [] => rfl
  | p :: r => by rw [prs, vp, prs_vp r]
structure VT (ps : List (Int × Int)) : Prop where
  some : 0 < ps.length
  few : ps.length ≤ 12
  lo : ∀ p ∈ ps, 0 ≤ p.1 ∧ p.1 ≤ 20000
  val : ∀ p ∈ ps, 1 ≤ p.2 ∧ p.2 ≤ 100000
  up : ∀ (j : Nat) (h : j + 1 < ps.length), ps[j].1 < ps[j + 1].1
theorem tchk_ok : ∀ (l : List (Int × Int)) (q : Option (Int × Int)) (i : Int), (tchk l q i).2 = 0 → (∀ p ∈ l, 0 ≤ p.1 ∧ p.1 ≤ 20000) ∧ (∀ p ∈ l, 1 ≤ p.2 ∧ p.2 ≤ 100000) ∧ (∀ p, q = some p → ∀ r l', l = r :: l' → p.1 < r.1) ∧ ∀ (j : Nat) (h : j + 1 < l.length), l[j].1 < l[j + 1].1
  | [], q, i, _ => ⟨by simp, by simp, by simp, by simp⟩
  | p :: r, q, i, he => by
    rw [tchk_cons] at he
    by_cases h : xErr p.1 = 0 ∧ vErr p.2 = 0
    · rw [if_pos h] at he
      have hp := xErr0.1 h.1
      have hv := vErr0.1 h.2
      have rest : (tchk r (some p) (i + 1)).2 = 0 → (∀ p', q = some p' → p'.1 < p.1) → (∀ p' ∈ p :: r, 0 ≤ p'.1 ∧ p'.1 ≤ 20000) ∧ (∀ p' ∈ p :: r, 1 ≤ p'.2 ∧ p'.2 ≤ 100000) ∧ (∀ p', q = some p' → ∀ r' l', p :: r = r' :: l' → p'.1 < r'.1) ∧ ∀ (j : Nat) (h : j + 1 < (p :: r).length), (p :: r)[j].1 < (p :: r)[j + 1].1 := by
        intro h1 hq
        obtain ⟨h2, hv2, h3, h4⟩ := tchk_ok r _ _ h1
        refine ⟨?_, ?_, ?_, ?_⟩
        · intro p' hp'
          rcases List.mem_cons.1 hp' with rfl | h
          · exact hp
          · exact h2 p' h
        · intro p' hp'
          rcases List.mem_cons.1 hp' with rfl | h
          · exact hv
          · exact hv2 p' h
        · intro p' hp' r' l' e
          obtain ⟨rfl, rfl⟩ := List.cons.inj e
          exact hq p' hp'
        · intro j hj
          cases j with
          | zero =>
            cases r with
            | nil => simp at hj
            | cons r0 r1 => exact h3 p rfl r0 r1 rfl
          | succ j => exact h4 j (by simpa using hj)
      cases q with
      | none => exact rest he (by simp)
      | some q =>
        simp only at he
        split at he
        · simp at he
        · exact rest he (fun p' e => by obtain rfl := Option.some.inj e; omega)
    · rw [if_neg h] at he; simp at he
theorem tab_ok {ps : List (Int × Int)} (h : (tab ps).2 = 0) : VT ps := by
  unfold tab at h
  split at h
  · simp at h
  · split at h
    · simp at h
    · obtain ⟨h1, h2, _, h3⟩ := tchk_ok ps none 0 h
      exact ⟨by omega, by omega, h1, h2, h3⟩
theorem valV_le {ps : List (Int × Int)} (h : 0 < ps.length) {x : Int} (hx : x ≤ ps[0].1) : valV x ps = ps[0].2 := by
  cases ps with
  | nil => simp at h
  | cons p r => exact if_pos hx
theorem valV_gt {ps : List (Int × Int)} (h : 0 < ps.length) {x : Int} (hx : ¬ x ≤ ps[0].1) : valV x ps = valGo x ps[0] (ps.drop 1) := by
  cases ps with
  | nil => simp at h
  | cons p r => exact if_neg hx
/-- what a value between two knots lies between -/
theorem line_bounds {p q : Int × Int} {x : Int} (h1 : p.1 < q.1) (h2 : p.1 ≤ x) (h3 : x ≤ q.1) {lo hi : Int} (hp : lo ≤ p.2 ∧ p.2 ≤ hi) (hq : lo ≤ q.2 ∧ q.2 ≤ hi) : lo ≤ line p q x ∧ line p q x ≤ hi := by
  unfold line
  have e : q.1 - p.1 = (q.1 - x) + (x - p.1) := by omega
  have a1 : lo * (q.1 - x) ≤ p.2 * (q.1 - x) := Int.mul_le_mul_of_nonneg_right hp.1 (by omega)
  have a2 : lo * (x - p.1) ≤ q.2 * (x - p.1) := Int.mul_le_mul_of_nonneg_right hq.1 (by omega)
  have b1 : p.2 * (q.1 - x) ≤ hi * (q.1 - x) := Int.mul_le_mul_of_nonneg_right hp.2 (by omega)
  have b2 : q.2 * (x - p.1) ≤ hi * (x - p.1) := Int.mul_le_mul_of_nonneg_right hq.2 (by omega)
  refine ⟨(Int.le_ediv_iff_mul_le (by omega)).2 ?_, Int.ediv_le_of_le_mul (by omega) ?_⟩
  · rw [e, Int.mul_add]; omega
  · rw [e, Int.mul_add]; omega
end Go.Abs.MD

/- Chapter 4, losses: tables and their values, in data. -/
namespace Go.Proofs.G5l
open Go Go.Abs Go.Proofs Go.Abs.MD
set_option maxRecDepth 100000
theorem lim1 {lo hi a : Int} : Says limC 0 [dI lo, dI hi, .sl 1 1 [vI a]] [dI (if lo ≤ a ∧ a ≤ hi then 0 else 2)] := ⟨limC_of (limE1 lo hi a).symm⟩
abbrev tR (ps : List (Int × Int)) : List D := [dI (tab ps).1, dI (tab ps).2]
theorem tR_eq {ps : List (Int × Int)} {x : Int × Int} (h : tab ps = x) : tR ps = [dI x.1, dI x.2] := by subst h; rfl
theorem conKT (ps : List (Int × Int)) (hlen : ps.length < 1000000000) : C5 50 [dTab ps] (tR ps) := by
  let inv : Nat × Nat × Nat → Prop := fun x => x.1 ≤ ps.length ∧ tab ps = tchk (ps.drop x.1) (prev ps x.1) x.1
  let st : Nat × Nat × Nat → Slots × Blocks := fun x => zKT1 ps.length x.2.1 ps.length x.2.2 ps.length x.1 (vp ps)
  refine con_of (L := fun _ s b => ∃ x, inv x ∧ st x = (s, b)) hokL mixed Try.func50 rfl (by show 1 ≤ 400; omega) rfl (ids := [0]) (by kernel_rfl) rfl (fun caps => ?_) (fun id hid => ?_)
  · show gKT _ _ ps.length (caps 500) (vp ps) _
    rw [gKT_text]
    refine ⟨_, ⟨concC _ _⟩, ?_⟩
    unfold cntE
    by_cases h0 : (ps.length : Int) = 0
    · rw [if_pos h0, bc_n (by decide)]
      show _ = tR ps
      rw [tR_eq (show tab ps = (0, 10) by rw [tab, if_pos (by omega)])]
    · rw [if_neg h0]
      by_cases h1 : (ps.length : Int) > 12
      · rw [if_pos h1, bc_n (by decide)]
        show _ = tR ps
        rw [tR_eq (show tab ps = (0, 8) by rw [tab, if_neg (by omega), if_pos (by omega)])]
      · rw [if_neg h1, bc_nf]
        exact ⟨(0, caps 500, caps 500), ⟨Nat.zero_le _, by rw [tab, if_neg (by omega), if_neg (by omega)]; rfl⟩, rfl⟩
  · obtain rfl := List.mem_singleton.1 hid
    refine ⟨Nat × Nat × Nat, st, inv, fun x => ps.length - x.1, ⟨fun s b h => h, by kernel_rfl, ?_⟩⟩
    rintro ⟨i, c1, c2⟩ ⟨hi, hr⟩
    simp only at hi hr
    show rKT1 _ _ ps.length c1 ps.length c2 ps.length i (vp ps) _ _ _
    rw [rKT1_text]
    refine bc_dec (fun h => ?_) (fun h => ?_)
    · have hi' : i < ps.length := by omega
      have i0 : (0 : Int) ≤ (i : Int) := by omega
      rw [List.drop_eq_getElem_cons hi', tchk_cons] at hr
      have cF := conFE [xErr ps[i].1, vErr ps[i].2] (by simp)
      rw [fst0_two] at cF
      simp only [bc_t h, bc_t i0, Int.toNat_natCast, at2 (vp_two ps i hi'), eq_self, true_and, and_true]
      refine ⟨xErr ps[i].1, ⟨concT1 _⟩, ?_⟩
      try simp only [eq_self, true_and, and_true]
      refine ⟨vErr ps[i].2, lim1, ?_⟩
      try simp only [eq_self, true_and, and_true]
      refine ⟨_, ⟨cF⟩, ?_⟩
      by_cases hx : xErr ps[i].1 = 0
      · by_cases hv : vErr ps[i].2 = 0
        · rw [if_pos ⟨hx, hv⟩] at hr
          rw [if_pos hx, hv, bc_nf]
          have next : ∀ hq : tab ps = tchk (ps.drop (i + 1)) (some ps[i]) (i + 1), ∃ y, inv y ∧ ps.length - y.1 < ps.length - i ∧ st y = (zKT1 ps.length c1 ps.length c2 ps.length (IntKind.wrap .i64 ((i : Int) + 1)) (vp ps)) := fun hq =>
            ⟨(i + 1, c1, c2), ⟨hi', by rw [hq]; simp only [prev, List.getElem?_eq_getElem hi']; rfl⟩, by show ps.length - (i + 1) < ps.length - i; omega, by rw [w64 (by omega) (by omega)]; rfl⟩
          cases i with
          | zero =>
            simp only [bc_f (show ¬ ((0 : Nat) : Int) > 0 by omega), true_and]
            exact next hr
          | succ j =>
            have hj : j < ps.length := by omega
            have hw : IntKind.wrap .i64 (((j + 1 : Nat) : Int) - 1) = (j : Int) := by rw [w64 (by omega) (by omega)]; omega
            have hp : prev ps (j + 1) = some ps[j] := List.getElem?_eq_getElem hj
            simp only [hp] at hr
            have hz0 : (0 : Int) ≤ (j : Int) := by omega
            have hz1 : (j : Int) < (ps.length : Int) := by omega
            have hz2 : ((j + 1 : Nat) : Int) > 0 := by omega
            simp only [hw, bc_t hz0, bc_t hz1, bc_t hz2, Int.toNat_natCast, at1 (vp_one ps j hj), eq_self, and_true]
            refine bc_dec (fun h7 => ?_) (fun h7 => ?_)
            · simp only [bc_t h7, true_and]
              rw [if_pos h7] at hr
              show _ = tR ps
              rw [tR_eq hr]
            · simp only [bc_f h7, true_and]
              rw [if_neg h7] at hr
              exact next hr
        · rw [if_pos hx, bc_n hv]
          rw [if_neg (fun hh => hv hh.2)] at hr
          rcases vErr_or ps[i].2 with h9 | h9
          · exact absurd h9 hv
          · rw [h9]; show _ = tR ps; rw [tR_eq hr]
      · rw [if_neg hx, bc_n hx]
        rw [if_neg (fun hh => hx hh.1)] at hr
        rcases xErr_or ps[i].1 with h9 | h9
        · exact absurd h9 hx
        · rw [h9]; show _ = tR ps; rw [tR_eq hr]
    · show (if 0 = 0 then _ else _)
      rw [if_pos rfl]
      show nKT2 _ _ _
      rw [nKT2_text]
      have : i = ps.length := by omega
      rw [this, List.drop_length] at hr
      show _ = tR ps
      rw [tR_eq hr]; rfl
theorem conRK (ps : List (Int × Int)) (hlen : ps.length < 1000000000) : C5 74 [dTab ps] (tR ps) := by
  let inv : Nat × Nat → Prop := fun x => x.1 ≤ ps.length ∧ tab ps = tchk (ps.drop x.1) (prev ps x.1) x.1
  let st : Nat × Nat → Slots × Blocks := fun x => zRK1 ps.length x.2 x.1 (vp ps)
  refine con_of (L := fun _ s b => ∃ x, inv x ∧ st x = (s, b)) hokL mixed Try.func74 rfl (by show 1 ≤ 400; omega) rfl (ids := [0]) (by kernel_rfl) rfl (fun caps => ?_) (fun id hid => ?_)
  · show gRK _ _ ps.length (caps 500) (vp ps) _
    rw [gRK_text]
    refine bc_beq (fun h => ?_) (fun h0 => bc_dec (fun h => ?_) (fun h5 => ?_))
    · show _ = tR ps
      rw [tR_eq (show tab ps = (0, 10) by rw [tab, if_pos (by omega)])]
    · show _ = tR ps
      rw [tR_eq (show tab ps = (0, 8) by rw [tab, if_neg (by omega), if_pos (by omega)])]
    · exact ⟨(0, caps 500), ⟨Nat.zero_le _, by rw [tab, if_neg (by omega), if_neg (by omega)]; rfl⟩, rfl⟩
  · obtain rfl := List.mem_singleton.1 hid
    refine ⟨Nat × Nat, st, inv, fun x => ps.length - x.1, ⟨fun s b h => h, by kernel_rfl, ?_⟩⟩
    rintro ⟨i, c1⟩ ⟨hi, hr⟩
    simp only at hi hr
    show rRK1 _ _ ps.length c1 i (vp ps) _ _ _
    rw [rRK1_text]
    refine bc_dec (fun h => ?_) (fun h => ?_)
    · have hi' : i < ps.length := by omega
      have i0 : (0 : Int) ≤ (i : Int) := by omega
      rw [List.drop_eq_getElem_cons hi', tchk_cons] at hr
      simp only [bc_t h, bc_t i0, Int.toNat_natCast, at1 (vp_one ps i hi'), at1 (vp_sndA ps i hi' 500), eq_self, true_and, and_true]
      refine ⟨xErr ps[i].1, ⟨conXE _⟩, bc_bne (fun hx => ?_) (fun hx => ?_)⟩
      · rw [if_neg (fun hh => hx hh.1)] at hr
        show _ = tR ps; rw [tR_eq hr]
      · by_cases hv : 1 ≤ ps[i].2 ∧ ps[i].2 ≤ 100000
        · rw [if_pos ⟨hx, vErr0.2 hv⟩] at hr
          refine .inl ⟨sayWt hv, ?_⟩
          have next : ∀ hq : tab ps = tchk (ps.drop (i + 1)) (some ps[i]) (i + 1), ∃ y, inv y ∧ ps.length - y.1 < ps.length - i ∧ st y = (zRK1 ps.length c1 (IntKind.wrap .i64 ((i : Int) + 1)) (vp ps)) := fun hq =>
            ⟨(i + 1, c1), ⟨hi', by rw [hq]; simp only [prev, List.getElem?_eq_getElem hi']; rfl⟩, by show ps.length - (i + 1) < ps.length - i; omega, by rw [w64 (by omega) (by omega)]; rfl⟩
          cases i with
          | zero =>
            simp only [bc_f (show ¬ ((0 : Nat) : Int) > 0 by omega), true_and]
            exact next hr
          | succ j =>
            have hj : j < ps.length := by omega
            have hw : IntKind.wrap .i64 (((j + 1 : Nat) : Int) - 1) = (j : Int) := by rw [w64 (by omega) (by omega)]; omega
            have hp : prev ps (j + 1) = some ps[j] := List.getElem?_eq_getElem hj
            simp only [hp] at hr
            have hz0 : (0 : Int) ≤ (j : Int) := by omega
            have hz1 : (j : Int) < (ps.length : Int) := by omega
            have hz2 : ((j + 1 : Nat) : Int) > 0 := by omega
            simp only [hw, bc_t hz0, bc_t hz1, bc_t hz2, Int.toNat_natCast, at1 (vp_one ps j hj), eq_self, and_true]
            refine bc_dec (fun h7 => ?_) (fun h7 => ?_)
            · simp only [bc_t h7, true_and]
              rw [if_pos h7] at hr
              show _ = tR ps
              rw [tR_eq hr]
            · simp only [bc_f h7, true_and]
              rw [if_neg h7] at hr
              exact next hr
        · rw [if_neg (fun hh => hv (vErr0.1 hh.2))] at hr
          refine .inr ⟨sayWf hv, ?_⟩
          show _ = tR ps; rw [tR_eq hr]
    · show (if 0 = 0 then _ else _)
      rw [if_pos rfl]
      show nRK2 _ _ _
      rw [nRK2_text]
      have : i = ps.length := by omega
      rw [this, List.drop_length] at hr
      show _ = tR ps
      rw [tR_eq hr]; rfl
theorem conRKn : C5 74 [.nil] [dI 0, dI 10] := by
  refine con_of (L := fun _ _ _ => False) hokL mixed Try.func74 rfl (by show 0 ≤ 400; omega) rfl (ids := [0]) (by kernel_rfl) rfl (fun caps => ?_) (fun id hid => ?_)
  · show gRKn _ _ _
    rw [gRKn_text]
  · obtain rfl := List.mem_singleton.1 hid
    exact ⟨Unit, fun _ => (default, []), fun _ => False, fun _ => 0, ⟨fun s b h => h.elim, by kernel_rfl, fun x h => h.elim⟩⟩
end Go.Proofs.G5l

/- Chapter 4, losses: values of tables, in data. -/
namespace Go.Proofs.G5l
open Go Go.Abs Go.Proofs Go.Abs.MD
set_option maxRecDepth 100000
theorem vt_in {ps : List (Int × Int)} (hv : VT ps) (j : Nat) (hj : j < ps.length) : (0 ≤ ps[j].1 ∧ ps[j].1 ≤ 20000) ∧ 1 ≤ ps[j].2 ∧ ps[j].2 ≤ 100000 := ⟨hv.lo _ (List.getElem_mem hj), hv.val _ (List.getElem_mem hj)⟩
theorem mul_bd {a b A B : Int} (ha : 0 ≤ a ∧ a ≤ A) (hb : 0 ≤ b ∧ b ≤ B) : 0 ≤ a * b ∧ a * b ≤ A * B :=
  ⟨Int.mul_nonneg ha.1 hb.1, Int.mul_le_mul ha.2 hb.2 hb.1 (by omega)⟩
theorem line_in {p q : Int × Int} (hp : (0 ≤ p.1 ∧ p.1 ≤ 20000) ∧ 1 ≤ p.2 ∧ p.2 ≤ 100000) (hq : (0 ≤ q.1 ∧ q.1 ≤ 20000) ∧ 1 ≤ q.2 ∧ q.2 ≤ 100000) (h : p.1 < q.1) {x : Int} (h1 : p.1 ≤ x) (h2 : x ≤ q.1) : 1 ≤ line p q x ∧ line p q x ≤ 100000 := line_bounds h h1 h2 hp.2 hq.2
theorem line_w {p q : Int × Int} (hp : (0 ≤ p.1 ∧ p.1 ≤ 20000) ∧ 1 ≤ p.2 ∧ p.2 ≤ 100000) (hq : (0 ≤ q.1 ∧ q.1 ≤ 20000) ∧ 1 ≤ q.2 ∧ q.2 ≤ 100000) (h : p.1 < q.1) {x : Int} (h1 : p.1 ≤ x) (h2 : x ≤ q.1) :
    IntKind.wrap .i64 (Int.tdiv (IntKind.wrap .i64 (IntKind.wrap .i64 (p.2 * IntKind.wrap .i64 (q.1 - x)) + IntKind.wrap .i64 (q.2 * IntKind.wrap .i64 (x - p.1)))) (IntKind.wrap .i64 (q.1 - p.1))) = line p q x := by
  have hl := line_in hp hq h h1 h2
  have a := mul_bd (a := p.2) (b := q.1 - x) (A := 100000) (B := 20000) (by omega) (by omega)
  have b := mul_bd (a := q.2) (b := x - p.1) (A := 100000) (B := 20000) (by omega) (by omega)
  rw [w64 (z := q.1 - x) (by omega) (by omega), w64 (z := x - p.1) (by omega) (by omega), w64 (z := q.1 - p.1) (by omega) (by omega), w64 (z := p.2 * (q.1 - x)) (by omega) (by omega), w64 (z := q.2 * (x - p.1)) (by omega) (by omega), w64 (z := p.2 * (q.1 - x) + q.2 * (x - p.1)) (by omega) (by omega), tdiv_nn (by omega)]
  unfold line at hl ⊢
  rw [w64 (by omega) (by omega)]
theorem convI {ps : List (Int × Int)} (hv : VT ps) (x : Int) : C5 52 [dTab ps, dI x] [dI (valV x ps)] := by
  have hpos := hv.some
  have hl := hv.few
  let at_ : Nat → Prop := fun i => match i with
    | 0 => True
    | j + 1 => ∀ h : j < ps.length, ps[j].1 < x ∧ valV x ps = valGo x ps[j] (ps.drop (j + 1))
  let inv : Nat × Nat → Prop := fun y => y.1 ≤ ps.length ∧ at_ y.1
  let st : Nat × Nat → Slots × Blocks := fun y => zvI1 ps.length y.2 x y.1 (vp ps)
  refine con_of (L := fun _ s b => ∃ x, inv x ∧ st x = (s, b)) hokL mixed Try.func52 rfl (by show 1 ≤ 400; omega) rfl (ids := [0]) (by kernel_rfl) rfl (fun caps => ?_) (fun id hid => ?_)
  · show gvI _ _ ps.length (caps 500) (vp ps) x _
    rw [gvI_text]
    exact ⟨(0, caps 500), ⟨by simp, trivial⟩, rfl⟩
  · obtain rfl := List.mem_singleton.1 hid
    refine ⟨Nat × Nat, st, inv, fun x => ps.length - x.1, ⟨fun s b h => h, by kernel_rfl, ?_⟩⟩
    rintro ⟨i, cap⟩ ⟨hi, hr⟩
    simp only at hi hr
    have out : (∀ h : i < ps.length, x ≤ ps[i].1) → nvI2 C5 (fun _ s b => ∃ x, inv x ∧ st x = (s, b)) ps.length cap x i (vp ps) (· = [dI (valV x ps)]) := by
      intro hx
      rw [nvI2_text]
      cases i with
      | zero =>
        refine bc_true (by simp) (bc_yes (by omega) ⟨_, vp_snd ps 0 hpos, ?_⟩)
        show [dI _] = [dI _]
        rw [valV_le hpos (hx hpos)]
      | succ j =>
        have hj : j < ps.length := by omega
        obtain ⟨hxj, hr⟩ := hr hj
        have hw : IntKind.wrap .i64 (((j + 1 : Nat) : Int) - 1) = (j : Int) := by rw [w64 (by omega) (by omega)]; omega
        have hz0 : (0 : Int) ≤ (j : Int) := by omega
        have hz1 : (j : Int) < (ps.length : Int) := by omega
        simp only [hw]
        refine bc_false (by simp; omega) (bc_beq (fun he => ?_) (fun hne => ?_))
        · refine bc_yes hz0 (bc_yes hz1 ⟨_, vp_snd ps j hj, ?_⟩)
          rw [List.drop_eq_nil_of_le (by omega)] at hr
          show [dI _] = [dI _]
          rw [hr]; rfl
        · have hi' : j + 1 < ps.length := by omega
          have hy0 : (0 : Int) ≤ ((j + 1 : Nat) : Int) := by omega
          have hy1 : ((j + 1 : Nat) : Int) < (ps.length : Int) := by omega
          rw [List.drop_eq_getElem_cons hi', valGo, if_pos (hx hi')] at hr
          have hf := hv.up j hi'
          have hd : IntKind.wrap .i64 (ps[j + 1].1 - ps[j].1) ≠ 0 := by
            have h1 := (vt_in hv j hj).1
            have h2 := (vt_in hv (j + 1) hi').1
            rw [w64 (by omega) (by omega)]
            omega
          refine bc_yes hz0 (bc_yes hz1 ⟨_, _, vp_two ps j hj, bc_yes hy0 (bc_yes hy1 ⟨_, _, vp_two ps (j + 1) hi', ?_⟩)⟩)
          simp only [load2 (vp_two ps j hj), load2 (vp_two ps (j + 1) hi'), Int.toNat_natCast, bc_t hz0, bc_t hz1, bc_t hy0, bc_t hy1, bc_n hd, true_and]
          show [dI _] = [dI _]
          rw [hr, line_w (vt_in hv j hj) (vt_in hv (j + 1) hi') hf (by omega) (hx hi')]
    show rvI1 _ _ ps.length cap x i (vp ps) _ _ _
    rw [rvI1_text]
    refine bc_dec (fun h => ?_) (fun h => ?_)
    · have hi' : i < ps.length := by omega
      refine bc_yes (by omega) (bc_yes h ⟨_, vp_one ps i hi', bc_dec (fun hx => ?_) (fun hx => ?_)⟩)
      · refine ⟨(i + 1, cap), ⟨by show i + 1 ≤ ps.length; omega, ?_⟩, by show ps.length - (i + 1) < ps.length - i; omega, ?_⟩
        · intro _
          refine ⟨hx, ?_⟩
          cases i with
          | zero => exact valV_gt hpos (by omega)
          | succ j =>
            have hr := (hr (show j < ps.length by omega)).2
            rw [List.drop_eq_getElem_cons hi', valGo, if_neg (by omega)] at hr
            exact hr
        · rw [w64 (by omega) (by omega)]; rfl
      · show (if 0 = 0 then _ else _)
        rw [if_pos rfl]
        exact out (fun _ => by omega)
    · show (if 0 = 0 then _ else _)
      rw [if_pos rfl]
      exact out (fun h' => by omega)
/-- values lie in their range -/
theorem valGo_in : ∀ (l : List (Int × Int)) (p : Int × Int) (x : Int), (∀ q ∈ p :: l, (0 ≤ q.1 ∧ q.1 ≤ 20000) ∧ 1 ≤ q.2 ∧ q.2 ≤ 100000) → (∀ (j : Nat) (h : j + 1 < (p :: l).length), ((p :: l)[j]'(by omega)).1 < ((p :: l)[j + 1]).1) → p.1 ≤ x → 1 ≤ valGo x p l ∧ valGo x p l ≤ 100000
  | [], p, x, h, _, _ => (h p (List.mem_cons_self ..)).2
  | q :: r, p, x, h, hu, hx => by
    simp only [valGo]
    have hp := h p (List.mem_cons_self ..)
    have hq := h q (List.mem_cons_of_mem _ (List.mem_cons_self ..))
    have hpq : p.1 < q.1 := hu 0 (by simp)
    by_cases h1 : x ≤ q.1
    · rw [if_pos h1]; exact line_in hp hq hpq hx h1
    · rw [if_neg h1]
      exact valGo_in r q x (fun z hz => h z (List.mem_cons_of_mem _ hz)) (fun j hj => hu (j + 1) (by simpa using hj)) (by omega)
theorem valV_in {ps : List (Int × Int)} (hv : VT ps) (x : Int) : 1 ≤ valV x ps ∧ valV x ps ≤ 100000 := by
  cases ps with
  | nil => exact absurd hv.some (by simp)
  | cons p r =>
    simp only [valV]
    have hall : ∀ q ∈ p :: r, (0 ≤ q.1 ∧ q.1 ≤ 20000) ∧ 1 ≤ q.2 ∧ q.2 ≤ 100000 := fun q hq => ⟨hv.lo q hq, hv.val q hq⟩
    by_cases h : x ≤ p.1
    · rw [if_pos h]; exact (hall p (List.mem_cons_self ..)).2
    · rw [if_neg h]; exact valGo_in r p x hall hv.up (by omega)
end Go.Proofs.G5l

/- Chapter 4, losses: rules, corrections and coils, in data. -/
namespace Go.Proofs.G5l
open Go Go.Abs Go.Proofs Go.Abs.MD Go.Str
set_option maxRecDepth 100000
theorem fst0_three (a b c : Int) : fst0 [a, b, c] = if a = 0 then (if b = 0 then c else b) else a := by
  simp only [fst0]; repeat' split
  all_goals first | rfl | omega
abbrev dRu (T : List (Int × Int)) (a b c d e : Int) : D := .agg [.sl T.length 2 (vp T), dI a, dI b, dI c, dI d, dI e]
abbrev dRn (a b c d e : Int) : D := .agg [.nil, dI a, dI b, dI c, dI d, dI e]
abbrev gPs (a b c d e : Int) : Prop := ((1 ≤ a ∧ a ≤ 900) ∧ 1 ≤ b ∧ b ≤ 900) ∧ ((1 ≤ c ∧ c ≤ 900) ∧ 1 ≤ d ∧ d ≤ 900) ∧ 0 ≤ e ∧ e ≤ 900
/-- the index and the error of rules -/
def rulR (T : List (Int × Int)) (a b c d e : Int) : Int × Int := if (tab T).2 ≠ 0 then tab T else if lowP a b ∧ lowP c d then (if gPs a b c d e then (0, 0) else (0, 2)) else (0, 3)
theorem rulR_eq {T : List (Int × Int)} {a b c d e : Int} (h : (tab T).2 = 0) : rulR T a b c d e = if lowP a b ∧ lowP c d then (if gPs a b c d e then (0, 0) else (0, 2)) else (0, 3) := if_neg (fun hh => hh h)
abbrev oP (x : Int × Int) : List D := [dI x.1, dI x.2]
theorem rul_ok {T : List (Int × Int)} {a b c d e : Int} (h : (rulR T a b c d e).2 = 0) : RulOK T a b c d e ∧ lowP a b ∧ lowP c d := by
  unfold rulR at h
  split at h
  · rename_i h1; exact absurd h h1
  · rename_i h1
    split at h
    · rename_i h2
      split at h
      · rename_i h3; exact ⟨⟨by omega, h3.1.1, h3.1.2, h3.2.1.1, h3.2.1.2, h3.2.2⟩, h2⟩
      · exact absurd h (by decide)
    · exact absurd h (by decide)
structure Nums (a b c d : Int) : Prop where
  na : I64 a
  nb : I64 b
  nc : I64 c
  nd : I64 d
theorem conKR (T : List (Int × Int)) (hl : T.length < 1000000000) {a b c d : Int} (e : Int) (hn : Nums a b c d) : C5 33 [dRu T a b c d e] (oP (rulR T a b c d e)) := by
  refine con_flat hokL mixed Try.func33 rfl (by show 1 ≤ 400; omega) rfl (by kernel_rfl) (fun caps => ?_)
  show gKR _ _ T.length (caps 500) (vp T) a b c d e _
  rw [gKR_text]
  simp only [vp_whole, bc_t (v2le T), eq_self, true_and, and_true]
  refine ⟨_, _, ⟨conKT T hl⟩, bc_bne (fun h => ?_) (fun h => ?_)⟩
  · show _ = oP _; rw [rulR, if_pos h]
  · refine ⟨_, ⟨concF a b c d hn.na hn.nb hn.nc hn.nd⟩, ?_⟩
    try simp only [eq_self, true_and, and_true]
    refine ⟨_, ⟨limC_of (limE4 1 900 a b c d).symm⟩, ?_⟩
    try simp only [eq_self, true_and, and_true]
    refine ⟨_, ⟨limC_of (limE1 0 900 e).symm⟩, ?_⟩
    try simp only [eq_self, true_and, and_true]
    refine ⟨_, ⟨conFE [if lowP a b ∧ lowP c d then 0 else 3, if (1 ≤ a ∧ a ≤ 900) ∧ (1 ≤ b ∧ b ≤ 900) ∧ (1 ≤ c ∧ c ≤ 900) ∧ 1 ≤ d ∧ d ≤ 900 then 0 else 2, if 0 ≤ e ∧ e ≤ 900 then 0 else 2] (by simp)⟩, ?_⟩
    show [dI 0, dI _] = oP _
    rw [fst0_three, rulR_eq h]
    by_cases h1 : lowP a b ∧ lowP c d
    · have k1 : (if lowP a b ∧ lowP c d then (0 : Int) else 3) = 0 := if_pos h1
      rw [k1, if_pos rfl, if_pos h1]
      by_cases h2 : gPs a b c d e
      · have k2 : (if (1 ≤ a ∧ a ≤ 900) ∧ (1 ≤ b ∧ b ≤ 900) ∧ (1 ≤ c ∧ c ≤ 900) ∧ 1 ≤ d ∧ d ≤ 900 then (0 : Int) else 2) = 0 := if_pos ⟨h2.1.1, h2.1.2, h2.2.1.1, h2.2.1.2⟩
        have k3 : (if 0 ≤ e ∧ e ≤ 900 then (0 : Int) else 2) = 0 := if_pos h2.2.2
        rw [k2, k3, if_pos rfl, if_pos h2]
      · rw [if_neg h2]
        by_cases h3 : (1 ≤ a ∧ a ≤ 900) ∧ (1 ≤ b ∧ b ≤ 900) ∧ (1 ≤ c ∧ c ≤ 900) ∧ 1 ≤ d ∧ d ≤ 900
        · have k2 : (if (1 ≤ a ∧ a ≤ 900) ∧ (1 ≤ b ∧ b ≤ 900) ∧ (1 ≤ c ∧ c ≤ 900) ∧ 1 ≤ d ∧ d ≤ 900 then (0 : Int) else 2) = 0 := if_pos h3
          have k3 : (if 0 ≤ e ∧ e ≤ 900 then (0 : Int) else 2) = 2 := if_neg (fun hh => h2 ⟨⟨h3.1, h3.2.1⟩, ⟨h3.2.2.1, h3.2.2.2⟩, hh⟩)
          rw [k2, k3, if_pos rfl]
        · have k2 : (if (1 ≤ a ∧ a ≤ 900) ∧ (1 ≤ b ∧ b ≤ 900) ∧ (1 ≤ c ∧ c ≤ 900) ∧ 1 ≤ d ∧ d ≤ 900 then (0 : Int) else 2) = 2 := if_neg h3
          rw [k2, if_neg (by decide)]
    · have k1 : (if lowP a b ∧ lowP c d then (0 : Int) else 3) = 3 := if_neg h1
      rw [k1, if_neg (by decide), if_neg h1]
theorem sayB {f : FuncId} {args : List D} {P : Prop} [Decidable P] {A B : Prop} (h : C5 f args [.val (.bool (decide P))]) (h1 : P → A) (h2 : ¬ P → B) : (Says C5 f args [.val (.bool true)] ∧ A) ∨ (Says C5 f args [.val (.bool false)] ∧ B) := by
  by_cases hp : P
  · rw [decide_eq_true hp] at h; exact .inl ⟨⟨h⟩, h1 hp⟩
  · rw [decide_eq_false hp] at h; exact .inr ⟨⟨h⟩, h2 hp⟩
theorem conRR (T : List (Int × Int)) (hl : T.length < 1000000000) {a b c d : Int} (e : Int) (hn : Nums a b c d) : C5 43 [dRu T a b c d e] (oP (rulR T a b c d e)) := by
  refine con_flat hokL mixed Try.func43 rfl (by show 1 ≤ 400; omega) rfl (by kernel_rfl) (fun caps => ?_)
  show gRR _ _ T.length (caps 500) (vp T) a b c d e _
  rw [gRR_text]
  simp only [vp_whole, bc_t (v2le T)]
  refine ⟨_, _, ⟨conRK T hl⟩, bc_bne (fun h => ?_) (fun h => ?_)⟩
  · show _ = oP _; rw [rulR, if_pos h]
  · have e3 : ¬ (lowP a b ∧ lowP c d) → [dI 0, dI 3] = oP (rulR T a b c d e) := fun hh => by rw [rulR_eq h, if_neg hh]
    refine sayB (conIl a b hn.na hn.nb) (fun p1 => sayB (conIl c d hn.nc hn.nd) (fun p2 => ?_) (fun p2 => e3 (fun hh => p2 hh.2))) (fun p1 => e3 (fun hh => p1 hh.1))
    have e2 : ¬ gPs a b c d e → [dI 0, dI 2] = oP (rulR T a b c d e) := fun hh => by rw [rulR_eq h, if_pos ⟨p1, p2⟩, if_neg hh]
    refine sayB (coniG a b) (fun p3 => sayB (coniG c d) (fun p4 => ?_) (fun p4 => e2 (fun hh => p4 ⟨hh.2.1.1, hh.2.1.2.2⟩))) (fun p3 => e2 (fun hh => p3 ⟨hh.1.1, hh.1.2.2⟩))
    refine sayB (conWi e 0 900) (fun p5 => ?_) (fun p5 => e2 (fun hh => p5 hh.2.2))
    show _ = oP _
    have hb := p1.1
    have hd := p2.1
    rw [rulR_eq h, if_pos ⟨p1, p2⟩, if_pos ⟨⟨p3.1, by omega, p3.2⟩, ⟨p4.1, by omega, p4.2⟩, p5⟩]
theorem conRRn (a b c d e : Int) : C5 43 [dRn a b c d e] [dI 0, dI 10] := by
  refine con_flat hokL mixed Try.func43 rfl (by show 0 ≤ 400; omega) rfl (by kernel_rfl) (fun caps => ?_)
  show gRRn _ _ a b c d e _
  rw [gRRn_text]
  try simp only [eq_self, true_and, and_true]
  exact ⟨0, 10, ⟨conRKn⟩, bc_true (by simp) rfl⟩
theorem conRE (T : List (Int × Int)) (hl : T.length < 1000000000) {a b c d : Int} (e : Int) (hn : Nums a b c d) : C5 14 [dRu T a b c d e] [dI (rulR T a b c d e).2] := by
  refine con_flat hokL mixed Try.func14 rfl (by show 1 ≤ 400; omega) rfl (by kernel_rfl) (fun caps => ?_)
  show gRE _ _ T.length (caps 500) (vp T) a b c d e _
  rw [gRE_text]
  simp only [vp_whole, bc_t (v2le T)]
  exact ⟨_, _, ⟨conRR T hl e hn⟩, rfl⟩
theorem conREn (a b c d e : Int) : C5 14 [dRn a b c d e] [dI 10] := by
  refine con_flat hokL mixed Try.func14 rfl (by show 0 ≤ 400; omega) rfl (by kernel_rfl) (fun caps => ?_)
  show gREn _ _ a b c d e _
  rw [gREn_text]
  try simp only [eq_self, true_and, and_true]
  exact ⟨_, _, ⟨conRRn a b c d e⟩, rfl⟩
/-- the error of a correction -/
def corE (e v t : Int) : Int := if (0 ≤ v ∧ v ≤ 1000000) ∧ 0 ≤ t ∧ t ≤ e then 0 else 2
theorem conCE (T : List (Int × Int)) (a b c d e v t : Int) : C5 17 [dRu T a b c d e, .agg [dI v, dI t]] [dI (corE e v t)] := by
  refine con_flat hokL mixed Try.func17 rfl (by show 1 ≤ 400; omega) rfl (by kernel_rfl) (fun caps => ?_)
  show gCE _ _ T.length (caps 500) (vp T) a b c d e v t _
  rw [gCE_text]
  refine sayB (conWi v 0 1000000) (fun p1 => sayB (conWi t 0 e) (fun p2 => ?_) (fun p2 => ?_)) (fun p1 => ?_)
  · show [dI _] = [dI _]; rw [corE, if_pos ⟨p1, p2⟩]
  · show [dI _] = [dI _]; rw [corE, if_neg (fun hh => p2 hh.2)]
  · show [dI _] = [dI _]; rw [corE, if_neg (fun hh => p1 hh.1)]
theorem gN_w {a b c d e s : Int} (h : 1 ≤ a ∧ a ≤ 900) (hb : 1 ≤ b ∧ b ≤ 900) (hc : 1 ≤ c ∧ c ≤ 900) (hd : 1 ≤ d ∧ d ≤ 900) (he : e ≤ 900) (hs : 0 ≤ s ∧ s ≤ e) :
    IntKind.wrap .i64 (IntKind.wrap .i64 (a * d) + IntKind.wrap .i64 (IntKind.wrap .i64 (s * c) * b)) = gN a b c d s ∧ IntKind.wrap .i64 (b * d) = gD b d ∧ (1 ≤ gN a b c d s ∧ gN a b c d s ≤ 730000000) ∧ 1 ≤ gD b d ∧ gD b d ≤ 810000 := by
  have p1 := mul_bd (a := a) (b := d) (A := 900) (B := 900) (by omega) (by omega)
  have p2 := mul_bd (a := s) (b := c) (A := 900) (B := 900) (by omega) (by omega)
  have p3 := mul_bd (a := s * c) (b := b) (A := 810000) (B := 900) (by omega) (by omega)
  have p4 := mul_bd (a := b) (b := d) (A := 900) (B := 900) (by omega) (by omega)
  have q1 : 0 < a * d := Int.mul_pos (by omega) (by omega)
  have q2 : 0 < b * d := Int.mul_pos (by omega) (by omega)
  rw [w64 (z := a * d) (by omega) (by omega), w64 (z := s * c) (by omega) (by omega), w64 (z := s * c * b) (by omega) (by omega), w64 (z := b * d) (by omega) (by omega), w64 (by omega) (by omega)]
  unfold gN gD
  omega
theorem congA {T : List (Int × Int)} {a b c d e : Int} (ok : RulOK T a b c d e) {s : Int} (hs : 0 ≤ s ∧ s ≤ e) : C5 68 [dRu T a b c d e, dI s] [.agg [dI (gN a b c d s), dI (gD b d)]] := by
  refine con_flat hokL mixed Try.func68 rfl (by show 1 ≤ 400; omega) rfl (by kernel_rfl) (fun caps => ?_)
  show ggA _ _ T.length (caps 500) (vp T) a b c d e s _
  rw [ggA_text]
  obtain ⟨e1, e2, _⟩ := gN_w ok.az ok.bz ok.cz ok.dz ok.ez.2 hs
  try simp only [eq_self, true_and, and_true]
  rw [e1, e2]
/-! ### coils -/
abbrev dCo (nm : List UInt8) (R : List (Int × Int)) : D := .agg [dS nm, .sl R.length 2 (vp R)]
abbrev dCn (nm : List UInt8) : D := .agg [dS nm, .nil]
def fErr (a : Int) : Int := if 0 ≤ a ∧ a ≤ 100000 then 0 else 2
theorem fErr0 {a : Int} : fErr a = 0 ↔ 0 ≤ a ∧ a ≤ 100000 := by unfold fErr; split <;> simp_all
theorem fErr_or (a : Int) : fErr a = 0 ∨ fErr a = 2 := by unfold fErr; split <;> simp
/-- the first wrong reading -/
def rdC : List (Int × Int) → Int → Int × Int
  | [], _ => (0, 0)
  | p :: r, i => if xErr p.1 = 0 ∧ fErr p.2 = 0 then rdC r (i + 1) else (i, 2)
def coR (nm : List UInt8) (R : List (Int × Int)) : Int × Int := if nameOK nm = false then (0, 4) else if R.length = 0 then (0, 10) else if 12 < R.length then (0, 8) else rdC R 0
theorem rdC_ok : ∀ {l : List (Int × Int)} {i : Int}, (rdC l i).2 = 0 → ∀ p ∈ l, (0 ≤ p.1 ∧ p.1 ≤ 20000) ∧ 0 ≤ p.2 ∧ p.2 ≤ 100000
  | [], _, _ => by simp
  | p :: r, i, h => by
    rw [rdC] at h
    split at h
    · rename_i h1
      intro q hq
      rcases List.mem_cons.1 hq with rfl | hq
      · exact ⟨xErr0.1 h1.1, fErr0.1 h1.2⟩
      · exact rdC_ok h q hq
    · exact absurd h (by show ¬ (2 : Int) = 0; decide)
theorem co_ok {nm : List UInt8} {R : List (Int × Int)} (h : (coR nm R).2 = 0) : ReadOK R ∧ 0 < R.length := by
  unfold coR at h
  split at h
  · exact absurd h (by decide)
  · split at h
    · exact absurd h (by decide)
    · split at h
      · exact absurd h (by decide)
      · exact ⟨⟨by omega, rdC_ok h⟩, by omega⟩
theorem conkC (nm : List UInt8) (R : List (Int × Int)) (hl : R.length < 1000000000) : C5 34 [dCo nm R] (oP (coR nm R)) := by
  let inv : Nat × Nat → Prop := fun x => x.1 ≤ R.length ∧ coR nm R = rdC (R.drop x.1) x.1
  let st : Nat × Nat → Slots × Blocks := fun x => zkC1 R.length x.2 R.length x.1 (vp R)
  refine con_of (L := fun _ s b => ∃ x, inv x ∧ st x = (s, b)) hokL mixed Try.func34 rfl (by show 1 ≤ 400; omega) rfl (ids := [0]) (by kernel_rfl) rfl (fun caps => ?_) (fun id hid => ?_)
  · show gkC _ _ (bs nm) R.length (caps 500) (vp R) _
    rw [gkC_text]
    try simp only [eq_self, true_and, and_true]
    refine ⟨_, ⟨concN nm⟩, ?_⟩
    try simp only [eq_self, true_and, and_true]
    refine ⟨_, ⟨concC _ _⟩, ?_⟩
    try simp only [eq_self, true_and, and_true]
    refine ⟨_, ⟨conFE [nameE nm, cntE R.length 12] (by simp)⟩, ?_⟩
    rw [fst0_two]
    cases hn : nameOK nm with
    | false =>
      rw [nameE_bad hn, if_neg (by decide), bc_n (by decide)]
      show _ = oP _; rw [coR, if_pos hn]
    | true =>
      rw [nameE_ok hn, if_pos rfl]
      have hnf : ¬ nameOK nm = false := by rw [hn]; decide
      unfold cntE
      by_cases h0 : (R.length : Int) = 0
      · rw [if_pos h0, bc_n (by decide)]
        show _ = oP _; rw [coR, if_neg hnf, if_pos (by omega)]
      · rw [if_neg h0]
        by_cases h1 : (R.length : Int) > 12
        · rw [if_pos h1, bc_n (by decide)]
          show _ = oP _; rw [coR, if_neg hnf, if_neg (by omega), if_pos (by omega)]
        · rw [if_neg h1, bc_nf]
          exact ⟨(0, caps 500), ⟨Nat.zero_le _, by rw [coR, if_neg hnf, if_neg (by omega), if_neg (by omega)]; rfl⟩, rfl⟩
  · obtain rfl := List.mem_singleton.1 hid
    refine ⟨Nat × Nat, st, inv, fun x => R.length - x.1, ⟨fun s b h => h, by kernel_rfl, ?_⟩⟩
    rintro ⟨i, c1⟩ ⟨hi, hr⟩
    simp only at hi hr
    show rkC1 _ _ R.length c1 R.length i (vp R) _ _ _
    rw [rkC1_text]
    refine bc_dec (fun h => ?_) (fun h => ?_)
    · have hi' : i < R.length := by omega
      have i0 : (0 : Int) ≤ (i : Int) := by omega
      rw [List.drop_eq_getElem_cons hi', rdC] at hr
      have cF := conFE [xErr R[i].1, fErr R[i].2] (by simp)
      rw [fst0_two] at cF
      simp only [bc_t h, bc_t i0, Int.toNat_natCast, at2 (vp_two R i hi'), eq_self, true_and, and_true]
      refine ⟨xErr R[i].1, ⟨concT1 _⟩, ?_⟩
      try simp only [eq_self, true_and, and_true]
      refine ⟨fErr R[i].2, lim1, ?_⟩
      try simp only [eq_self, true_and, and_true]
      refine ⟨_, ⟨cF⟩, ?_⟩
      by_cases hx : xErr R[i].1 = 0
      · by_cases hv : fErr R[i].2 = 0
        · rw [if_pos ⟨hx, hv⟩] at hr
          rw [if_pos hx, hv, bc_nf]
          exact ⟨(i + 1, c1), ⟨hi', by rw [hr]; rfl⟩, by show R.length - (i + 1) < R.length - i; omega, by rw [w64 (by omega) (by omega)]; rfl⟩
        · rw [if_pos hx, bc_n hv]
          rw [if_neg (fun hh => hv hh.2)] at hr
          rcases fErr_or R[i].2 with h9 | h9
          · exact absurd h9 hv
          · rw [h9]; show _ = oP _; rw [hr]
      · rw [if_neg hx, bc_n hx]
        rw [if_neg (fun hh => hx hh.1)] at hr
        rcases xErr_or R[i].1 with h9 | h9
        · exact absurd h9 hx
        · rw [h9]; show _ = oP _; rw [hr]
    · show (if 0 = 0 then _ else _)
      rw [if_pos rfl]
      show nkC2 _ _ _
      rw [nkC2_text]
      have : i = R.length := by omega
      rw [this, List.drop_length] at hr
      show _ = oP _; rw [hr]; rfl
theorem conRC (nm : List UInt8) (R : List (Int × Int)) (hl : R.length < 1000000000) : C5 15 [dCo nm R] (oP (coR nm R)) := by
  let inv : Nat × Nat → Prop := fun x => x.1 ≤ R.length ∧ coR nm R = rdC (R.drop x.1) x.1
  let st : Nat × Nat → Slots × Blocks := fun x => zRC1 x.1 (bs nm) R.length x.2 (vp R)
  refine con_of (L := fun _ s b => ∃ x, inv x ∧ st x = (s, b)) hokL mixed Try.func15 rfl (by show 1 ≤ 400; omega) rfl (ids := [0]) (by kernel_rfl) rfl (fun caps => ?_) (fun id hid => ?_)
  · show gRC _ _ (bs nm) R.length (caps 500) (vp R) _
    rw [gRC_text]
    refine sayOr (conIN nm) (fun hn => ?_) (fun hn => ?_)
    · have hnf : ¬ nameOK nm = false := by rw [hn]; decide
      refine bc_beq (fun h => ?_) (fun h0 => bc_dec (fun h => ?_) (fun h5 => ?_))
      · show _ = oP _; rw [coR, if_neg hnf, if_pos (by omega)]
      · show _ = oP _; rw [coR, if_neg hnf, if_neg (by omega), if_pos (by omega)]
      · exact ⟨(0, caps 500), ⟨Nat.zero_le _, by rw [coR, if_neg hnf, if_neg (by omega), if_neg (by omega)]; rfl⟩, rfl⟩
    · show _ = oP _; rw [coR, if_pos hn]
  · obtain rfl := List.mem_singleton.1 hid
    refine ⟨Nat × Nat, st, inv, fun x => R.length - x.1, ⟨fun s b h => h, by kernel_rfl, ?_⟩⟩
    rintro ⟨i, c1⟩ ⟨hi, hr⟩
    simp only at hi hr
    show rRC1 _ _ i (bs nm) R.length c1 (vp R) _ _ _
    rw [rRC1_text]
    refine bc_dec (fun h => ?_) (fun h => ?_)
    · have hi' : i < R.length := by omega
      have i0 : (0 : Int) ≤ (i : Int) := by omega
      rw [List.drop_eq_getElem_cons hi', rdC] at hr
      simp only [bc_t h, bc_t i0, Int.toNat_natCast, at1 (vp_one R i hi'), at1 (vp_sndA R i hi' 500)]
      refine ⟨xErr R[i].1, ⟨conXE _⟩, bc_bne (fun hx => ?_) (fun hx => ?_)⟩
      · rw [if_neg (fun hh => hx hh.1)] at hr
        show _ = oP _; rw [hr]
      · by_cases hv : 0 ≤ R[i].2 ∧ R[i].2 ≤ 100000
        · rw [if_pos ⟨hx, fErr0.2 hv⟩] at hr
          refine .inl ⟨sayWt hv, ?_⟩
          exact ⟨(i + 1, c1), ⟨hi', by rw [hr]; rfl⟩, by show R.length - (i + 1) < R.length - i; omega, by rw [w64 (by omega) (by omega)]; rfl⟩
        · rw [if_neg (fun hh => hv (fErr0.1 hh.2))] at hr
          refine .inr ⟨sayWf hv, ?_⟩
          show _ = oP _; rw [hr]
    · show (if 0 = 0 then _ else _)
      rw [if_pos rfl]
      show nRC2 _ _ _
      rw [nRC2_text]
      have : i = R.length := by omega
      rw [this, List.drop_length] at hr
      show _ = oP _; rw [hr]; rfl
theorem coR_nil (nm : List UInt8) : coR nm [] = if nameOK nm = false then (0, 4) else (0, 10) := rfl
theorem conRCn (nm : List UInt8) : C5 15 [dCn nm] (oP (coR nm [])) := by
  refine con_of (L := fun _ _ _ => False) hokL mixed Try.func15 rfl (by show 0 ≤ 400; omega) rfl (ids := [0]) (by kernel_rfl) rfl (fun caps => ?_) (fun id hid => ?_)
  · show gRCn _ _ (bs nm) _
    rw [gRCn_text]
    refine sayOr (conIN nm) (fun hn => ?_) (fun hn => ?_)
    · show _ = oP _; rw [coR_nil, if_neg (by rw [hn]; decide)]
    · show _ = oP _; rw [coR_nil, if_pos hn]
  · obtain rfl := List.mem_singleton.1 hid
    exact ⟨Unit, fun _ => (default, []), fun _ => False, fun _ => 0, ⟨fun s b h => h.elim, by kernel_rfl, fun x h => h.elim⟩⟩
theorem conCe (nm : List UInt8) (R : List (Int × Int)) (hl : R.length < 1000000000) : C5 20 [dCo nm R] [dI (coR nm R).2] := by
  refine con_flat hokL mixed Try.func20 rfl (by show 1 ≤ 400; omega) rfl (by kernel_rfl) (fun caps => ?_)
  show gCe _ _ (bs nm) R.length (caps 500) (vp R) _
  rw [gCe_text]
  simp only [vp_whole, bc_t (v2le R), true_and, and_true]
  exact ⟨_, _, ⟨conRC nm R hl⟩, rfl⟩
theorem conCen (nm : List UInt8) : C5 20 [dCn nm] [dI (coR nm []).2] := by
  refine con_flat hokL mixed Try.func20 rfl (by show 0 ≤ 400; omega) rfl (by kernel_rfl) (fun caps => ?_)
  show gCen _ _ (bs nm) _
  rw [gCen_text]
  try simp only [eq_self, true_and, and_true]
  exact ⟨_, _, ⟨conRCn nm⟩, rfl⟩
theorem conKC (T : List (Int × Int)) (hl : T.length < 1000000000) {a b c d : Int} (e : Int) (hn : Nums a b c d) (nm : List UInt8) (R : List (Int × Int)) (hR : R.length < 1000000000) : C5 8 [dRu T a b c d e, dCo nm R] (if (rulR T a b c d e).2 = 0 then oP (coR nm R) else [dI 0, dI (rulR T a b c d e).2]) := by
  refine con_flat hokL mixed Try.func8 rfl (by show 2 ≤ 400; omega) rfl (by kernel_rfl) (fun caps => ?_)
  show gKC _ _ T.length (caps 500) (vp T) a b c d e (bs nm) R.length (caps 501) (vp R) _
  rw [gKC_text]
  simp only [vp_whole, bc_t (v2le T), bc_t (v2le R)]
  refine ⟨_, _, ⟨conKR T hl e hn⟩, bc_bne (fun h => ?_) (fun h => ⟨_, _, ⟨conkC nm R hR⟩, ?_⟩)⟩
  · show _ = _; rw [if_neg h]
  · show _ = _; rw [if_pos h]
end Go.Proofs.G5l

/- Chapter 4, losses: the loss at a step, in data. -/
namespace Go.Proofs.G5l
open Go Go.Abs Go.Proofs Go.Abs.MD Go.Str
set_option maxRecDepth 100000
/-- what a reading adds to the loss -/
def tm (T : List (Int × Int)) (a b c d s : Int) (p : Int × Int) : Int := ab (valV p.1 T * gN a b c d s - p.2 * gD b d)
theorem loss_tk {T : List (Int × Int)} {a b c d s : Int} : ∀ {R : List (Int × Int)} {i : Nat} (h : i < R.length), loss T a b c d (R.take (i + 1)) s = loss T a b c d (R.take i) s + tm T a b c d s R[i]
  | [], i, h => by simp at h
  | p :: r, 0, _ => by simp [loss, tm]
  | p :: r, i + 1, h => by
    have := loss_tk (T := T) (a := a) (b := b) (c := c) (d := d) (s := s) (R := r) (i := i) (by simpa using h)
    simp only [List.take_succ_cons, loss, List.getElem_cons_succ] at this ⊢
    omega
theorem tm_bd {T : List (Int × Int)} {a b c d e s : Int} (ok : RulOK T a b c d e) (hs : 0 ≤ s ∧ s ≤ e) {p : Int × Int} (hp : 0 ≤ p.2 ∧ p.2 ≤ 100000) :
    (0 ≤ valV p.1 T * gN a b c d s ∧ valV p.1 T * gN a b c d s ≤ 73000000000000) ∧ (0 ≤ p.2 * gD b d ∧ p.2 * gD b d ≤ 81000000000) ∧ 0 ≤ tm T a b c d s p ∧ tm T a b c d s p ≤ 73000000000000 := by
  obtain ⟨_, _, g1, g2⟩ := gN_w ok.az ok.bz ok.cz ok.dz ok.ez.2 hs
  have hv := valV_in (tab_ok ok.tabz) p.1
  have m1 := mul_bd (a := valV p.1 T) (b := gN a b c d s) (A := 100000) (B := 730000000) (by omega) (by omega)
  have m2 := mul_bd (a := p.2) (b := gD b d) (A := 100000) (B := 810000) hp (by omega)
  unfold tm ab
  split <;> omega
theorem loss_bd {T : List (Int × Int)} {a b c d e s : Int} (ok : RulOK T a b c d e) (hs : 0 ≤ s ∧ s ≤ e) : ∀ {R : List (Int × Int)}, (∀ p ∈ R, 0 ≤ p.2 ∧ p.2 ≤ 100000) → 0 ≤ loss T a b c d R s ∧ loss T a b c d R s ≤ 73000000000000 * R.length
  | [], _ => by simp [loss]
  | p :: r, h => by
    have h1 := (tm_bd ok hs (h p (List.mem_cons_self ..))).2.2
    have h2 := loss_bd ok hs (R := r) (fun q hq => h q (List.mem_cons_of_mem _ hq))
    rw [List.length_cons]
    unfold tm at h1
    simp only [loss]
    omega
theorem loss_small {T R : List (Int × Int)} {a b c d e s : Int} (ok : RulOK T a b c d e) (hR : ReadOK R) (hs : 0 ≤ s ∧ s ≤ e) : 0 ≤ loss T a b c d R s ∧ loss T a b c d R s ≤ 1000000000000000 := by
  have h := loss_bd ok hs (R := R) (fun p hp => (hR.all p hp).2)
  have := hR.len
  omega
theorem loss_take {T R : List (Int × Int)} {a b c d e s : Int} (ok : RulOK T a b c d e) (hR : ReadOK R) (hs : 0 ≤ s ∧ s ≤ e) (i : Nat) : 0 ≤ loss T a b c d (R.take i) s ∧ loss T a b c d (R.take i) s ≤ 1000000000000000 := by
  refine loss_small ok ⟨?_, fun p hp => hR.all p (List.mem_of_mem_take hp)⟩ hs
  have := hR.len
  rw [List.length_take]; omega
theorem conlA {T R : List (Int × Int)} {a b c d e s : Int} (ok : RulOK T a b c d e) (hR : ReadOK R) (hs : 0 ≤ s ∧ s ≤ e) (nm : List UInt8) : C5 39 [dRu T a b c d e, dCo nm R, dI s] [.agg [dI (loss T a b c d R s), dI (gD b d)]] := by
  have hv := tab_ok ok.tabz
  have hf := hR.len
  have hft := hv.few
  let inv : Nat × Nat × Nat → Prop := fun x => x.1 ≤ R.length
  let st : Nat × Nat × Nat → Slots × Blocks := fun x => zlA1 R.length x.2.1 R.length x.1 T.length x.2.2 a b c d e 0 0 (gN a b c d s) (gD b d) (loss T a b c d (R.take x.1) s) (gD b d) (vp R) (vp T)
  refine con_of (L := fun _ s b => ∃ x, inv x ∧ st x = (s, b)) hokL mixed Try.func39 rfl (by show 2 ≤ 400; omega) rfl (ids := [0]) (by kernel_rfl) rfl (fun caps => ?_) (fun id hid => ?_)
  · show glA _ _ T.length (caps 500) (vp T) a b c d e (bs nm) R.length (caps 501) (vp R) s _
    rw [glA_text]
    simp only [vp_whole, bc_t (v2le T)]
    exact ⟨_, _, ⟨congA ok hs⟩, (0, caps 501, caps 500), Nat.zero_le _, rfl⟩
  · obtain rfl := List.mem_singleton.1 hid
    refine ⟨Nat × Nat × Nat, st, inv, fun x => R.length - x.1, ⟨fun s b h => h, by kernel_rfl, ?_⟩⟩
    rintro ⟨i, c1, c2⟩ hi
    have hi : i ≤ R.length := hi
    show rlA1 _ _ R.length c1 R.length i T.length c2 a b c d e 0 0 (gN a b c d s) (gD b d) (loss T a b c d (R.take i) s) (gD b d) (vp R) (vp T) _ _ _
    rw [rlA1_text]
    refine bc_dec (fun h => ?_) (fun h => ?_)
    · have hi' : i < R.length := by omega
      have i0 : (0 : Int) ≤ (i : Int) := by omega
      have hp := hR.all _ (List.getElem_mem hi')
      obtain ⟨m1, m2, m3⟩ := tm_bd ok hs (p := R[i]) hp.2
      have lk := loss_take ok hR hs i
      simp only [vp_whole, bc_t (v2le T), bc_t h, bc_t i0, Int.toNat_natCast, at2 (vp_two R i hi'), eq_self, true_and, and_true]
      refine ⟨_, ⟨convI hv R[i].1⟩, ?_⟩
      rw [w64 (z := valV R[i].1 T * gN a b c d s) (by omega) (by omega), w64 (z := R[i].2 * gD b d) (by omega) (by omega), w64 (z := valV R[i].1 T * gN a b c d s - R[i].2 * gD b d) (by omega) (by omega)]
      refine ⟨(i + 1, c1, c2), hi', by show R.length - (i + 1) < R.length - i; omega, ?_⟩
      show zlA1 _ _ _ _ _ _ _ _ _ _ _ _ _ _ _ (loss T a b c d (R.take (i + 1)) s) _ _ _ = _
      rw [loss_tk hi', w64 (z := (i : Int) + 1) (by omega) (by omega)]
      have ed : (if IntKind.wrap .i64 (0 - (valV R[i].1 T * gN a b c d s - R[i].2 * gD b d)) > valV R[i].1 T * gN a b c d s - R[i].2 * gD b d then IntKind.wrap .i64 (0 - (valV R[i].1 T * gN a b c d s - R[i].2 * gD b d)) else valV R[i].1 T * gN a b c d s - R[i].2 * gD b d) = tm T a b c d s R[i] := by
        rw [w64 (z := 0 - (valV R[i].1 T * gN a b c d s - R[i].2 * gD b d)) (by omega) (by omega)]
        unfold tm ab
        split <;> split <;> omega
      rw [ed, w64 (by omega) (by omega)]; rfl
    · show (if 0 = 0 then _ else _)
      rw [if_pos rfl]
      show nlA2 _ _ 0 0 (loss T a b c d (R.take i) s) (gD b d) _
      rw [nlA2_text, List.take_of_length_le (by omega)]
/-! ### slices.MinFunc -/
theorem bestF_step (f : Int → Int) (m y : Int) (r : List Int) : bestF f m (y :: r) = bestF f (if f y < f m then y else m) r := rfl
theorem bestF_mem (f : Int → Int) : ∀ (m : Int) (r : List Int), bestF f m r = m ∨ bestF f m r ∈ r
  | m, [] => .inl rfl
  | m, y :: r => by
    rw [bestF_step]
    rcases bestF_mem f (if f y < f m then y else m) r with h | h
    · rw [h]
      by_cases h2 : f y < f m
      · rw [if_pos h2]; exact .inr (List.mem_cons_self ..)
      · rw [if_neg h2]; exact .inl rfl
    · exact .inr (List.mem_cons_of_mem _ h)
theorem minC {T R : List (Int × Int)} {a b c d e : Int} (_ cp c0 c1 : Nat) (nm : List UInt8) {l : List Int} (g : GoodIn T R a b c d e l) :
    CallS Try.prog 71 [.slice (some ⟨900, 0, none⟩) l.length cp, .func (.func 72) #[] #[.pointer (some ⟨901, 0, none⟩), .pointer (some ⟨902, 0, none⟩)]]
      [(900, .sym (vi l) true 1), (901, .cells [.slice (some ⟨500, 0, none⟩) T.length c0, .int .i64 a, .int .i64 b, .int .i64 c, .int .i64 d, .int .i64 e] 83 false 1), (902, .cells [.string (bs nm), .slice (some ⟨501, 0, none⟩) R.length c1] 31 false 1), (500, .sym (vp T) false 2), (501, .sym (vp R) false 2)]
      (fun v bs' => v = .int .i64 (best (loss T a b c d R) l) ∧ bs' = [(900, .sym (vi l) true 1), (901, .cells [.slice (some ⟨500, 0, none⟩) T.length c0, .int .i64 a, .int .i64 b, .int .i64 c, .int .i64 d, .int .i64 e] 83 false 1), (902, .cells [.string (bs nm), .slice (some ⟨501, 0, none⟩) R.length c1] 31 false 1), (500, .sym (vp T) false 2), (501, .sym (vp R) false 2)]) := by
  have ok := g.rul
  have hR := g.rd
  have hf := hR.len
  have hft := (tab_ok ok.tabz).few
  have hl := g.few
  let f := loss T a b c d R
  let inv : Int × Nat → Prop := fun x => x.2 ≤ l.length ∧ 0 < x.2 ∧ (0 ≤ x.1 ∧ x.1 ≤ e) ∧ best f l = bestF f x.1 (l.drop x.2)
  let st : Int × Nat → Slots × Blocks := fun x => zMf1 l.length cp x.1 x.2 (vi l) T.length c0 a b c d e (bs nm) R.length c1 (vp T) (vp R)
  refine callS_ofG (L := fun _ s b => ∃ x, inv x ∧ st x = (s, b)) hokL mixed Try.func71 rfl rfl (ids := [0]) (by kernel_rfl) rfl ?_ (fun id hid => ?_)
  · show gMf _ _ l.length cp (vi l) T.length c0 (vp T) a b c d e (bs nm) R.length c1 (vp R) _
    rw [gMf_text]
    have hp := g.pos
    have a0 : At (vi l) 0 1 [vI l[0]] := vi_at l 0 hp
    refine bc_no (by omega) (bc_yes (by omega) ⟨_, a0, (l[0], 1), ⟨hp, by show 0 < 1; omega, g.all _ (List.getElem_mem hp), ?_⟩, rfl⟩)
    show best f l = bestF f l[0] (l.drop 1)
    cases l with
    | nil => simp at hp
    | cons x r => rfl
  · obtain rfl := List.mem_singleton.1 hid
    refine ⟨_, st, inv, fun x => l.length - x.2, ⟨fun s b h => h, by kernel_rfl, ?_⟩⟩
    rintro ⟨m, i⟩ ⟨hi, hi0, hm, hb⟩
    simp only at hi hi0 hm hb
    show rMf1 _ _ l.length cp m (i : Int) (vi l) T.length c0 a b c d e (bs nm) R.length c1 (vp T) (vp R) _ _ _
    rw [rMf1_text]
    refine bc_dec (fun h => ?_) (fun h => ?_)
    · have hi' : i < l.length := by omega
      have i0 : (0 : Int) ≤ (i : Int) := by omega
      have hx := g.all _ (List.getElem_mem hi')
      rw [List.drop_eq_getElem_cons hi', bestF_step] at hb
      simp only [vp_whole, bc_t (v2le T), bc_t (v2le R), bc_t h, bc_t i0, Int.toNat_natCast, at1 (vi_at l i hi'), eq_self, true_and, and_true]
      refine ⟨_, _, ⟨conlA ok hR hx nm⟩, _, _, ⟨conlA ok hR hm nm⟩, ?_⟩
      simp only [bc_nf]
      have old : ¬ f l[i] < f m → ∃ y, inv y ∧ l.length - y.2 < l.length - i ∧ st y = zMf1 l.length cp m (IntKind.wrap .i64 ((i : Int) + 1)) (vi l) T.length c0 a b c d e (bs nm) R.length c1 (vp T) (vp R) := fun hlt =>
        ⟨(m, i + 1), ⟨hi', by show 0 < i + 1; omega, hm, by rw [hb, if_neg hlt]⟩, by show l.length - (i + 1) < l.length - i; omega, by rw [w64 (by omega) (by omega)]; rfl⟩
      refine bc_dec (fun hlt => ?_) (fun hlt => bc_dec (fun _ => old hlt) (fun _ => old hlt))
      refine ⟨(l[i], i + 1), ⟨hi', by show 0 < i + 1; omega, hx, by rw [hb, if_pos hlt]⟩, by show l.length - (i + 1) < l.length - i; omega, by rw [w64 (by omega) (by omega)]; rfl⟩
    · show (if 0 = 0 then _ else _)
      rw [if_pos rfl]
      show nMf2 _ _ m (vi l) T.length c0 a b c d e (bs nm) R.length c1 (vp T) (vp R) _
      rw [nMf2_text]
      rw [List.drop_eq_nil_of_le (by omega)] at hb
      exact ⟨by rw [show best (loss T a b c d R) l = m from hb], rfl⟩
theorem minP_ok {args : List Value} {bs' : Blocks} {K : Value → Blocks → Prop} (hk : minP 72 83 31 args bs' K) : CallS Try.prog 71 args bs' K := by
  unfold minP at hk
  split at hk
  · rename_i h _ _ _ _ _ _ _ _ _ _ _ _ _ _ _ _ _ _ _ _ _ _
    split at hk
    · rename_i hh
      split at hk
      · rename_i hc
        simp only [Bool.and_eq_true, beq_iff_eq] at hc
        obtain ⟨⟨⟨⟨⟨⟨⟨⟨⟨⟨⟨⟨⟨⟨⟨⟨⟨⟨⟨⟨⟨⟨⟨rfl, hg⟩, rfl⟩, rfl⟩, rfl⟩, rfl⟩, rfl⟩, rfl⟩, rfl⟩, rfl⟩, rfl⟩, rfl⟩, rfl⟩, rfl⟩, rfl⟩, rfl⟩, rfl⟩, rfl⟩, rfl⟩, rfl⟩, rfl⟩, rfl⟩, rfl⟩, rfl⟩ := hc
        obtain ⟨T, R, l, r, rfl, rfl, rfl, rfl, rfl, rfl, g, hm, hK⟩ := hk
        rw [prs_vp, prs_vp] at hK ⊢
        obtain rfl := hm.eq
        rename_i cap2 ga x0 gs0 ks0 k1 a0 b0 k2 d0 e0 s k3
        obtain rfl : ga = #[] := Array.eq_empty_of_size_eq_zero hg
        obtain rfl := Array.toList_inj.1 (show h.toList = (#[_, _] : Array Value).toList from hh)
        rw [← bs_data s] at hK ⊢
        refine callS_mono (minC 0 _ _ _ s.data.toList g) ?_
        rintro v b ⟨rfl, rfl⟩
        exact hK
      · exact hk.elim
    · exact hk.elim
  · exact hk.elim
end Go.Proofs.G5l

/- Chapter 4, losses: losses, what is learned, the best correction, in data. -/
namespace Go.Proofs.G5l
open Go Go.Abs Go.Proofs Go.Abs.MD Go.Str
set_option maxRecDepth 100000
theorem preMOK : PreOK Try.prog (preM C5) := by
  intro g h he args ats H k hk
  unfold preM at he
  rcases ite_so he with ⟨e, rfl⟩ | he
  · rw [beq_iff_eq] at e; subst e
    exact wpState_call (fun args bs K hk => limL_ok hk) hk
  rcases ite_so he with ⟨e, rfl⟩ | he
  · rw [beq_iff_eq] at e; subst e
    exact wpState_call (fun args bs K hk => minP_ok hk) hk
  rcases ite_so he with ⟨e, rfl⟩ | he
  · exact fixH_ok (fun _ _ _ h => h) _ _ _ _ _ hk
  rcases ite_so he with ⟨e, rfl⟩ | he
  · exact fixH_ok (fun _ _ _ h => h) _ _ _ _ _ hk
  rcases ite_so he with ⟨e, rfl⟩ | he
  · exact saidH_ok (fun _ _ _ h => h) _ _ _ _ _ hk
  · cases he
theorem hokM : HandlerOK Try.prog (hM C5) := handlerX_ok mixed preMOK (by decide) 6
/-! ### fractions -/
abbrev dF (f : Int × Int) : D := .agg [dI f.1, dI f.2]
def sm (f : Int × Int) : Prop := (-1000000000 ≤ f.1 ∧ f.1 ≤ 1000000000) ∧ (-1000000000 ≤ f.2 ∧ f.2 ≤ 1000000000)
instance (f : Int × Int) : Decidable (sm f) := by unfold sm; infer_instance
theorem m9 : (-(999999999 + 1) : Int) = -1000000000 := by decide
theorem conlT (n d : Int) (hn : -4611686018427387904 ≤ n ∧ n ≤ 4611686018427387904) (hd : 0 < d ∧ d ≤ 4611686018427387904) : C5 66 [dI n, dI d] [dF (low n d)] := by
  refine con_flat hokL mixed Try.func66 rfl (by show 0 ≤ 400; omega) rfl (by kernel_rfl) (fun caps => ?_)
  show glT _ _ n d _
  rw [glT_text, bc_f (show ¬ d < 0 by omega)]
  have hg := gcd_pos (a := n) (b := d) (.inr (by omega))
  have b1 := tdiv_small (n := n) (g := Int.gcd n d) hn hg
  have b2 := tdiv_small (n := d) (g := Int.gcd n d) (by omega) hg
  try simp only [eq_self, true_and, and_true]
  refine ⟨_, ⟨condv n d (by omega) (by omega)⟩, ?_⟩
  simp only [bc_n (show ((Int.gcd n d : Nat) : Int) ≠ 0 by omega), true_and, and_true]
  rw [w64 (by omega) (by omega), w64 (by omega) (by omega)]
  show _ = _
  rw [dF, low, if_neg (by omega)]
theorem consE (n d : Int) (hn : -4611686018427387904 ≤ n ∧ n ≤ 4611686018427387904) (hd : 0 < d ∧ d ≤ 4611686018427387904) : C5 38 [dF (n, d)] (if sm (low n d) then [dF (low n d), dI 0] else [dF (0, 0), dI 8]) := by
  refine con_flat hokL mixed Try.func38 rfl (by show 0 ≤ 400; omega) rfl (by kernel_rfl) (fun caps => ?_)
  show gsE _ _ n d _
  rw [gsE_text, m9]
  try simp only [eq_self, true_and, and_true]
  refine ⟨_, _, ⟨conlT n d hn hd⟩, _, ⟨limC_of (limE2 (-1000000000) 1000000000 _ _).symm⟩, ?_⟩
  by_cases h : sm (low n d)
  · have e : (if (-1000000000 ≤ (low n d).1 ∧ (low n d).1 ≤ 1000000000) ∧ (-1000000000 ≤ (low n d).2 ∧ (low n d).2 ≤ 1000000000) then (0 : Int) else 2) = 0 := if_pos h
    rw [e, if_pos h]
    simp [bcase]
  · have e : (if (-1000000000 ≤ (low n d).1 ∧ (low n d).1 ≤ 1000000000) ∧ (-1000000000 ≤ (low n d).2 ∧ (low n d).2 ≤ 1000000000) then (0 : Int) else 2) = 2 := if_neg h
    rw [e, if_neg h]
    simp [bcase]
theorem conIS (f : Int × Int) (h0 : 0 < f.2) : C5 23 [dF f] [.val (.bool (decide (sm f)))] := by
  refine con_flat hokL mixed Try.func23 rfl (by show 0 ≤ 400; omega) rfl (by kernel_rfl) (fun caps => ?_)
  show gIS _ _ f.1 f.2 _
  rw [gIS_text, m9]
  try simp only [eq_self, true_and]
  refine sayB (conWi f.1 (-1000000000) 1000000000) (fun p1 => sayB (conWi f.2 1 1000000000) (fun p2 => ?_) (fun p2 => ?_)) (fun p1 => ?_)
  · rw [decide_eq_true (show sm f from ⟨p1, by omega⟩)]
  · rw [decide_eq_false (show ¬ sm f from fun h => p2 ⟨by omega, h.2.2⟩)]
  · rw [decide_eq_false (show ¬ sm f from fun h => p1 h.1)]
/-! ### losses -/
/-- the error of rules, a correction and a coil -/
def verE (v : Int) : Int := if 0 ≤ v ∧ v ≤ 1000000 then 0 else 2
def atE (e t : Int) : Int := if 0 ≤ t ∧ t ≤ e then 0 else 2
def grE (T : List (Int × Int)) (a b c d e v t : Int) : Int := if (rulR T a b c d e).2 ≠ 0 then (rulR T a b c d e).2 else corE e v t
theorem fst_gr (r e v t : Int) : fst0 [r, verE v, atE e t] = if r ≠ 0 then r else corE e v t := by
  rw [fst0_three, corE, verE, atE]
  repeat' split
  all_goals first | rfl | omega
theorem cor_ok {e v t : Int} (h : corE e v t = 0) : (0 ≤ v ∧ v ≤ 1000000) ∧ 0 ≤ t ∧ t ≤ e := by
  unfold corE at h; split at h
  · assumption
  · omega
theorem gr_ok {T : List (Int × Int)} {a b c d e v t : Int} (h : grE T a b c d e v t = 0) : (rulR T a b c d e).2 = 0 ∧ corE e v t = 0 := by
  unfold grE at h; split at h
  · omega
  · exact ⟨by omega, h⟩
theorem gD_bd {T : List (Int × Int)} {a b c d e : Int} (ok : RulOK T a b c d e) : 0 < gD b d ∧ gD b d ≤ 810000 := by
  have h := (gN_w (s := 0) ok.az ok.bz ok.cz ok.dz ok.ez.2 ⟨Int.le_refl _, ok.ez.1⟩).2.2.2
  omega
/-- the result of LossOf -/
def loR (T : List (Int × Int)) (a b c d e v t : Int) (nm : List UInt8) (R : List (Int × Int)) : List D :=
  if fst0 [grE T a b c d e v t, (coR nm R).2] = 0 then (if sm (low (loss T a b c d R t) (gD b d)) then [dF (low (loss T a b c d R t) (gD b d)), dI 0] else [dF (0, 0), dI 8])
  else [dF (0, 0), dI (fst0 [grE T a b c d e v t, (coR nm R).2])]
abbrev dCc (v t : Int) : D := .agg [dI v, dI t]
theorem conLO (T : List (Int × Int)) (hl : T.length < 1000000000) {a b c d : Int} (e : Int) (hn : Nums a b c d) (v t : Int) (nm : List UInt8) (R : List (Int × Int)) (hR : R.length < 1000000000) : C5 11 [dRu T a b c d e, dCc v t, dCo nm R] (loR T a b c d e v t nm R) := by
  refine con_flat hokL mixed Try.func11 rfl (by show 2 ≤ 400; omega) rfl (by kernel_rfl) (fun caps => ?_)
  show gLO _ _ T.length (caps 500) (vp T) a b c d e v t (bs nm) R.length (caps 501) (vp R) _
  rw [gLO_text]
  simp only [vp_whole, bc_t (v2le T), bc_t (v2le R), eq_self, true_and, and_true]
  refine ⟨_, _, ⟨conKR T hl e hn⟩, _, ⟨limC_of (limE1 0 1000000 v).symm⟩, ?_⟩
  try simp only [eq_self, true_and, and_true]
  refine ⟨_, ⟨limC_of (limE1 0 e t).symm⟩, ?_⟩
  try simp only [eq_self, true_and, and_true]
  have cF := conFE [(rulR T a b c d e).2, verE v, atE e t] (by simp)
  rw [fst_gr] at cF
  refine ⟨_, ⟨cF⟩, ?_⟩
  have e1 : (if (rulR T a b c d e).2 ≠ 0 then (rulR T a b c d e).2 else corE e v t) = grE T a b c d e v t := rfl
  rw [e1]
  refine bc_bne (fun h => ?_) (fun h => ?_)
  · refine ⟨_, _, ⟨conkC nm R hR⟩, _, ⟨conFE [grE T a b c d e v t, (coR nm R).2] (by simp)⟩, ?_⟩
    have hne : fst0 [grE T a b c d e v t, (coR nm R).2] ≠ 0 := by rw [fst0_two, if_neg h]; exact h
    rw [bc_n hne]
    show _ = _; rw [loR, if_neg hne]
  · refine ⟨_, _, ⟨conkC nm R hR⟩, _, ⟨conFE [0, (coR nm R).2] (by simp)⟩, ?_⟩
    have hE : fst0 [grE T a b c d e v t, (coR nm R).2] = fst0 [0, (coR nm R).2] := by rw [h]
    refine bc_bne (fun h1 => ?_) (fun h1 => ?_)
    · show _ = _; rw [loR, hE, if_neg h1]
    · have hc : (coR nm R).2 = 0 := by rw [fst0_two, if_pos rfl] at h1; exact h1
      obtain ⟨h2, h3⟩ := gr_ok h
      obtain ⟨ok, _⟩ := rul_ok h2
      obtain ⟨hRd, _⟩ := co_ok hc
      have ht := (cor_ok h3).2
      have hb := loss_small ok hRd ht
      have hg := gD_bd ok
      have cS := consE (loss T a b c d R t) (gD b d) (by omega) (by omega)
      refine ⟨_, _, ⟨conlA ok hRd ht nm⟩, ?_⟩
      rw [loR, hE, if_pos h1]
      by_cases hs : sm (low (loss T a b c d R t) (gD b d))
      · rw [if_pos hs] at cS ⊢; exact ⟨_, _, _, ⟨cS⟩, rfl⟩
      · rw [if_neg hs] at cS ⊢; exact ⟨_, _, _, ⟨cS⟩, rfl⟩
/-! ### what is learned -/
def grow (v : Int) : Int := if IntKind.wrap .i64 (v + 1) > 1000000 then 8 else 0
theorem concG (v t : Int) : C5 40 [dCc v t, dI 1] [dI (grow v)] := by
  refine con_flat hokL mixed Try.func40 rfl (by show 0 ≤ 400; omega) rfl (by kernel_rfl) (fun caps => ?_)
  show gcG _ _ v t 1 _
  rw [gcG_text]; unfold grow
  refine bc_dec (fun h => ?_) (fun h => ?_)
  · show _ = _; rw [if_pos h]
  · show _ = _; rw [if_neg h]
/-- the step that is learned -/
def low1 (f : Int → Int) (t : Int) : Int := if 0 ≤ t - 1 ∧ f (t - 1) < f t then t - 1 else t
def lrn (f : Int → Int) (e t : Int) : Int := if t + 1 ≤ e ∧ f (t + 1) < f (low1 f t) then t + 1 else low1 f t
def leE (T : List (Int × Int)) (a b c d e v t : Int) (nm : List UInt8) (R : List (Int × Int)) : Int := fst0 [grE T a b c d e v t, (coR nm R).2, grow v]
def leR (T : List (Int × Int)) (a b c d e v t : Int) (nm : List UInt8) (R : List (Int × Int)) : List D :=
  if leE T a b c d e v t nm R = 0 then [dCc (v + 1) (lrn (loss T a b c d R) e t), dI 0] else [dCc 0 0, dI (leE T a b c d e v t nm R)]
theorem conLE (T : List (Int × Int)) (hl : T.length < 1000000000) {a b c d : Int} (e : Int) (hn : Nums a b c d) (v t : Int) (nm : List UInt8) (R : List (Int × Int)) (hR : R.length < 1000000000) : C5 12 [dRu T a b c d e, dCc v t, dCo nm R] (leR T a b c d e v t nm R) := by
  refine con_walk hokL mixed (u := 8) (by decide) Try.func12 rfl (by show 2 ≤ 400; omega) (fun caps => ?_)
  show gLE _ T.length (caps 500) (vp T) a b c d e v t (bs nm) R.length (caps 501) (vp R) _
  rw [gLE_text]
  simp only [vp_whole, bc_t (v2le T), bc_t (v2le R), eq_self, true_and, and_true]
  refine ⟨_, _, ⟨conKR T hl e hn⟩, _, ⟨limC_of (limE1 0 1000000 v).symm⟩, ?_⟩
  try simp only [eq_self, true_and, and_true]
  refine ⟨_, ⟨limC_of (limE1 0 e t).symm⟩, ?_⟩
  try simp only [eq_self, true_and, and_true]
  have cF := conFE [(rulR T a b c d e).2, verE v, atE e t] (by simp)
  rw [fst_gr] at cF
  refine ⟨_, ⟨cF⟩, ?_⟩
  have e1 : (if (rulR T a b c d e).2 ≠ 0 then (rulR T a b c d e).2 else corE e v t) = grE T a b c d e v t := rfl
  rw [e1]
  refine bc_bne (fun h => ?_) (fun h => ?_)
  · refine ⟨_, _, ⟨conkC nm R hR⟩, _, ⟨concG v t⟩, _, ⟨conFE [grE T a b c d e v t, (coR nm R).2, grow v] (by simp)⟩, ?_⟩
    have hne : leE T a b c d e v t nm R ≠ 0 := by unfold leE; rw [fst0_three, if_neg h]; exact h
    rw [bc_n (show fst0 [grE T a b c d e v t, (coR nm R).2, grow v] ≠ 0 from hne)]
    show _ = _; rw [leR, if_neg hne]; rfl
  · refine ⟨_, _, ⟨conkC nm R hR⟩, _, ⟨concG v t⟩, _, ⟨conFE [0, (coR nm R).2, grow v] (by simp)⟩, ?_⟩
    have hE : leE T a b c d e v t nm R = fst0 [0, (coR nm R).2, grow v] := by unfold leE; rw [h]
    refine bc_bne (fun h1 => ?_) (fun h1 => ?_)
    · show _ = _; rw [leR, hE, if_neg h1]
    · have hc : (coR nm R).2 = 0 := by
        rw [fst0_three, if_pos rfl] at h1
        by_cases hh : (coR nm R).2 = 0
        · exact hh
        · rw [if_neg hh] at h1; exact h1
      have hgr : grow v = 0 := by rw [fst0_three, if_pos rfl, if_pos hc] at h1; exact h1
      obtain ⟨h2, h3⟩ := gr_ok h
      obtain ⟨ok, _⟩ := rul_ok h2
      obtain ⟨hRd, _⟩ := co_ok hc
      obtain ⟨hv, ht⟩ := cor_ok h3
      have hez := ok.ez
      have w1 : IntKind.wrap .i64 (t - 1) = t - 1 := w64 (by omega) (by omega)
      have w2 : IntKind.wrap .i64 (t + 1) = t + 1 := w64 (by omega) (by omega)
      have w3 : IntKind.wrap .i64 (v + 1) = v + 1 := w64 (by omega) (by omega)
      have la : Says limC 0 [dI 0, dI e, .sl 1 1 [vI t]] [dI 0] := by
        have := limC_of (g := 0) (n := 1) (es := 1) (limE1 0 e t).symm
        rw [if_pos ht] at this; exact ⟨this⟩
      have lb : 0 ≤ t - 1 → Says limC 0 [dI 0, dI e, .sl 1 1 [vI (t - 1)]] [dI 0] := fun hh => by
        have := limC_of (g := 0) (n := 1) (es := 1) (limE1 0 e (t - 1)).symm
        rw [if_pos (by omega)] at this; exact ⟨this⟩
      have lb' : ¬ 0 ≤ t - 1 → Says limC 0 [dI 0, dI e, .sl 1 1 [vI (t - 1)]] [dI 2] := fun hh => by
        have := limC_of (g := 0) (n := 1) (es := 1) (limE1 0 e (t - 1)).symm
        rw [if_neg (by omega)] at this; exact ⟨this⟩
      have lc : t + 1 ≤ e → Says limC 0 [dI 0, dI e, .sl 1 1 [vI (t + 1)]] [dI 0] := fun hh => by
        have := limC_of (g := 0) (n := 1) (es := 1) (limE1 0 e (t + 1)).symm
        rw [if_pos (by omega)] at this; exact ⟨this⟩
      have lc' : ¬ t + 1 ≤ e → Says limC 0 [dI 0, dI e, .sl 1 1 [vI (t + 1)]] [dI 2] := fun hh => by
        have := limC_of (g := 0) (n := 1) (es := 1) (limE1 0 e (t + 1)).symm
        rw [if_neg (by omega)] at this; exact ⟨this⟩
      have res : ∀ x, lrn (loss T a b c d R) e t = x → [dCc (v + 1) x, dI 0] = leR T a b c d e v t nm R := fun x hx => by
        rw [leR, hE, if_pos h1, hx]
      have n2 : (2 : Int) ≠ 0 := by decide
      simp only [w1, w2, w3]
      refine ⟨0, la, ?_⟩
      try simp only [bc_nf]
      by_cases h5 : 0 ≤ t - 1
      · refine ⟨0, lb h5, ?_⟩
        try simp only [bc_nf]
        by_cases h6 : t + 1 ≤ e
        · refine ⟨0, lc h6, ?_⟩
          try simp only [bc_nf]
          refine ⟨_, _, ⟨conlA ok hRd (show 0 ≤ t - 1 ∧ t - 1 ≤ e by omega) nm⟩, _, _, ⟨conlA ok hRd ht nm⟩, ?_⟩
          try simp only [bc_nf]
          refine bc_dec (fun hlt => ?_) (fun hlt => bc_dec (fun _ => ?_) (fun _ => ?_))
          · refine ⟨_, _, ⟨conlA ok hRd (show 0 ≤ t + 1 ∧ t + 1 ≤ e by omega) nm⟩, _, _, ⟨conlA ok hRd (show 0 ≤ t - 1 ∧ t - 1 ≤ e by omega) nm⟩, ?_⟩
            try simp only [bc_nf]
            refine bc_dec (fun hlt2 => ?_) (fun hlt2 => bc_dec (fun _ => ?_) (fun _ => ?_))
            all_goals exact res _ (by unfold lrn low1; (repeat' split) <;> omega)
          all_goals
            refine ⟨_, _, ⟨conlA ok hRd (show 0 ≤ t + 1 ∧ t + 1 ≤ e by omega) nm⟩, _, _, ⟨conlA ok hRd ht nm⟩, ?_⟩
            try simp only [bc_nf]
            refine bc_dec (fun hlt2 => ?_) (fun hlt2 => bc_dec (fun _ => ?_) (fun _ => ?_))
            all_goals exact res _ (by unfold lrn low1; (repeat' split) <;> omega)
        · refine ⟨2, lc' h6, ?_⟩
          try simp only [bc_n n2]
          refine ⟨_, _, ⟨conlA ok hRd (show 0 ≤ t - 1 ∧ t - 1 ≤ e by omega) nm⟩, _, _, ⟨conlA ok hRd ht nm⟩, ?_⟩
          try simp only [bc_nf]
          refine bc_dec (fun hlt => ?_) (fun hlt => bc_dec (fun _ => ?_) (fun _ => ?_))
          all_goals exact res _ (by unfold lrn low1; (repeat' split) <;> omega)
      · refine ⟨2, lb' h5, ?_⟩
        try simp only [bc_n n2]
        by_cases h6 : t + 1 ≤ e
        · refine ⟨0, lc h6, ?_⟩
          try simp only [bc_nf]
          refine ⟨_, _, ⟨conlA ok hRd (show 0 ≤ t + 1 ∧ t + 1 ≤ e by omega) nm⟩, _, _, ⟨conlA ok hRd ht nm⟩, ?_⟩
          try simp only [bc_nf]
          refine bc_dec (fun hlt => ?_) (fun hlt => bc_dec (fun _ => ?_) (fun _ => ?_))
          all_goals exact res _ (by unfold lrn low1; (repeat' split) <;> omega)
        · refine ⟨2, lc' h6, ?_⟩
          try simp only [bc_n n2]
          exact res _ (by unfold lrn low1; (repeat' split) <;> omega)
/-! ### the best correction -/
def upto (n : Nat) : List Int := (List.range n).map fun i : Nat => (i : Int)
@[simp] theorem upto_length (n : Nat) : (upto n).length = n := by simp [upto]
theorem upto_snoc (n : Nat) : vi (upto n) ++ [vI (n : Int)] = vi (upto (n + 1)) := by
  rw [upto, upto, List.range_succ, List.map_append, vi, vi, List.map_append]; rfl
theorem upto_take (n : Nat) : List.take (n * 1) (List.drop 0 (vi (upto n))) = vi (upto n) := by
  rw [List.drop_zero, List.take_of_length_le (by simp)]
theorem upto_mem {n : Nat} {s : Int} (h : s ∈ upto n) : 0 ≤ s ∧ s < n := by
  simp only [upto, List.mem_map, List.mem_range] at h
  obtain ⟨i, hi, rfl⟩ := h; omega
theorem best_mem (f : Int → Int) {l : List Int} (h : l ≠ []) : best f l ∈ l := by
  cases l with
  | nil => exact absurd rfl h
  | cons x r =>
    rcases bestF_mem f x r with h | h
    · show bestF f x r ∈ x :: r; rw [h]; exact List.mem_cons_self ..
    · exact List.mem_cons_of_mem _ h
def kcE (T : List (Int × Int)) (a b c d e : Int) (nm : List UInt8) (R : List (Int × Int)) : Int := if (rulR T a b c d e).2 = 0 then (coR nm R).2 else (rulR T a b c d e).2
def bfR (T : List (Int × Int)) (a b c d e : Int) (nm : List UInt8) (R : List (Int × Int)) : List D :=
  if kcE T a b c d e nm R = 0 then [dCc 0 (best (loss T a b c d R) (upto (e.toNat + 1))), dI 0] else [dCc 0 0, dI (kcE T a b c d e nm R)]
theorem conBF (T : List (Int × Int)) (hl : T.length < 1000000000) {a b c d : Int} (e : Int) (hn : Nums a b c d) (nm : List UInt8) (R : List (Int × Int)) (hR : R.length < 1000000000) : C5 13 [dRu T a b c d e, dCo nm R] (bfR T a b c d e nm R) := by
  let inv : Nat × Nat × Nat → Prop := fun x => RulOK T a b c d e ∧ ReadOK R ∧ kcE T a b c d e nm R = 0 ∧ (x.1 : Int) ≤ e + 1
  let st : Nat × Nat × Nat → Slots × Blocks := fun x => match x.1 with
    | 0 => zBF1 (e + 1) 0 T.length x.2.1 a b c d e (bs nm) R.length x.2.2 0 0 (vp T) (vp R)
    | i + 1 => zBF2 (i + 1) (e + 1) ((i + 1 : Nat) : Int) T.length x.2.1 a b c d e (bs nm) R.length x.2.2 0 0 (vi (upto (i + 1))) (vp T) (vp R)
  refine con_of (L := fun _ s b => ∃ x, inv x ∧ st x = (s, b)) hokM mixed Try.func13 rfl (by show 2 ≤ 400; omega) rfl (ids := [0]) (by kernel_rfl) rfl (fun caps => ?_) (fun id hid => ?_)
  · show gBF _ _ T.length (caps 500) (vp T) a b c d e (bs nm) R.length (caps 501) (vp R) _
    rw [gBF_text]
    simp only [vp_whole, bc_t (v2le T), bc_t (v2le R)]
    have cK := conKC T hl e hn nm R hR
    by_cases h0 : (rulR T a b c d e).2 = 0
    · rw [if_pos h0] at cK
      refine ⟨_, _, ⟨cK⟩, bc_bne (fun h => ?_) (fun h => ?_)⟩
      · have hk : kcE T a b c d e nm R = (coR nm R).2 := if_pos h0
        show _ = _; rw [bfR, hk, if_neg h]
      · have ok := (rul_ok h0).1
        have hez := ok.ez
        refine ⟨(0, caps 500, caps 501), ⟨ok, (co_ok h).1, by rw [kcE, if_pos h0]; exact h, by show (0 : Int) ≤ e + 1; omega⟩, ?_⟩
        rw [w64 (by omega) (by omega)]
    · rw [if_neg h0] at cK
      refine ⟨_, _, ⟨cK⟩, bc_true (by simpa using h0) ?_⟩
      have hk : kcE T a b c d e nm R = (rulR T a b c d e).2 := if_neg h0
      show _ = _; rw [bfR, hk, if_neg h0]
  · obtain rfl := List.mem_singleton.1 hid
    refine ⟨Nat × Nat × Nat, st, inv, fun x => (e + 1).toNat - x.1, ⟨fun s b h => h, by kernel_rfl, ?_⟩⟩
    rintro ⟨i, c1, c2⟩ ⟨ok, hRd, hk, hi⟩
    have hez := ok.ez
    have hi : (i : Int) ≤ e + 1 := hi
    have hft := (tab_ok ok.tabz).few
    cases i with
    | zero =>
      show rBF1 _ _ (e + 1) 0 T.length c1 a b c d e (bs nm) R.length c2 0 0 (vp T) (vp R) _ _ _
      rw [rBF1_text]
      refine bc_yes (by omega) ?_
      try simp only
      refine ⟨(1, c1, c2), ⟨ok, hRd, hk, by show (1 : Int) ≤ e + 1; omega⟩, by show (e + 1).toNat - 1 < (e + 1).toNat - 0; omega, ?_⟩
      rw [w64 (by omega) (by omega)]; rfl
    | succ j =>
      show rBF2 _ _ (j + 1) (e + 1) ((j + 1 : Nat) : Int) T.length c1 a b c d e (bs nm) R.length c2 0 0 (vi (upto (j + 1))) (vp T) (vp R) _ _ _
      rw [rBF2_text]
      refine bc_dec (fun h => ?_) (fun h => ?_)
      · refine bc_yes (by omega) (bc_yes (by omega) (bc_yes (by omega) (bc_yes (by simp) (bc_yes (by simp) ?_))))
        try simp only
        refine ⟨(j + 1 + 1, c1, c2), ⟨ok, hRd, hk, by show ((j + 1 + 1 : Nat) : Int) ≤ e + 1; omega⟩, by show (e + 1).toNat - (j + 1 + 1) < (e + 1).toNat - (j + 1); omega, ?_⟩
        rw [w64 (by omega) (by omega), upto_take, upto_snoc]; rfl
      · show (if 0 = 0 then _ else _)
        rw [if_pos rfl]
        show nBF4 _ _ (j + 1) T.length c1 a b c d e (bs nm) R.length c2 0 0 (vi (upto (j + 1))) (vp T) (vp R) _
        rw [nBF4_text]
        have hje : j + 1 = e.toNat + 1 := by omega
        refine ⟨T, R, upto (j + 1), _, (prs_vp T).symm, rfl, (prs_vp R).symm, rfl, rfl, by simp, ⟨ok, hRd, by simp, by simp; omega, fun s hs => ?_⟩, ⟨rfl⟩, ?_⟩
        · have := upto_mem hs; omega
        · show _ = _; rw [bfR, if_pos hk, hje]
end Go.Proofs.G5l

/- awake of chapter 4, for every tape: its calls, one by one. -/
namespace Go.Proofs.G5l
open Go Go.Abs Go.Proofs Go.Abs.MD Go.Str
set_option maxRecDepth 100000
theorem preWOK : PreOK Try.prog (preW C5) := by
  intro g h he args ats H k hk
  unfold preW at he
  rcases ite_so he with ⟨e, rfl⟩ | he
  · exact saidH_ok (fun _ _ _ h => h) _ _ _ _ _ hk
  · cases he
theorem hokW : HandlerOK Try.prog (hW C5) := handlerX_ok mixed preWOK (by decide) 6
/-- rounded down, and what is left -/
def dv (n b : Int) : Int × Int := if n.tmod b < 0 then (IntKind.wrap .i64 (IntKind.wrap .i64 (n.tdiv b) - 1), IntKind.wrap .i64 (n.tmod b + b)) else (IntKind.wrap .i64 (n.tdiv b), n.tmod b)
theorem condd (n b : Int) (h : b ≠ 0) : C5 100 [dI n, dI b] [dI (dv n b).1, dI (dv n b).2] := by
  refine con_flat hokE mixed Try.func100 rfl (by show 0 ≤ 400; omega) rfl (by kernel_rfl) (fun caps => ?_)
  show gdd _ _ n b _
  rw [gdd_text]
  simp only [bc_n h, true_and, and_true]
  refine bc_dec (fun h1 => ?_) (fun h1 => ?_)
  · show _ = _; rw [dv, if_pos h1]
  · show _ = _; rw [dv, if_neg h1]
theorem conlTg (n d : Int) (hn : -4611686018427387904 ≤ n ∧ n ≤ 4611686018427387904) (hd : -4611686018427387904 ≤ d ∧ d ≤ 4611686018427387904) (h0 : d ≠ 0) : C5 66 [dI n, dI d] [.agg [dI (low n d).1, dI (low n d).2]] := by
  by_cases hp : 0 < d
  · exact conlT n d hn ⟨hp, hd.2⟩
  · refine con_flat hokL mixed Try.func66 rfl (by show 0 ≤ 400; omega) rfl (by kernel_rfl) (fun caps => ?_)
    show glT _ _ n d _
    rw [glT_text, bc_t (show d < 0 by omega)]
    have hg := gcd_pos (a := n) (b := d) (.inr (by omega))
    have b1 := tdiv_small (n := 0 - n) (g := Int.gcd n d) (by omega) hg
    have b2 := tdiv_small (n := 0 - d) (g := Int.gcd n d) (by omega) hg
    rw [w64 (z := 0 - n) (by omega) (by omega), w64 (z := 0 - d) (by omega) (by omega)]
    have cv := condv (0 - n) (0 - d) (by omega) (by omega)
    rw [gcd_neg2] at cv
    try simp only [eq_self, true_and, and_true]
    refine ⟨_, ⟨cv⟩, ?_⟩
    simp only [bc_n (show ((Int.gcd n d : Nat) : Int) ≠ 0 by omega), true_and, and_true]
    rw [w64 (by omega) (by omega), w64 (by omega) (by omega)]
    show _ = _
    rw [low, if_pos (by omega)]
abbrev W (z : Int) : Int := IntKind.wrap .i64 z
/-- what is measured of a point, rounded down, and what is left -/
def stZ (a b p q r s : Int) : Int × Int := dv (W (W (0 + W ((dv (W (a * p)) q).2 * W (Int.tdiv (W (q * s)) q))) + W ((dv (W (b * r)) s).2 * W (Int.tdiv (W (q * s)) s)))) (W (q * s))
def stT (a b p q r s : Int) : Int := W (W (W (0 + (dv (W (a * p)) q).1) + (dv (W (b * r)) s).1) + (stZ a b p q r s).1)
/-- does a stripe hold a point -/
def stripeB (a b lo hi p q r s : Int) : Bool := decide (lo ≤ stT a b p q r s) && decide ((if (stZ a b p q r s).2 > 0 then W (stT a b p q r s + 1) else stT a b p q r s) ≤ hi)
theorem consh (a b lo hi p q r s : Int) (hq : q ≠ 0) (hs : s ≠ 0) (hqs : W (q * s) ≠ 0) : C5 97 [.agg [dI a, dI b, dI lo, dI hi], .agg [dI p, dI q, dI r, dI s]] [.val (.bool (stripeB a b lo hi p q r s))] := by
  refine con_walk hokW mixed (u := 8) (by decide) Try.func97 rfl (by show 0 ≤ 400; omega) (fun caps => ?_)
  show gsh _ a b lo hi p q r s _
  rw [gsh_text]
  simp only [eq_self, true_and, and_true]
  refine ⟨(dv (W (a * p)) q).1, (dv (W (a * p)) q).2, ⟨condd _ _ hq⟩, bc_bne (fun _ => ?_) (fun h => absurd h hq)⟩
  refine ⟨(dv (W (b * r)) s).1, (dv (W (b * r)) s).2, ⟨condd _ _ hs⟩, bc_bne (fun _ => ?_) (fun h => absurd h hs)⟩
  refine ⟨(stZ a b p q r s).1, (stZ a b p q r s).2, ⟨condd _ _ hqs⟩, ?_⟩
  have hT : IntKind.wrap IntKind.i64 (IntKind.wrap IntKind.i64 (IntKind.wrap IntKind.i64 (0 + (dv (W (a * p)) q).1) + (dv (W (b * r)) s).1) + (stZ a b p q r s).1) = stT a b p q r s := rfl
  rw [hT]
  unfold stripeB
  generalize stT a b p q r s = t
  generalize (stZ a b p q r s).2 = z
  refine bc_dec (fun h1 => bc_dec (fun h2 => bc_dec (fun h3 => ?_) (fun h3 => ?_)) (fun h2 => ?_)) (fun h1 => bc_dec (fun h2 => bc_dec (fun h3 => ?_) (fun h3 => ?_)) (fun h2 => ?_))
  · show [D.val (Value.bool true)] = _; rw [if_pos h1, decide_eq_true h2, decide_eq_true h3]; rfl
  · show [D.val (Value.bool false)] = _; rw [if_pos h1, decide_eq_true h2, decide_eq_false h3]; rfl
  · show [D.val (Value.bool false)] = _; rw [if_pos h1, decide_eq_false h2]; rfl
  · show [D.val (Value.bool true)] = _; rw [if_neg h1, decide_eq_true h2, decide_eq_true h3]; rfl
  · show [D.val (Value.bool false)] = _; rw [if_neg h1, decide_eq_true h2, decide_eq_false h3]; rfl
  · show [D.val (Value.bool false)] = _; rw [if_neg h1, decide_eq_false h2]; rfl
/-- what is known of small functions, for runs of known data -/
def tabM : Tab := fun f =>
  if f = 66 then some fun ds => match ds with
    | [.val (.int .i64 n), .val (.int .i64 d)] => if -4611686018427387904 ≤ n ∧ n ≤ 4611686018427387904 ∧ -4611686018427387904 ≤ d ∧ d ≤ 4611686018427387904 ∧ d ≠ 0 then some [.agg [dI (low n d).1, dI (low n d).2]] else none
    | _ => none
  else if f = 97 then some fun ds => match ds with
    | [.agg [.val (.int .i64 a), .val (.int .i64 b), .val (.int .i64 lo), .val (.int .i64 hi)], .agg [.val (.int .i64 p), .val (.int .i64 q), .val (.int .i64 r), .val (.int .i64 s)]] => if q ≠ 0 ∧ s ≠ 0 ∧ W (q * s) ≠ 0 then some [.val (.bool (stripeB a b lo hi p q r s))] else none
    | _ => none
  else none
theorem tabM_ok : TabOK Try.prog tabM := by
  intro f t ht ds rs h
  unfold tabM at ht
  split at ht
  · rename_i hf
    subst hf
    obtain rfl := Option.some.inj ht
    simp only at h
    split at h
    · split at h
      · rename_i hc
        obtain rfl := Option.some.inj h
        exact conlTg _ _ ⟨hc.1, hc.2.1⟩ ⟨hc.2.2.1, hc.2.2.2.1⟩ hc.2.2.2.2
      · cases h
    · cases h
  · split at ht
    · rename_i hf
      subst hf
      obtain rfl := Option.some.inj ht
      simp only at h
      split at h
      · split at h
        · rename_i hc
          obtain rfl := Option.some.inj h
          exact consh _ _ _ _ _ _ _ _ hc.1 hc.2.1 hc.2.2
        · cases h
      · cases h
    · cases ht
abbrev evs : List Int := [10, 50, 70, 20, 100, 110, 30, 180, 190]
abbrev lawD (n : Nat) (l : List Int) : D := .agg [dI 0, dI 100, dI 0, dI 10, .sl n 3 (vi l)]
theorem run86a : ∀ caps, runOK Try.prog tabM 1000 61 [lawD 3 evs, .nil] [.val (.bool false)] caps = true := by intro caps; kernel_rfl
theorem run86b : ∀ caps, runOK Try.prog tabM 1000 61 [lawD 3 evs, .sl 1 1 (vi [0])] [.val (.bool false)] caps = true := by intro caps; kernel_rfl
theorem run86c : ∀ caps, runOK Try.prog tabM 1000 61 [lawD 3 evs, .sl 1 1 (vi [1])] [.val (.bool false)] caps = true := by intro caps; kernel_rfl
theorem run86d : ∀ caps, runOK Try.prog tabM 1000 61 [lawD 3 evs, .sl 1 1 (vi [2])] [.val (.bool false)] caps = true := by intro caps; kernel_rfl
theorem run86e : ∀ caps, runOK Try.prog tabM 1000 61 [lawD 3 evs, .sl 2 1 (vi [0, 1])] [.val (.bool false)] caps = true := by intro caps; kernel_rfl
theorem run86f : ∀ caps, runOK Try.prog tabM 1000 61 [lawD 3 evs, .sl 2 1 (vi [0, 2])] [.val (.bool false)] caps = true := by intro caps; kernel_rfl
theorem run86g : ∀ caps, runOK Try.prog tabM 1000 61 [lawD 3 evs, .sl 2 1 (vi [1, 2])] [.val (.bool true)] caps = true := by intro caps; kernel_rfl
def tab86 : List (List D × List D) := [([lawD 3 evs, .nil], [.val (.bool false)]), ([lawD 3 evs, .sl 1 1 (vi [0])], [.val (.bool false)]), ([lawD 3 evs, .sl 1 1 (vi [1])], [.val (.bool false)]), ([lawD 3 evs, .sl 1 1 (vi [2])], [.val (.bool false)]), ([lawD 3 evs, .sl 2 1 (vi [0, 1])], [.val (.bool false)]), ([lawD 3 evs, .sl 2 1 (vi [0, 2])], [.val (.bool false)]), ([lawD 3 evs, .sl 2 1 (vi [1, 2])], [.val (.bool true)])]
theorem tab86_ok : ∀ p ∈ tab86, Con Try.prog 61 p.1 p.2 := by
  have c : ∀ {ds rs : List D}, countV ds ≤ 400 → (∀ caps, runOK Try.prog tabM 1000 61 ds rs caps = true) → Con Try.prog 61 ds rs := fun hc h => con_run tabM_ok mixed hc h
  intro p hp
  simp only [tab86, List.mem_cons, List.not_mem_nil, or_false] at hp
  rcases hp with rfl | rfl | rfl | rfl | rfl | rfl | rfl
  · exact c (by show 1 ≤ 400; omega) run86a
  · exact c (by show 2 ≤ 400; omega) run86b
  · exact c (by show 2 ≤ 400; omega) run86c
  · exact c (by show 2 ≤ 400; omega) run86d
  · exact c (by show 2 ≤ 400; omega) run86e
  · exact c (by show 2 ≤ 400; omega) run86f
  · exact c (by show 2 ≤ 400; omega) run86g
def tab50 : Tab := fun f => if f = 61 then some (tabLook tab86) else tabM f
theorem tab50_ok : TabOK Try.prog tab50 := by
  intro f t ht ds rs h
  unfold tab50 at ht
  split at ht
  · rename_i e
    subst e
    obtain rfl := Option.some.inj ht
    exact tab86_ok _ (tabLook_ok h)
  · exact tabM_ok f t ht ds rs h
theorem run50 : ∀ caps, runOK Try.prog tab50 1000 30 [lawD 3 evs] [.sl 2 1 (vi [1, 2]), dI 0] caps = true := by intro caps; kernel_rfl
theorem run48 : ∀ caps, runOK Try.prog tabM 1000 28 [lawD 2 [10, 50, 70, 20, 100, 110], dI 30] [.agg [dI 130, dI 1, dI 165, dI 1], dI 0] caps = true := by intro caps; kernel_rfl
theorem con50 : Con Try.prog 30 [lawD 3 evs] [.sl 2 1 (vi [1, 2]), dI 0] := con_run tab50_ok mixed (by show 1 ≤ 400; omega) run50
theorem con48 : Con Try.prog 28 [lawD 2 [10, 50, 70, 20, 100, 110], dI 30] [.agg [dI 130, dI 1, dI 165, dI 1], dI 0] := con_run tabM_ok mixed (by show 1 ≤ 400; omega) run48
def tab9 : Tab := fun f =>
  if f = 30 then some (tabLook [([lawD 3 evs], [.sl 2 1 (vi [1, 2]), dI 0])])
  else if f = 28 then some (tabLook [([lawD 2 [10, 50, 70, 20, 100, 110], dI 30], [.agg [dI 130, dI 1, dI 165, dI 1], dI 0])])
  else tabM f
theorem tab9_ok : TabOK Try.prog tab9 := by
  intro f t ht ds rs h
  unfold tab9 at ht
  split at ht
  · rename_i e
    subst e
    obtain rfl := Option.some.inj ht
    have := tabLook_ok h
    simp only [List.mem_cons, List.not_mem_nil, or_false, Prod.mk.injEq] at this
    obtain ⟨rfl, rfl⟩ := this
    exact con50
  · split at ht
    · rename_i e
      subst e
      obtain rfl := Option.some.inj ht
      have := tabLook_ok h
      simp only [List.mem_cons, List.not_mem_nil, or_false, Prod.mk.injEq] at this
      obtain ⟨rfl, rfl⟩ := this
      exact con48
    · exact tabM_ok f t ht ds rs h
theorem run9 : ∀ caps, runOK Try.prog tab9 1000 5 [] [.val (.bool true)] caps = true := by intro caps; kernel_rfl
theorem conA : C5 5 [] [.val (.bool true)] := con_run tab9_ok mixed (by show 0 ≤ 400; omega) run9
end Go.Proofs.G5l

/- Short names for what stands often in printed texts of laws. -/
namespace Go.Abs
abbrev Tk (n k : Nat) (l : List Value) : List Value := List.take (n * k) (List.drop 0 l)
abbrev Dw (n k : Nat) (l : List Value) : D := .sl n k (Tk n k l)
abbrev dL (n k : Nat) (l : List Value) : Bool := decide (0 + n * k ≤ List.length l)
abbrev kT : List D := [.val (.bool true)]
abbrev kF : List D := [.val (.bool false)]
end Go.Abs

/- What is left to show of each function, written out; the kernel reckons it. -/
namespace Go.Proofs.G5l
open Go Go.Abs Go.Proofs
set_option maxRecDepth 100000
set_option linter.unusedVariables false
end Go.Proofs.G5l

/- ModelLosses in data. -/
namespace Go.Proofs.G5l
open Go Go.Abs Go.Proofs Go.Abs.MD Go.Str
set_option maxRecDepth 100000
theorem conYr (T : List (Int × Int)) (hl : T.length ≤ 1000000) (a b c d e : Int) : C5 9 [dRu T a b c d e] [dRu T a b c d e] := by
  refine con_flat hokE mixed Try.func9 rfl (by show 1 ≤ 400; omega) rfl (by kernel_rfl) (fun caps => ?_)
  show gYr _ _ T.length (caps 500) (vp T) a b c d e _
  rw [gYr_text]
  try simp only [eq_self, true_and, and_true]
  refine bc_yes (by simp) (bc_beq (fun h0 => ?_) (fun h0 => bc_yes (by omega) (bc_yes (by omega) (bc_yes (by omega) ⟨by simp, ?_⟩))))
  · obtain rfl : T = [] := List.length_eq_zero_iff.1 h0
    rfl
  · rw [vp_whole, Nat.zero_add, List.nil_append]
theorem conYc (nm : List UInt8) (R : List (Int × Int)) (hl : R.length ≤ 1000000) : C5 10 [dCo nm R] [dCo nm R] := by
  refine con_flat hokE mixed Try.func10 rfl (by show 1 ≤ 400; omega) rfl (by kernel_rfl) (fun caps => ?_)
  show gYc _ _ (bs nm) R.length (caps 500) (vp R) _
  rw [gYc_text]
  try simp only [eq_self, true_and, and_true]
  refine bc_yes (by simp) (bc_beq (fun h0 => ?_) (fun h0 => bc_yes (by omega) (bc_yes (by omega) (bc_yes (by omega) ⟨by simp, ?_⟩))))
  · obtain rfl : R = [] := List.length_eq_zero_iff.1 h0
    rfl
  · rw [vp_whole, Nat.zero_add, List.nil_append]
end Go.Proofs.G5l

/- What a good world's variables hold, as the library's contracts ask it. -/
namespace Go.Abs
variable {P : Program} {w : World}
end Go.Abs

/- Chapter 4, losses: what the frames of the laws share. -/
namespace Go.Proofs.Ytbdnaobaiidblaa.K
open Go Go.Abs Go.RowKit Go.ChangeShapes Go.WideShapes Go.ChangeAt Go.Proofs Go.Flat
set_option maxRecDepth 100000
theorem own : ownKnob Try.prog.godebug = none := by kernel_rfl
theorem laidP : laidOutB Try.prog = true := by kernel_rfl
theorem mapsP : mapsRowed Try.prog = true := by kernel_rfl
theorem slicesP : ∀ t e, t < Try.prog.types.size → Try.prog.underlying t = some (.slice e) → 0 < Try.prog.cellsOf e := slices_full_of Try.prog (by kernel_rfl)
theorem tsP {l : List TypeId} (h : l.all (fun t => decide (t < Try.prog.types.size)) = true) : ∀ t ∈ l, t < Try.prog.types.size := fun t ht => of_decide_eq_true (List.all_eq_true.1 h t ht)
theorem leaf_int {t : TypeId} {d : D} (ht : Try.prog.underlying t = some (.int .i64)) (h : LeafD Try.prog t d) : ∃ n : Int, d = dI n ∧ (-9223372036854775808 ≤ n ∧ n ≤ 9223372036854775807) := by
  unfold LeafD at h
  rw [ht] at h
  obtain ⟨n, rfl, hw⟩ := h
  exact ⟨n, rfl, wf64 hw⟩
end Go.Proofs.Ytbdnaobaiidblaa.K
namespace Go.Proofs.Ytbdnaobaiidblaa.K
open Go Go.Abs Go.RowKit Go.ChangeShapes Go.WideShapes Go.ChangeAt Go.Proofs Go.Flat
set_option maxRecDepth 100000
theorem flat_vp : ∀ l : List (Int × Int), (l.flatMap fun p => [Value.int .i64 p.1, Value.int .i64 p.2]) = vp l
  | [] => rfl
  | a :: r => by rw [List.flatMap_cons, flat_vp r]; rfl
/-- lists of pairs of whole numbers, each of them of 64 bits -/
theorem leaf_prs {t e : TypeId} {d : D} (ht : Try.prog.underlying t = some (.slice e)) (he : leaves Try.prog 10 e = some [.int .i64, .int .i64]) (h : LeafD Try.prog t d) : d = .nil ∨ ∃ l : List (Int × Int), d = .sl l.length 2 (vp l) ∧ ∀ f ∈ l, (-9223372036854775808 ≤ f.1 ∧ f.1 ≤ 9223372036854775807) ∧ (-9223372036854775808 ≤ f.2 ∧ f.2 ≤ 9223372036854775807) := by
  unfold LeafD at h
  rw [ht] at h
  simp only at h
  rcases h with h | ⟨n, cs, L, rfl, hL, hn, hl, hc⟩
  · exact .inl h
  · rw [he] at hL
    obtain rfl := Option.some.inj hL
    simp only [List.length_cons, List.length_nil, Nat.zero_add] at hl hc ⊢
    have hc2 : ∀ i, i < n → ∃ p : Int × Int, (cs.drop (i * 2)).take 2 = [Value.int .i64 p.1, Value.int .i64 p.2] ∧ (-9223372036854775808 ≤ p.1 ∧ p.1 ≤ 9223372036854775807) ∧ (-9223372036854775808 ≤ p.2 ∧ p.2 ≤ 9223372036854775807) := by
      intro i hi
      have := hc i hi
      generalize (cs.drop (i * 2)).take 2 = x at this ⊢
      cases this with
      | cons h1 t =>
        cases t with
        | cons h2 t =>
          cases t
          obtain ⟨a, rfl, ha⟩ := h1
          obtain ⟨b, rfl, hb⟩ := h2
          exact ⟨(a, b), rfl, wf64 ha, wf64 hb⟩
    obtain ⟨ps, hp, rfl⟩ := chunks_of (f := fun p : Int × Int => [Value.int .i64 p.1, Value.int .i64 p.2]) (k := 2) (fun _ => rfl) n cs hl (fun i hi => by
      obtain ⟨p, hp, _⟩ := hc2 i hi
      exact ⟨p, hp⟩)
    refine .inr ⟨ps, by rw [hp, flat_vp], ?_⟩
    intro f hf
    obtain ⟨i, hi, rfl⟩ := List.mem_iff_getElem.1 hf
    obtain ⟨p, hp2, hw⟩ := hc2 i (by omega)
    rw [flat_vp] at hp2
    have := vp_two ps i hi
    rw [Nat.zero_add] at this
    have e := this.eq.symm.trans hp2
    simp only [List.cons.injEq, Value.int.injEq, true_and, and_true] at e
    rw [e.1, e.2]; exact hw
open Go.Str in
theorem leaf_str {t : TypeId} {d : D} (ht : Try.prog.underlying t = some .string) (h : LeafD Try.prog t d) : ∃ s : List UInt8, d = dS s := by
  unfold LeafD at h
  rw [ht] at h
  obtain ⟨s, rfl, _⟩ := h
  exact ⟨s.data.toList, by rw [dS, str, Go.Str.bs_data]⟩
theorem good0 (W : World) : GoodW Try.prog W := fun p hp => by
  rw [show varsOf Try.prog = [] by kernel_rfl] at hp
  cases hp
end Go.Proofs.Ytbdnaobaiidblaa.K

/- Chapter 4, learning: the losses are convex; what learning comes to. -/
namespace Go.Proofs.G5l
open Go Go.Abs Go.Proofs Go.Abs.MD Go.Str
set_option maxRecDepth 100000
theorem ab_conv {x y z : Int} (h : x + y = 2 * z) : 2 * ab z ≤ ab x + ab y := by
  unfold ab
  split <;> split <;> split <;> omega
theorem gN_mid (a b c d s : Int) : gN a b c d (s - 1) + gN a b c d (s + 1) = 2 * gN a b c d s := by
  unfold gN
  rw [Int.sub_mul, Int.sub_mul, Int.add_mul, Int.add_mul]
  omega
theorem loss_conv (T : List (Int × Int)) (a b c d : Int) : ∀ (R : List (Int × Int)) (s : Int), 2 * loss T a b c d R s ≤ loss T a b c d R (s - 1) + loss T a b c d R (s + 1)
  | [], _ => by simp [loss]
  | p :: r, s => by
    have h1 := loss_conv T a b c d r s
    have e : valV p.1 T * gN a b c d (s - 1) + valV p.1 T * gN a b c d (s + 1) = 2 * (valV p.1 T * gN a b c d s) := by
      rw [← Int.mul_add, gN_mid, Int.mul_left_comm]
    have h2 : 2 * ab (valV p.1 T * gN a b c d s - p.2 * gD b d) ≤ ab (valV p.1 T * gN a b c d (s - 1) - p.2 * gD b d) + ab (valV p.1 T * gN a b c d (s + 1) - p.2 * gD b d) := ab_conv (by omega)
    simp only [loss]
    omega
/-- convex over all whole numbers -/
def Conv (f : Int → Int) : Prop := ∀ s, 2 * f s ≤ f (s - 1) + f (s + 1)
theorem right_up {f : Int → Int} (hc : Conv f) {t : Int} (h : f t ≤ f (t + 1)) : ∀ n : Nat, f (t + n) ≤ f (t + n + 1) ∧ f t ≤ f (t + n)
  | 0 => by
    rw [show t + ((0 : Nat) : Int) = t by omega]
    exact ⟨h, Int.le_refl _⟩
  | n + 1 => by
    obtain ⟨h1, h0⟩ := right_up hc h n
    have h2 := hc (t + n + 1)
    rw [show t + (n : Int) + 1 - 1 = t + n by omega] at h2
    rw [show t + ((n + 1 : Nat) : Int) = t + n + 1 by omega]
    omega
theorem left_up {f : Int → Int} (hc : Conv f) {t : Int} (h : f t ≤ f (t - 1)) : ∀ n : Nat, f (t - n) ≤ f (t - n - 1) ∧ f t ≤ f (t - n)
  | 0 => by
    rw [show t - ((0 : Nat) : Int) = t by omega]
    exact ⟨h, Int.le_refl _⟩
  | n + 1 => by
    obtain ⟨h1, h0⟩ := left_up hc h n
    have h2 := hc (t - n - 1)
    rw [show t - (n : Int) - 1 + 1 = t - n by omega] at h2
    rw [show t - ((n + 1 : Nat) : Int) = t - n - 1 by omega]
    omega
theorem glob {f : Int → Int} (hc : Conv f) {e t : Int} (hl : 0 ≤ t - 1 → f t ≤ f (t - 1)) (hr : t + 1 ≤ e → f t ≤ f (t + 1)) {s : Int} (hs : 0 ≤ s ∧ s ≤ e) : f t ≤ f s := by
  rcases Int.lt_trichotomy s t with h | rfl | h
  · have := (left_up hc (hl (by omega)) (t - s).toNat).2
    rw [show t - (((t - s).toNat : Nat) : Int) = s by omega] at this
    exact this
  · exact Int.le_refl _
  · have := (right_up hc (hr (by omega)) (s - t).toNat).2
    rw [show t + (((s - t).toNat : Nat) : Int) = s by omega] at this
    exact this
theorem low1_cases (f : Int → Int) (t : Int) : (low1 f t = t ∧ ¬ (0 ≤ t - 1 ∧ f (t - 1) < f t)) ∨ (low1 f t = t - 1 ∧ 0 ≤ t - 1 ∧ f (t - 1) < f t) := by
  unfold low1
  split
  · exact .inr ⟨rfl, by assumption⟩
  · exact .inl ⟨rfl, by assumption⟩
theorem lrn_cases (f : Int → Int) (e t : Int) : (lrn f e t = low1 f t ∧ ¬ (t + 1 ≤ e ∧ f (t + 1) < f (low1 f t))) ∨ (lrn f e t = t + 1 ∧ t + 1 ≤ e ∧ f (t + 1) < f (low1 f t)) := by
  unfold lrn
  split
  · exact .inr ⟨rfl, by assumption⟩
  · exact .inl ⟨rfl, by assumption⟩
theorem lrn_in (f : Int → Int) {e t : Int} (ht : 0 ≤ t ∧ t ≤ e) : (0 ≤ lrn f e t ∧ lrn f e t ≤ e) ∧ (t - 1 ≤ lrn f e t ∧ lrn f e t ≤ t + 1) ∧ (lrn f e t = t ∨ f (lrn f e t) < f t) := by
  rcases low1_cases f t with ⟨e1, h1⟩ | ⟨e1, h1⟩ <;> rcases lrn_cases f e t with ⟨e2, h2⟩ | ⟨e2, h2⟩ <;> rw [e1] at h2 <;> rw [e2] <;> try rw [e1]
  · exact ⟨ht, by omega, .inl rfl⟩
  · exact ⟨by omega, by omega, .inr h2.2⟩
  · exact ⟨by omega, by omega, .inr h1.2⟩
  · exact ⟨by omega, by omega, .inr (by omega)⟩
theorem lrn_fix {f : Int → Int} {e t : Int} (h : lrn f e t = t) : (0 ≤ t - 1 → f t ≤ f (t - 1)) ∧ (t + 1 ≤ e → f t ≤ f (t + 1)) := by
  rcases low1_cases f t with ⟨e1, h1⟩ | ⟨e1, h1⟩ <;> rcases lrn_cases f e t with ⟨e2, h2⟩ | ⟨e2, h2⟩ <;> rw [e1] at h2
  · omega
  · omega
  · omega
  · omega
/-- how many of the first n lie below y -/
def cnt (f : Int → Int) (y : Int) : Nat → Int
  | 0 => 0
  | n + 1 => cnt f y n + if f n < y then 1 else 0
theorem cnt_in (f : Int → Int) (y : Int) : ∀ n : Nat, 0 ≤ cnt f y n ∧ cnt f y n ≤ n
  | 0 => by simp [cnt]
  | n + 1 => by
    have := cnt_in f y n
    unfold cnt
    split <;> omega
theorem cnt_mono (f : Int → Int) {y z : Int} (h : y ≤ z) : ∀ n : Nat, cnt f y n ≤ cnt f z n
  | 0 => Int.le_refl _
  | n + 1 => by
    have := cnt_mono f h n
    unfold cnt
    split <;> split <;> omega
theorem cnt_lt (f : Int → Int) {y z : Int} (h : y ≤ z) {j : Nat} (hy : y ≤ f j) (hz : f j < z) : ∀ n : Nat, j < n → cnt f y n < cnt f z n
  | 0, hj => absurd hj (by omega)
  | n + 1, hj => by
    unfold cnt
    by_cases hn : j = n
    · subst hn
      have := cnt_mono f h j
      rw [if_neg (by omega), if_pos hz]
      omega
    · have := cnt_lt f h hy hz n (by omega)
      split <;> split <;> omega
theorem cnt_zero {f : Int → Int} {y : Int} : ∀ {n : Nat}, cnt f y n ≤ 0 → ∀ j : Nat, j < n → y ≤ f j
  | 0, _, _, hj => absurd hj (by omega)
  | n + 1, h, j, hj => by
    unfold cnt at h
    have h0 := (cnt_in f y n).1
    by_cases hn : j = n
    · subst hn
      by_cases h2 : f j < y
      · rw [if_pos h2] at h; omega
      · omega
    · refine cnt_zero (n := n) ?_ j (by omega)
      split at h <;> omega
/-- after i steps: what is left above the least, or nothing moves -/
def Prog (f : Int → Int) (e t : Int) (i : Int) : Prop := cnt f (f t) (e + 1).toNat + i ≤ e ∨ lrn f e t = t
theorem prog_init (f : Int → Int) {e t : Int} (ht : 0 ≤ t ∧ t ≤ e) : Prog f e t 0 := by
  have e1 : ((t.toNat : Nat) : Int) = t := by omega
  have h1 := cnt_lt f (y := f t) (z := f t + 1) (by omega) (j := t.toNat) (by rw [e1]; omega) (by rw [e1]; omega) (e + 1).toNat (by omega)
  have h2 := (cnt_in f (f t + 1) (e + 1).toNat).2
  exact .inl (by omega)
theorem prog_step {f : Int → Int} {e t i : Int} (ht : 0 ≤ t ∧ t ≤ e) (h : Prog f e t i) : Prog f e (lrn f e t) (i + 1) := by
  obtain ⟨h1, _, h3⟩ := lrn_in f ht
  rcases h3 with h3 | h3
  · exact .inr (by rw [h3, h3])
  · rcases h with h | h
    · have e1 : (((lrn f e t).toNat : Nat) : Int) = lrn f e t := by omega
      have h4 := cnt_lt f (y := f (lrn f e t)) (z := f t) (by omega) (j := (lrn f e t).toNat) (by rw [e1]; omega) (by rw [e1]; exact h3) (e + 1).toNat (by omega)
      exact .inl (by omega)
    · rw [h] at h3; omega
theorem prog_end {f : Int → Int} {e t : Int} (ht : 0 ≤ t ∧ t ≤ e) (h : Prog f e t e) : lrn f e t = t := by
  rcases h with h | h
  · obtain ⟨h1, _, h3⟩ := lrn_in f ht
    rcases h3 with h3 | h3
    · exact h3
    · have := cnt_zero (f := f) (y := f t) (n := (e + 1).toNat) (by omega) (lrn f e t).toNat (by omega)
      rw [show (((lrn f e t).toNat : Nat) : Int) = lrn f e t by omega] at this
      omega
  · exact h
theorem bestF_le (f : Int → Int) : ∀ (m : Int) (r : List Int), f (bestF f m r) ≤ f m ∧ ∀ y ∈ r, f (bestF f m r) ≤ f y
  | m, [] => ⟨Int.le_refl _, by simp⟩
  | m, y :: r => by
    rw [bestF_step]
    obtain ⟨h1, h2⟩ := bestF_le f (if f y < f m then y else m) r
    have h3 : f (if f y < f m then y else m) ≤ f m ∧ f (if f y < f m then y else m) ≤ f y := by
      split <;> omega
    refine ⟨by omega, fun z hz => ?_⟩
    rcases List.mem_cons.1 hz with rfl | hz
    · omega
    · exact h2 z hz
theorem best_le (f : Int → Int) {l : List Int} {s : Int} (h : s ∈ l) : f (best f l) ≤ f s := by
  cases l with
  | nil => simp at h
  | cons x r =>
    obtain ⟨h1, h2⟩ := bestF_le f x r
    rcases List.mem_cons.1 h with rfl | h
    · exact h1
    · exact h2 s h
theorem mem_upto {n : Nat} {s : Int} (h : 0 ≤ s ∧ s < n) : s ∈ upto n := by
  simp only [upto, List.mem_map, List.mem_range]
  exact ⟨s.toNat, by omega, by omega⟩
theorem upto_ne (n : Nat) : upto (n + 1) ≠ [] := fun h => by
  have := congrArg List.length h
  simp at this
/-- the best of all steps -/
def bst (f : Int → Int) (e : Int) : Int := best f (upto (e.toNat + 1))
theorem bst_in (f : Int → Int) {e : Int} (he : 0 ≤ e) : 0 ≤ bst f e ∧ bst f e ≤ e := by
  have := upto_mem (best_mem f (upto_ne e.toNat))
  unfold bst
  omega
theorem fix_best {f : Int → Int} (hc : Conv f) {e t : Int} (ht : 0 ≤ t ∧ t ≤ e) (h : lrn f e t = t) : f t = f (bst f e) := by
  obtain ⟨h1, h2⟩ := lrn_fix h
  have h3 := glob hc h1 h2 (bst_in f (e := e) (by omega))
  have h4 : f (bst f e) ≤ f t := best_le f (mem_upto (by omega))
  omega
/-! ### the fractions -/
/-- what LossOf answers: its fraction; its error -/
def fr (f : Int → Int) (D : Int) (s : Int) : Int × Int := if sm (low (f s) D) then low (f s) D else (0, 0)
def er (f : Int → Int) (D : Int) (s : Int) : Int := if sm (low (f s) D) then 0 else 8
theorem er_or (f : Int → Int) (D : Int) (s : Int) : (er f D s = 0 ∧ sm (low (f s) D) ∧ fr f D s = low (f s) D) ∨ (er f D s = 8 ∧ ¬ sm (low (f s) D)) := by
  unfold er fr
  by_cases h : sm (low (f s) D)
  · exact .inl ⟨if_pos h, h, if_pos h⟩
  · exact .inr ⟨if_neg h, h⟩
theorem lowP_low {n d : Int} (h : 0 < d) : lowP (low n d).1 (low n d).2 := by
  obtain ⟨_, _, _, _, h2⟩ := low_parts (n := n) h
  exact ⟨(low_den h).1, by omega⟩
theorem sm_I64 {p : Int × Int} (h : sm p) : I64 p.1 ∧ I64 p.2 := by
  obtain ⟨h1, h2⟩ := h
  exact ⟨⟨by omega, by omega⟩, by omega, by omega⟩
theorem sm_mul {p q : Int × Int} (h : sm p) (k : sm q) : IntKind.wrap .i64 (p.1 * q.2) = p.1 * q.2 := by
  obtain ⟨h1, _⟩ := h
  obtain ⟨_, k2⟩ := k
  have a1 : (p.1 * q.2).natAbs ≤ 1000000000 * 1000000000 := by
    rw [Int.natAbs_mul]
    exact Nat.mul_le_mul (by omega) (by omega)
  exact w64 (by omega) (by omega)
end Go.Proofs.G5l

/- What is left to show of each function, written out; the kernel reckons it. -/
namespace Go.Proofs.G5l
open Go Go.Abs Go.Proofs
set_option maxRecDepth 100000
set_option linter.unusedVariables false
end Go.Proofs.G5l

/- What is left to show of each function, written out; the kernel reckons it. -/
namespace Go.Proofs.G5l
open Go Go.Abs Go.Proofs
set_option maxRecDepth 100000
set_option linter.unusedVariables false
end Go.Proofs.G5l

/- What is left to show of each function, written out; the kernel reckons it. -/
namespace Go.Proofs.G5l
open Go Go.Abs Go.Proofs
set_option maxRecDepth 100000
set_option linter.unusedVariables false
end Go.Proofs.G5l

/- ModelLosses in data: a coil without readings, rules without a table. -/
namespace Go.Proofs.G5l
open Go Go.Abs Go.Proofs Go.Abs.MD Go.Str
set_option maxRecDepth 100000
theorem coR_nil_ne (nm : List UInt8) : (coR nm []).2 ≠ 0 := by rw [coR_nil]; split <;> decide
end Go.Proofs.G5l

/- What is left to show of each function, written out; the kernel reckons it. -/
namespace Go.Proofs.G5l
open Go Go.Abs Go.Proofs
set_option maxRecDepth 100000
set_option linter.unusedVariables false
def gNw (C : Ct) (L : AtLoop) (n0 : Nat) (c0 : Nat) (l0 : List Value) (x1 : Int) (x2 : Int) (x3 : Int) (x4 : Int) (x5 : Int) (x6 : Int) (x7 : Int) (s8 : ByteArray) (n9 : Nat) (c9 : Nat) (l9 : List Value) (k : List D → Prop) : Prop := wpFn Try.prog (hM C) L 0 4 #[.agg #[.slice (some ⟨500, 0, none⟩) n0 c0, .int .i64 x1, .int .i64 x2, .int .i64 x3, .int .i64 x4, .int .i64 x5], .agg #[.int .i64 x6, .int .i64 x7], .agg #[.string s8, .slice (some ⟨501, 0, none⟩) n9 c9]] (heapOf [(500, .sym l0 false 2), (501, .sym l9 false 2)]) (dataK k)
theorem gNw_text (C : Ct) (L : AtLoop) (n0 : Nat) (c0 : Nat) (l0 : List Go.Value) (x1 : Int) (x2 : Int) (x3 : Int) (x4 : Int) (x5 : Int) (x6 : Int) (x7 : Int) (s8 : ByteArray) (n9 : Nat) (c9 : Nat) (l9 : List Go.Value) (k : List D → Prop) : gNw C L n0 c0 l0 x1 x2 x3 x4 x5 x6 x7 s8 n9 c9 l9 k =
 (((Says C 5 [] kT) ∧
 (bcase (decide ((↑n0 : Int) ≤ 14))
 (bcase (decide ((↑n9 : Int) ≤ 14))
 (bcase (decide ((↑(ByteArray.size s8) : Int) ≤ 30))
 (bcase (dL n0 2 l0)
 (∃ n1 : Int,
 ((Says C 14 [(D.agg [(Dw n0 2 l0), (dI x1), (dI x2), (dI x3), (dI x4), (dI x5)])] [(dI n1)]) ∧
 (bcase (n1 != 0)
 (k kT)
 (bcase (decide (x5 > 30))
 (k kT)
 (bcase (dL n0 2 l0)
 (∃ n2 : Int,
 ((Says C 17 [(D.agg [(Dw n0 2 l0), (dI x1), (dI x2), (dI x3), (dI x4), (dI x5)]), (D.agg [(dI x6), (dI x7)])] [(dI n2)]) ∧
 (bcase (n2 != 0)
 (k kT)
 (bcase (dL n9 2 l9)
 (∃ n3 : Int,
 ((Says C 20 [(D.agg [(D.val (Value.string (s8))), (Dw n9 2 l9)])] [(dI n3)]) ∧
 (bcase (n3 != 0)
 (k kT)
 (bcase (decide (x6 > 999900))
 (k kT)
 ((((Qv (Pt 1005 0)) ∧
 (Qv (some (AObj.cells [(vI 0), (vI 0)] 28 false 2)))) ∧
 ((Qv (Value.agg [(Value.string (s8)), (Sl 501 (n9) (c9))].toArray)) ∧
 ((Qv (Value.agg [(Sl 500 (n0) (c0)), (vI x1), (vI x2), (vI x3), (vI x4), (vI x5)].toArray)) ∧
 True))) ∧
 (bcase (dL n0 2 l0)
 ((Says C 9 [(D.agg [(Dw n0 2 l0), (dI x1), (dI x2), (dI x3), (dI x4), (dI x5)])] [(D.agg [(Dw n0 2 l0), (dI x1), (dI x2), (dI x3), (dI x4), (dI x5)])]) ∧
 ((((Qv (Pt 1005 0)) ∧
 (Qv (some (AObj.cells [(vI 0), (vI 0)] 28 false 2)))) ∧
 ((Qv (Value.agg [(Value.string (s8)), (Sl 501 (n9) (c9))].toArray)) ∧
 True)) ∧
 (bcase (dL n9 2 l9)
 ((Says C 10 [(D.agg [(D.val (Value.string (s8))), (Dw n9 2 l9)])] [(D.agg [(D.val (Value.string (s8))), (Dw n9 2 l9)])]) ∧
 ((((Qv (Pt 1005 0)) ∧
 (Qv (some (AObj.cells [(vI 0), (vI 0)] 28 false 2)))) ∧
 True) ∧
 (bcase (dL n0 2 (Tk n0 2 l0))
 (bcase (dL n9 2 (Tk n9 2 l9))
 (∃ n4 : Int,
 (∃ n5 : Int,
 (∃ n6 : Int,
 ((Says C 13 [(D.agg [(Dw n0 2 (Tk n0 2 l0)), (dI x1), (dI x2), (dI x3), (dI x4), (dI x5)]), (D.agg [(D.val (Value.string (s8))), (Dw n9 2 (Tk n9 2 l9))])] [(D.agg [(dI n4), (dI n5)]), (dI n6)]) ∧
 (((Qv (vI n6)) ∧
 ((Qv (Value.agg [(vI n4), (vI n5)].toArray)) ∧
 ((Qv (Value.tuple [(Value.agg [(vI n4), (vI n5)].toArray), (vI n6)].toArray)) ∧
 (((Qv (Pt 1005 0)) ∧
 (Qv (some (AObj.cells [(vI 0), (vI 0)] 28 false 2)))) ∧
 True)))) ∧
 (((Qv (vI n6)) ∧
 True) ∧
 (True ∧
 ((((Qv (Pt 1008 0)) ∧
 (Qv (some (AObj.cells [(vI 0), (vI 0)] 24 false 2)))) ∧
 ((Qv (Value.agg [(Value.string (s8)), (Sl 501 (n9) (c9))].toArray)) ∧
 ((Qv (Value.agg [(vI n4), (vI n5)].toArray)) ∧
 ((Qv (Value.agg [(Sl 500 (n0) (c0)), (vI x1), (vI x2), (vI x3), (vI x4), (vI x5)].toArray)) ∧
 True)))) ∧
 (bcase (dL n0 2 l0)
 ((Says C 9 [(D.agg [(Dw n0 2 l0), (dI x1), (dI x2), (dI x3), (dI x4), (dI x5)])] [(D.agg [(Dw n0 2 l0), (dI x1), (dI x2), (dI x3), (dI x4), (dI x5)])]) ∧
 ((((Qv (Pt 1008 0)) ∧
 (Qv (some (AObj.cells [(vI 0), (vI 0)] 24 false 2)))) ∧
 ((Qv (Value.agg [(Value.string (s8)), (Sl 501 (n9) (c9))].toArray)) ∧
 ((Qv (Value.agg [(vI n4), (vI n5)].toArray)) ∧
 True))) ∧
 (bcase (dL n9 2 l9)
 ((Says C 10 [(D.agg [(D.val (Value.string (s8))), (Dw n9 2 l9)])] [(D.agg [(D.val (Value.string (s8))), (Dw n9 2 l9)])]) ∧
 ((((Qv (Pt 1008 0)) ∧
 (Qv (some (AObj.cells [(vI 0), (vI 0)] 24 false 2)))) ∧
 ((Qv (Value.agg [(vI n4), (vI n5)].toArray)) ∧
 True)) ∧
 (bcase (dL n0 2 (Tk n0 2 l0))
 (bcase (dL n9 2 (Tk n9 2 l9))
 (∃ n7 : Int,
 (∃ n8 : Int,
 (∃ n10 : Int,
 ((Says C 11 [(D.agg [(Dw n0 2 (Tk n0 2 l0)), (dI x1), (dI x2), (dI x3), (dI x4), (dI x5)]), (D.agg [(dI n4), (dI n5)]), (D.agg [(D.val (Value.string (s8))), (Dw n9 2 (Tk n9 2 l9))])] [(D.agg [(dI n7), (dI n8)]), (dI n10)]) ∧
 (((Qv (vI n10)) ∧
 ((Qv (Value.agg [(vI n7), (vI n8)].toArray)) ∧
 ((Qv (Value.tuple [(Value.agg [(vI n7), (vI n8)].toArray), (vI n10)].toArray)) ∧
 (((Qv (Pt 1008 0)) ∧
 (Qv (some (AObj.cells [(vI 0), (vI 0)] 24 false 2)))) ∧
 True)))) ∧
 (((Qv (vI n10)) ∧
 True) ∧
 (True ∧
 ((((Qv (Pt 1011 0)) ∧
 (Qv (some (AObj.cells [(vI 0), (vI 0)] 24 false 2)))) ∧
 ((Qv (Value.agg [(Value.string (s8)), (Sl 501 (n9) (c9))].toArray)) ∧
 ((Qv (Value.agg [(vI x6), (vI x7)].toArray)) ∧
 ((Qv (Value.agg [(Sl 500 (n0) (c0)), (vI x1), (vI x2), (vI x3), (vI x4), (vI x5)].toArray)) ∧
 True)))) ∧
 (bcase (dL n0 2 l0)
 ((Says C 9 [(D.agg [(Dw n0 2 l0), (dI x1), (dI x2), (dI x3), (dI x4), (dI x5)])] [(D.agg [(Dw n0 2 l0), (dI x1), (dI x2), (dI x3), (dI x4), (dI x5)])]) ∧
 ((((Qv (Pt 1011 0)) ∧
 (Qv (some (AObj.cells [(vI 0), (vI 0)] 24 false 2)))) ∧
 ((Qv (Value.agg [(Value.string (s8)), (Sl 501 (n9) (c9))].toArray)) ∧
 ((Qv (Value.agg [(vI x6), (vI x7)].toArray)) ∧
 True))) ∧
 (bcase (dL n9 2 l9)
 ((Says C 10 [(D.agg [(D.val (Value.string (s8))), (Dw n9 2 l9)])] [(D.agg [(D.val (Value.string (s8))), (Dw n9 2 l9)])]) ∧
 ((((Qv (Pt 1011 0)) ∧
 (Qv (some (AObj.cells [(vI 0), (vI 0)] 24 false 2)))) ∧
 ((Qv (Value.agg [(vI x6), (vI x7)].toArray)) ∧
 True)) ∧
 (bcase (dL n0 2 (Tk n0 2 l0))
 (bcase (dL n9 2 (Tk n9 2 l9))
 (∃ n11 : Int,
 (∃ n12 : Int,
 (∃ n13 : Int,
 ((Says C 11 [(D.agg [(Dw n0 2 (Tk n0 2 l0)), (dI x1), (dI x2), (dI x3), (dI x4), (dI x5)]), (D.agg [(dI x6), (dI x7)]), (D.agg [(D.val (Value.string (s8))), (Dw n9 2 (Tk n9 2 l9))])] [(D.agg [(dI n11), (dI n12)]), (dI n13)]) ∧
 (((Qv (vI n13)) ∧
 ((Qv (Value.agg [(vI n11), (vI n12)].toArray)) ∧
 ((Qv (Value.tuple [(Value.agg [(vI n11), (vI n12)].toArray), (vI n13)].toArray)) ∧
 (((Qv (Pt 1011 0)) ∧
 (Qv (some (AObj.cells [(vI 0), (vI 0)] 24 false 2)))) ∧
 True)))) ∧
 (((Qv (vI n13)) ∧
 True) ∧
 (True ∧
 (bcase (n6 != 0)
 (k kF)
 (bcase (n10 != 0)
 (bcase (n10 != 8)
 (k kF)
 (bcase (n13 != 0)
 (bcase (n13 != 8)
 (k kF)
 (bcase (n10 == 0)
 (bcase (n13 == 0)
 (L 0 [(Prod.mk 3 (Pt 1000 0)), (Prod.mk 5 (Pt 1001 0)), (Prod.mk 9 (Pt 1002 0)), (Prod.mk 11 (Pt 1003 0)), (Prod.mk 13 (Value.bool true)), (Prod.mk 14 (Pt 1004 0)), (Prod.mk 15 (vI 0))] [(Prod.mk 1000 (AObj.cells [(Sl 500 (n0) (c0)), (vI x1), (vI x2), (vI x3), (vI x4), (vI x5)] 26 false 1)), (Prod.mk 1001 (AObj.cells [(Value.string (s8)), (Sl 501 (n9) (c9))] 31 false 1)), (Prod.mk 1002 (AObj.cells [(vI n7), (vI n8)] 24 false 2)), (Prod.mk 1003 (AObj.cells [(vI n11), (vI n12)] 24 false 2)), (Prod.mk 1004 (AObj.cells [(vI x6), (vI x7)] 28 false 2)), (Prod.mk 500 (AObj.sym (l0) false 2)), (Prod.mk 501 (AObj.sym (l9) false 2))])
 (L 0 [(Prod.mk 3 (Pt 1000 0)), (Prod.mk 5 (Pt 1001 0)), (Prod.mk 9 (Pt 1002 0)), (Prod.mk 11 (Pt 1003 0)), (Prod.mk 13 (Value.bool false)), (Prod.mk 14 (Pt 1004 0)), (Prod.mk 15 (vI 0))] [(Prod.mk 1000 (AObj.cells [(Sl 500 (n0) (c0)), (vI x1), (vI x2), (vI x3), (vI x4), (vI x5)] 26 false 1)), (Prod.mk 1001 (AObj.cells [(Value.string (s8)), (Sl 501 (n9) (c9))] 31 false 1)), (Prod.mk 1002 (AObj.cells [(vI n7), (vI n8)] 24 false 2)), (Prod.mk 1003 (AObj.cells [(vI n11), (vI n12)] 24 false 2)), (Prod.mk 1004 (AObj.cells [(vI x6), (vI x7)] 28 false 2)), (Prod.mk 500 (AObj.sym (l0) false 2)), (Prod.mk 501 (AObj.sym (l9) false 2))]))
 (L 0 [(Prod.mk 3 (Pt 1000 0)), (Prod.mk 5 (Pt 1001 0)), (Prod.mk 9 (Pt 1002 0)), (Prod.mk 11 (Pt 1003 0)), (Prod.mk 13 (Value.bool false)), (Prod.mk 14 (Pt 1004 0)), (Prod.mk 15 (vI 0))] [(Prod.mk 1000 (AObj.cells [(Sl 500 (n0) (c0)), (vI x1), (vI x2), (vI x3), (vI x4), (vI x5)] 26 false 1)), (Prod.mk 1001 (AObj.cells [(Value.string (s8)), (Sl 501 (n9) (c9))] 31 false 1)), (Prod.mk 1002 (AObj.cells [(vI n7), (vI n8)] 24 false 2)), (Prod.mk 1003 (AObj.cells [(vI n11), (vI n12)] 24 false 2)), (Prod.mk 1004 (AObj.cells [(vI x6), (vI x7)] 28 false 2)), (Prod.mk 500 (AObj.sym (l0) false 2)), (Prod.mk 501 (AObj.sym (l9) false 2))])))
 (bcase (n10 == 0)
 (bcase (n13 == 0)
 (L 0 [(Prod.mk 3 (Pt 1000 0)), (Prod.mk 5 (Pt 1001 0)), (Prod.mk 9 (Pt 1002 0)), (Prod.mk 11 (Pt 1003 0)), (Prod.mk 13 (Value.bool true)), (Prod.mk 14 (Pt 1004 0)), (Prod.mk 15 (vI 0))] [(Prod.mk 1000 (AObj.cells [(Sl 500 (n0) (c0)), (vI x1), (vI x2), (vI x3), (vI x4), (vI x5)] 26 false 1)), (Prod.mk 1001 (AObj.cells [(Value.string (s8)), (Sl 501 (n9) (c9))] 31 false 1)), (Prod.mk 1002 (AObj.cells [(vI n7), (vI n8)] 24 false 2)), (Prod.mk 1003 (AObj.cells [(vI n11), (vI n12)] 24 false 2)), (Prod.mk 1004 (AObj.cells [(vI x6), (vI x7)] 28 false 2)), (Prod.mk 500 (AObj.sym (l0) false 2)), (Prod.mk 501 (AObj.sym (l9) false 2))])
 (L 0 [(Prod.mk 3 (Pt 1000 0)), (Prod.mk 5 (Pt 1001 0)), (Prod.mk 9 (Pt 1002 0)), (Prod.mk 11 (Pt 1003 0)), (Prod.mk 13 (Value.bool false)), (Prod.mk 14 (Pt 1004 0)), (Prod.mk 15 (vI 0))] [(Prod.mk 1000 (AObj.cells [(Sl 500 (n0) (c0)), (vI x1), (vI x2), (vI x3), (vI x4), (vI x5)] 26 false 1)), (Prod.mk 1001 (AObj.cells [(Value.string (s8)), (Sl 501 (n9) (c9))] 31 false 1)), (Prod.mk 1002 (AObj.cells [(vI n7), (vI n8)] 24 false 2)), (Prod.mk 1003 (AObj.cells [(vI n11), (vI n12)] 24 false 2)), (Prod.mk 1004 (AObj.cells [(vI x6), (vI x7)] 28 false 2)), (Prod.mk 500 (AObj.sym (l0) false 2)), (Prod.mk 501 (AObj.sym (l9) false 2))]))
 (L 0 [(Prod.mk 3 (Pt 1000 0)), (Prod.mk 5 (Pt 1001 0)), (Prod.mk 9 (Pt 1002 0)), (Prod.mk 11 (Pt 1003 0)), (Prod.mk 13 (Value.bool false)), (Prod.mk 14 (Pt 1004 0)), (Prod.mk 15 (vI 0))] [(Prod.mk 1000 (AObj.cells [(Sl 500 (n0) (c0)), (vI x1), (vI x2), (vI x3), (vI x4), (vI x5)] 26 false 1)), (Prod.mk 1001 (AObj.cells [(Value.string (s8)), (Sl 501 (n9) (c9))] 31 false 1)), (Prod.mk 1002 (AObj.cells [(vI n7), (vI n8)] 24 false 2)), (Prod.mk 1003 (AObj.cells [(vI n11), (vI n12)] 24 false 2)), (Prod.mk 1004 (AObj.cells [(vI x6), (vI x7)] 28 false 2)), (Prod.mk 500 (AObj.sym (l0) false 2)), (Prod.mk 501 (AObj.sym (l9) false 2))]))))
 (bcase (n13 != 0)
 (bcase (n13 != 8)
 (k kF)
 (bcase (n10 == 0)
 (bcase (n13 == 0)
 (L 0 [(Prod.mk 3 (Pt 1000 0)), (Prod.mk 5 (Pt 1001 0)), (Prod.mk 9 (Pt 1002 0)), (Prod.mk 11 (Pt 1003 0)), (Prod.mk 13 (Value.bool true)), (Prod.mk 14 (Pt 1004 0)), (Prod.mk 15 (vI 0))] [(Prod.mk 1000 (AObj.cells [(Sl 500 (n0) (c0)), (vI x1), (vI x2), (vI x3), (vI x4), (vI x5)] 26 false 1)), (Prod.mk 1001 (AObj.cells [(Value.string (s8)), (Sl 501 (n9) (c9))] 31 false 1)), (Prod.mk 1002 (AObj.cells [(vI n7), (vI n8)] 24 false 2)), (Prod.mk 1003 (AObj.cells [(vI n11), (vI n12)] 24 false 2)), (Prod.mk 1004 (AObj.cells [(vI x6), (vI x7)] 28 false 2)), (Prod.mk 500 (AObj.sym (l0) false 2)), (Prod.mk 501 (AObj.sym (l9) false 2))])
 (L 0 [(Prod.mk 3 (Pt 1000 0)), (Prod.mk 5 (Pt 1001 0)), (Prod.mk 9 (Pt 1002 0)), (Prod.mk 11 (Pt 1003 0)), (Prod.mk 13 (Value.bool false)), (Prod.mk 14 (Pt 1004 0)), (Prod.mk 15 (vI 0))] [(Prod.mk 1000 (AObj.cells [(Sl 500 (n0) (c0)), (vI x1), (vI x2), (vI x3), (vI x4), (vI x5)] 26 false 1)), (Prod.mk 1001 (AObj.cells [(Value.string (s8)), (Sl 501 (n9) (c9))] 31 false 1)), (Prod.mk 1002 (AObj.cells [(vI n7), (vI n8)] 24 false 2)), (Prod.mk 1003 (AObj.cells [(vI n11), (vI n12)] 24 false 2)), (Prod.mk 1004 (AObj.cells [(vI x6), (vI x7)] 28 false 2)), (Prod.mk 500 (AObj.sym (l0) false 2)), (Prod.mk 501 (AObj.sym (l9) false 2))]))
 (L 0 [(Prod.mk 3 (Pt 1000 0)), (Prod.mk 5 (Pt 1001 0)), (Prod.mk 9 (Pt 1002 0)), (Prod.mk 11 (Pt 1003 0)), (Prod.mk 13 (Value.bool false)), (Prod.mk 14 (Pt 1004 0)), (Prod.mk 15 (vI 0))] [(Prod.mk 1000 (AObj.cells [(Sl 500 (n0) (c0)), (vI x1), (vI x2), (vI x3), (vI x4), (vI x5)] 26 false 1)), (Prod.mk 1001 (AObj.cells [(Value.string (s8)), (Sl 501 (n9) (c9))] 31 false 1)), (Prod.mk 1002 (AObj.cells [(vI n7), (vI n8)] 24 false 2)), (Prod.mk 1003 (AObj.cells [(vI n11), (vI n12)] 24 false 2)), (Prod.mk 1004 (AObj.cells [(vI x6), (vI x7)] 28 false 2)), (Prod.mk 500 (AObj.sym (l0) false 2)), (Prod.mk 501 (AObj.sym (l9) false 2))])))
 (bcase (n10 == 0)
 (bcase (n13 == 0)
 (L 0 [(Prod.mk 3 (Pt 1000 0)), (Prod.mk 5 (Pt 1001 0)), (Prod.mk 9 (Pt 1002 0)), (Prod.mk 11 (Pt 1003 0)), (Prod.mk 13 (Value.bool true)), (Prod.mk 14 (Pt 1004 0)), (Prod.mk 15 (vI 0))] [(Prod.mk 1000 (AObj.cells [(Sl 500 (n0) (c0)), (vI x1), (vI x2), (vI x3), (vI x4), (vI x5)] 26 false 1)), (Prod.mk 1001 (AObj.cells [(Value.string (s8)), (Sl 501 (n9) (c9))] 31 false 1)), (Prod.mk 1002 (AObj.cells [(vI n7), (vI n8)] 24 false 2)), (Prod.mk 1003 (AObj.cells [(vI n11), (vI n12)] 24 false 2)), (Prod.mk 1004 (AObj.cells [(vI x6), (vI x7)] 28 false 2)), (Prod.mk 500 (AObj.sym (l0) false 2)), (Prod.mk 501 (AObj.sym (l9) false 2))])
 (L 0 [(Prod.mk 3 (Pt 1000 0)), (Prod.mk 5 (Pt 1001 0)), (Prod.mk 9 (Pt 1002 0)), (Prod.mk 11 (Pt 1003 0)), (Prod.mk 13 (Value.bool false)), (Prod.mk 14 (Pt 1004 0)), (Prod.mk 15 (vI 0))] [(Prod.mk 1000 (AObj.cells [(Sl 500 (n0) (c0)), (vI x1), (vI x2), (vI x3), (vI x4), (vI x5)] 26 false 1)), (Prod.mk 1001 (AObj.cells [(Value.string (s8)), (Sl 501 (n9) (c9))] 31 false 1)), (Prod.mk 1002 (AObj.cells [(vI n7), (vI n8)] 24 false 2)), (Prod.mk 1003 (AObj.cells [(vI n11), (vI n12)] 24 false 2)), (Prod.mk 1004 (AObj.cells [(vI x6), (vI x7)] 28 false 2)), (Prod.mk 500 (AObj.sym (l0) false 2)), (Prod.mk 501 (AObj.sym (l9) false 2))]))
 (L 0 [(Prod.mk 3 (Pt 1000 0)), (Prod.mk 5 (Pt 1001 0)), (Prod.mk 9 (Pt 1002 0)), (Prod.mk 11 (Pt 1003 0)), (Prod.mk 13 (Value.bool false)), (Prod.mk 14 (Pt 1004 0)), (Prod.mk 15 (vI 0))] [(Prod.mk 1000 (AObj.cells [(Sl 500 (n0) (c0)), (vI x1), (vI x2), (vI x3), (vI x4), (vI x5)] 26 false 1)), (Prod.mk 1001 (AObj.cells [(Value.string (s8)), (Sl 501 (n9) (c9))] 31 false 1)), (Prod.mk 1002 (AObj.cells [(vI n7), (vI n8)] 24 false 2)), (Prod.mk 1003 (AObj.cells [(vI n11), (vI n12)] 24 false 2)), (Prod.mk 1004 (AObj.cells [(vI x6), (vI x7)] 28 false 2)), (Prod.mk 500 (AObj.sym (l0) false 2)), (Prod.mk 501 (AObj.sym (l9) false 2))]))))))))))))
 False)
 False)))
 False)))
 False)))))))))
 False)
 False)))
 False)))
 False)))))))))
 False)
 False)))
 False)))
 False))))))
 False))))
 False)))))
 False)
 (k kT))
 (k kT))
 (k kT))) ∨
 ((Says C 5 [] kF) ∧
 (k kF))) := by kernel_rfl
abbrev zNw1 (b0 : Bool) (x1 : Int) (n2 : Nat) (c3 : Nat) (x4 : Int) (x5 : Int) (x6 : Int) (x7 : Int) (x8 : Int) (s9 : ByteArray) (n10 : Nat) (c11 : Nat) (x12 : Int) (x13 : Int) (x14 : Int) (x15 : Int) (x16 : Int) (x17 : Int) (l18 : List Value) (l19 : List Value) : Slots × Blocks := ([(3, (Value.pointer (some ⟨1000, 0, none⟩))), (5, (Value.pointer (some ⟨1001, 0, none⟩))), (9, (Value.pointer (some ⟨1002, 0, none⟩))), (11, (Value.pointer (some ⟨1003, 0, none⟩))), (13, (Value.bool b0)), (14, (Value.pointer (some ⟨1004, 0, none⟩))), (15, (Value.int .i64 x1))], [(1000, (AObj.cells [(Value.slice (some ⟨500, 0, none⟩) n2 c3), (Value.int .i64 x4), (Value.int .i64 x5), (Value.int .i64 x6), (Value.int .i64 x7), (Value.int .i64 x8)] 26 false 1)), (1001, (AObj.cells [(Value.string s9), (Value.slice (some ⟨501, 0, none⟩) n10 c11)] 31 false 1)), (1002, (AObj.cells [(Value.int .i64 x12), (Value.int .i64 x13)] 24 false 2)), (1003, (AObj.cells [(Value.int .i64 x14), (Value.int .i64 x15)] 24 false 2)), (1004, (AObj.cells [(Value.int .i64 x16), (Value.int .i64 x17)] 28 false 2)), (500, (AObj.sym l18 false 2)), (501, (AObj.sym l19 false 2))])
def rNw1 (C : Ct) (L : AtLoop) (b0 : Bool) (x1 : Int) (n2 : Nat) (c3 : Nat) (x4 : Int) (x5 : Int) (x6 : Int) (x7 : Int) (x8 : Int) (s9 : ByteArray) (n10 : Nat) (c11 : Nat) (x12 : Int) (x13 : Int) (x14 : Int) (x15 : Int) (x16 : Int) (x17 : Int) (l18 : List Value) (l19 : List Value) (B : Bx) (X : Xx) (k : List D → Prop) : Prop := wpRound Try.prog (hM C) L 4 0 [(3, (Value.pointer (some ⟨1000, 0, none⟩))), (5, (Value.pointer (some ⟨1001, 0, none⟩))), (9, (Value.pointer (some ⟨1002, 0, none⟩))), (11, (Value.pointer (some ⟨1003, 0, none⟩))), (13, (Value.bool b0)), (14, (Value.pointer (some ⟨1004, 0, none⟩))), (15, (Value.int .i64 x1))] [(1000, (AObj.cells [(Value.slice (some ⟨500, 0, none⟩) n2 c3), (Value.int .i64 x4), (Value.int .i64 x5), (Value.int .i64 x6), (Value.int .i64 x7), (Value.int .i64 x8)] 26 false 1)), (1001, (AObj.cells [(Value.string s9), (Value.slice (some ⟨501, 0, none⟩) n10 c11)] 31 false 1)), (1002, (AObj.cells [(Value.int .i64 x12), (Value.int .i64 x13)] 24 false 2)), (1003, (AObj.cells [(Value.int .i64 x14), (Value.int .i64 x15)] 24 false 2)), (1004, (AObj.cells [(Value.int .i64 x16), (Value.int .i64 x17)] 28 false 2)), (500, (AObj.sym l18 false 2)), (501, (AObj.sym l19 false 2))] B X (dataK k)
theorem rNw1_text (C : Ct) (L : AtLoop) (b0 : Bool) (x1 : Int) (n2 : Nat) (c3 : Nat) (x4 : Int) (x5 : Int) (x6 : Int) (x7 : Int) (x8 : Int) (s9 : ByteArray) (n10 : Nat) (c11 : Nat) (x12 : Int) (x13 : Int) (x14 : Int) (x15 : Int) (x16 : Int) (x17 : Int) (l18 : List Go.Value) (l19 : List Go.Value) (B : Bx) (X : Xx) (k : List D → Prop) : rNw1 C L b0 x1 n2 c3 x4 x5 x6 x7 x8 s9 n10 c11 x12 x13 x14 x15 x16 x17 l18 l19 B X k =
 (bcase (decide (x1 ≤ x8))
 ((((Qv (Pt 1005 0)) ∧
 (Qv (some (AObj.cells [(vI 0), (vI 0)] 28 false 2)))) ∧
 ((Qv (Value.agg [(Value.string (s9)), (Sl 501 (n10) (c11))].toArray)) ∧
 ((Qv (Value.agg [(vI x16), (vI x17)].toArray)) ∧
 ((Qv (Value.agg [(Sl 500 (n2) (c3)), (vI x4), (vI x5), (vI x6), (vI x7), (vI x8)].toArray)) ∧
 True)))) ∧
 (bcase (dL n2 2 l18)
 ((Says C 9 [(D.agg [(Dw n2 2 l18), (dI x4), (dI x5), (dI x6), (dI x7), (dI x8)])] [(D.agg [(Dw n2 2 l18), (dI x4), (dI x5), (dI x6), (dI x7), (dI x8)])]) ∧
 ((((Qv (Pt 1005 0)) ∧
 (Qv (some (AObj.cells [(vI 0), (vI 0)] 28 false 2)))) ∧
 ((Qv (Value.agg [(Value.string (s9)), (Sl 501 (n10) (c11))].toArray)) ∧
 ((Qv (Value.agg [(vI x16), (vI x17)].toArray)) ∧
 True))) ∧
 (bcase (dL n10 2 l19)
 ((Says C 10 [(D.agg [(D.val (Value.string (s9))), (Dw n10 2 l19)])] [(D.agg [(D.val (Value.string (s9))), (Dw n10 2 l19)])]) ∧
 ((((Qv (Pt 1005 0)) ∧
 (Qv (some (AObj.cells [(vI 0), (vI 0)] 28 false 2)))) ∧
 ((Qv (Value.agg [(vI x16), (vI x17)].toArray)) ∧
 True)) ∧
 (bcase (dL n2 2 (Tk n2 2 l18))
 (bcase (dL n10 2 (Tk n10 2 l19))
 (∃ n1 : Int,
 (∃ n3 : Int,
 (∃ n4 : Int,
 ((Says C 12 [(D.agg [(Dw n2 2 (Tk n2 2 l18)), (dI x4), (dI x5), (dI x6), (dI x7), (dI x8)]), (D.agg [(dI x16), (dI x17)]), (D.agg [(D.val (Value.string (s9))), (Dw n10 2 (Tk n10 2 l19))])] [(D.agg [(dI n1), (dI n3)]), (dI n4)]) ∧
 (((Qv (vI n4)) ∧
 ((Qv (Value.agg [(vI n1), (vI n3)].toArray)) ∧
 ((Qv (Value.tuple [(Value.agg [(vI n1), (vI n3)].toArray), (vI n4)].toArray)) ∧
 (((Qv (Pt 1005 0)) ∧
 (Qv (some (AObj.cells [(vI 0), (vI 0)] 28 false 2)))) ∧
 True)))) ∧
 (((Qv (vI n4)) ∧
 True) ∧
 (True ∧
 (bcase (n4 != 0)
 (k kF)
 (bcase (n1 != IntKind.wrap .i64 (x16 + 1))
 (k kF)
 (((Says C 21 [(dI n3), (D.val (vI (if IntKind.wrap .i64 (x17 - 1) > 0 then IntKind.wrap .i64 (x17 - 1) else 0))), (D.val (vI (if IntKind.wrap .i64 (x17 + 1) < x8 then IntKind.wrap .i64 (x17 + 1) else x8)))] kT) ∧
 ((((Qv (Pt 1008 0)) ∧
 (Qv (some (AObj.cells [(vI 0), (vI 0)] 24 false 2)))) ∧
 ((Qv (Value.agg [(Value.string (s9)), (Sl 501 (n10) (c11))].toArray)) ∧
 ((Qv (Value.agg [(vI n1), (vI n3)].toArray)) ∧
 ((Qv (Value.agg [(Sl 500 (n2) (c3)), (vI x4), (vI x5), (vI x6), (vI x7), (vI x8)].toArray)) ∧
 True)))) ∧
 (bcase (dL n2 2 l18)
 ((Says C 9 [(D.agg [(Dw n2 2 l18), (dI x4), (dI x5), (dI x6), (dI x7), (dI x8)])] [(D.agg [(Dw n2 2 l18), (dI x4), (dI x5), (dI x6), (dI x7), (dI x8)])]) ∧
 ((((Qv (Pt 1008 0)) ∧
 (Qv (some (AObj.cells [(vI 0), (vI 0)] 24 false 2)))) ∧
 ((Qv (Value.agg [(Value.string (s9)), (Sl 501 (n10) (c11))].toArray)) ∧
 ((Qv (Value.agg [(vI n1), (vI n3)].toArray)) ∧
 True))) ∧
 (bcase (dL n10 2 l19)
 ((Says C 10 [(D.agg [(D.val (Value.string (s9))), (Dw n10 2 l19)])] [(D.agg [(D.val (Value.string (s9))), (Dw n10 2 l19)])]) ∧
 ((((Qv (Pt 1008 0)) ∧
 (Qv (some (AObj.cells [(vI 0), (vI 0)] 24 false 2)))) ∧
 ((Qv (Value.agg [(vI n1), (vI n3)].toArray)) ∧
 True)) ∧
 (bcase (dL n2 2 (Tk n2 2 l18))
 (bcase (dL n10 2 (Tk n10 2 l19))
 (∃ n5 : Int,
 (∃ n6 : Int,
 (∃ n7 : Int,
 ((Says C 11 [(D.agg [(Dw n2 2 (Tk n2 2 l18)), (dI x4), (dI x5), (dI x6), (dI x7), (dI x8)]), (D.agg [(dI n1), (dI n3)]), (D.agg [(D.val (Value.string (s9))), (Dw n10 2 (Tk n10 2 l19))])] [(D.agg [(dI n5), (dI n6)]), (dI n7)]) ∧
 (((Qv (vI n7)) ∧
 ((Qv (Value.agg [(vI n5), (vI n6)].toArray)) ∧
 ((Qv (Value.tuple [(Value.agg [(vI n5), (vI n6)].toArray), (vI n7)].toArray)) ∧
 (((Qv (Pt 1008 0)) ∧
 (Qv (some (AObj.cells [(vI 0), (vI 0)] 24 false 2)))) ∧
 True)))) ∧
 (((Qv (vI n7)) ∧
 True) ∧
 (True ∧
 (bcase (n7 != 0)
 (bcase (n7 != 8)
 (k kF)
 (bcase (b0)
 (bcase (n7 == 0)
 (((Says C 22 [(D.agg [(dI n5), (dI n6)])] kT) ∧
 (((Says C 23 [(D.agg [(dI n5), (dI n6)])] kT) ∧
 (((Says C 22 [(D.agg [(dI x14), (dI x15)])] kT) ∧
 (((Says C 23 [(D.agg [(dI x14), (dI x15)])] kT) ∧
 (((Qv (vI (IntKind.wrap .i64 (x14 * n6)))) ∧
 ((Qv (vI n6)) ∧
 ((Qv (Pt 1011 1)) ∧
 ((Qv (vI x14)) ∧
 ((Qv (Pt 1012 0)) ∧
 ((Qv (vI (IntKind.wrap .i64 (n5 * x15)))) ∧
 ((Qv (vI x15)) ∧
 ((Qv (Pt 1012 1)) ∧
 ((Qv (vI n5)) ∧
 ((Qv (Pt 1011 0)) ∧
 True)))))))))) ∧
 (((Qv (vI (IntKind.wrap .i64 (x14 * n6)))) ∧
 ((Qv (vI n6)) ∧
 ((Qv (Pt 1011 1)) ∧
 ((Qv (vI x14)) ∧
 ((Qv (Pt 1012 0)) ∧
 True))))) ∧
 (True ∧
 (bcase (decide (IntKind.wrap .i64 (n5 * x15) < IntKind.wrap .i64 (x14 * n6)))
 (bcase (x1 == x8)
 (bcase (n3 != x17)
 (k kF)
 (bcase (if Bool.true = Bool.true then !(n5 == x12 && (n6 == x13 && Bool.true)) else n5 == x12 && (n6 == x13 && Bool.true))
 (k kF)
 (((Qv (Value.agg [(vI n5), (vI n6)].toArray)) ∧
 ((Qv (Value.agg [(vI n1), (vI n3)].toArray)) ∧
 True)) ∧
 (((Qv (Value.agg [(vI n5), (vI n6)].toArray)) ∧
 True) ∧
 (True ∧
 (B [(Prod.mk 3 (Pt 1000 0)), (Prod.mk 5 (Pt 1001 0)), (Prod.mk 9 (Pt 1002 0)), (Prod.mk 11 (Pt 1003 0)), (Prod.mk 13 (Value.bool true)), (Prod.mk 14 (Pt 1004 0)), (Prod.mk 15 (vI (IntKind.wrap .i64 (x1 + 1))))] [(Prod.mk 1000 (AObj.cells [(Sl 500 (n2) (c3)), (vI x4), (vI x5), (vI x6), (vI x7), (vI x8)] 26 false 1)), (Prod.mk 1001 (AObj.cells [(Value.string (s9)), (Sl 501 (n10) (c11))] 31 false 1)), (Prod.mk 1002 (AObj.cells [(vI x12), (vI x13)] 24 false 2)), (Prod.mk 1003 (AObj.cells [(vI n5), (vI n6)] 24 false 2)), (Prod.mk 1004 (AObj.cells [(vI n1), (vI n3)] 28 false 2)), (Prod.mk 500 (AObj.sym (l18) false 2)), (Prod.mk 501 (AObj.sym (l19) false 2))]))))))
 (((Qv (Value.agg [(vI n5), (vI n6)].toArray)) ∧
 ((Qv (Value.agg [(vI n1), (vI n3)].toArray)) ∧
 True)) ∧
 (((Qv (Value.agg [(vI n5), (vI n6)].toArray)) ∧
 True) ∧
 (True ∧
 (B [(Prod.mk 3 (Pt 1000 0)), (Prod.mk 5 (Pt 1001 0)), (Prod.mk 9 (Pt 1002 0)), (Prod.mk 11 (Pt 1003 0)), (Prod.mk 13 (Value.bool true)), (Prod.mk 14 (Pt 1004 0)), (Prod.mk 15 (vI (IntKind.wrap .i64 (x1 + 1))))] [(Prod.mk 1000 (AObj.cells [(Sl 500 (n2) (c3)), (vI x4), (vI x5), (vI x6), (vI x7), (vI x8)] 26 false 1)), (Prod.mk 1001 (AObj.cells [(Value.string (s9)), (Sl 501 (n10) (c11))] 31 false 1)), (Prod.mk 1002 (AObj.cells [(vI x12), (vI x13)] 24 false 2)), (Prod.mk 1003 (AObj.cells [(vI n5), (vI n6)] 24 false 2)), (Prod.mk 1004 (AObj.cells [(vI n1), (vI n3)] 28 false 2)), (Prod.mk 500 (AObj.sym (l18) false 2)), (Prod.mk 501 (AObj.sym (l19) false 2))])))))
 (bcase (decide (IntKind.wrap .i64 (n5 * x15) > IntKind.wrap .i64 (x14 * n6)))
 (k kF)
 (bcase (x1 == x8)
 (bcase (n3 != x17)
 (k kF)
 (bcase (if Bool.true = Bool.true then !(n5 == x12 && (n6 == x13 && Bool.true)) else n5 == x12 && (n6 == x13 && Bool.true))
 (k kF)
 (((Qv (Value.agg [(vI n5), (vI n6)].toArray)) ∧
 ((Qv (Value.agg [(vI n1), (vI n3)].toArray)) ∧
 True)) ∧
 (((Qv (Value.agg [(vI n5), (vI n6)].toArray)) ∧
 True) ∧
 (True ∧
 (B [(Prod.mk 3 (Pt 1000 0)), (Prod.mk 5 (Pt 1001 0)), (Prod.mk 9 (Pt 1002 0)), (Prod.mk 11 (Pt 1003 0)), (Prod.mk 13 (Value.bool true)), (Prod.mk 14 (Pt 1004 0)), (Prod.mk 15 (vI (IntKind.wrap .i64 (x1 + 1))))] [(Prod.mk 1000 (AObj.cells [(Sl 500 (n2) (c3)), (vI x4), (vI x5), (vI x6), (vI x7), (vI x8)] 26 false 1)), (Prod.mk 1001 (AObj.cells [(Value.string (s9)), (Sl 501 (n10) (c11))] 31 false 1)), (Prod.mk 1002 (AObj.cells [(vI x12), (vI x13)] 24 false 2)), (Prod.mk 1003 (AObj.cells [(vI n5), (vI n6)] 24 false 2)), (Prod.mk 1004 (AObj.cells [(vI n1), (vI n3)] 28 false 2)), (Prod.mk 500 (AObj.sym (l18) false 2)), (Prod.mk 501 (AObj.sym (l19) false 2))]))))))
 (((Qv (Value.agg [(vI n5), (vI n6)].toArray)) ∧
 ((Qv (Value.agg [(vI n1), (vI n3)].toArray)) ∧
 True)) ∧
 (((Qv (Value.agg [(vI n5), (vI n6)].toArray)) ∧
 True) ∧
 (True ∧
 (B [(Prod.mk 3 (Pt 1000 0)), (Prod.mk 5 (Pt 1001 0)), (Prod.mk 9 (Pt 1002 0)), (Prod.mk 11 (Pt 1003 0)), (Prod.mk 13 (Value.bool true)), (Prod.mk 14 (Pt 1004 0)), (Prod.mk 15 (vI (IntKind.wrap .i64 (x1 + 1))))] [(Prod.mk 1000 (AObj.cells [(Sl 500 (n2) (c3)), (vI x4), (vI x5), (vI x6), (vI x7), (vI x8)] 26 false 1)), (Prod.mk 1001 (AObj.cells [(Value.string (s9)), (Sl 501 (n10) (c11))] 31 false 1)), (Prod.mk 1002 (AObj.cells [(vI x12), (vI x13)] 24 false 2)), (Prod.mk 1003 (AObj.cells [(vI n5), (vI n6)] 24 false 2)), (Prod.mk 1004 (AObj.cells [(vI n1), (vI n3)] 28 false 2)), (Prod.mk 500 (AObj.sym (l18) false 2)), (Prod.mk 501 (AObj.sym (l19) false 2))]))))))))))) ∨
 ((Says C 23 [(D.agg [(dI x14), (dI x15)])] kF) ∧
 (k kF)))) ∨
 ((Says C 22 [(D.agg [(dI x14), (dI x15)])] kF) ∧
 (k kF)))) ∨
 ((Says C 23 [(D.agg [(dI n5), (dI n6)])] kF) ∧
 (k kF)))) ∨
 ((Says C 22 [(D.agg [(dI n5), (dI n6)])] kF) ∧
 (k kF)))
 (bcase (x1 == x8)
 (bcase (n3 != x17)
 (k kF)
 (((Qv (Value.agg [(vI n5), (vI n6)].toArray)) ∧
 ((Qv (Value.agg [(vI n1), (vI n3)].toArray)) ∧
 True)) ∧
 (((Qv (Value.agg [(vI n5), (vI n6)].toArray)) ∧
 True) ∧
 (True ∧
 (B [(Prod.mk 3 (Pt 1000 0)), (Prod.mk 5 (Pt 1001 0)), (Prod.mk 9 (Pt 1002 0)), (Prod.mk 11 (Pt 1003 0)), (Prod.mk 13 (Value.bool false)), (Prod.mk 14 (Pt 1004 0)), (Prod.mk 15 (vI (IntKind.wrap .i64 (x1 + 1))))] [(Prod.mk 1000 (AObj.cells [(Sl 500 (n2) (c3)), (vI x4), (vI x5), (vI x6), (vI x7), (vI x8)] 26 false 1)), (Prod.mk 1001 (AObj.cells [(Value.string (s9)), (Sl 501 (n10) (c11))] 31 false 1)), (Prod.mk 1002 (AObj.cells [(vI x12), (vI x13)] 24 false 2)), (Prod.mk 1003 (AObj.cells [(vI n5), (vI n6)] 24 false 2)), (Prod.mk 1004 (AObj.cells [(vI n1), (vI n3)] 28 false 2)), (Prod.mk 500 (AObj.sym (l18) false 2)), (Prod.mk 501 (AObj.sym (l19) false 2))])))))
 (((Qv (Value.agg [(vI n5), (vI n6)].toArray)) ∧
 ((Qv (Value.agg [(vI n1), (vI n3)].toArray)) ∧
 True)) ∧
 (((Qv (Value.agg [(vI n5), (vI n6)].toArray)) ∧
 True) ∧
 (True ∧
 (B [(Prod.mk 3 (Pt 1000 0)), (Prod.mk 5 (Pt 1001 0)), (Prod.mk 9 (Pt 1002 0)), (Prod.mk 11 (Pt 1003 0)), (Prod.mk 13 (Value.bool false)), (Prod.mk 14 (Pt 1004 0)), (Prod.mk 15 (vI (IntKind.wrap .i64 (x1 + 1))))] [(Prod.mk 1000 (AObj.cells [(Sl 500 (n2) (c3)), (vI x4), (vI x5), (vI x6), (vI x7), (vI x8)] 26 false 1)), (Prod.mk 1001 (AObj.cells [(Value.string (s9)), (Sl 501 (n10) (c11))] 31 false 1)), (Prod.mk 1002 (AObj.cells [(vI x12), (vI x13)] 24 false 2)), (Prod.mk 1003 (AObj.cells [(vI n5), (vI n6)] 24 false 2)), (Prod.mk 1004 (AObj.cells [(vI n1), (vI n3)] 28 false 2)), (Prod.mk 500 (AObj.sym (l18) false 2)), (Prod.mk 501 (AObj.sym (l19) false 2))]))))))
 (bcase (x1 == x8)
 (bcase (n3 != x17)
 (k kF)
 (((Qv (Value.agg [(vI n5), (vI n6)].toArray)) ∧
 ((Qv (Value.agg [(vI n1), (vI n3)].toArray)) ∧
 True)) ∧
 (((Qv (Value.agg [(vI n5), (vI n6)].toArray)) ∧
 True) ∧
 (True ∧
 (B [(Prod.mk 3 (Pt 1000 0)), (Prod.mk 5 (Pt 1001 0)), (Prod.mk 9 (Pt 1002 0)), (Prod.mk 11 (Pt 1003 0)), (Prod.mk 13 (Value.bool false)), (Prod.mk 14 (Pt 1004 0)), (Prod.mk 15 (vI (IntKind.wrap .i64 (x1 + 1))))] [(Prod.mk 1000 (AObj.cells [(Sl 500 (n2) (c3)), (vI x4), (vI x5), (vI x6), (vI x7), (vI x8)] 26 false 1)), (Prod.mk 1001 (AObj.cells [(Value.string (s9)), (Sl 501 (n10) (c11))] 31 false 1)), (Prod.mk 1002 (AObj.cells [(vI x12), (vI x13)] 24 false 2)), (Prod.mk 1003 (AObj.cells [(vI n5), (vI n6)] 24 false 2)), (Prod.mk 1004 (AObj.cells [(vI n1), (vI n3)] 28 false 2)), (Prod.mk 500 (AObj.sym (l18) false 2)), (Prod.mk 501 (AObj.sym (l19) false 2))])))))
 (((Qv (Value.agg [(vI n5), (vI n6)].toArray)) ∧
 ((Qv (Value.agg [(vI n1), (vI n3)].toArray)) ∧
 True)) ∧
 (((Qv (Value.agg [(vI n5), (vI n6)].toArray)) ∧
 True) ∧
 (True ∧
 (B [(Prod.mk 3 (Pt 1000 0)), (Prod.mk 5 (Pt 1001 0)), (Prod.mk 9 (Pt 1002 0)), (Prod.mk 11 (Pt 1003 0)), (Prod.mk 13 (Value.bool false)), (Prod.mk 14 (Pt 1004 0)), (Prod.mk 15 (vI (IntKind.wrap .i64 (x1 + 1))))] [(Prod.mk 1000 (AObj.cells [(Sl 500 (n2) (c3)), (vI x4), (vI x5), (vI x6), (vI x7), (vI x8)] 26 false 1)), (Prod.mk 1001 (AObj.cells [(Value.string (s9)), (Sl 501 (n10) (c11))] 31 false 1)), (Prod.mk 1002 (AObj.cells [(vI x12), (vI x13)] 24 false 2)), (Prod.mk 1003 (AObj.cells [(vI n5), (vI n6)] 24 false 2)), (Prod.mk 1004 (AObj.cells [(vI n1), (vI n3)] 28 false 2)), (Prod.mk 500 (AObj.sym (l18) false 2)), (Prod.mk 501 (AObj.sym (l19) false 2))])))))))
 (bcase (b0)
 (bcase (n7 == 0)
 (((Says C 22 [(D.agg [(dI n5), (dI n6)])] kT) ∧
 (((Says C 23 [(D.agg [(dI n5), (dI n6)])] kT) ∧
 (((Says C 22 [(D.agg [(dI x14), (dI x15)])] kT) ∧
 (((Says C 23 [(D.agg [(dI x14), (dI x15)])] kT) ∧
 (((Qv (vI (IntKind.wrap .i64 (x14 * n6)))) ∧
 ((Qv (vI n6)) ∧
 ((Qv (Pt 1011 1)) ∧
 ((Qv (vI x14)) ∧
 ((Qv (Pt 1012 0)) ∧
 ((Qv (vI (IntKind.wrap .i64 (n5 * x15)))) ∧
 ((Qv (vI x15)) ∧
 ((Qv (Pt 1012 1)) ∧
 ((Qv (vI n5)) ∧
 ((Qv (Pt 1011 0)) ∧
 True)))))))))) ∧
 (((Qv (vI (IntKind.wrap .i64 (x14 * n6)))) ∧
 ((Qv (vI n6)) ∧
 ((Qv (Pt 1011 1)) ∧
 ((Qv (vI x14)) ∧
 ((Qv (Pt 1012 0)) ∧
 True))))) ∧
 (True ∧
 (bcase (decide (IntKind.wrap .i64 (n5 * x15) < IntKind.wrap .i64 (x14 * n6)))
 (bcase (x1 == x8)
 (bcase (n3 != x17)
 (k kF)
 (bcase (if Bool.true = Bool.true then !(n5 == x12 && (n6 == x13 && Bool.true)) else n5 == x12 && (n6 == x13 && Bool.true))
 (k kF)
 (((Qv (Value.agg [(vI n5), (vI n6)].toArray)) ∧
 ((Qv (Value.agg [(vI n1), (vI n3)].toArray)) ∧
 True)) ∧
 (((Qv (Value.agg [(vI n5), (vI n6)].toArray)) ∧
 True) ∧
 (True ∧
 (B [(Prod.mk 3 (Pt 1000 0)), (Prod.mk 5 (Pt 1001 0)), (Prod.mk 9 (Pt 1002 0)), (Prod.mk 11 (Pt 1003 0)), (Prod.mk 13 (Value.bool true)), (Prod.mk 14 (Pt 1004 0)), (Prod.mk 15 (vI (IntKind.wrap .i64 (x1 + 1))))] [(Prod.mk 1000 (AObj.cells [(Sl 500 (n2) (c3)), (vI x4), (vI x5), (vI x6), (vI x7), (vI x8)] 26 false 1)), (Prod.mk 1001 (AObj.cells [(Value.string (s9)), (Sl 501 (n10) (c11))] 31 false 1)), (Prod.mk 1002 (AObj.cells [(vI x12), (vI x13)] 24 false 2)), (Prod.mk 1003 (AObj.cells [(vI n5), (vI n6)] 24 false 2)), (Prod.mk 1004 (AObj.cells [(vI n1), (vI n3)] 28 false 2)), (Prod.mk 500 (AObj.sym (l18) false 2)), (Prod.mk 501 (AObj.sym (l19) false 2))]))))))
 (((Qv (Value.agg [(vI n5), (vI n6)].toArray)) ∧
 ((Qv (Value.agg [(vI n1), (vI n3)].toArray)) ∧
 True)) ∧
 (((Qv (Value.agg [(vI n5), (vI n6)].toArray)) ∧
 True) ∧
 (True ∧
 (B [(Prod.mk 3 (Pt 1000 0)), (Prod.mk 5 (Pt 1001 0)), (Prod.mk 9 (Pt 1002 0)), (Prod.mk 11 (Pt 1003 0)), (Prod.mk 13 (Value.bool true)), (Prod.mk 14 (Pt 1004 0)), (Prod.mk 15 (vI (IntKind.wrap .i64 (x1 + 1))))] [(Prod.mk 1000 (AObj.cells [(Sl 500 (n2) (c3)), (vI x4), (vI x5), (vI x6), (vI x7), (vI x8)] 26 false 1)), (Prod.mk 1001 (AObj.cells [(Value.string (s9)), (Sl 501 (n10) (c11))] 31 false 1)), (Prod.mk 1002 (AObj.cells [(vI x12), (vI x13)] 24 false 2)), (Prod.mk 1003 (AObj.cells [(vI n5), (vI n6)] 24 false 2)), (Prod.mk 1004 (AObj.cells [(vI n1), (vI n3)] 28 false 2)), (Prod.mk 500 (AObj.sym (l18) false 2)), (Prod.mk 501 (AObj.sym (l19) false 2))])))))
 (bcase (decide (IntKind.wrap .i64 (n5 * x15) > IntKind.wrap .i64 (x14 * n6)))
 (k kF)
 (bcase (x1 == x8)
 (bcase (n3 != x17)
 (k kF)
 (bcase (if Bool.true = Bool.true then !(n5 == x12 && (n6 == x13 && Bool.true)) else n5 == x12 && (n6 == x13 && Bool.true))
 (k kF)
 (((Qv (Value.agg [(vI n5), (vI n6)].toArray)) ∧
 ((Qv (Value.agg [(vI n1), (vI n3)].toArray)) ∧
 True)) ∧
 (((Qv (Value.agg [(vI n5), (vI n6)].toArray)) ∧
 True) ∧
 (True ∧
 (B [(Prod.mk 3 (Pt 1000 0)), (Prod.mk 5 (Pt 1001 0)), (Prod.mk 9 (Pt 1002 0)), (Prod.mk 11 (Pt 1003 0)), (Prod.mk 13 (Value.bool true)), (Prod.mk 14 (Pt 1004 0)), (Prod.mk 15 (vI (IntKind.wrap .i64 (x1 + 1))))] [(Prod.mk 1000 (AObj.cells [(Sl 500 (n2) (c3)), (vI x4), (vI x5), (vI x6), (vI x7), (vI x8)] 26 false 1)), (Prod.mk 1001 (AObj.cells [(Value.string (s9)), (Sl 501 (n10) (c11))] 31 false 1)), (Prod.mk 1002 (AObj.cells [(vI x12), (vI x13)] 24 false 2)), (Prod.mk 1003 (AObj.cells [(vI n5), (vI n6)] 24 false 2)), (Prod.mk 1004 (AObj.cells [(vI n1), (vI n3)] 28 false 2)), (Prod.mk 500 (AObj.sym (l18) false 2)), (Prod.mk 501 (AObj.sym (l19) false 2))]))))))
 (((Qv (Value.agg [(vI n5), (vI n6)].toArray)) ∧
 ((Qv (Value.agg [(vI n1), (vI n3)].toArray)) ∧
 True)) ∧
 (((Qv (Value.agg [(vI n5), (vI n6)].toArray)) ∧
 True) ∧
 (True ∧
 (B [(Prod.mk 3 (Pt 1000 0)), (Prod.mk 5 (Pt 1001 0)), (Prod.mk 9 (Pt 1002 0)), (Prod.mk 11 (Pt 1003 0)), (Prod.mk 13 (Value.bool true)), (Prod.mk 14 (Pt 1004 0)), (Prod.mk 15 (vI (IntKind.wrap .i64 (x1 + 1))))] [(Prod.mk 1000 (AObj.cells [(Sl 500 (n2) (c3)), (vI x4), (vI x5), (vI x6), (vI x7), (vI x8)] 26 false 1)), (Prod.mk 1001 (AObj.cells [(Value.string (s9)), (Sl 501 (n10) (c11))] 31 false 1)), (Prod.mk 1002 (AObj.cells [(vI x12), (vI x13)] 24 false 2)), (Prod.mk 1003 (AObj.cells [(vI n5), (vI n6)] 24 false 2)), (Prod.mk 1004 (AObj.cells [(vI n1), (vI n3)] 28 false 2)), (Prod.mk 500 (AObj.sym (l18) false 2)), (Prod.mk 501 (AObj.sym (l19) false 2))]))))))))))) ∨
 ((Says C 23 [(D.agg [(dI x14), (dI x15)])] kF) ∧
 (k kF)))) ∨
 ((Says C 22 [(D.agg [(dI x14), (dI x15)])] kF) ∧
 (k kF)))) ∨
 ((Says C 23 [(D.agg [(dI n5), (dI n6)])] kF) ∧
 (k kF)))) ∨
 ((Says C 22 [(D.agg [(dI n5), (dI n6)])] kF) ∧
 (k kF)))
 (bcase (x1 == x8)
 (bcase (n3 != x17)
 (k kF)
 (((Qv (Value.agg [(vI n5), (vI n6)].toArray)) ∧
 ((Qv (Value.agg [(vI n1), (vI n3)].toArray)) ∧
 True)) ∧
 (((Qv (Value.agg [(vI n5), (vI n6)].toArray)) ∧
 True) ∧
 (True ∧
 (B [(Prod.mk 3 (Pt 1000 0)), (Prod.mk 5 (Pt 1001 0)), (Prod.mk 9 (Pt 1002 0)), (Prod.mk 11 (Pt 1003 0)), (Prod.mk 13 (Value.bool false)), (Prod.mk 14 (Pt 1004 0)), (Prod.mk 15 (vI (IntKind.wrap .i64 (x1 + 1))))] [(Prod.mk 1000 (AObj.cells [(Sl 500 (n2) (c3)), (vI x4), (vI x5), (vI x6), (vI x7), (vI x8)] 26 false 1)), (Prod.mk 1001 (AObj.cells [(Value.string (s9)), (Sl 501 (n10) (c11))] 31 false 1)), (Prod.mk 1002 (AObj.cells [(vI x12), (vI x13)] 24 false 2)), (Prod.mk 1003 (AObj.cells [(vI n5), (vI n6)] 24 false 2)), (Prod.mk 1004 (AObj.cells [(vI n1), (vI n3)] 28 false 2)), (Prod.mk 500 (AObj.sym (l18) false 2)), (Prod.mk 501 (AObj.sym (l19) false 2))])))))
 (((Qv (Value.agg [(vI n5), (vI n6)].toArray)) ∧
 ((Qv (Value.agg [(vI n1), (vI n3)].toArray)) ∧
 True)) ∧
 (((Qv (Value.agg [(vI n5), (vI n6)].toArray)) ∧
 True) ∧
 (True ∧
 (B [(Prod.mk 3 (Pt 1000 0)), (Prod.mk 5 (Pt 1001 0)), (Prod.mk 9 (Pt 1002 0)), (Prod.mk 11 (Pt 1003 0)), (Prod.mk 13 (Value.bool false)), (Prod.mk 14 (Pt 1004 0)), (Prod.mk 15 (vI (IntKind.wrap .i64 (x1 + 1))))] [(Prod.mk 1000 (AObj.cells [(Sl 500 (n2) (c3)), (vI x4), (vI x5), (vI x6), (vI x7), (vI x8)] 26 false 1)), (Prod.mk 1001 (AObj.cells [(Value.string (s9)), (Sl 501 (n10) (c11))] 31 false 1)), (Prod.mk 1002 (AObj.cells [(vI x12), (vI x13)] 24 false 2)), (Prod.mk 1003 (AObj.cells [(vI n5), (vI n6)] 24 false 2)), (Prod.mk 1004 (AObj.cells [(vI n1), (vI n3)] 28 false 2)), (Prod.mk 500 (AObj.sym (l18) false 2)), (Prod.mk 501 (AObj.sym (l19) false 2))]))))))
 (bcase (x1 == x8)
 (bcase (n3 != x17)
 (k kF)
 (((Qv (Value.agg [(vI n5), (vI n6)].toArray)) ∧
 ((Qv (Value.agg [(vI n1), (vI n3)].toArray)) ∧
 True)) ∧
 (((Qv (Value.agg [(vI n5), (vI n6)].toArray)) ∧
 True) ∧
 (True ∧
 (B [(Prod.mk 3 (Pt 1000 0)), (Prod.mk 5 (Pt 1001 0)), (Prod.mk 9 (Pt 1002 0)), (Prod.mk 11 (Pt 1003 0)), (Prod.mk 13 (Value.bool false)), (Prod.mk 14 (Pt 1004 0)), (Prod.mk 15 (vI (IntKind.wrap .i64 (x1 + 1))))] [(Prod.mk 1000 (AObj.cells [(Sl 500 (n2) (c3)), (vI x4), (vI x5), (vI x6), (vI x7), (vI x8)] 26 false 1)), (Prod.mk 1001 (AObj.cells [(Value.string (s9)), (Sl 501 (n10) (c11))] 31 false 1)), (Prod.mk 1002 (AObj.cells [(vI x12), (vI x13)] 24 false 2)), (Prod.mk 1003 (AObj.cells [(vI n5), (vI n6)] 24 false 2)), (Prod.mk 1004 (AObj.cells [(vI n1), (vI n3)] 28 false 2)), (Prod.mk 500 (AObj.sym (l18) false 2)), (Prod.mk 501 (AObj.sym (l19) false 2))])))))
 (((Qv (Value.agg [(vI n5), (vI n6)].toArray)) ∧
 ((Qv (Value.agg [(vI n1), (vI n3)].toArray)) ∧
 True)) ∧
 (((Qv (Value.agg [(vI n5), (vI n6)].toArray)) ∧
 True) ∧
 (True ∧
 (B [(Prod.mk 3 (Pt 1000 0)), (Prod.mk 5 (Pt 1001 0)), (Prod.mk 9 (Pt 1002 0)), (Prod.mk 11 (Pt 1003 0)), (Prod.mk 13 (Value.bool false)), (Prod.mk 14 (Pt 1004 0)), (Prod.mk 15 (vI (IntKind.wrap .i64 (x1 + 1))))] [(Prod.mk 1000 (AObj.cells [(Sl 500 (n2) (c3)), (vI x4), (vI x5), (vI x6), (vI x7), (vI x8)] 26 false 1)), (Prod.mk 1001 (AObj.cells [(Value.string (s9)), (Sl 501 (n10) (c11))] 31 false 1)), (Prod.mk 1002 (AObj.cells [(vI x12), (vI x13)] 24 false 2)), (Prod.mk 1003 (AObj.cells [(vI n5), (vI n6)] 24 false 2)), (Prod.mk 1004 (AObj.cells [(vI n1), (vI n3)] 28 false 2)), (Prod.mk 500 (AObj.sym (l18) false 2)), (Prod.mk 501 (AObj.sym (l19) false 2))]))))))))))))))
 False)
 False)))
 False)))
 False))) ∨
 ((Says C 21 [(dI n3), (D.val (vI (if IntKind.wrap .i64 (x17 - 1) > 0 then IntKind.wrap .i64 (x17 - 1) else 0))), (D.val (vI (if IntKind.wrap .i64 (x17 + 1) < x8 then IntKind.wrap .i64 (x17 + 1) else x8)))] kF) ∧
 (k kF))))))))))))
 False)
 False)))
 False)))
 False))
 (X 0 [] [])) := by kernel_rfl
def nNw2 (C : Ct) (L : AtLoop) (k : List D → Prop) : Prop := wpNext Try.prog (hM C) L 4 0 .normal [] [] (dataK k)
theorem nNw2_text (C : Ct) (L : AtLoop) (k : List D → Prop) : nNw2 C L k =
 (k kT) := by kernel_rfl
end Go.Proofs.G5l
