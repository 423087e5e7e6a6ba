/- Texts of the proof, put together: AbsTab, AbsNum, AbsLow, GStr, GStr2, GStr3, GName, AbsStr, GoP1, GoP2, GoP3, GoO4, GoO5, GoPR, GoO6, GoO11, GoO14, GoO18, GoO9, GoO21, GoO20. -/
import Derived.Test.YteadiejdhplokaaGreatP3
import Derived.Test.YteadiejdhplokaaGreatP4
import Derived.Test.YteadiejdhplokaaGreatGoPT
import Derived.Lib.Join
import Derived.Lib.Split
import Derived.Lib.IndexMore
import Derived.Lib.Strings
import Derived.Lib.ItoaNum
import Derived.Lib.Atoi
import Derived.Test.YteadiejdhplokaaGreatProg
/- The evaluator with a table: calls whose outcome on some data is known are not entered. -/
namespace Go.Abs
open Go.RowKit
variable {P : Program} {ρ : Ren} {w0 : Start P} {w : World} {H : Heap}

/-! ### Data of values, computed -/
def readCO (H : Heap) : List Value → Option (List D)
  | [] => some []
  | v :: r =>
    match v with
    | .slice none 0 0 => (readCO H r).map (.nil :: ·)
    | .slice (some ⟨i, o, none⟩) len _ =>
      match H.get i with
      | some (.sym cs _ es) => if o + len * es ≤ cs.length then (readCO H r).map (.sl len es ((cs.drop o).take (len * es)) :: ·) else none
      | some (.cells cs _ _ es) => if o + len * es ≤ cs.length then (if ((cs.drop o).take (len * es)).all cellP then (readCO H r).map (.sl len es ((cs.drop o).take (len * es)) :: ·) else none) else none
      | _ => none
    | v => if plain 8 v then (readCO H r).map (.val v :: ·) else none
def readVO (H : Heap) : List Value → Option (List D)
  | [] => some []
  | .agg cs :: r => (readCO H cs.toList).bind fun ds => (readVO H r).map (.agg ds :: ·)
  | v :: r => (readCO H [v]).bind fun ds => (readVO H r).map (ds ++ ·)
theorem readCO_ok : ∀ {l : List Value} {ds : List D}, readCO H l = some ds → ∀ k : List D → Prop, k ds → readCells H l k
  | [], ds, h, k, hk => by
    simp only [readCO, Option.some.injEq] at h; subst h; exact hk
  | v :: r, ds, h, k, hk => by
    unfold readCO at h
    unfold readCells
    split at h
    · obtain ⟨x, hx, rfl⟩ := Option.map_eq_some_iff.1 h
      exact readCO_ok hx _ hk
    · simp only
      split at h
      · rename_i hg
        simp only [hg]
        split at h
        · rename_i hle
          obtain ⟨x, hx, rfl⟩ := Option.map_eq_some_iff.1 h
          exact bcase_intro (fun _ => readCO_ok hx _ hk) (fun hf => absurd hle (of_decide_eq_false hf))
        · cases h
      · rename_i hg
        simp only [hg]
        split at h
        · rename_i hle
          split at h
          · rename_i hall
            obtain ⟨x, hx, rfl⟩ := Option.map_eq_some_iff.1 h
            exact bcase_intro (fun _ => bcase_intro (fun _ => readCO_ok hx _ hk) (fun hf => by rw [hall] at hf; cases hf)) (fun hf => absurd hle (of_decide_eq_false hf))
          · cases h
        · cases h
      · cases h
    · rename_i h1 h2
      split
      · exact absurd rfl h1
      · exact absurd rfl (h2 _ _ _ _)
      · split at h
        · rename_i hp
          obtain ⟨x, hx, rfl⟩ := Option.map_eq_some_iff.1 h
          rw [if_pos hp]
          exact readCO_ok hx _ hk
        · cases h
theorem readVO_ok : ∀ {l : List Value} {ds : List D}, readVO H l = some ds → ∀ k : List D → Prop, k ds → readVals H l k
  | [], ds, h, k, hk => by
    simp only [readVO, Option.some.injEq] at h; subst h; exact hk
  | v :: r, ds, h, k, hk => by
    unfold readVO at h
    unfold readVals
    split at h
    · rename_i e; cases e
    · rename_i e; cases e
      obtain ⟨x, hx, h⟩ := Option.bind_eq_some_iff.1 h
      obtain ⟨y, hy, rfl⟩ := Option.map_eq_some_iff.1 h
      exact readCO_ok hx _ (readVO_ok hy _ hk)
    · rename_i h1 e; cases e
      obtain ⟨x, hx, h⟩ := Option.bind_eq_some_iff.1 h
      obtain ⟨y, hy, rfl⟩ := Option.map_eq_some_iff.1 h
      split
      · rename_i e; cases e
      · rename_i e; cases e; exact absurd rfl (h1 _)
      · rename_i e; cases e
        exact readCO_ok hx _ (readVO_ok hy _ hk)

/-! ### Data laid, computed -/
def layCO : List D → Heap → Option (List Value × Heap)
  | [], H => some ([], H)
  | .nil :: r, H => (layCO r H).map fun x => (.slice none 0 0 :: x.1, x.2)
  | .sl n es cs :: r, H => (layCO r (H.new (.sym cs true es))).map fun x => (.slice (some ⟨H.next, 0, none⟩) n n :: x.1, x.2)
  | .val v :: r, H => match v with
    | .agg _ => none
    | v => (layCO r H).map fun x => (v :: x.1, x.2)
  | .agg _ :: _, _ => none
def layVO : List D → Heap → Option (List Value × Heap)
  | [], H => some ([], H)
  | .agg ds :: r, H => (layCO ds H).bind fun x => (layVO r x.2).map fun y => (.agg x.1.toArray :: y.1, y.2)
  | d :: r, H => (layCO [d] H).bind fun x => match x.1 with
    | [v] => (layVO r x.2).map fun y => (v :: y.1, y.2)
    | _ => none
theorem layCO_ok : ∀ {ds : List D} {H : Heap} {x : List Value × Heap}, layCO ds H = some x → ∀ k : List Value → Heap → Prop, k x.1 x.2 → layC ds H k
  | [], H, x, h, k, hk => by
    simp only [layCO, Option.some.injEq] at h; subst h; exact hk
  | .nil :: r, H, x, h, k, hk => by
    obtain ⟨y, hy, rfl⟩ := Option.map_eq_some_iff.1 h
    exact layCO_ok hy _ hk
  | .sl n es cs :: r, H, x, h, k, hk => by
    obtain ⟨y, hy, rfl⟩ := Option.map_eq_some_iff.1 h
    exact layCO_ok hy _ hk
  | .val v :: r, H, x, h, k, hk => by
    unfold layCO at h
    unfold layC
    split at h
    · cases h
    · rename_i hv
      obtain ⟨y, hy, rfl⟩ := Option.map_eq_some_iff.1 h
      first
        | exact layCO_ok hy _ hk
        | (split
           · exact absurd rfl (hv _)
           · exact layCO_ok hy _ hk)
  | .agg _ :: _, H, x, h, k, hk => by cases h
theorem layVO_ok : ∀ {ds : List D} {H : Heap} {x : List Value × Heap}, layVO ds H = some x → ∀ k : List Value → Heap → Prop, k x.1 x.2 → layV ds H k
  | [], H, x, h, k, hk => by
    simp only [layVO, Option.some.injEq] at h; subst h; exact hk
  | d :: r, H, x, h, k, hk => by
    unfold layVO at h
    unfold layV
    split at h
    · rename_i e; cases e
    · rename_i e; cases e
      obtain ⟨y, hy, h⟩ := Option.bind_eq_some_iff.1 h
      obtain ⟨z, hz, rfl⟩ := Option.map_eq_some_iff.1 h
      exact layCO_ok hy _ (layVO_ok hz _ hk)
    · rename_i h1 e; cases e
      obtain ⟨y, hy, h⟩ := Option.bind_eq_some_iff.1 h
      split at h
      · rename_i he
        obtain ⟨z, hz, rfl⟩ := Option.map_eq_some_iff.1 h
        split
        · rename_i e; cases e
        · rename_i e; cases e; exact absurd rfl (h1 _)
        · rename_i e; cases e
          refine layCO_ok hy _ ?_
          simp only [he]
          exact layVO_ok hz _ hk
      · cases h

/-! ### Data given, computed -/
def giveCO (H : Heap) : List Nat → List Value → Option (List Nat × List D)
  | used, [] => some (used, [])
  | used, v :: r =>
    match v with
    | .slice none 0 0 => (giveCO H used r).map fun x => (x.1, .nil :: x.2)
    | .slice (some ⟨i, 0, none⟩) len cap =>
      if gbase ≤ i ∧ used.contains i = false then
        match H.get i with
        | some (.sym cs true es) => if len = cap ∧ cs.length = len * es then (giveCO H (i :: used) r).map fun x => (x.1, .sl len es cs :: x.2) else none
        | some (.cells cs _ _ es) => if len = cap ∧ cs.length = len * es then (if cs.all cellP then (giveCO H (i :: used) r).map fun x => (x.1, .sl len es cs :: x.2) else none) else none
        | _ => none
      else none
    | v => if plain 8 v then (giveCO H used r).map fun x => (x.1, .val v :: x.2) else none
def giveVO (H : Heap) : List Nat → List Value → Option (List D)
  | _, [] => some []
  | used, .agg cs :: r => (giveCO H used cs.toList).bind fun x => (giveVO H x.1 r).map (.agg x.2 :: ·)
  | used, v :: r => (giveCO H used [v]).bind fun x => (giveVO H x.1 r).map (x.2 ++ ·)
def giveO (v : Value) (H : Heap) : Option (List D) :=
  match v with
  | .tuple vs => if vs.size = 1 then none else giveVO H [] vs.toList
  | v => giveVO H [] [v]
theorem giveCO_ok : ∀ {l : List Value} {used : List Nat} {x : List Nat × List D}, giveCO H used l = some x → ∀ k : List Nat → List D → Prop, k x.1 x.2 → giveCells H used l k
  | [], used, x, h, k, hk => by
    simp only [giveCO, Option.some.injEq] at h; subst h; exact hk
  | v :: r, used, x, h, k, hk => by
    unfold giveCO at h
    unfold giveCells
    split at h
    · obtain ⟨y, hy, rfl⟩ := Option.map_eq_some_iff.1 h
      exact giveCO_ok hy _ hk
    · simp only
      split at h
      · rename_i hc
        rw [if_pos hc]
        split at h
        · rename_i hg
          simp only [hg]
          split at h
          · rename_i hl
            obtain ⟨y, hy, rfl⟩ := Option.map_eq_some_iff.1 h
            exact ⟨hl, giveCO_ok hy _ hk⟩
          · cases h
        · rename_i hg
          simp only [hg]
          split at h
          · rename_i hl
            split at h
            · rename_i hall
              obtain ⟨y, hy, rfl⟩ := Option.map_eq_some_iff.1 h
              exact ⟨hl, bcase_intro (fun _ => giveCO_ok hy _ hk) (fun hf => by rw [hall] at hf; cases hf)⟩
            · cases h
          · cases h
        · cases h
      · cases h
    · rename_i h1 h2
      split
      · exact absurd rfl h1
      · exact absurd rfl (h2 _ _ _)
      · split at h
        · rename_i hp
          obtain ⟨y, hy, rfl⟩ := Option.map_eq_some_iff.1 h
          rw [if_pos hp]
          exact giveCO_ok hy _ hk
        · cases h
theorem giveVO_ok : ∀ {l : List Value} {used : List Nat} {ds : List D}, giveVO H used l = some ds → ∀ k : List D → Prop, k ds → giveVals H used l k
  | [], used, ds, h, k, hk => by
    simp only [giveVO, Option.some.injEq] at h; subst h; exact hk
  | v :: r, used, ds, h, k, hk => by
    unfold giveVO at h
    unfold giveVals
    split at h
    · rename_i e; cases e
    · rename_i e; cases e
      obtain ⟨x, hx, h⟩ := Option.bind_eq_some_iff.1 h
      obtain ⟨y, hy, rfl⟩ := Option.map_eq_some_iff.1 h
      exact giveCO_ok hx _ (giveVO_ok hy _ hk)
    · rename_i h1 e; cases e
      obtain ⟨x, hx, h⟩ := Option.bind_eq_some_iff.1 h
      obtain ⟨y, hy, rfl⟩ := Option.map_eq_some_iff.1 h
      split
      · rename_i e; cases e
      · rename_i e; cases e; exact absurd rfl (h1 _)
      · rename_i e; cases e
        exact giveCO_ok hx _ (giveVO_ok hy _ hk)
theorem giveO_ok {v : Value} {ds : List D} (h : giveO v H = some ds) : dataK (· = ds) v H := by
  unfold giveO at h
  unfold dataK
  split at h
  · split at h
    · cases h
    · rename_i hs
      simp only [if_neg hs]
      exact giveVO_ok h _ rfl
  · rename_i hn
    split
    · exact absurd rfl (hn _)
    · exact giveVO_ok h _ rfl

/-! ### Data compared -/
def cEq : Value → Value → Bool
  | .int j a, .int k b => j == k && a == b
  | .bool a, .bool b => a == b
  | .string a, .string b => a.data.toList == b.data.toList
  | _, _ => false
def csEq : List Value → List Value → Bool
  | [], [] => true
  | a :: xs, b :: bs => cEq a b && csEq xs bs
  | _, _ => false
def d1Eq : D → D → Bool
  | .nil, .nil => true
  | .val a, .val b => cEq a b
  | .sl n es cs, .sl m fs bs => n == m && es == fs && csEq cs bs
  | _, _ => false
def d2Eq : List D → List D → Bool
  | [], [] => true
  | a :: xs, b :: bs => d1Eq a b && d2Eq xs bs
  | _, _ => false
def dEq : D → D → Bool
  | .agg a, .agg b => d2Eq a b
  | a, b => d1Eq a b
def dsEq : List D → List D → Bool
  | [], [] => true
  | a :: xs, b :: bs => dEq a b && dsEq xs bs
  | _, _ => false
theorem cEq_ok : ∀ {a b : Value}, cEq a b = true → a = b := by
  intro a b h
  unfold cEq at h
  split at h
  · simp only [Bool.and_eq_true, beq_iff_eq] at h; rw [h.1, h.2]
  · rw [eq_of_beq h]
  · rename_i x y
    have e := eq_of_beq h
    obtain ⟨x⟩ := x
    obtain ⟨y⟩ := y
    have : x = y := Array.ext' e
    rw [this]
  · cases h
theorem csEq_ok : ∀ {a b : List Value}, csEq a b = true → a = b
  | [], [], _ => rfl
  | a :: xs, b :: bs, h => by
    simp only [csEq, Bool.and_eq_true] at h
    rw [cEq_ok h.1, csEq_ok h.2]
  | [], _ :: _, h => by cases h
  | _ :: _, [], h => by cases h
theorem d1Eq_ok {a b : D} (h : d1Eq a b = true) : a = b := by
  unfold d1Eq at h
  split at h
  · rfl
  · rw [cEq_ok h]
  · simp only [Bool.and_eq_true, beq_iff_eq] at h
    rw [h.1.1, h.1.2, csEq_ok h.2]
  · cases h
theorem d2Eq_ok : ∀ {a b : List D}, d2Eq a b = true → a = b
  | [], [], _ => rfl
  | a :: xs, b :: bs, h => by
    simp only [d2Eq, Bool.and_eq_true] at h
    rw [d1Eq_ok h.1, d2Eq_ok h.2]
  | [], _ :: _, h => by cases h
  | _ :: _, [], h => by cases h
theorem dEq_ok {a b : D} (h : dEq a b = true) : a = b := by
  unfold dEq at h
  split at h
  · rw [d2Eq_ok h]
  · exact d1Eq_ok h
theorem dsEq_ok : ∀ {a b : List D}, dsEq a b = true → a = b
  | [], [], _ => rfl
  | a :: xs, b :: bs, h => by
    simp only [dsEq, Bool.and_eq_true] at h
    rw [dEq_ok h.1, dsEq_ok h.2]
  | [], _ :: _, h => by cases h
  | _ :: _, [], h => by cases h

/-! ### The evaluator with a table -/
abbrev Tab := FuncId → Option (List D → Option (List D))
/-- (a list of what is known) -/
def tabLook : List (List D × List D) → List D → Option (List D)
  | [], _ => none
  | p :: r, ds => if dsEq p.1 ds then some p.2 else tabLook r ds
theorem tabLook_ok : ∀ {t : List (List D × List D)} {ds rs : List D}, tabLook t ds = some rs → (ds, rs) ∈ t
  | [], _, _, h => by cases h
  | p :: r, ds, rs, h => by
    unfold tabLook at h
    split at h
    · rename_i he
      simp only [Option.some.injEq] at h
      rw [← dsEq_ok he, ← h]
      exact List.mem_cons_self ..
    · exact List.mem_cons_of_mem _ (tabLook_ok h)
def tabCall (t : List D → Option (List D)) (args : Array Value) (H : Heap) : Option (Value × Heap) :=
  (readVO H args.toList).bind fun ds => (t ds).bind fun rs => (layVO rs H).map fun x => (tupleOf x.1, x.2)
def evalT (P : Program) (tab : Tab) : Nat → Self
  | 0 => ⟨fun _ _ _ => none, fun _ _ _ _ => none⟩
  | n + 1 => ⟨fun f args H => match tab f with | none => callBody P (evalT P tab n) f args H | some t => tabCall t args H, fun round c A H => codeA P (evalT P tab n) round c A H⟩
def TabOK (P : Program) (tab : Tab) : Prop := ∀ f t, tab f = some t → ∀ ds rs, t ds = some rs → Con P f ds rs
theorem tabCall_sound {f : FuncId} {t : List D → Option (List D)} (ht : ∀ ds rs, t ds = some rs → Con P f ds rs) {args : Array Value} {v : Value} {H' : Heap} (h : tabCall t args H = some (v, H')) : CallH P f args H (fun u K => u = v ∧ K = H') := by
  obtain ⟨ds, h1, h⟩ := Option.bind_eq_some_iff.1 h
  obtain ⟨rs, h2, h⟩ := Option.bind_eq_some_iff.1 h
  obtain ⟨x, h3, h⟩ := Option.map_eq_some_iff.1 h
  simp only [Prod.mk.injEq] at h
  obtain ⟨rfl, rfl⟩ := h
  refine wpFix_call (C := fun g ds rs => g = f ∧ t ds = some rs ∨ Con P g ds rs) (fun g ds rs hc => ?_) (fix := t) ?_
  · rcases hc with ⟨rfl, hm⟩ | hc
    · exact ht _ _ hm
    · exact hc
  · unfold wpFix
    refine readVO_ok h1 _ ?_
    simp only [h2]
    exact ⟨⟨.inl ⟨rfl, h2⟩⟩, layVO_ok h3 _ ⟨rfl, rfl⟩⟩
theorem evalT_sound {tab : Tab} (htab : TabOK P tab) (hmix : P.follows .mixedOrders = true) : ∀ n, SelfS P w0 (evalT P tab n)
  | 0 => ⟨fun n _ _ h => by simp [evalT] at h, fun n _ _ _ h => by simp [evalT] at h, fun n _ _ _ h => by simp [evalT] at h⟩
  | k + 1 => ⟨fun {ρ H w f args args' v H'} n g ha h => by
      simp only [evalT] at h
      split at h
      · exact callBody_sound (evalT_sound htab hmix k) g n ha h
      · rename_i t ht
        refine (tabCall_sound (htab f t ht) h w0 ρ w args' n g ha).mono ?_
        rintro e w' ⟨u, K, ρ', v', ⟨rfl, rfl⟩, h1, h2, h3, h4⟩
        exact ⟨ρ', v', h1, h2, h3, h4⟩, fun n g rr ra h => codeA_sound (evalT_sound htab hmix k) hmix n _ g rr ra h,
      fun n g rr ra h => loopIn_once (loop_body (evalT_sound htab hmix k) n _ (fun g rr ra h => codeA_sound (evalT_sound htab hmix k) hmix n _ g rr ra h) g rr ra h)⟩
/-- A call of known data is run. -/
def runOK (P : Program) (tab : Tab) (n : Nat) (f : FuncId) (ds rs : List D) (caps : Nat → Nat) : Bool :=
  match (evalT P tab n).call f (layVals caps 500 ds).1.toArray (heapOf (layVals caps 500 ds).2) with
  | some (v, H) => (match giveO v H with | some rs' => dsEq rs' rs | none => false)
  | none => false
theorem con_run {tab : Tab} (htab : TabOK P tab) (hmix : P.follows .mixedOrders = true) {n : Nat} {f : FuncId} {ds rs : List D} (hcount : countV ds ≤ 400) (h : ∀ caps, runOK P tab n f ds rs caps = true) : Con P f ds rs := by
  intro w args hgood hr
  obtain ⟨caps, ρ, hst, g, ha⟩ := lay_gam hgood hr hcount
  have h := h caps
  unfold runOK at h
  split at h
  · rename_i v H hc
    split at h
    · rename_i rs' hg
      have e := dsEq_ok h
      subst e
      refine callsIn_wide.1 (((evalT_sound htab hmix n).call 0 g (by simpa using ha) hc).mono ?_)
      rintro e w' ⟨ρ', v', rfl, hv, g', ext'⟩
      obtain ⟨vs, ds', u, rfl, h1, rfl⟩ := dataK_out g' hst hv (giveO_ok hg)
      exact ⟨⟨vs, u, rfl, h1⟩, g'.below.below hst⟩
    · cases h
  · cases h
end Go.Abs

/- Numbers: greatest divisors, quotients rounded down, fractions in lowest terms. -/
namespace Go.Abs
theorem natAbs_tmod (a b : Int) : (a.tmod b).natAbs = a.natAbs % b.natAbs := Int.natAbs_tmod a b
/-- one step of the division of both -/
theorem gcd_step (a b : Int) : (Int.gcd b (a.tmod b) : Int) = Int.gcd a b := by
  have : Int.gcd b (a.tmod b) = Int.gcd a b := by
    show Nat.gcd b.natAbs (a.tmod b).natAbs = Nat.gcd a.natAbs b.natAbs
    rw [natAbs_tmod, Nat.gcd_comm b.natAbs, ← Nat.gcd_rec, Nat.gcd_comm]
  rw [this]
theorem gcd_step_lt {a b : Int} (h : b ≠ 0) : (a.tmod b).natAbs < b.natAbs := by
  rw [natAbs_tmod]; exact Nat.mod_lt _ (by omega)
theorem gcd_end (a : Int) : (Int.gcd a 0 : Int) = if a < 0 then -a else a := by
  have : Int.gcd a 0 = a.natAbs := Nat.gcd_zero_right _
  rw [this]; split <;> omega
theorem gcd_pos {a b : Int} (h : a ≠ 0 ∨ b ≠ 0) : 0 < (Int.gcd a b : Int) := by
  have : Int.gcd a b ≠ 0 := fun e => by
    have := Int.gcd_eq_zero_iff.1 e
    omega
  omega
end Go.Abs

/- Fractions in lowest terms: their parts, and how they compare. -/
namespace Go.Abs
/-- a fraction in lowest terms -/
def low (n d : Int) : Int × Int := if d < 0 then ((0 - n).tdiv (Int.gcd n d), (0 - d).tdiv (Int.gcd n d)) else (n.tdiv (Int.gcd n d), d.tdiv (Int.gcd n d))
theorem tdiv_small {n g : Int} (hn : -4611686018427387904 ≤ n ∧ n ≤ 4611686018427387904) (_ : 0 < g) : -4611686018427387904 ≤ n.tdiv g ∧ n.tdiv g ≤ 4611686018427387904 := by
  have h := Int.natAbs_tdiv_le_natAbs n g
  omega
theorem tdiv_neg' (n g : Int) : n.tdiv (0 - g) = (0 - n).tdiv g := by
  rw [show (0 : Int) - g = -g by omega, show (0 : Int) - n = -n by omega, Int.tdiv_neg, Int.neg_tdiv]
end Go.Abs

/- Strings as lists of bytes: pieces between separators, decimal numbers. -/
namespace Go.Str

/-- The string of a list of bytes. -/
abbrev bs (l : List UInt8) : ByteArray := ⟨l.toArray⟩
theorem bs_data (s : ByteArray) : bs s.data.toList = s := by cases s; simp [bs]
theorem bs_size (l : List UInt8) : (bs l).size = l.length := by simp [ByteArray.size]
theorem bs_get (l : List UInt8) (i : Nat) : (bs l)[i]? = l[i]? := by
  show (if h : i < (bs l).size then some ((bs l)[i]'h) else none) = _
  by_cases h : i < (bs l).size
  · rw [dif_pos h]
    have h2 : i < l.length := by rw [bs_size] at h; exact h
    rw [List.getElem?_eq_getElem h2]
    rfl
  · rw [dif_neg h]
    rw [bs_size] at h
    rw [List.getElem?_eq_none (by omega)]

/-! ### Pieces between separators -/
/-! ### Numbers -/
def isDig (b : UInt8) : Bool := decide (48 ≤ b.toNat) && decide (b.toNat ≤ 57)
/-- the number of some digits, behind others -/
def numF (n : Int) (l : List UInt8) : Int := l.foldl (fun n b => 10 * n + ((b.toNat : Int) - 48)) n
/-- so many digits at the most, no zero ahead of others -/
def okNum (d : Nat) (l : List UInt8) : Bool := decide (1 ≤ l.length) && decide (l.length ≤ d) && !(decide (1 < l.length) && l.head? == some 48) && l.all isDig
end Go.Str

/- Decimal numerals against the numbers that they spell. -/
namespace Go.Str
/-! ### strconv.Itoa, strconv.Atoi -/
/-- two numbers with a sign between them -/
def two (c : UInt8) (d : Nat) (w : List UInt8) : Option (Int × Int) :=
  if okNum d (Lib.cut w [c]).1 && okNum d (Lib.cut w [c]).2.1 then some (numF 0 (Lib.cut w [c]).1, numF 0 (Lib.cut w [c]).2.1) else none
end Go.Str

/- Words that are read by a reader; pairs of numbers that may be below naught. -/
namespace Go.Str
variable {α : Type}
/-- two readings with a sign between them -/
def pair (c : UInt8) (rd : List UInt8 → Option Int) (w : List UInt8) : Option (Int × Int) :=
  match rd (Lib.cut w [c]).1, rd (Lib.cut w [c]).2.1 with
  | some a, some b => some (a, b)
  | _, _ => none
/-! ### readings by strconv.Atoi -/
end Go.Str

/- Names: a letter, then letters, digits and hyphens. -/
namespace Go.Str
open Go Go.Abs
def isLet (b : UInt8) : Bool := (decide (97 ≤ b.toNat) && decide (b.toNat ≤ 122)) || (decide (65 ≤ b.toNat) && decide (b.toNat ≤ 90))
def nameC (b : UInt8) : Bool := isLet b || isDig b || b.toNat == 45
def nameOK (l : List UInt8) : Bool := decide (1 ≤ l.length) && decide (l.length ≤ 12) && l.head?.any isLet && l.all nameC
theorem let_t {b : UInt8} (h : (97 ≤ b.toNat ∧ b.toNat ≤ 122) ∨ (65 ≤ b.toNat ∧ b.toNat ≤ 90)) : isLet b = true := by
  simp [isLet]; omega
theorem let_f {b : UInt8} (h : ¬ ((97 ≤ b.toNat ∧ b.toNat ≤ 122) ∨ (65 ≤ b.toNat ∧ b.toNat ≤ 90))) : isLet b = false := by
  simp [isLet]; omega
theorem dig_t {b : UInt8} (h : 48 ≤ b.toNat ∧ b.toNat ≤ 57) : isDig b = true := by simp [isDig, h]
theorem dig_f {b : UInt8} (h : ¬ (48 ≤ b.toNat ∧ b.toNat ≤ 57)) : isDig b = false := by simp [isDig]; omega
theorem name_t {b : UInt8} (h : ((97 ≤ b.toNat ∧ b.toNat ≤ 122) ∨ (65 ≤ b.toNat ∧ b.toNat ≤ 90)) ∨ (48 ≤ b.toNat ∧ b.toNat ≤ 57) ∨ b.toNat = 45) : nameC b = true := by
  simp [nameC, isLet, isDig]; omega
theorem name_f {b : UInt8} (h : ¬ (((97 ≤ b.toNat ∧ b.toNat ≤ 122) ∨ (65 ≤ b.toNat ∧ b.toNat ≤ 90)) ∨ (48 ≤ b.toNat ∧ b.toNat ≤ 57) ∨ b.toNat = 45)) : nameC b = false := by
  simp [nameC, isLet, isDig]; omega
/-- how far a walk over a name has come: what is left decides -/
def goesN (l : List UInt8) (i : Nat) : Prop := i ≤ l.length ∧ (1 ≤ l.length ∧ l.length ≤ 12) ∧ (i = 0 ∨ l.head?.any isLet = true) ∧ l.all nameC = (l.drop i).all nameC
theorem goesN_0 {l : List UInt8} (h : 1 ≤ l.length ∧ l.length ≤ 12) : goesN l 0 := ⟨Nat.zero_le _, h, .inl rfl, rfl⟩
theorem nameOK_len {l : List UInt8} (h : ¬ (1 ≤ l.length ∧ l.length ≤ 12)) : nameOK l = false := by
  unfold nameOK
  rcases Nat.lt_or_ge l.length 1 with h1 | h1
  · rw [decide_eq_false (by omega : ¬ 1 ≤ l.length)]; rfl
  · rw [decide_eq_false (by omega : ¬ l.length ≤ 12)]; simp
theorem head_of {l : List UInt8} (h : 0 < l.length) : l.head? = some l[0] := by
  cases l with
  | nil => cases h
  | cons a r => rfl
theorem nameOK_head {l : List UInt8} (h : 0 < l.length) (hb : isLet l[0] = false) : nameOK l = false := by
  unfold nameOK
  rw [head_of h]
  simp [hb]
theorem goesN_bad {l : List UInt8} {i : Nat} (h : goesN l i) (hi : i < l.length) (hb : nameC l[i] = false) : nameOK l = false := by
  obtain ⟨_, _, _, h4⟩ := h
  unfold nameOK
  rw [h4, List.drop_eq_getElem_cons hi, List.all_cons, hb]
  simp
theorem goesN_first {l : List UInt8} {i : Nat} (hi : i < l.length) (h0 : i = 0) (hb : isLet l[i] = false) : nameOK l = false := by
  subst h0; exact nameOK_head hi hb
theorem goesN_step {l : List UInt8} {i : Nat} (h : goesN l i) (hi : i < l.length) (hb : nameC l[i] = true) (h0 : i = 0 → isLet l[i] = true) : goesN l (i + 1) := by
  obtain ⟨h1, h2, h3, h4⟩ := h
  refine ⟨hi, h2, .inr ?_, ?_⟩
  · rcases h3 with h3 | h3
    · have := h0 h3
      subst h3
      rw [head_of hi]; simpa using this
    · exact h3
  · rw [h4, List.drop_eq_getElem_cons hi, List.all_cons, hb]; simp
theorem goesN_end {l : List UInt8} {i : Nat} (h : goesN l i) (hi : ¬ i < l.length) : nameOK l = true := by
  obtain ⟨h1, h2, h3, h4⟩ := h
  have e : i = l.length := by omega
  subst e
  rw [List.drop_length] at h4
  have h5 : l.head?.any isLet = true := by
    rcases h3 with h3 | h3
    · omega
    · exact h3
  unfold nameOK
  rw [h4, h5, decide_eq_true h2.1, decide_eq_true h2.2]; rfl
end Go.Str

/- Strings and lists of strings as cells. -/
namespace Go.Abs
open Go.Str
abbrev str (l : List UInt8) : Value := .string (bs l)
abbrev dS (l : List UInt8) : D := .val (str l)
abbrev dB (b : Bool) : D := .val (.bool b)
/-- what is read of a string is what is there -/
theorem byte1 {l : List UInt8} {i : Nat} {b : UInt8} (h : l[i]? = some b) {Q : UInt8 → Prop} : (∃ x : UInt8, ByteAt (bs l) i x ∧ Q x) = Q b := by
  apply propext
  constructor
  · rintro ⟨x, hx, hq⟩
    have e := hx.out
    rw [bs_get, h] at e
    obtain rfl := Option.some.inj e
    exact hq
  · intro hq; exact ⟨b, ⟨by rw [bs_get]; exact h⟩, hq⟩
theorem wi1 {i n : Nat} (h : i < n) (hn : n < 4294967296) : IntKind.wrap .i64 ((i : Int) + 1) = ((i + 1 : Nat) : Int) := by rw [w64 (by omega) (by omega)]; rfl
end Go.Abs

/- Chapter 3: how functions are met, and small functions, in data. -/
namespace Go.Proofs.G5o
open Go Go.Abs Go.Proofs Go.Str
set_option maxRecDepth 100000
theorem mixed : Tryz.prog.follows .mixedOrders = true := by kernel_rfl
abbrev C5 : FuncId → List D → List D → Prop := Con Tryz.prog
abbrev dI (a : Int) : D := .val (.int .i64 a)
abbrev dB (b : Bool) : D := .val (.bool b)
abbrev dS (l : List UInt8) : D := .val (.string (bs l))
theorem hokE : HandlerOK Tryz.prog (hE C5) := handlerX_ok mixed (fun g h he => by cases he) (by decide) 6
theorem ite_so {c : Prop} [Decidable c] {α : Type} {x h : α} {r : Option α} (e : (if c then some x else r) = some h) : (c ∧ x = h) ∨ r = some h := by
  by_cases hc : c
  · rw [if_pos hc] at e; exact .inl ⟨hc, Option.some.inj e⟩
  · rw [if_neg hc] at e; exact .inr e
theorem prePOK : PreOK Tryz.prog (preP C5) := by
  intro g h he args ats H k hk
  unfold preP at he
  rcases ite_so he with ⟨_, rfl⟩ | he
  · exact freshH_ok hk
  rcases ite_so he with ⟨_, rfl⟩ | he
  · exact freshH_ok hk
  rcases ite_so he with ⟨_, rfl⟩ | he
  · exact saidH_ok (fun _ _ _ h => h) _ _ _ _ _ hk
  · cases he
theorem hokP : HandlerOK Tryz.prog (hP C5) := handlerX_ok mixed prePOK (by decide) 6
theorem v1le (l : List Int) : 0 + l.length * 1 ≤ (vi l).length := by simp
theorem bc_nf {a : Int} {x y : Prop} : bcase (a != a) x y = y := by rw [show (a != a) = false by simp]; rfl
theorem bc_qt {a : Int} {x y : Prop} : bcase (a == a) x y = x := by rw [show (a == a) = true by simp]; rfl
theorem bcF {x y : Prop} : bcase false x y = y := rfl
theorem conFE (l : List Int) (hlen : l.length < 1000000000) : C5 48 [.sl l.length 1 (vi l)] [dI (fst0 l)] := by
  let inv : Nat × Nat → Prop := fun x => x.1 ≤ l.length ∧ fst0 l = fst0 (l.drop x.1)
  let st : Nat × Nat → Slots × Blocks := fun x => zFE1 l.length x.2 l.length x.1 (vi l)
  refine con_of (L := fun _ s b => ∃ x, inv x ∧ st x = (s, b)) hokE mixed Tryz.func48 rfl (by show 1 ≤ 400; omega) rfl (ids := [0]) (by kernel_rfl) rfl (fun caps => ?_) (fun id hid => ?_)
  · show gFE _ _ l.length (caps 500) (vi l) _
    rw [gFE_text]
    exact ⟨(0, caps 500), ⟨by simp, rfl⟩, rfl⟩
  · obtain rfl := List.mem_singleton.1 hid
    refine ⟨Nat × Nat, st, inv, fun x => l.length - x.1, ⟨fun s b h => h, by kernel_rfl, ?_⟩⟩
    rintro ⟨i, cap⟩ ⟨hi, hr⟩
    simp only at hi hr
    show rFE1 _ _ l.length cap l.length i (vi l) _ _ _
    rw [rFE1_text]
    refine bc_dec (fun h => ?_) (fun h => ?_)
    · have hi' : i < l.length := by omega
      rw [List.drop_eq_getElem_cons hi', fst0] at hr
      simp only [bc_t h, bc_t (show (0 : Int) ≤ (i : Int) by omega), Int.toNat_natCast, at1 (vi_at l i hi')]
      refine bc_bne (fun hc => ?_) (fun hc => ?_)
      · rw [if_neg hc] at hr
        show [dI l[i]] = [dI (fst0 l)]
        rw [hr]
      · rw [if_pos hc] at hr
        refine ⟨(i + 1, cap), ⟨by show i + 1 ≤ l.length; omega, hr⟩, by show l.length - (i + 1) < l.length - i; omega, ?_⟩
        rw [w64 (by omega) (by omega)]; rfl
    · show (if 0 = 0 then _ else _)
      rw [if_pos rfl]
      show nFE2 _ _ _
      rw [nFE2_text]
      have : i = l.length := by omega
      rw [this, List.drop_length] at hr
      show [dI 0] = [dI (fst0 l)]
      rw [hr]; rfl
theorem conWj (a b c : Int) : C5 9 [dI a, dI b, dI c] [.val (.bool (decide (b ≤ a ∧ a ≤ c)))] := by
  refine con_flat hokE mixed Tryz.func9 rfl (by show 0 ≤ 400; omega) rfl (by kernel_rfl) (fun caps => ?_)
  show gWj _ _ a b c _
  rw [gWj_text]
  refine bc_dec (fun h => bc_dec (fun h2 => ?_) (fun h2 => ?_)) (fun h => ?_)
  · show _ = _; rw [decide_eq_true (show b ≤ a ∧ a ≤ c from ⟨h, h2⟩)]
  · show _ = _; rw [decide_eq_false (show ¬ (b ≤ a ∧ a ≤ c) by omega)]
  · show _ = _; rw [decide_eq_false (show ¬ (b ≤ a ∧ a ≤ c) by omega)]
theorem sayWt {a b c : Int} (h : b ≤ a ∧ a ≤ c) : Says C5 9 [dI a, dI b, dI c] [.val (.bool true)] := by
  have := conWj a b c
  rw [decide_eq_true h] at this
  exact ⟨this⟩
theorem sayWf {a b c : Int} (h : ¬ (b ≤ a ∧ a ≤ c)) : Says C5 9 [dI a, dI b, dI c] [.val (.bool false)] := by
  have := conWj a b c
  rw [decide_eq_false h] at this
  exact ⟨this⟩
def szI (a : Int) : Int := if -a > a then -a else a
theorem conSi (a : Int) (h : -9223372036854775807 ≤ a ∧ a ≤ 9223372036854775807) : C5 96 [dI a] [dI (szI a)] := by
  refine con_flat hokE mixed Tryz.func96 rfl (by show 0 ≤ 400; omega) rfl (by kernel_rfl) (fun caps => ?_)
  show gSi _ _ a _
  rw [gSi_text, w64 (by omega) (by omega)]
  show [dI _] = [dI _]
  rw [show (0 : Int) - a = -a by omega]; rfl
theorem conGc (a b : Int) (ha : -9223372036854775808 ≤ a ∧ a ≤ 9223372036854775807) (hb : -9223372036854775807 ≤ b ∧ b ≤ 9223372036854775807) (h0 : b = 0 → -9223372036854775807 ≤ a) : C5 57 [dI a, dI b] [dI (Int.gcd a b)] := by
  let inv : Int × Int → Prop := fun x => (-9223372036854775808 ≤ x.1 ∧ x.1 ≤ 9223372036854775807) ∧ (-9223372036854775807 ≤ x.2 ∧ x.2 ≤ 9223372036854775807) ∧ (x.2 = 0 → -9223372036854775807 ≤ x.1) ∧ Int.gcd x.1 x.2 = Int.gcd a b
  let st : Int × Int → Slots × Blocks := fun x => zGc1 x.1 x.2
  refine con_of (L := fun _ s b => ∃ x, inv x ∧ st x = (s, b)) hokP mixed Tryz.func57 rfl (by show 0 ≤ 400; omega) rfl (ids := [0]) (by kernel_rfl) rfl (fun caps => ?_) (fun id hid => ?_)
  · show gGc _ _ a b _
    rw [gGc_text]
    exact ⟨(a, b), ⟨ha, hb, h0, rfl⟩, rfl⟩
  · obtain rfl := List.mem_singleton.1 hid
    refine ⟨Int × Int, st, inv, fun x => x.2.natAbs, ⟨fun s b h => h, by kernel_rfl, ?_⟩⟩
    rintro ⟨x, y⟩ ⟨hx, hy, hxy, hg⟩
    simp only at hx hy hxy hg
    show rGc1 _ _ x y _ _ _
    rw [rGc1_text]
    refine bc_bne (fun h => ?_) (fun h => ?_)
    · simp only [bc_n h, true_and, and_true]
      have hlt := gcd_step_lt (a := x) h
      have hst := gcd_step x y
      refine ⟨(y, x.tmod y), ⟨⟨by show -9223372036854775808 ≤ y; omega, hy.2⟩, ?_, fun _ => hy.1, by show Int.gcd y (x.tmod y) = _; omega⟩, hlt, rfl⟩
      show -9223372036854775807 ≤ x.tmod y ∧ x.tmod y ≤ 9223372036854775807
      have : (x.tmod y).natAbs < y.natAbs := hlt
      omega
    · show (if 0 = 0 then _ else _)
      rw [if_pos rfl]
      show nGc2 _ _ x _
      have hxl := hxy h
      rw [nGc2_text]
      refine ⟨_, ⟨conSi x (by omega)⟩, ?_⟩
      subst h
      have := gcd_end x
      show [dI _] = [dI _]
      rw [show ((Int.gcd a b : Nat) : Int) = (Int.gcd x 0 : Nat) by rw [hg], this]
      have e : szI x = (if x < 0 then -x else x) := by unfold szI; split <;> split <;> omega
      rw [e]
theorem conLe (n d : Int) (hn : -4611686018427387904 ≤ n ∧ n ≤ 4611686018427387904) (hd : -4611686018427387904 ≤ d ∧ d ≤ 4611686018427387904) (h0 : d ≠ 0) : C5 44 [dI n, dI d] [.agg [dI (low n d).1, dI (low n d).2]] := by
  refine con_flat hokP mixed Tryz.func44 rfl (by show 0 ≤ 400; omega) rfl (by kernel_rfl) (fun caps => ?_)
  show gLe _ _ n d _
  rw [gLe_text]
  have hg := gcd_pos (a := n) (b := d) (.inr h0)
  have hg' : ((Int.gcd n d : Nat) : Int) ≠ 0 := by omega
  have hgl : ((Int.gcd n d : Nat) : Int) ≤ 4611686018427387904 := by
    have : Int.gcd n d ≤ d.natAbs := Nat.le_of_dvd (by omega) (Nat.gcd_dvd_right ..)
    omega
  refine ⟨_, ⟨conGc n d (by omega) (by omega) (by omega)⟩, bc_dec (fun h => ?_) (fun h => ?_)⟩
  · rw [w64 (z := 0 - ((Int.gcd n d : Nat) : Int)) (by omega) (by omega)]
    have hg2 : 0 - ((Int.gcd n d : Nat) : Int) ≠ 0 := by omega
    have b1 := tdiv_small (n := 0 - n) (g := Int.gcd n d) (by omega) hg
    have b2 := tdiv_small (n := 0 - d) (g := Int.gcd n d) (by omega) hg
    simp only [bc_n hg2, true_and, and_true, tdiv_neg']
    rw [w64 (by omega) (by omega), w64 (by omega) (by omega)]
    show _ = _
    rw [low, if_pos h]
  · have b1 := tdiv_small (n := n) (g := Int.gcd n d) hn hg
    have b2 := tdiv_small (n := d) (g := Int.gcd n d) hd hg
    simp only [bc_n hg', true_and, and_true]
    rw [w64 (by omega) (by omega), w64 (by omega) (by omega)]
    show _ = _
    rw [low, if_neg h]
theorem sayOr {f : FuncId} {args : List D} {b : Bool} {A B : Prop} (h : C5 f args [dB b]) (h1 : b = true → A) (h2 : b = false → B) : (Says C5 f args [.val (.bool true)] ∧ A) ∨ (Says C5 f args [.val (.bool false)] ∧ B) := by
  cases b with
  | true => exact .inl ⟨⟨h⟩, h1 rfl⟩
  | false => exact .inr ⟨⟨h⟩, h2 rfl⟩
theorem coniL (b : UInt8) : C5 142 [.val (.int .u8 (b.toNat : Int))] [dB (isLet b)] := by
  refine con_flat hokP mixed Tryz.func142 rfl (by show 0 ≤ 400; omega) rfl (by kernel_rfl) (fun caps => ?_)
  show giL _ _ (b.toNat : Int) _
  rw [giL_text]
  repeat' refine bc_dec (fun _ => ?_) (fun _ => ?_)
  all_goals first
    | (show [D.val (Value.bool true)] = [dB (isLet b)]; rw [let_t (by omega)])
    | (show [D.val (Value.bool false)] = [dB (isLet b)]; rw [let_f (by omega)])
theorem coniD (b : UInt8) : C5 143 [.val (.int .u8 (b.toNat : Int))] [dB (isDig b)] := by
  refine con_flat hokP mixed Tryz.func143 rfl (by show 0 ≤ 400; omega) rfl (by kernel_rfl) (fun caps => ?_)
  show giD _ _ (b.toNat : Int) _
  rw [giD_text]
  repeat' refine bc_dec (fun _ => ?_) (fun _ => ?_)
  all_goals first
    | (show [D.val (Value.bool true)] = [dB (isDig b)]; rw [dig_t (by omega)])
    | (show [D.val (Value.bool false)] = [dB (isDig b)]; rw [dig_f (by omega)])
theorem conIN (l : List UInt8) : C5 124 [dS l] [dB (nameOK l)] := by
  let inv : Nat → Prop := fun i => goesN l i
  let st : Nat → Slots × Blocks := fun i => zIN1 (bs l) i
  refine con_of (L := fun _ s b => ∃ x, inv x ∧ st x = (s, b)) hokP mixed Tryz.func124 rfl (by show 0 ≤ 400; omega) rfl (ids := [0]) (by kernel_rfl) rfl (fun caps => ?_) (fun id hid => ?_)
  · show gIN _ _ (bs l) _
    rw [gIN_text]
    simp only [bs_size]
    refine bc_dec (fun h => ?_) (fun h => bc_dec (fun h2 => ?_) (fun h2 => ⟨0, goesN_0 (by omega), rfl⟩))
    · show [D.val (Value.bool false)] = [dB (nameOK l)]
      rw [nameOK_len (by omega)]
    · show [D.val (Value.bool false)] = [dB (nameOK l)]
      rw [nameOK_len (by omega)]
  · obtain rfl := List.mem_singleton.1 hid
    refine ⟨Nat, st, inv, fun x => l.length - x, ⟨fun s b h => h, by kernel_rfl, ?_⟩⟩
    intro i hg
    have hb := hg.1
    have h12 := hg.2.1
    show rIN1 _ _ (bs l) i _ _ _
    rw [rIN1_text]
    simp only [bs_size]
    refine bc_dec (fun h => ?_) (fun h => ?_)
    · have hi : i < l.length := by omega
      simp only [bc_t (show (0 : Int) ≤ (i : Int) by omega), Int.toNat_natCast, byte1 (List.getElem?_eq_getElem hi), wi1 hi (by omega)]
      have good : nameC l[i] = true → (i = 0 → isLet l[i] = true) → ∃ x, inv x ∧ l.length - x < l.length - i ∧ st x = ([(0, Value.string (bs l)), (3, .int .i64 ((i + 1 : Nat) : Int))], []) := fun hc h0 =>
        ⟨i + 1, goesN_step hg hi hc h0, by omega, rfl⟩
      repeat' first
        | refine bc_dec (fun _ => ?_) (fun _ => ?_)
        | refine bc_beq (fun _ => ?_) (fun _ => ?_)
        | refine bc_bne (fun _ => ?_) (fun _ => ?_)
      all_goals first
        | exact good (name_t (by omega)) (fun _ => let_t (by omega))
        | exact good (name_t (by omega)) (fun h0 => absurd h0 (by omega))
        | (show [D.val (Value.bool false)] = [dB (nameOK l)]; rw [goesN_bad hg hi (name_f (by omega))])
        | (show [D.val (Value.bool false)] = [dB (nameOK l)]; rw [goesN_first hi (by omega) (let_f (by omega))])
    · show nIN2 _ _ _
      rw [nIN2_text]
      show [D.val (Value.bool true)] = [dB (nameOK l)]
      rw [goesN_end hg (by omega)]
def lowP (n d : Int) : Prop := 0 < d ∧ Int.gcd n d = 1
instance (n d : Int) : Decidable (lowP n d) := by unfold lowP; infer_instance
theorem v5le (l : List Fv) : 0 + l.length * 5 ≤ (vs5 l).length := by simp
theorem v5_whole (l : List Fv) : List.take (l.length * 5) (List.drop 0 (vs5 l)) = vs5 l := by simp [List.take_of_length_le]
theorem v1_whole (l : List Int) : List.take (l.length * 1) (List.drop 0 (vi l)) = vi l := by simp [List.take_of_length_le]
theorem coniN (l : List UInt8) : C5 125 [dS l] [dB (nameOK l)] := by
  let inv : Nat → Prop := fun i => goesN l i ∧ l.head?.any isLet = true
  let st : Nat → Slots × Blocks := fun i => ziN1 (bs l) l.length i
  refine con_of (L := fun _ s b => ∃ x, inv x ∧ st x = (s, b)) hokP mixed Tryz.func125 rfl (by show 0 ≤ 400; omega) rfl (ids := [0]) (by kernel_rfl) rfl (fun caps => ?_) (fun id hid => ?_)
  · show giN _ _ (bs l) _
    rw [giN_text]
    simp only [bs_size]
    refine bc_beq (fun h => ?_) (fun h => bc_dec (fun h2 => ?_) (fun h2 => ?_))
    · show [dB false] = [dB (nameOK l)]
      rw [nameOK_len (by omega)]
    · show [dB false] = [dB (nameOK l)]
      rw [nameOK_len (by omega)]
    · have hl : 0 < l.length := by omega
      simp only [byte1 (List.getElem?_eq_getElem hl)]
      refine sayOr (coniL _) (fun h3 => ⟨0, ⟨goesN_0 (by omega), ?_⟩, rfl⟩) (fun h3 => ?_)
      · rw [head_of hl]; simpa using h3
      · show [dB false] = [dB (nameOK l)]
        rw [nameOK_head hl h3]
  · obtain rfl := List.mem_singleton.1 hid
    refine ⟨Nat, st, inv, fun x => l.length - x, ⟨fun s b h => h, by kernel_rfl, ?_⟩⟩
    rintro i ⟨hg, hh⟩
    have hb := hg.1
    have h12 := hg.2.1
    show riN1 _ _ (bs l) l.length i _ _ _
    rw [riN1_text]
    refine bc_dec (fun h => ?_) (fun h => ?_)
    · have hi : i < l.length := by omega
      have h0 : i = 0 → isLet l[i] = true := by
        rintro rfl
        rw [head_of hi] at hh; simpa using hh
      simp only [bc_t (show (0 : Int) ≤ (i : Int) by omega), Int.toNat_natCast, byte1 (List.getElem?_eq_getElem hi), wi1 hi (by omega)]
      have good : nameC l[i] = true → ∃ x, inv x ∧ l.length - x < l.length - i ∧ st x = ([(0, Value.string (bs l)), (19, .int .i64 (l.length : Int)), (20, .int .i64 ((i + 1 : Nat) : Int))], []) := fun hc =>
        ⟨i + 1, ⟨goesN_step hg hi hc h0, hh⟩, by omega, rfl⟩
      refine sayOr (coniL _) (fun h1 => good (by unfold nameC; rw [h1]; rfl)) (fun h1 => ?_)
      refine sayOr (coniD _) (fun h2 => good (by unfold nameC; rw [h2]; simp)) (fun h2 => ?_)
      refine bc_bne (fun h3 => ?_) (fun h3 => good (by unfold nameC; rw [show l[i].toNat = 45 by omega]; simp))
      show [dB false] = [dB (nameOK l)]
      rw [goesN_bad hg hi (by unfold nameC; rw [h1, h2]; simp; omega)]
    · show (if 0 = 0 then _ else _)
      rw [if_pos rfl]
      show niN2 _ _ _
      rw [niN2_text]
      show [dB true] = [dB (nameOK l)]
      rw [goesN_end hg (by omega)]
theorem conlT (n d : Int) (hn : -4611686018427387904 ≤ n ∧ n ≤ 4611686018427387904) (hd : 0 < d ∧ d ≤ 4611686018427387904) : C5 52 [dI n, dI d] [.agg [dI (low n d).1, dI (low n d).2]] := by
  have hg := gcd_pos (a := n) (b := d) (.inr (by omega))
  let inv : Int × Int → Prop := fun x => 0 ≤ x.1 ∧ 0 ≤ x.2 ∧ Int.gcd x.1 x.2 = Int.gcd n d
  let st : Int × Int → Slots × Blocks := fun x => zlT1 n d x.1 x.2 0 0
  refine con_of (L := fun _ s b => ∃ x, inv x ∧ st x = (s, b)) hokP mixed Tryz.func52 rfl (by show 0 ≤ 400; omega) rfl (ids := [0]) (by kernel_rfl) rfl (fun caps => ?_) (fun id hid => ?_)
  · show glT _ _ n d _
    rw [glT_text, w64 (by omega) (by omega)]
    refine ⟨(if 0 - n > n then 0 - n else n, d), ⟨by show 0 ≤ (if 0 - n > n then 0 - n else n); split <;> omega, by show 0 ≤ d; omega, ?_⟩, rfl⟩
    show Int.gcd (if 0 - n > n then 0 - n else n) d = _
    split
    · rw [show (0 : Int) - n = -n by omega, Int.neg_gcd]
    · rfl
  · obtain rfl := List.mem_singleton.1 hid
    refine ⟨Int × Int, st, inv, fun x => x.2.natAbs, ⟨fun s b h => h, by kernel_rfl, ?_⟩⟩
    rintro ⟨x, y⟩ ⟨hx, hy, hgx⟩
    simp only at hx hy hgx
    show rlT1 _ _ n d x y 0 0 _ _ _
    rw [rlT1_text]
    refine bc_dec (fun h => ?_) (fun h => ?_)
    · have hne : y ≠ 0 := by omega
      simp only [bc_n hne, true_and, and_true]
      have hlt := gcd_step_lt (a := x) hne
      have hst := gcd_step x y
      exact ⟨(y, x.tmod y), ⟨hy, Int.tmod_nonneg _ hx, by show Int.gcd y (x.tmod y) = _; omega⟩, hlt, rfl⟩
    · show (if 0 = 0 then _ else _)
      rw [if_pos rfl]
      show nlT2 _ _ n d x 0 0 _
      obtain rfl : y = 0 := by omega
      have he := gcd_end x
      rw [if_neg (by omega)] at he
      rw [nlT2_text]
      obtain rfl : x = (Int.gcd n d : Nat) := by omega
      have hne : ((Int.gcd n d : Nat) : Int) ≠ 0 := by omega
      simp only [bc_n hne, true_and, and_true]
      have b1 := tdiv_small (n := n) (g := Int.gcd n d) (by omega) hg
      have b2 := tdiv_small (n := d) (g := Int.gcd n d) (by omega) hg
      rw [w64 (by omega) (by omega), w64 (by omega) (by omega)]
      show [D.agg _] = [D.agg _]
      rw [low, if_neg (by omega)]
end Go.Proofs.G5o

/- Chapter 3: what rules and schedules are valid, in data. -/
namespace Go.Proofs.G5o
open Go Go.Abs Go.Proofs Go.Str
set_option maxRecDepth 100000
/-- rules: the stands are radius, force, torque, and the two ends of the loss -/
structure Ru where
  w : Int
  st : Int
  fi : Int
  hlo : Int
  hhi : Int
  co : Int
  ss : List Fv
  slo : Int
  shi : Int
  flo : Int
  fhi : Int
abbrev Ru.d (r : Ru) : D := .agg [dI r.w, dI r.st, dI r.fi, dI r.hlo, dI r.hhi, dI r.co, .sl r.ss.length 5 (vs5 r.ss), dI r.slo, dI r.shi, dI r.flo, dI r.fhi]
abbrev Ru.dn (r : Ru) : D := .agg [dI r.w, dI r.st, dI r.fi, dI r.hlo, dI r.hhi, dI r.co, .nil, dI r.slo, dI r.shi, dI r.flo, dI r.fhi]
def wE (lo hi : Int) : List Int → Int
  | [] => 0
  | x :: r => if x < lo ∨ x > hi then 2 else wE lo hi r
def eE : List (Int × Int) → Int
  | [] => 0
  | p :: r => if p.1 > p.2 then 9 else eE r
def cntE (n : Nat) : Int := if n = 0 then 10 else if n > 6 then 8 else 0
def rngB (r : Ru) : Prop := (1 ≤ r.w ∧ r.w ≤ 2500) ∧ ((1 ≤ r.st ∧ r.st ≤ 1000) ∧ 1 ≤ r.fi ∧ r.fi ≤ 1000) ∧ ((0 ≤ r.hlo ∧ r.hlo ≤ 20000) ∧ (0 ≤ r.hhi ∧ r.hhi ≤ 20000) ∧ 0 ≤ r.co ∧ r.co ≤ 20000) ∧ ((1 ≤ r.slo ∧ r.slo ≤ 100) ∧ 1 ≤ r.shi ∧ r.shi ≤ 100) ∧ (0 ≤ r.flo ∧ r.flo ≤ 100) ∧ 0 ≤ r.fhi ∧ r.fhi ≤ 100
def ordB (r : Ru) : Prop := r.fi ≤ r.st ∧ r.hlo ≤ r.hhi ∧ r.slo ≤ r.shi ∧ r.flo ≤ r.fhi
instance (r : Ru) : Decidable (rngB r) := by unfold rngB; infer_instance
instance (r : Ru) : Decidable (ordB r) := by unfold ordB; infer_instance
def headE (r : Ru) : Int := if rngB r then if ordB r then cntE r.ss.length else 9 else 2
def stB (s : Fv) : Prop := (1 ≤ s.a ∧ s.a ≤ 1000) ∧ ((0 ≤ s.b ∧ s.b ≤ 1000000000000) ∧ 0 ≤ s.c ∧ s.c ≤ 1000000000000) ∧ (0 ≤ s.d ∧ s.d ≤ 1000) ∧ 0 ≤ s.e ∧ s.e ≤ 1000
instance (s : Fv) : Decidable (stB s) := by unfold stB; infer_instance
def stE (s : Fv) : Int := if stB s then if s.d ≤ s.e then 0 else 9 else 2
def stsE : Int → List Fv → Int × Int
  | _, [] => (0, 0)
  | i, s :: r => if stE s = 0 then stsE (i + 1) r else (i, stE s)
def chk (r : Ru) : Int × Int := if headE r = 0 then stsE 0 r.ss else (0, headE r)
theorem fst0_z (r : List Int) : fst0 (0 :: r) = fst0 r := by rw [fst0, if_pos rfl]
theorem fst0_n {a : Int} (h : a ≠ 0) (r : List Int) : fst0 (a :: r) = a := by rw [fst0, if_neg h]
theorem wE1 (lo hi a : Int) : wE lo hi [a] = if lo ≤ a ∧ a ≤ hi then 0 else 2 := by
  simp only [wE]; split <;> split <;> first | rfl | omega
theorem wE2 (lo hi a b : Int) : wE lo hi [a, b] = if (lo ≤ a ∧ a ≤ hi) ∧ lo ≤ b ∧ b ≤ hi then 0 else 2 := by
  simp only [wE]; repeat' split
  all_goals first | rfl | omega
theorem wE3 (lo hi a b c : Int) : wE lo hi [a, b, c] = if (lo ≤ a ∧ a ≤ hi) ∧ (lo ≤ b ∧ b ≤ hi) ∧ lo ≤ c ∧ c ≤ hi then 0 else 2 := by
  simp only [wE]; repeat' split
  all_goals first | rfl | omega
theorem eE1 (a b : Int) : eE [(a, b)] = if a ≤ b then 0 else 9 := by
  simp only [eE]; repeat' split
  all_goals first | rfl | omega
theorem eE4 (a b c d e f g h : Int) : eE [(a, b), (c, d), (e, f), (g, h)] = if a ≤ b ∧ c ≤ d ∧ e ≤ f ∧ g ≤ h then 0 else 9 := by
  simp only [eE]; repeat' split
  all_goals first | rfl | omega
theorem headE_eq (r : Ru) : fst0 [wE 1 2500 [r.w], wE 1 1000 [r.st, r.fi], wE 0 20000 [r.hlo, r.hhi, r.co], wE 1 100 [r.slo, r.shi], wE 0 100 [r.flo, r.fhi], eE [(r.fi, r.st), (r.hlo, r.hhi), (r.slo, r.shi), (r.flo, r.fhi)], cntE r.ss.length] = headE r := by
  rw [wE1, wE2, wE3, wE2, wE2, eE4]
  have two : ∀ {c : Prop} [Decidable c] (l : List Int) , ¬ c → fst0 ((if c then 0 else 2) :: l) = 2 := fun l h => by rw [if_neg h]; rfl
  have bad : ¬ rngB r → headE r = 2 := fun h => by rw [headE, if_neg h]
  by_cases h1 : 1 ≤ r.w ∧ r.w ≤ 2500
  · rw [if_pos h1, fst0_z]
    by_cases h2 : (1 ≤ r.st ∧ r.st ≤ 1000) ∧ 1 ≤ r.fi ∧ r.fi ≤ 1000
    · rw [if_pos h2, fst0_z]
      by_cases h3 : (0 ≤ r.hlo ∧ r.hlo ≤ 20000) ∧ (0 ≤ r.hhi ∧ r.hhi ≤ 20000) ∧ 0 ≤ r.co ∧ r.co ≤ 20000
      · rw [if_pos h3, fst0_z]
        by_cases h4 : (1 ≤ r.slo ∧ r.slo ≤ 100) ∧ 1 ≤ r.shi ∧ r.shi ≤ 100
        · rw [if_pos h4, fst0_z]
          by_cases h5 : (0 ≤ r.flo ∧ r.flo ≤ 100) ∧ 0 ≤ r.fhi ∧ r.fhi ≤ 100
          · rw [if_pos h5, fst0_z, headE, if_pos (show rngB r from ⟨h1, h2, h3, h4, h5⟩)]
            by_cases h6 : r.fi ≤ r.st ∧ r.hlo ≤ r.hhi ∧ r.slo ≤ r.shi ∧ r.flo ≤ r.fhi
            · rw [if_pos h6, fst0_z, if_pos (show ordB r from h6)]
              by_cases h7 : cntE r.ss.length = 0
              · rw [h7]; rfl
              · rw [fst0_n h7]
            · rw [if_neg h6, if_neg (show ¬ ordB r from h6)]; rfl
          · rw [two _ h5, bad (fun h => h5 h.2.2.2.2)]
        · rw [two _ h4, bad (fun h => h4 h.2.2.2.1)]
      · rw [two _ h3, bad (fun h => h3 h.2.2.1)]
    · rw [two _ h2, bad (fun h => h2 h.2.1)]
  · rw [two _ h1, bad (fun h => h1 h.1)]
theorem stE_eq (s : Fv) : fst0 [wE 1 1000 [s.a], wE 0 1000000000000 [s.b, s.c], wE 0 1000 [s.d, s.e], eE [(s.d, s.e)]] = stE s := by
  rw [wE1, wE2, wE2, eE1]
  have two : ∀ {c : Prop} [Decidable c] (l : List Int) , ¬ c → fst0 ((if c then 0 else 2) :: l) = 2 := fun l h => by rw [if_neg h]; rfl
  have bad : ¬ stB s → stE s = 2 := fun h => by rw [stE, if_neg h]
  by_cases h1 : 1 ≤ s.a ∧ s.a ≤ 1000
  · rw [if_pos h1, fst0_z]
    by_cases h2 : (0 ≤ s.b ∧ s.b ≤ 1000000000000) ∧ 0 ≤ s.c ∧ s.c ≤ 1000000000000
    · rw [if_pos h2, fst0_z]
      by_cases h3 : (0 ≤ s.d ∧ s.d ≤ 1000) ∧ 0 ≤ s.e ∧ s.e ≤ 1000
      · rw [if_pos h3, fst0_z, stE, if_pos (show stB s from ⟨h1, h2, h3⟩)]
        by_cases h4 : s.d ≤ s.e
        · rw [if_pos h4]; rfl
        · rw [if_neg h4]; rfl
      · rw [two _ h3, bad (fun h => h3 h.2.2)]
    · rw [two _ h2, bad (fun h => h2 h.2.1)]
  · rw [two _ h1, bad (fun h => h1 h.1)]
theorem wE_drop {lo hi : Int} (l : List Int) (i : Nat) (h : i < l.length) : wE lo hi (l.drop i) = if l[i] < lo ∨ l[i] > hi then 2 else wE lo hi (l.drop (i + 1)) := by
  rw [List.drop_eq_getElem_cons h]; rfl
theorem conCW (lo hi : Int) (l : List Int) (hlen : l.length < 1000000000) : C5 49 [dI lo, dI hi, .sl l.length 1 (vi l)] [dI (wE lo hi l)] := by
  let inv : Nat × Nat → Prop := fun x => x.1 ≤ l.length ∧ wE lo hi l = wE lo hi (l.drop x.1)
  let st : Nat × Nat → Slots × Blocks := fun x => zCW1 lo hi l.length x.2 l.length x.1 (vi l)
  refine con_of (L := fun _ s b => ∃ x, inv x ∧ st x = (s, b)) hokE mixed Tryz.func49 rfl (by show 1 ≤ 400; omega) rfl (ids := [0]) (by kernel_rfl) rfl (fun caps => ?_) (fun id hid => ?_)
  · show gCW _ _ lo hi l.length (caps 500) (vi l) _
    rw [gCW_text]
    exact ⟨(0, caps 500), ⟨by simp, rfl⟩, rfl⟩
  · obtain rfl := List.mem_singleton.1 hid
    refine ⟨Nat × Nat, st, inv, fun x => l.length - x.1, ⟨fun s b h => h, by kernel_rfl, ?_⟩⟩
    rintro ⟨i, cap⟩ ⟨hi', hr⟩
    simp only at hi' hr
    show rCW1 _ _ lo hi l.length cap l.length i (vi l) _ _ _
    rw [rCW1_text]
    refine bc_dec (fun h => ?_) (fun h => ?_)
    · have hi2 : i < l.length := by omega
      rw [wE_drop l i hi2] at hr
      simp only [bc_t h, bc_t (show (0 : Int) ≤ (i : Int) by omega), Int.toNat_natCast, at1 (vi_at l i hi2)]
      refine bc_dec (fun h1 => ?_) (fun h1 => bc_dec (fun h2 => ?_) (fun h2 => ?_))
      · rw [if_pos (.inl h1)] at hr; show [dI 2] = _; rw [hr]
      · rw [if_pos (.inr h2)] at hr; show [dI 2] = _; rw [hr]
      · rw [if_neg (by omega)] at hr
        refine ⟨(i + 1, cap), ⟨hi2, hr⟩, by show l.length - (i + 1) < l.length - i; omega, ?_⟩
        rw [w64 (by omega) (by omega)]; rfl
    · show (if 0 = 0 then _ else _)
      rw [if_pos rfl]
      show nCW2 _ _ _
      rw [nCW2_text]
      have : i = l.length := by omega
      rw [this, List.drop_length] at hr
      show [dI 0] = _
      rw [hr]; rfl
theorem eE_drop (l : List (Int × Int)) (i : Nat) (h : i < l.length) : eE (l.drop i) = if l[i].1 > l[i].2 then 9 else eE (l.drop (i + 1)) := by
  rw [List.drop_eq_getElem_cons h]; rfl
theorem conCN (l : List (Int × Int)) (hlen : l.length < 1000000000) : C5 137 [.sl l.length 2 (vp l)] [dI (eE l)] := by
  let inv : Nat × Nat → Prop := fun x => x.1 ≤ l.length ∧ eE l = eE (l.drop x.1)
  let st : Nat × Nat → Slots × Blocks := fun x => zCN1 l.length x.2 l.length x.1 (vp l)
  refine con_of (L := fun _ s b => ∃ x, inv x ∧ st x = (s, b)) hokE mixed Tryz.func137 rfl (by show 1 ≤ 400; omega) rfl (ids := [0]) (by kernel_rfl) rfl (fun caps => ?_) (fun id hid => ?_)
  · show gCN _ _ l.length (caps 500) (vp l) _
    rw [gCN_text]
    exact ⟨(0, caps 500), ⟨by simp, rfl⟩, rfl⟩
  · obtain rfl := List.mem_singleton.1 hid
    refine ⟨Nat × Nat, st, inv, fun x => l.length - x.1, ⟨fun s b h => h, by kernel_rfl, ?_⟩⟩
    rintro ⟨i, cap⟩ ⟨hi', hr⟩
    simp only at hi' hr
    show rCN1 _ _ l.length cap l.length i (vp l) _ _ _
    rw [rCN1_text]
    refine bc_dec (fun h => ?_) (fun h => ?_)
    · have hi2 : i < l.length := by omega
      rw [eE_drop l i hi2] at hr
      simp only [bc_t h, bc_t (show (0 : Int) ≤ (i : Int) by omega), Int.toNat_natCast, at2 (vp_two l i hi2)]
      refine bc_dec (fun h1 => ?_) (fun h1 => ?_)
      · rw [if_pos h1] at hr; show [dI 9] = _; rw [hr]
      · rw [if_neg h1] at hr
        refine ⟨(i + 1, cap), ⟨hi2, hr⟩, by show l.length - (i + 1) < l.length - i; omega, ?_⟩
        rw [w64 (by omega) (by omega)]; rfl
    · show (if 0 = 0 then _ else _)
      rw [if_pos rfl]
      show nCN2 _ _ _
      rw [nCN2_text]
      have : i = l.length := by omega
      rw [this, List.drop_length] at hr
      show [dI 0] = _
      rw [hr]; rfl
theorem conCC (l : List Fv) : C5 138 [.sl l.length 5 (vs5 l)] [dI (cntE l.length)] := by
  refine con_flat hokE mixed Tryz.func138 rfl (by show 1 ≤ 400; omega) rfl (by kernel_rfl) (fun caps => ?_)
  show gCC _ _ l.length (caps 500) (vs5 l) _
  rw [gCC_text]; unfold cntE
  refine bc_beq (fun h => ?_) (fun h => bc_dec (fun h2 => ?_) (fun h2 => ?_))
  · show _ = _; rw [if_pos (by omega)]
  · show _ = _; rw [if_neg (by omega), if_pos (by omega)]
  · show _ = _; rw [if_neg (by omega), if_neg (by omega)]
theorem conCS (s : Fv) : C5 139 [.agg [dI s.a, dI s.b, dI s.c, dI s.d, dI s.e]] [dI (stE s)] := by
  refine con_flat hokP mixed Tryz.func139 rfl (by show 0 ≤ 400; omega) rfl (by kernel_rfl) (fun caps => ?_)
  show gCS _ _ s.a s.b s.c s.d s.e _
  rw [gCS_text]
  simp only [Qv, eq_self, true_and, and_true]
  refine ⟨_, ⟨conCW 1 1000 [s.a] (by simp)⟩, _, ⟨conCW 0 1000000000000 [s.b, s.c] (by simp)⟩, _, ⟨conCW 0 1000 [s.d, s.e] (by simp)⟩, _, ⟨conCN [(s.d, s.e)] (by simp)⟩, _, ⟨conFE [_, _, _, _] (by simp)⟩, ?_⟩
  show [dI _] = [dI _]
  rw [stE_eq]
theorem conCT (h : Int) : C5 126 [dI h] [dI (wE 1 1000 [h])] := by
  refine con_flat hokP mixed Tryz.func126 rfl (by show 0 ≤ 400; omega) rfl (by kernel_rfl) (fun caps => ?_)
  show gCT _ _ h _
  rw [gCT_text]
  exact ⟨_, ⟨conCW 1 1000 [h] (by simp)⟩, rfl⟩
theorem stsE_drop (l : List Fv) (i : Nat) (h : i < l.length) : stsE i (l.drop i) = if stE l[i] = 0 then stsE ((i + 1 : Nat) : Int) (l.drop (i + 1)) else ((i : Int), stE l[i]) := by
  rw [List.drop_eq_getElem_cons h]; rfl
theorem conKR (r : Ru) (hlen : r.ss.length < 1000000000) : C5 114 [r.d] [dI (chk r).1, dI (chk r).2] := by
  let inv : Nat × Nat → Prop := fun x => x.1 ≤ r.ss.length ∧ chk r = stsE x.1 (r.ss.drop x.1)
  let st : Nat × Nat → Slots × Blocks := fun x => zKR1 r.ss.length x.2 r.ss.length x.1 (vs5 r.ss)
  refine con_of (L := fun _ s b => ∃ x, inv x ∧ st x = (s, b)) hokP mixed Tryz.func114 rfl (by show 1 ≤ 400; omega) rfl (ids := [0]) (by kernel_rfl) rfl (fun caps => ?_) (fun id hid => ?_)
  · show gKR _ _ r.w r.st r.fi r.hlo r.hhi r.co r.ss.length (caps 500) (vs5 r.ss) r.slo r.shi r.flo r.fhi _
    rw [gKR_text]
    simp only [Qv, eq_self, true_and, and_true]
    refine ⟨_, ⟨conCW 1 2500 [r.w] (by simp)⟩, _, ⟨conCW 1 1000 [r.st, r.fi] (by simp)⟩, _, ⟨conCW 0 20000 [r.hlo, r.hhi, r.co] (by simp)⟩, _, ⟨conCW 1 100 [r.slo, r.shi] (by simp)⟩, _, ⟨conCW 0 100 [r.flo, r.fhi] (by simp)⟩, _, ⟨conCN [(r.fi, r.st), (r.hlo, r.hhi), (r.slo, r.shi), (r.flo, r.fhi)] (by simp)⟩, ?_⟩
    rw [bc_t (v5le r.ss), v5_whole]
    refine ⟨_, ⟨conCC r.ss⟩, _, ⟨conFE [_, _, _, _, _, _, _] (by simp)⟩, ?_⟩
    rw [headE_eq]
    refine bc_bne (fun h => ?_) (fun h => ⟨(0, caps 500), ⟨Nat.zero_le _, by rw [chk, if_pos h]; rfl⟩, rfl⟩)
    show [dI 0, dI (headE r)] = _
    rw [chk, if_neg h]
  · obtain rfl := List.mem_singleton.1 hid
    refine ⟨Nat × Nat, st, inv, fun x => r.ss.length - x.1, ⟨fun s b h => h, by kernel_rfl, ?_⟩⟩
    rintro ⟨i, cap⟩ ⟨hi', hr⟩
    simp only at hi' hr
    show rKR1 _ _ r.ss.length cap r.ss.length i (vs5 r.ss) _ _ _
    rw [rKR1_text]
    refine bc_dec (fun h => ?_) (fun h => ?_)
    · have hi2 : i < r.ss.length := by omega
      rw [stsE_drop r.ss i hi2] at hr
      simp only [bc_t h, bc_t (show (0 : Int) ≤ (i : Int) by omega), Int.toNat_natCast, at5 (vs5_all r.ss i hi2)]
      refine ⟨_, ⟨conCS r.ss[i]⟩, bc_bne (fun h1 => ?_) (fun h1 => ?_)⟩
      · rw [if_neg h1] at hr; show [dI (i : Int), dI (stE _)] = _; rw [hr]
      · rw [if_pos h1] at hr
        refine ⟨(i + 1, cap), ⟨hi2, hr⟩, by show r.ss.length - (i + 1) < r.ss.length - i; omega, ?_⟩
        rw [w64 (by omega) (by omega)]; rfl
    · show (if 0 = 0 then _ else _)
      rw [if_pos rfl]
      show nKR2 _ _ _
      rw [nKR2_text]
      have : i = r.ss.length := by omega
      rw [this, List.drop_length] at hr
      show [dI 0, dI 0] = _
      rw [hr]; rfl
/-- a schedule's errors, for rules without one -/
def thE (n : Nat) (fi : Int) : Int → Int → List Int → Int × Int
  | _, before, [] => if before ≠ fi then ((n : Int) - 1, 14) else (0, 0)
  | i, before, h :: l => if ¬ (1 ≤ h ∧ h ≤ 1000) then (i, 2) else if h > before then (i, 9) else thE n fi (i + 1) h l
def schE (r : Ru) (nm : List UInt8) (th : List Int) : Int × Int := if nameOK nm = true then if th.length = r.ss.length then thE r.ss.length r.fi 0 r.st th else (0, 10) else (0, 4)
def schP (r : Ru) (nm : List UInt8) (th : List Int) : Int × Int := if (chk r).2 = 0 then schE r nm th else (0, (chk r).2)
abbrev scD (nm : List UInt8) (th : List Int) : D := .agg [dS nm, .sl th.length 1 (vi th)]
theorem thE_drop {n : Nat} {fi b : Int} (l : List Int) (i : Nat) (h : i < l.length) : thE n fi i b (l.drop i) = if ¬ (1 ≤ l[i] ∧ l[i] ≤ 1000) then ((i : Int), 2) else if l[i] > b then ((i : Int), 9) else thE n fi ((i + 1 : Nat) : Int) l[i] (l.drop (i + 1)) := by
  rw [List.drop_eq_getElem_cons h]; rfl
theorem conKS (r : Ru) (nm : List UInt8) (th : List Int) (hlen : r.ss.length < 1000000000) (hth : th.length < 1000000000) : C5 95 [r.d, scD nm th] [dI (schP r nm th).1, dI (schP r nm th).2] := by
  let inv : Nat × Nat × Nat × Int → Prop := fun x => x.1 ≤ th.length ∧ schP r nm th = thE r.ss.length r.fi x.1 x.2.2.2 (th.drop x.1)
  let st : Nat × Nat × Nat × Int → Slots × Blocks := fun x => zKS1 x.2.2.2 th.length x.2.1 th.length x.1 r.w r.st r.fi r.hlo r.hhi r.co r.ss.length x.2.2.1 r.slo r.shi r.flo r.fhi (vi th) (vs5 r.ss)
  refine con_of (L := fun _ s b => ∃ x, inv x ∧ st x = (s, b)) hokP mixed Tryz.func95 rfl (by show 2 ≤ 400; omega) rfl (ids := [1]) (by kernel_rfl) rfl (fun caps => ?_) (fun id hid => ?_)
  · show gKS _ _ r.w r.st r.fi r.hlo r.hhi r.co r.ss.length (caps 500) (vs5 r.ss) r.slo r.shi r.flo r.fhi (bs nm) th.length (caps 501) (vi th) _
    rw [gKS_text, bc_t (v5le r.ss), v5_whole]
    refine ⟨_, _, ⟨conKR r hlen⟩, bc_bne (fun h => ?_) (fun h => ?_)⟩
    · show [dI 0, dI _] = _
      rw [schP, if_neg h]
    · refine sayOr (coniN nm) (fun hn => bc_bne (fun h2 => ?_) (fun h2 => ?_)) (fun hn => ?_)
      · show [dI 0, dI 10] = _
        rw [schP, if_pos h, schE, if_pos hn, if_neg (by omega)]
      · exact ⟨(0, caps 501, caps 500, r.st), ⟨Nat.zero_le _, by rw [schP, if_pos h, schE, if_pos hn, if_pos (by omega)]; rfl⟩, rfl⟩
      · show [dI 0, dI 4] = _
        rw [schP, if_pos h, schE, if_neg (by rw [hn]; simp)]
  · obtain rfl := List.mem_singleton.1 hid
    refine ⟨Nat × Nat × Nat × Int, st, inv, fun x => th.length - x.1, ⟨fun s b h => h, by kernel_rfl, ?_⟩⟩
    rintro ⟨i, c1, c2, b⟩ ⟨hi', hr⟩
    simp only at hi' hr
    show rKS1 _ _ b th.length c1 th.length i r.w r.st r.fi r.hlo r.hhi r.co r.ss.length c2 r.slo r.shi r.flo r.fhi (vi th) (vs5 r.ss) _ _ _
    rw [rKS1_text]
    refine bc_dec (fun h => ?_) (fun h => ?_)
    · have hi2 : i < th.length := by omega
      rw [thE_drop th i hi2] at hr
      simp only [bc_t h, bc_t (show (0 : Int) ≤ (i : Int) by omega), Int.toNat_natCast, at1 (vi_at th i hi2)]
      refine ⟨_, ⟨conCT th[i]⟩, ?_⟩
      rw [wE1]
      by_cases h3 : 1 ≤ th[i] ∧ th[i] ≤ 1000
      · rw [if_neg (fun hh => hh h3)] at hr
        rw [if_pos h3]
        show bcase _ _ _
        refine bc_dec (fun h4 => ?_) (fun h4 => ?_)
        · rw [if_pos h4] at hr; show [dI (i : Int), dI 9] = _; rw [hr]
        · rw [if_neg h4] at hr
          refine ⟨(i + 1, c1, c2, th[i]), ⟨hi2, hr⟩, by show th.length - (i + 1) < th.length - i; omega, ?_⟩
          rw [w64 (by omega) (by omega)]; rfl
      · rw [if_pos h3] at hr
        rw [if_neg h3]
        show [dI (i : Int), dI 2] = _
        rw [hr]
    · show (if 1 = 1 then _ else _)
      rw [if_pos rfl]
      show nKS2 _ _ b r.w r.st r.fi r.hlo r.hhi r.co r.ss.length c2 r.slo r.shi r.flo r.fhi (vs5 r.ss) _
      rw [nKS2_text]
      have : i = th.length := by omega
      rw [this, List.drop_length, thE] at hr
      refine bc_bne (fun h2 => ?_) (fun h2 => ?_)
      · rw [if_pos h2] at hr; rw [hr, w64 (by omega) (by omega)]
      · rw [if_neg (by omega)] at hr; rw [hr]
end Go.Proofs.G5o

/- Chapter 3: the reference's checks, in data. -/
namespace Go.Proofs.G5o
open Go Go.Abs Go.Proofs Go.Str
set_option maxRecDepth 100000
theorem sayW {a b c : Int} {A B : Prop} (h1 : b ≤ a ∧ a ≤ c → A) (h2 : ¬ (b ≤ a ∧ a ≤ c) → B) : (Says C5 9 [dI a, dI b, dI c] [.val (.bool true)] ∧ A) ∨ (Says C5 9 [dI a, dI b, dI c] [.val (.bool false)] ∧ B) := by
  by_cases h : b ≤ a ∧ a ≤ c
  · exact .inl ⟨sayWt h, h1 h⟩
  · exact .inr ⟨sayWf h, h2 h⟩
theorem chk_rng {r : Ru} (h : ¬ rngB r) : chk r = (0, 2) := by
  have : headE r = 2 := by rw [headE, if_neg h]
  rw [chk, this]; rfl
theorem chk_ord {r : Ru} (h1 : rngB r) (h2 : ¬ ordB r) : chk r = (0, 9) := by
  have : headE r = 9 := by rw [headE, if_pos h1, if_neg h2]
  rw [chk, this]; rfl
theorem chk_cnt {r : Ru} (h1 : rngB r) (h2 : ordB r) : chk r = if cntE r.ss.length = 0 then stsE 0 r.ss else (0, cntE r.ss.length) := by
  rw [chk, headE, if_pos h1, if_pos h2]
theorem conRK (r : Ru) (hlen : r.ss.length < 1000000000) : C5 93 [r.d] [dI (chk r).1, dI (chk r).2] := by
  let inv : Nat × Nat → Prop := fun x => x.1 ≤ r.ss.length ∧ chk r = stsE x.1 (r.ss.drop x.1)
  let st : Nat × Nat → Slots × Blocks := fun x => zRK1 x.1 r.w r.st r.fi r.hlo r.hhi r.co r.ss.length x.2 r.slo r.shi r.flo r.fhi (vs5 r.ss)
  refine con_of (L := fun _ s b => ∃ x, inv x ∧ st x = (s, b)) hokP mixed Tryz.func93 rfl (by show 1 ≤ 400; omega) rfl (ids := [0]) (by kernel_rfl) rfl (fun caps => ?_) (fun id hid => ?_)
  · show gRK _ _ r.w r.st r.fi r.hlo r.hhi r.co r.ss.length (caps 500) (vs5 r.ss) r.slo r.shi r.flo r.fhi _
    rw [gRK_text]
    have bad : ¬ rngB r → [dI 0, dI 2] = [dI (chk r).1, dI (chk r).2] := fun h => by rw [chk_rng h]
    refine sayW (fun h1 => ?_) (fun h1 => bad (fun h => h1 h.1))
    refine sayW (fun h2 => ?_) (fun h2 => bad (fun h => h2 h.2.1.1))
    refine sayW (fun h3 => ?_) (fun h3 => bad (fun h => h3 h.2.1.2))
    refine sayW (fun h4 => ?_) (fun h4 => bad (fun h => h4 h.2.2.1.1))
    refine sayW (fun h5 => ?_) (fun h5 => bad (fun h => h5 h.2.2.1.2.1))
    refine sayW (fun h6 => ?_) (fun h6 => bad (fun h => h6 h.2.2.1.2.2))
    refine sayW (fun h7 => ?_) (fun h7 => bad (fun h => h7 h.2.2.2.1.1))
    refine sayW (fun h8 => ?_) (fun h8 => bad (fun h => h8 h.2.2.2.1.2))
    refine sayW (fun h9 => ?_) (fun h9 => bad (fun h => h9 h.2.2.2.2.1))
    refine sayW (fun h10 => ?_) (fun h10 => bad (fun h => h10 h.2.2.2.2.2))
    have hr : rngB r := ⟨h1, ⟨h2, h3⟩, ⟨h4, h5, h6⟩, ⟨h7, h8⟩, h9, h10⟩
    have bad2 : ¬ ordB r → [dI 0, dI 9] = [dI (chk r).1, dI (chk r).2] := fun h => by rw [chk_ord hr h]
    refine bc_dec (fun g1 => bad2 (fun h => by have := h.1; omega)) (fun g1 => ?_)
    refine bc_dec (fun g2 => bad2 (fun h => by have := h.2.1; omega)) (fun g2 => ?_)
    refine bc_dec (fun g3 => bad2 (fun h => by have := h.2.2.1; omega)) (fun g3 => ?_)
    refine bc_dec (fun g4 => bad2 (fun h => by have := h.2.2.2; omega)) (fun g4 => ?_)
    have ho : ordB r := ⟨by omega, by omega, by omega, by omega⟩
    have hc := chk_cnt hr ho
    refine bc_beq (fun g5 => ?_) (fun g5 => bc_dec (fun g6 => ?_) (fun g6 => ?_))
    · have e : cntE r.ss.length = 10 := by rw [cntE, if_pos (by omega)]
      rw [hc, e]; rfl
    · have e : cntE r.ss.length = 8 := by rw [cntE, if_neg (by omega), if_pos (by omega)]
      rw [hc, e]; rfl
    · have e : cntE r.ss.length = 0 := by rw [cntE, if_neg (by omega), if_neg (by omega)]
      exact ⟨(0, caps 500), ⟨Nat.zero_le _, by rw [hc, e]; rfl⟩, rfl⟩
  · obtain rfl := List.mem_singleton.1 hid
    refine ⟨Nat × Nat, st, inv, fun x => r.ss.length - x.1, ⟨fun s b h => h, by kernel_rfl, ?_⟩⟩
    rintro ⟨i, cap⟩ ⟨hi', hr⟩
    simp only at hi' hr
    show rRK1 _ _ i r.w r.st r.fi r.hlo r.hhi r.co r.ss.length cap r.slo r.shi r.flo r.fhi (vs5 r.ss) _ _ _
    rw [rRK1_text]
    refine bc_dec (fun h => ?_) (fun h => ?_)
    · have hi2 : i < r.ss.length := by omega
      rw [stsE_drop r.ss i hi2] at hr
      simp only [bc_t h, bc_t (show (0 : Int) ≤ (i : Int) by omega), Int.toNat_natCast, at5 (vs5_all r.ss i hi2)]
      have bad : ¬ stB r.ss[i] → [dI (i : Int), dI 2] = [dI (chk r).1, dI (chk r).2] := fun h => by
        have e : stE r.ss[i] = 2 := by rw [stE, if_neg h]
        rw [e, if_neg (by omega)] at hr; rw [hr]
      refine sayW (fun h1 => ?_) (fun h1 => bad (fun h => h1 h.1))
      refine sayW (fun h2 => ?_) (fun h2 => bad (fun h => h2 h.2.1.1))
      refine sayW (fun h3 => ?_) (fun h3 => bad (fun h => h3 h.2.1.2))
      refine sayW (fun h4 => ?_) (fun h4 => bad (fun h => h4 h.2.2.1))
      refine sayW (fun h5 => ?_) (fun h5 => bad (fun h => h5 h.2.2.2))
      have hb : stB r.ss[i] := ⟨h1, ⟨h2, h3⟩, h4, h5⟩
      refine bc_dec (fun h6 => ?_) (fun h6 => ?_)
      · have e : stE r.ss[i] = 9 := by rw [stE, if_pos hb, if_neg (by omega)]
        rw [e, if_neg (by omega)] at hr
        show [dI (i : Int), dI 9] = _
        rw [hr]
      · have e : stE r.ss[i] = 0 := by rw [stE, if_pos hb, if_pos (by omega)]
        rw [if_pos e] at hr
        refine ⟨(i + 1, cap), ⟨hi2, hr⟩, by show r.ss.length - (i + 1) < r.ss.length - i; omega, ?_⟩
        rw [w64 (by omega) (by omega)]; rfl
    · show (if 0 = 0 then _ else _)
      rw [if_pos rfl]
      show nRK2 _ _ _
      rw [nRK2_text]
      have : i = r.ss.length := by omega
      rw [this, List.drop_length] at hr
      show [dI 0, dI 0] = _
      rw [hr]; rfl
theorem conRKn (r : Ru) (hnil : r.ss = []) : C5 93 [r.dn] [dI (chk r).1, dI (chk r).2] := by
  refine con_of (L := fun _ s b => False) hokP mixed Tryz.func93 rfl (by show 0 ≤ 400; omega) rfl (ids := [0]) (by kernel_rfl) rfl (fun caps => ?_) (fun id hid => ?_)
  · show gRKn _ _ r.w r.st r.fi r.hlo r.hhi r.co r.slo r.shi r.flo r.fhi _
    rw [gRKn_text]
    have bad : ¬ rngB r → [dI 0, dI 2] = [dI (chk r).1, dI (chk r).2] := fun h => by rw [chk_rng h]
    refine sayW (fun h1 => ?_) (fun h1 => bad (fun h => h1 h.1))
    refine sayW (fun h2 => ?_) (fun h2 => bad (fun h => h2 h.2.1.1))
    refine sayW (fun h3 => ?_) (fun h3 => bad (fun h => h3 h.2.1.2))
    refine sayW (fun h4 => ?_) (fun h4 => bad (fun h => h4 h.2.2.1.1))
    refine sayW (fun h5 => ?_) (fun h5 => bad (fun h => h5 h.2.2.1.2.1))
    refine sayW (fun h6 => ?_) (fun h6 => bad (fun h => h6 h.2.2.1.2.2))
    refine sayW (fun h7 => ?_) (fun h7 => bad (fun h => h7 h.2.2.2.1.1))
    refine sayW (fun h8 => ?_) (fun h8 => bad (fun h => h8 h.2.2.2.1.2))
    refine sayW (fun h9 => ?_) (fun h9 => bad (fun h => h9 h.2.2.2.2.1))
    refine sayW (fun h10 => ?_) (fun h10 => bad (fun h => h10 h.2.2.2.2.2))
    have hr : rngB r := ⟨h1, ⟨h2, h3⟩, ⟨h4, h5, h6⟩, ⟨h7, h8⟩, h9, h10⟩
    have bad2 : ¬ ordB r → [dI 0, dI 9] = [dI (chk r).1, dI (chk r).2] := fun h => by rw [chk_ord hr h]
    refine bc_dec (fun g1 => bad2 (fun h => by have := h.1; omega)) (fun g1 => ?_)
    refine bc_dec (fun g2 => bad2 (fun h => by have := h.2.1; omega)) (fun g2 => ?_)
    refine bc_dec (fun g3 => bad2 (fun h => by have := h.2.2.1; omega)) (fun g3 => ?_)
    refine bc_dec (fun g4 => bad2 (fun h => by have := h.2.2.2; omega)) (fun g4 => ?_)
    have ho : ordB r := ⟨by omega, by omega, by omega, by omega⟩
    have hc := chk_cnt hr ho
    have e : cntE r.ss.length = 10 := by rw [hnil]; rfl
    first
      | (refine bc_beq (fun g5 => ?_) (fun g5 => absurd rfl g5); rw [hc, e]; rfl)
      | (rw [hc, e]; rfl)
  · obtain rfl := List.mem_singleton.1 hid
    exact ⟨Unit, fun _ => ([], []), fun _ => False, fun _ => 0, ⟨fun s b h => h.elim, by kernel_rfl, fun _ h => h.elim⟩⟩
theorem conRE (r : Ru) (hlen : r.ss.length < 1000000000) : C5 45 [r.d] [dI (chk r).2] := by
  refine con_flat hokP mixed Tryz.func45 rfl (by show 1 ≤ 400; omega) rfl (by kernel_rfl) (fun caps => ?_)
  show gRE _ _ r.w r.st r.fi r.hlo r.hhi r.co r.ss.length (caps 500) (vs5 r.ss) r.slo r.shi r.flo r.fhi _
  rw [gRE_text, bc_t (v5le r.ss), v5_whole]
  exact ⟨_, _, ⟨conRK r hlen⟩, rfl⟩
theorem conREn (r : Ru) (hnil : r.ss = []) : C5 45 [r.dn] [dI (chk r).2] := by
  refine con_flat hokP mixed Tryz.func45 rfl (by show 0 ≤ 400; omega) rfl (by kernel_rfl) (fun caps => ?_)
  show gREn _ _ r.w r.st r.fi r.hlo r.hhi r.co r.slo r.shi r.flo r.fhi _
  rw [gREn_text]
  exact ⟨_, _, ⟨conRKn r hnil⟩, rfl⟩
theorem conRS (r : Ru) (nm : List UInt8) (th : List Int) (hlen : r.ss.length < 1000000000) (hth : th.length < 1000000000) : C5 94 [r.d, scD nm th] [dI (schE r nm th).1, dI (schE r nm th).2] := by
  let inv : Nat × Nat × Nat × Int → Prop := fun x => x.1 ≤ th.length ∧ schE r nm th = thE r.ss.length r.fi x.1 x.2.2.2 (th.drop x.1)
  let st : Nat × Nat × Nat × Int → Slots × Blocks := fun x => zRS1 x.2.2.2 x.1 r.w r.st r.fi r.hlo r.hhi r.co r.ss.length x.2.1 r.slo r.shi r.flo r.fhi (bs nm) th.length x.2.2.1 (vs5 r.ss) (vi th)
  refine con_of (L := fun _ s b => ∃ x, inv x ∧ st x = (s, b)) hokP mixed Tryz.func94 rfl (by show 2 ≤ 400; omega) rfl (ids := [0]) (by kernel_rfl) rfl (fun caps => ?_) (fun id hid => ?_)
  · show gRS _ _ r.w r.st r.fi r.hlo r.hhi r.co r.ss.length (caps 500) (vs5 r.ss) r.slo r.shi r.flo r.fhi (bs nm) th.length (caps 501) (vi th) _
    rw [gRS_text]
    refine sayOr (conIN nm) (fun hn => bc_bne (fun h2 => ?_) (fun h2 => ?_)) (fun hn => ?_)
    · show [dI 0, dI 10] = _
      rw [schE, if_pos hn, if_neg (by omega)]
    · exact ⟨(0, caps 500, caps 501, r.st), ⟨Nat.zero_le _, by rw [schE, if_pos hn, if_pos (by omega)]; rfl⟩, rfl⟩
    · show [dI 0, dI 4] = _
      rw [schE, if_neg (by rw [hn]; simp)]
  · obtain rfl := List.mem_singleton.1 hid
    refine ⟨Nat × Nat × Nat × Int, st, inv, fun x => th.length - x.1, ⟨fun s b h => h, by kernel_rfl, ?_⟩⟩
    rintro ⟨i, c1, c2, b⟩ ⟨hi', hr⟩
    simp only at hi' hr
    show rRS1 _ _ b i r.w r.st r.fi r.hlo r.hhi r.co r.ss.length c1 r.slo r.shi r.flo r.fhi (bs nm) th.length c2 (vs5 r.ss) (vi th) _ _ _
    rw [rRS1_text]
    refine bc_dec (fun h => ?_) (fun h => ?_)
    · have hi2 : i < th.length := by omega
      rw [thE_drop th i hi2] at hr
      simp only [bc_t h, bc_t (show (0 : Int) ≤ (i : Int) by omega), Int.toNat_natCast, at1 (vi_at th i hi2)]
      refine sayW (fun h3 => ?_) (fun h3 => ?_)
      · rw [if_neg (fun hh => hh h3)] at hr
        refine bc_dec (fun h4 => ?_) (fun h4 => ?_)
        · rw [if_pos h4] at hr; show [dI (i : Int), dI 9] = _; rw [hr]
        · rw [if_neg h4] at hr
          refine ⟨(i + 1, c1, c2, th[i]), ⟨hi2, hr⟩, by show th.length - (i + 1) < th.length - i; omega, ?_⟩
          rw [w64 (by omega) (by omega)]; rfl
      · rw [if_pos h3] at hr
        show [dI (i : Int), dI 2] = _
        rw [hr]
    · show (if 0 = 0 then _ else _)
      rw [if_pos rfl]
      show nRS2 _ _ b r.w r.st r.fi r.hlo r.hhi r.co r.ss.length c1 r.slo r.shi r.flo r.fhi (vs5 r.ss) _
      rw [nRS2_text]
      have : i = th.length := by omega
      rw [this, List.drop_length, thE] at hr
      refine bc_bne (fun h2 => ?_) (fun h2 => ?_)
      · rw [if_pos h2] at hr; rw [hr, w64 (by omega) (by omega)]
      · rw [if_neg (by omega)] at hr; rw [hr]
end Go.Proofs.G5o

/- Chapter 3: what the reference gives back, in data. -/
namespace Go.Proofs.G5o
open Go Go.Abs Go.Proofs Go.Str
set_option maxRecDepth 100000
abbrev scN (nm : List UInt8) : D := .agg [dS nm, .nil]
theorem conRSn (r : Ru) (nm : List UInt8) (h0 : 0 < r.ss.length) (hlen : r.ss.length < 1000000000) : C5 94 [r.d, scN nm] [dI (schE r nm []).1, dI (schE r nm []).2] := by
  refine con_of (L := fun _ s b => False) hokP mixed Tryz.func94 rfl (by show 1 ≤ 400; omega) rfl (ids := [0]) (by kernel_rfl) rfl (fun caps => ?_) (fun id hid => ?_)
  · show gRSn _ _ r.w r.st r.fi r.hlo r.hhi r.co r.ss.length (caps 500) (vs5 r.ss) r.slo r.shi r.flo r.fhi (bs nm) _
    rw [gRSn_text]
    refine sayOr (conIN nm) (fun hn => bc_bne (fun h2 => ?_) (fun h2 => absurd h2 (by omega))) (fun hn => ?_)
    · show [dI 0, dI 10] = _
      rw [schE, if_pos hn, if_neg (by simp; omega)]
    · show [dI 0, dI 4] = _
      rw [schE, if_neg (by rw [hn]; simp)]
  · obtain rfl := List.mem_singleton.1 hid
    exact ⟨Unit, fun _ => ([], []), fun _ => False, fun _ => 0, ⟨fun s b h => h.elim, by kernel_rfl, fun _ h => h.elim⟩⟩
/-- the thickness before a stand -/
def bfr (b : Int) (th : List Int) : Nat → Int
  | 0 => b
  | i + 1 => th.getD i 0
/-- thicknesses descend -/
def Desc : Int → List Int → Prop
  | _, [] => True
  | b, h :: l => (1 ≤ h ∧ h ≤ 1000) ∧ h ≤ b ∧ Desc h l
theorem thE_ok {n : Nat} {fi : Int} : ∀ (l : List Int) (i b : Int), 0 ≤ i → (thE n fi i b l).2 = 0 → Desc b l
  | [], _, _, _, _ => trivial
  | h :: l, i, b, hi, e => by
    rw [thE] at e
    split at e
    · simp at e
    · split at e
      · simp at e
      · rename_i h1 h2
        exact ⟨by omega, by omega, thE_ok l (i + 1) h (by omega) e⟩
theorem desc_at : ∀ {l : List Int} {b : Int} (i : Nat) (hi : i < l.length), Desc b l → 1 ≤ b ∧ b ≤ 1000 → (1 ≤ l[i] ∧ l[i] ≤ 1000) ∧ l[i] ≤ bfr b l i ∧ 1 ≤ bfr b l i ∧ bfr b l i ≤ 1000
  | h :: l, b, 0, _, d, hb => ⟨d.1, d.2.1, hb⟩
  | h :: l, b, i + 1, hi, d, hb => by
    have hi' : i < l.length := by simpa using hi
    have := desc_at i hi' d.2.2 d.1
    have e : bfr b (h :: l) (i + 1) = bfr h l i := by cases i <;> simp [bfr]
    rw [e]; exact this
structure VS (r : Ru) (th : List Int) : Prop where
  rng : rngB r
  ord : ordB r
  n0 : 0 < r.ss.length
  n6 : r.ss.length ≤ 6
  len : th.length = r.ss.length
  desc : Desc r.st th
theorem VS.at {r : Ru} {th : List Int} (v : VS r th) {i : Nat} (hi : i < th.length) : (1 ≤ th[i] ∧ th[i] ≤ 1000) ∧ th[i] ≤ bfr r.st th i ∧ 1 ≤ bfr r.st th i ∧ bfr r.st th i ≤ 1000 := desc_at i hi v.desc v.rng.2.1.1
theorem vs_of {r : Ru} {nm : List UInt8} {th : List Int} (h1 : (chk r).2 = 0) (h2 : (schE r nm th).2 = 0) : VS r th := by
  have hr : rngB r := Decidable.byContradiction fun h => by rw [chk_rng h] at h1; simp at h1
  have ho : ordB r := Decidable.byContradiction fun h => by rw [chk_ord hr h] at h1; simp at h1
  rw [chk_cnt hr ho] at h1
  have hc : cntE r.ss.length = 0 := Decidable.byContradiction fun h => by rw [if_neg h] at h1; exact h h1
  unfold cntE at hc
  rw [schE] at h2
  split at h2
  · split at h2
    · exact ⟨hr, ho, by split at hc <;> omega, by split at hc <;> first | omega | (split at hc <;> omega), by assumption, thE_ok _ _ _ (Int.le_refl 0) h2⟩
    · simp at h2
  · simp at h2
theorem conbf (r : Ru) (nm : List UInt8) (th : List Int) (k : Nat) (hk : k < th.length) (hth : th.length < 1000000000) : C5 70 [r.d, scD nm th, dI (k : Int)] [dI (bfr r.st th k)] := by
  refine con_flat hokP mixed Tryz.func70 rfl (by show 2 ≤ 400; omega) rfl (by kernel_rfl) (fun caps => ?_)
  show gbf _ _ r.w r.st r.fi r.hlo r.hhi r.co r.ss.length (caps 500) (vs5 r.ss) r.slo r.shi r.flo r.fhi (bs nm) th.length (caps 501) (vi th) (k : Int) _
  rw [gbf_text]
  refine bc_beq (fun h => ?_) (fun h => ?_)
  · obtain rfl : k = 0 := by omega
    rfl
  · obtain ⟨j, rfl⟩ : ∃ j, k = j + 1 := ⟨k - 1, by omega⟩
    have e : IntKind.wrap .i64 (((j + 1 : Nat) : Int) - 1) = (j : Int) := by rw [w64 (by omega) (by omega)]; omega
    have hj : j < th.length := by omega
    simp only [e, bc_t (show (0 : Int) ≤ (j : Int) by omega), bc_t (show (j : Int) < (th.length : Int) by omega), Int.toNat_natCast, at1 (vi_at th j hj)]
    show [dI th[j]] = [dI (th.getD j 0)]
    simp [List.getD, List.getElem?_eq_getElem hj]
theorem vp_snoc {l : List (Int × Int)} {i : Nat} (h : i < l.length) {a b : Int} (e : l[i] = (a, b)) : List.take (i * 2) (List.drop 0 (vp (l.take i))) ++ [.int .i64 a, .int .i64 b] = vp (l.take (i + 1)) := by
  rw [List.take_succ_eq_append_getElem h, List.drop_zero, List.take_of_length_le (by simp; omega), e]
  generalize l.take i = m
  induction m with
  | nil => rfl
  | cons p r ih => simp only [List.cons_append, vp, ih]
theorem getD_at {th : List Int} {i : Nat} (hi : i < th.length) : th.getD i 0 = th[i] := by simp [List.getD, List.getElem?_eq_getElem hi]
end Go.Proofs.G5o

/- Chapter 3: loads and margins of a draught, in data. -/
namespace Go.Proofs.G5o
open Go Go.Abs Go.Proofs Go.Str
set_option maxRecDepth 100000
/-- a draught of valid rules -/
structure DrOK (r : Ru) (k : Nat) (b h : Int) : Prop where
  rng : rngB r
  sts : ∀ s ∈ r.ss, stB s
  k : k < r.ss.length
  n : r.ss.length ≤ 6
  h1 : 1 ≤ h
  hb : h ≤ b
  b1 : b ≤ 1000
abbrev drD (k : Nat) (b h : Int) : D := .agg [dI k, dI b, dI h]
theorem mulB {a b : Int} (A B : Int) (ha : 0 ≤ a ∧ a ≤ A) (hb : 0 ≤ b ∧ b ≤ B) : 0 ≤ a * b ∧ a * b ≤ A * B :=
  ⟨Int.mul_nonneg ha.1 hb.1, Int.mul_le_mul ha.2 hb.2 hb.1 (by omega)⟩
theorem mulS {a b : Int} (A B : Int) (ha : -A ≤ a ∧ a ≤ A) (hb : 0 ≤ b ∧ b ≤ B) : -(A * B) ≤ a * b ∧ a * b ≤ A * B := by
  have hA : 0 ≤ A := by omega
  by_cases h : 0 ≤ a
  · have := mulB A B ⟨h, ha.2⟩ hb; have h2 : 0 ≤ A * B := Int.mul_nonneg hA (by omega); omega
  · have := mulB (a := -a) (b := b) A B ⟨by omega, by omega⟩ hb
    have h2 : 0 ≤ A * B := Int.mul_nonneg hA (by omega)
    rw [Int.neg_mul] at this; omega
def frc (w b h s f : Int) : Int := if b = h then 0 else w * (s * (b - h) + f * (b + h))
theorem frc_bd {w b h s f : Int} (hw : 1 ≤ w ∧ w ≤ 2500) (h1 : 1 ≤ h) (hb : h ≤ b) (b1 : b ≤ 1000) (hs : 0 ≤ s ∧ s ≤ 100) (hf : 0 ≤ f ∧ f ≤ 100) : (0 ≤ s * (b - h) ∧ s * (b - h) ≤ 100000) ∧ (0 ≤ f * (b + h) ∧ f * (b + h) ≤ 200000) ∧ (0 ≤ w * (s * (b - h) + f * (b + h)) ∧ w * (s * (b - h) + f * (b + h)) ≤ 750000000) ∧ 0 ≤ frc w b h s f ∧ frc w b h s f ≤ 750000000 := by
  have e1 := mulB (a := s) (b := b - h) 100 1000 hs (by omega)
  have e2 := mulB (a := f) (b := b + h) 100 2000 hf (by omega)
  have e3 := mulB (a := w) (b := s * (b - h) + f * (b + h)) 2500 300000 (by omega) (by omega)
  refine ⟨by omega, by omega, by omega, ?_⟩
  unfold frc; split <;> omega
theorem confB (r : Ru) (k : Nat) (b h s f : Int) (v : DrOK r k b h) (hs : 0 ≤ s ∧ s ≤ 100) (hf : 0 ≤ f ∧ f ≤ 100) : C5 104 [r.d, drD k b h, dI s, dI f] [dI (frc r.w b h s f)] := by
  refine con_flat hokP mixed Tryz.func104 rfl (by show 1 ≤ 400; omega) rfl (by kernel_rfl) (fun caps => ?_)
  show gfB _ _ r.w r.st r.fi r.hlo r.hhi r.co r.ss.length (caps 500) (vs5 r.ss) r.slo r.shi r.flo r.fhi (k : Int) b h s f _
  rw [gfB_text]
  have hw := v.rng.1
  have h1 := v.h1
  have h2 := v.hb
  have h3 := v.b1
  have e := frc_bd hw h1 h2 h3 hs hf
  refine bc_beq (fun g => ?_) (fun g => ?_)
  · show [dI 0] = _; rw [frc, if_pos g]
  · rw [w64 (z := b - h) (by omega) (by omega), w64 (z := s * (b - h)) (by omega) (by omega), w64 (z := b + h) (by omega) (by omega), w64 (z := f * (b + h)) (by omega) (by omega), w64 (z := s * (b - h) + f * (b + h)) (by omega) (by omega), w64 (by omega) (by omega)]
    simp only [Qv, true_and]
    rw [frc, if_neg g]
theorem DrOK.sl {r : Ru} {k : Nat} {b h : Int} (v : DrOK r k b h) : (0 ≤ r.slo ∧ r.slo ≤ 100) ∧ (0 ≤ r.shi ∧ r.shi ≤ 100) ∧ (0 ≤ r.flo ∧ r.flo ≤ 100) ∧ (0 ≤ r.fhi ∧ r.fhi ≤ 100) := by
  have := v.rng
  unfold rngB at this
  omega
abbrev fl (r : Ru) (b h : Int) : Int := frc r.w b h r.slo r.flo
abbrev fh (r : Ru) (b h : Int) : Int := frc r.w b h r.shi r.fhi
theorem DrOK.fl {r : Ru} {k : Nat} {b h : Int} (v : DrOK r k b h) : 0 ≤ fl r b h ∧ fl r b h ≤ 750000000 := (frc_bd v.rng.1 v.h1 v.hb v.b1 v.sl.1 v.sl.2.2.1).2.2.2
theorem DrOK.fh {r : Ru} {k : Nat} {b h : Int} (v : DrOK r k b h) : 0 ≤ fh r b h ∧ fh r b h ≤ 750000000 := (frc_bd v.rng.1 v.h1 v.hb v.b1 v.sl.2.1 v.sl.2.2.2).2.2.2
theorem confo (r : Ru) (k : Nat) (b h : Int) (v : DrOK r k b h) : C5 65 [r.d, drD k b h] [.agg [dI (fl r b h), dI (fh r b h)]] := by
  refine con_flat hokP mixed Tryz.func65 rfl (by show 1 ≤ 400; omega) rfl (by kernel_rfl) (fun caps => ?_)
  show gfo _ _ r.w r.st r.fi r.hlo r.hhi r.co r.ss.length (caps 500) (vs5 r.ss) r.slo r.shi r.flo r.fhi (k : Int) b h _
  rw [gfo_text]
  simp only [bc_t (v5le r.ss), v5_whole, Qv, true_and]
  exact ⟨_, ⟨confB r k b h r.slo r.flo v v.sl.1 v.sl.2.2.1⟩, _, ⟨confB r k b h r.shi r.fhi v v.sl.2.1 v.sl.2.2.2⟩, rfl⟩
theorem conto (r : Ru) (k : Nat) (b h : Int) (v : DrOK r k b h) : C5 66 [r.d, drD k b h] [.agg [dI (fl r b h * (b - h)), dI (fh r b h * (b - h))]] := by
  refine con_flat hokP mixed Tryz.func66 rfl (by show 1 ≤ 400; omega) rfl (by kernel_rfl) (fun caps => ?_)
  show gto _ _ r.w r.st r.fi r.hlo r.hhi r.co r.ss.length (caps 500) (vs5 r.ss) r.slo r.shi r.flo r.fhi (k : Int) b h _
  rw [gto_text, bc_t (v5le r.ss), v5_whole]
  have h1 := v.h1
  have h2 := v.hb
  have h3 := v.b1
  have e1 := mulB 750000000 1000 v.fl (show 0 ≤ b - h ∧ b - h ≤ 1000 by omega)
  have e2 := mulB 750000000 1000 v.fh (show 0 ≤ b - h ∧ b - h ≤ 1000 by omega)
  refine ⟨_, _, ⟨confo r k b h v⟩, ?_⟩
  rw [w64 (z := b - h) (by omega) (by omega), w64 (by omega) (by omega), w64 (by omega) (by omega)]
  simp only [Qv, true_and]
theorem conmT (l x y : Int) (hl : 0 ≤ l ∧ l ≤ 1000000000000) (hx : 0 ≤ x ∧ x ≤ 750000000000) (hy : 0 ≤ y ∧ y ≤ 750000000000) : C5 105 [dI l, .agg [dI x, dI y]] [.agg [dI (100 * (l - y)), dI (100 * (l - x))]] := by
  refine con_flat hokP mixed Tryz.func105 rfl (by show 0 ≤ 400; omega) rfl (by kernel_rfl) (fun caps => ?_)
  show gmT _ _ l x y _
  rw [gmT_text, w64 (z := l - y) (by omega) (by omega), w64 (z := l - x) (by omega) (by omega), w64 (by omega) (by omega), w64 (by omega) (by omega)]
def stA (r : Ru) (k : Nat) : Fv := r.ss.getD k ⟨0, 0, 0, 0, 0⟩
theorem stA_at {r : Ru} {k : Nat} (hk : k < r.ss.length) : stA r k = r.ss[k] := by simp [stA, List.getD, List.getElem?_eq_getElem hk]
def bit (r : Ru) (k : Nat) (b h f : Int) : Int := if b = h then 0 else f * (stA r k).a - 100 * (b - h)
theorem conbi (r : Ru) (k : Nat) (b h : Int) (v : DrOK r k b h) : C5 106 [r.d, drD k b h] [.agg [dI (bit r k b h r.flo), dI (bit r k b h r.fhi)]] := by
  refine con_flat hokP mixed Tryz.func106 rfl (by show 1 ≤ 400; omega) rfl (by kernel_rfl) (fun caps => ?_)
  show gbi _ _ r.w r.st r.fi r.hlo r.hhi r.co r.ss.length (caps 500) (vs5 r.ss) r.slo r.shi r.flo r.fhi (k : Int) b h _
  rw [gbi_text]
  simp only [Qv, eq_self, true_and, and_true]
  refine bc_beq (fun g => ?_) (fun g => ?_)
  · show [D.agg [dI 0, dI 0]] = _; rw [bit, bit, if_pos g, if_pos g]
  · have hk := v.k
    have h1 := v.h1
    have h2 := v.hb
    have h3 := v.b1
    have a1 := vs5_one r.ss k hk 0 (.int .i64 (r.ss[k]).a) rfl
    have hs := (v.sts _ (List.getElem_mem hk)).1
    simp only [Nat.add_zero] at a1
    simp only [bc_t (show (0 : Int) ≤ (k : Int) by omega), bc_t (show (k : Int) < (r.ss.length : Int) by omega), Int.toNat_natCast, at1 a1, eq_self, true_and, and_true, Int.one_mul]
    have e1 := mulB 100 1000 v.sl.2.2.1 (show 0 ≤ r.ss[k].a ∧ r.ss[k].a ≤ 1000 by omega)
    have e2 := mulB 100 1000 v.sl.2.2.2 (show 0 ≤ r.ss[k].a ∧ r.ss[k].a ≤ 1000 by omega)
    have b1 := v.sl.2.2
    rw [w64 (z := b - h) (by omega) (by omega), w64 (z := 100 * (b - h)) (by omega) (by omega), w64 (z := r.flo) (by omega) (by omega), w64 (z := r.fhi) (by omega) (by omega), w64 (z := r.flo * r.ss[k].a) (by omega) (by omega), w64 (z := r.fhi * r.ss[k].a) (by omega) (by omega), w64 (by omega) (by omega), w64 (by omega) (by omega)]
    rw [bit, bit, if_neg g, if_neg g, stA_at hk]
/-- the losses of some stands -/
def sumD : List Fv → Int
  | [] => 0
  | s :: r => s.d + sumD r
def sumE : List Fv → Int
  | [] => 0
  | s :: r => s.e + sumE r
theorem sumD_app (s : Fv) : ∀ l : List Fv, sumD (l ++ [s]) = sumD l + s.d
  | [] => by simp [sumD]
  | p :: r => by simp only [List.cons_append, sumD, sumD_app s r]; omega
theorem sumE_app (s : Fv) : ∀ l : List Fv, sumE (l ++ [s]) = sumE l + s.e
  | [] => by simp [sumE]
  | p :: r => by simp only [List.cons_append, sumE, sumE_app s r]; omega
theorem sumD_snoc {l : List Fv} {i : Nat} (h : i < l.length) : sumD (l.take (i + 1)) = sumD (l.take i) + l[i].d := by
  rw [List.take_succ_eq_append_getElem h, sumD_app]
theorem sumE_snoc {l : List Fv} {i : Nat} (h : i < l.length) : sumE (l.take (i + 1)) = sumE (l.take i) + l[i].e := by
  rw [List.take_succ_eq_append_getElem h, sumE_app]
theorem sum_bd {l : List Fv} (hs : ∀ s ∈ l, stB s) : ∀ i : Nat, i ≤ l.length → (0 ≤ sumD (l.take i) ∧ sumD (l.take i) ≤ 1000 * (i : Int)) ∧ 0 ≤ sumE (l.take i) ∧ sumE (l.take i) ≤ 1000 * (i : Int)
  | 0, _ => by simp [sumD, sumE]
  | i + 1, hi => by
    have := sum_bd hs i (by omega)
    have h2 := (hs _ (List.getElem_mem (show i < l.length by omega))).2.2
    rw [sumD_snoc (by omega), sumE_snoc (by omega)]
    omega
def hL (r : Ru) (k : Nat) (h : Int) : Int := 100 * (r.hlo - sumE (r.ss.take (k + 1))) + (r.st - h) * r.slo
def hH (r : Ru) (k : Nat) (h : Int) : Int := 100 * (r.hhi - sumD (r.ss.take (k + 1))) + (r.st - h) * r.shi
theorem DrOK.ht {r : Ru} {k : Nat} {b h : Int} (v : DrOK r k b h) : (-1000000000 ≤ hL r k h ∧ hL r k h ≤ 1000000000) ∧ -1000000000 ≤ hH r k h ∧ hH r k h ≤ 1000000000 := by
  have h1 := v.h1
  have h2 := v.hb
  have h3 := v.b1
  have hk := v.k
  have hn := v.n
  have hs := sum_bd v.sts (k + 1) (by omega)
  have hr := v.rng
  unfold rngB at hr
  have e1 := mulS (a := r.st - h) (b := r.slo) 1000 100 (by omega) (by omega)
  have e2 := mulS (a := r.st - h) (b := r.shi) 1000 100 (by omega) (by omega)
  unfold hL hH
  omega
theorem conhe (r : Ru) (k : Nat) (b h : Int) (v : DrOK r k b h) : C5 69 [r.d, drD k b h] [.agg [dI (hL r k h), dI (hH r k h)]] := by
  have hk := v.k
  have hn := v.n
  let inv : Nat × Nat × Nat → Prop := fun x => x.1 ≤ k + 1
  let st : Nat × Nat × Nat → Slots × Blocks := fun x => zhe1 (k + 1) x.2.1 ((k + 1 : Nat) : Int) x.1 r.w r.st r.fi r.hlo r.hhi r.co r.ss.length x.2.2 r.slo r.shi r.flo r.fhi (k : Int) b h 0 0 (sumD (r.ss.take x.1)) (sumE (r.ss.take x.1)) (vs5 r.ss)
  refine con_ofC (L := fun _ s b => ∃ x, inv x ∧ st x = (s, b)) hokP mixed Tryz.func69 rfl (by show 1 ≤ 400; omega) rfl (ids := [0]) (by kernel_rfl) rfl (fun caps hcap => ?_) (fun id hid => ?_)
  · show ghe _ _ r.w r.st r.fi r.hlo r.hhi r.co r.ss.length (caps 500) (vs5 r.ss) r.slo r.shi r.flo r.fhi (k : Int) b h _
    rw [ghe_text]
    have hc : r.ss.length ≤ caps 500 := by simp [capsL, layVals, layCells] at hcap; exact hcap
    rw [w64 (z := (k : Int) + 1) (by omega) (by omega), bc_t (show (0 : Int) ≤ (k : Int) + 1 by omega), bc_t (show (k : Int) + 1 ≤ (caps 500 : Int) by omega), show ((k : Int) + 1).toNat - 0 = k + 1 by omega]
    exact ⟨(0, caps 500 - 0, caps 500), Nat.zero_le _, rfl⟩
  · obtain rfl := List.mem_singleton.1 hid
    refine ⟨Nat × Nat × Nat, st, inv, fun x => k + 1 - x.1, ⟨fun s b h => h, by kernel_rfl, ?_⟩⟩
    rintro ⟨i, c1, c2⟩ hi
    have hi : i ≤ k + 1 := hi
    show rhe1 _ _ (k + 1) c1 ((k + 1 : Nat) : Int) i r.w r.st r.fi r.hlo r.hhi r.co r.ss.length c2 r.slo r.shi r.flo r.fhi (k : Int) b h 0 0 (sumD (r.ss.take i)) (sumE (r.ss.take i)) (vs5 r.ss) _ _ _
    rw [rhe1_text]
    refine bc_dec (fun g => ?_) (fun g => ?_)
    · have hi2 : i < r.ss.length := by omega
      simp only [bc_t (show (0 : Int) ≤ (i : Int) by omega), bc_t g, Int.toNat_natCast, at5 (vs5_all r.ss i hi2)]
      have hs := sum_bd v.sts (i + 1) (by omega)
      rw [sumD_snoc hi2, sumE_snoc hi2] at hs
      refine ⟨(i + 1, c1, c2), by show i + 1 ≤ k + 1; omega, by show k + 1 - (i + 1) < k + 1 - i; omega, ?_⟩
      show zhe1 _ _ _ _ _ _ _ _ _ _ _ _ _ _ _ _ _ _ _ _ _ _ _ _ = _
      rw [sumD_snoc hi2, sumE_snoc hi2, w64 (z := (i : Int) + 1) (by omega) (by omega), w64 (z := sumD _ + _) (by omega) (by omega), w64 (z := sumE _ + _) (by omega) (by omega)]; rfl
    · show (if 0 = 0 then _ else _)
      rw [if_pos rfl]
      obtain rfl : i = k + 1 := by omega
      show nhe2 _ _ r.w r.st r.fi r.hlo r.hhi r.co r.ss.length c2 r.slo r.shi r.flo r.fhi (k : Int) b h 0 0 (sumD (r.ss.take (k + 1))) (sumE (r.ss.take (k + 1))) (vs5 r.ss) _
      rw [nhe2_text]
      have h1 := v.h1
      have h2 := v.hb
      have h3 := v.b1
      have hs := sum_bd v.sts (k + 1) (by omega)
      have hr := v.rng
      unfold rngB at hr
      have e1 := mulS (a := r.st - h) (b := r.slo) 1000 100 (by omega) (by omega)
      have e2 := mulS (a := r.st - h) (b := r.shi) 1000 100 (by omega) (by omega)
      simp only [Int.one_mul]
      rw [w64 (z := r.hlo - _) (by omega) (by omega), w64 (z := r.hhi - _) (by omega) (by omega), w64 (z := 100 * (r.hlo - _)) (by omega) (by omega), w64 (z := 100 * (r.hhi - _)) (by omega) (by omega), w64 (z := r.st - h) (by omega) (by omega), w64 (z := r.st - h) (by omega) (by omega), w64 (z := (r.st - h) * r.slo) (by omega) (by omega), w64 (z := (r.st - h) * r.shi) (by omega) (by omega), w64 (by omega) (by omega), w64 (by omega) (by omega)]
      rfl
/-- the margins of a draught, by their limits -/
def mar (r : Ru) (k : Nat) (b h : Int) : List (Int × Int) := [(100 * ((stA r k).b - fh r b h), 100 * ((stA r k).b - fl r b h)), (100 * ((stA r k).c - fh r b h * (b - h)), 100 * ((stA r k).c - fl r b h * (b - h))), (bit r k b h r.flo, bit r k b h r.fhi), (hL r k h - 100 * r.co, hH r k h - 100 * r.co)]
def marD (l : List (Int × Int)) : D := .agg (l.flatMap fun p => [dI p.1, dI p.2])
theorem conma (r : Ru) (k : Nat) (b h : Int) (v : DrOK r k b h) : C5 76 [r.d, drD k b h] [marD (mar r k b h)] := by
  refine con_flat hokP mixed Tryz.func76 rfl (by show 1 ≤ 400; omega) rfl (by kernel_rfl) (fun caps => ?_)
  show gma _ _ r.w r.st r.fi r.hlo r.hhi r.co r.ss.length (caps 500) (vs5 r.ss) r.slo r.shi r.flo r.fhi (k : Int) b h _
  rw [gma_text]
  have hk := v.k
  have h1 := v.h1
  have h2 := v.hb
  have h3 := v.b1
  have hs := v.sts _ (List.getElem_mem hk)
  unfold stB at hs
  have hco := v.rng.2.2.1.2.2
  have e1 := mulB 750000000 1000 v.fl (show 0 ≤ b - h ∧ b - h ≤ 1000 by omega)
  have e2 := mulB 750000000 1000 v.fh (show 0 ≤ b - h ∧ b - h ≤ 1000 by omega)
  have hfl := v.fl
  have hfh := v.fh
  have hht := v.ht
  simp only [bc_t (show (0 : Int) ≤ (k : Int) by omega), bc_t (show (k : Int) < (r.ss.length : Int) by omega), Int.toNat_natCast, at5 (vs5_all r.ss k hk), Qv, eq_self, true_and, and_true, bc_t (v5le r.ss), v5_whole]
  refine ⟨_, _, ⟨conhe r k b h v⟩, _, _, ⟨confo r k b h v⟩, _, _, ⟨conmT _ _ _ (by omega) (by omega) (by omega)⟩, _, _, ⟨conto r k b h v⟩, _, _, ⟨conmT _ _ _ (by omega) (by omega) (by omega)⟩, _, _, ⟨conbi r k b h v⟩, ?_⟩
  rw [w64 (z := 100 * r.co) (by omega) (by omega), w64 (by omega) (by omega), w64 (by omega) (by omega)]
  simp only [marD, mar, stA_at hk, List.flatMap_cons, List.flatMap_nil, List.cons_append, List.nil_append]
end Go.Proofs.G5o

/- What is left to show of each function, written out; the kernel reckons it. -/
namespace Go.Proofs.G5o.R
open Go Go.Abs Go.Proofs
set_option maxRecDepth 100000
set_option linter.unusedVariables false
abbrev vI (n : Int) : Value := .int .i64 n
abbrev Ct := FuncId → List D → List D → Prop
abbrev Bx := Slots → Blocks → Prop
abbrev Xx := Nat → Slots → Blocks → Prop
abbrev Ex := Exit → Slots → Blocks → Prop
abbrev Kh := FuncId → List Value → Blocks → Slots → Blocks → Prop
abbrev hE (C : Ct) : Handler := handlerX Tryz.prog (fun _ => none) 12 6
def preP (C : Ct) : FuncId → Option Handler := fun g => if [95, 48, 49, 137, 52, 69, 76, 65, 66, 106, 105, 104].contains g then some (saidH Tryz.prog C) else none
abbrev hP (C : Ct) : Handler := handlerX Tryz.prog (preP C) 12 6
def gDo (C : Ct) (L : AtLoop) (rs : List (List D)) (w : Int) (st : Int) (fi : Int) (ha : Int) (hb : Int) (co : Int) (sa : Int) (sb : Int) (fa : Int) (fb : Int) (n0 : Nat) (c0 : Nat) (l0 : List Value) (nm : ByteArray) (n1 : Nat) (c1 : Nat) (l1 : List Value) (K : Value → Blocks → Prop) : Prop := jFn Tryz.prog (hE C) L [] 107 #[.func (.yield 915) #[] #[], .pointer (some ⟨500, 0, none⟩), .pointer (some ⟨501, 0, none⟩)] (heapOf [(915, .yld false (some rs)), (500, .cells [.int .i64 w, .int .i64 st, .int .i64 fi, .int .i64 ha, .int .i64 hb, .int .i64 co, .slice (some ⟨502, 0, none⟩) n0 c0, .int .i64 sa, .int .i64 sb, .int .i64 fa, .int .i64 fb] 89 false 1), (501, .cells [.string nm, .slice (some ⟨503, 0, none⟩) n1 c1] 29 false 1), (502, .sym l0 false 5), (503, .sym l1 false 1)]) (stateK K)
theorem gDo_text (C : Ct) (L : AtLoop) (rs : List (List D)) (w : Int) (st : Int) (fi : Int) (ha : Int) (hb : Int) (co : Int) (sa : Int) (sb : Int) (fa : Int) (fb : Int) (n0 : Nat) (c0 : Nat) (l0 : List Go.Value) (nm : ByteArray) (n1 : Nat) (c1 : Nat) (l1 : List Go.Value) (K : Go.Value → Blocks → Prop) : gDo C L rs w st fi ha hb co sa sb fa fb n0 c0 l0 nm n1 c1 l1 K =
 (L 0 [(Prod.mk 0 (Value.func (Go.Fn.yield 915) [].toArray [].toArray)), (Prod.mk 4 (vI st)), (Prod.mk 11 (Sl 503 (n1) (c1))), (Prod.mk 12 (vI ((↑n1 : Int)))), (Prod.mk 13 (vI 0))] [(Prod.mk 915 (AObj.yld false (some (rs)))), (Prod.mk 503 (AObj.sym (l1) false 1))]) := by kernel_rfl
abbrev zDo1 (x0 : Int) (n1 : Nat) (c2 : Nat) (x3 : Int) (x4 : Int) (rs5 : List (List D)) (l6 : List Value) : Slots × Blocks := ([(0, (Value.func (.yield 915) #[] #[])), (4, (Value.int .i64 x0)), (11, (Value.slice (some ⟨503, 0, none⟩) n1 c2)), (12, (Value.int .i64 x3)), (13, (Value.int .i64 x4))], [(915, (AObj.yld false (some rs5))), (503, (AObj.sym l6 false 1))])
def rDo1 (C : Ct) (L : AtLoop) (x0 : Int) (n1 : Nat) (c2 : Nat) (x3 : Int) (x4 : Int) (rs5 : List (List D)) (l6 : List Value) (B : Bx) (X : Xx) (K : Value → Blocks → Prop) : Prop := jRound Tryz.prog (hE C) L [] 107 0 [(0, (Value.func (.yield 915) #[] #[])), (4, (Value.int .i64 x0)), (11, (Value.slice (some ⟨503, 0, none⟩) n1 c2)), (12, (Value.int .i64 x3)), (13, (Value.int .i64 x4))] [(915, (AObj.yld false (some rs5))), (503, (AObj.sym l6 false 1))] B X (stateK K)
theorem rDo1_text (C : Ct) (L : AtLoop) (x0 : Int) (n1 : Nat) (c2 : Nat) (x3 : Int) (x4 : Int) (rs5 : List (List D)) (l6 : List Go.Value) (B : Bx) (X : Xx) (K : Go.Value → Blocks → Prop) : rDo1 C L x0 n1 c2 x3 x4 rs5 l6 B X K =
 (bcase (decide (x4 < x3))
 (bcase (decide (0 ≤ x4))
 (bcase (decide (x4 < (↑n1 : Int)))
 (∃ n2 : Int,
 ((At (l6) (0 + Int.toNat x4 * 1) 1 [(vI n2)]) ∧
 (∃ rest'1 : List (List D),
 ((NextIs (rs5) [(D.agg [(D.val (vI x4)), (D.val (vI x0)), (D.val (vI n2))])] (rest'1)) ∧
 ((B [(Prod.mk 0 (Value.func (Go.Fn.yield 915) [].toArray [].toArray)), (Prod.mk 4 (vI n2)), (Prod.mk 11 (Sl 503 (n1) (c2))), (Prod.mk 12 (vI x3)), (Prod.mk 13 (vI (IntKind.wrap .i64 (x4 + 1))))] [(Prod.mk 915 (AObj.yld false (some (rest'1)))), (Prod.mk 503 (AObj.sym (l6) false 1))]) ∧
 (K (Value.tuple [].toArray) [(Prod.mk 915 (AObj.yld false none))]))))))
 False)
 False)
 (X 0 [] [(Prod.mk 915 (AObj.yld false (some (rs5))))])) := by kernel_rfl
def nDo2 (C : Ct) (L : AtLoop) (rs0 : List (List D)) (K : Value → Blocks → Prop) : Prop := jNext Tryz.prog (hE C) L [] 107 0 .normal [] [(915, (AObj.yld false (some rs0)))] (stateK K)
theorem nDo2_text (C : Ct) (L : AtLoop) (rs0 : List (List D)) (K : Go.Value → Blocks → Prop) : nDo2 C L rs0 K =
 (K (Value.tuple [].toArray) [(Prod.mk 915 (AObj.yld false (some (rs0))))]) := by kernel_rfl
def geH (C : Ct) (L : AtLoop) (w : Int) (st : Int) (fi : Int) (ha : Int) (hb : Int) (co : Int) (sa : Int) (sb : Int) (fa : Int) (fb : Int) (n0 : Nat) (c0 : Nat) (l0 : List Value) (nm : ByteArray) (n1 : Nat) (c1 : Nat) (l1 : List Value) (K : Value → Blocks → Prop) : Prop := jFn Tryz.prog (hP C) L [] 67 #[.agg #[.int .i64 w, .int .i64 st, .int .i64 fi, .int .i64 ha, .int .i64 hb, .int .i64 co, .slice (some ⟨500, 0, none⟩) n0 c0, .int .i64 sa, .int .i64 sb, .int .i64 fa, .int .i64 fb], .agg #[.string nm, .slice (some ⟨501, 0, none⟩) n1 c1], .func (.func 68) #[] #[.pointer (some ⟨502, 0, none⟩)]] (heapOf [(500, .sym l0 false 5), (501, .sym l1 false 1), (502, .cells [.int .i64 w, .int .i64 st, .int .i64 fi, .int .i64 ha, .int .i64 hb, .int .i64 co, .slice (some ⟨500, 0, none⟩) n0 c0, .int .i64 sa, .int .i64 sb, .int .i64 fa, .int .i64 fb] 89 false 11)]) (stateK K)
theorem geH_text (C : Ct) (L : AtLoop) (w : Int) (st : Int) (fi : Int) (ha : Int) (hb : Int) (co : Int) (sa : Int) (sb : Int) (fa : Int) (fb : Int) (n0 : Nat) (c0 : Nat) (l0 : List Go.Value) (nm : ByteArray) (n1 : Nat) (c1 : Nat) (l1 : List Go.Value) (K : Go.Value → Blocks → Prop) : geH C L w st fi ha hb co sa sb fa fb n0 c0 l0 nm n1 c1 l1 K =
 (L 50003 [(Prod.mk 5 (Pt 1000 0)), (Prod.mk 6 (Value.slice none 0 0)), (Prod.mk 7 (Pt 1001 0)), (Prod.mk 11 (Value.func (Go.Fn.func 107) [].toArray [(Pt 1002 0), (Pt 1003 0)].toArray))] [(Prod.mk 1000 (AObj.cells [(Value.func (Go.Fn.func 68) [].toArray [(Pt 502 0)].toArray)] 112 false 1)), (Prod.mk 1001 (AObj.cells [(Value.slice none 0 0)] 56 false 1)), (Prod.mk 1002 (AObj.cells [(vI w), (vI st), (vI fi), (vI ha), (vI hb), (vI co), (Sl 500 (n0) (c0)), (vI sa), (vI sb), (vI fa), (vI fb)] 89 false 1)), (Prod.mk 1003 (AObj.cells [(Value.string (nm)), (Sl 501 (n1) (c1))] 29 false 1)), (Prod.mk 502 (AObj.cells [(vI w), (vI st), (vI fi), (vI ha), (vI hb), (vI co), (Sl 500 (n0) (c0)), (vI sa), (vI sb), (vI fa), (vI fb)] 89 false 11)), (Prod.mk 500 (AObj.sym (l0) false 5)), (Prod.mk 501 (AObj.sym (l1) false 1))]) := by kernel_rfl
abbrev zeH1 (x0 : Int) (x1 : Int) (x2 : Int) (x3 : Int) (x4 : Int) (x5 : Int) (n6 : Nat) (c7 : Nat) (x8 : Int) (x9 : Int) (x10 : Int) (x11 : Int) (s12 : ByteArray) (n13 : Nat) (c14 : Nat) (x15 : Int) (x16 : Int) (x17 : Int) (x18 : Int) (x19 : Int) (x20 : Int) (n21 : Nat) (c22 : Nat) (x23 : Int) (x24 : Int) (x25 : Int) (x26 : Int) (l27 : List Value) (l28 : List Value) : Slots × Blocks := ([(5, (Value.pointer (some ⟨1000, 0, none⟩))), (6, (Value.slice none 0 0)), (7, (Value.pointer (some ⟨1001, 0, none⟩))), (11, (Value.func (.func 107) #[] #[(Value.pointer (some ⟨1002, 0, none⟩)), (Value.pointer (some ⟨1003, 0, none⟩))]))], [(1000, (AObj.cells [(Value.func (.func 68) #[] #[(Value.pointer (some ⟨502, 0, none⟩))])] 112 false 1)), (1001, (AObj.cells [(Value.slice none 0 0)] 56 false 1)), (1002, (AObj.cells [(Value.int .i64 x0), (Value.int .i64 x1), (Value.int .i64 x2), (Value.int .i64 x3), (Value.int .i64 x4), (Value.int .i64 x5), (Value.slice (some ⟨500, 0, none⟩) n6 c7), (Value.int .i64 x8), (Value.int .i64 x9), (Value.int .i64 x10), (Value.int .i64 x11)] 89 false 1)), (1003, (AObj.cells [(Value.string s12), (Value.slice (some ⟨501, 0, none⟩) n13 c14)] 29 false 1)), (502, (AObj.cells [(Value.int .i64 x15), (Value.int .i64 x16), (Value.int .i64 x17), (Value.int .i64 x18), (Value.int .i64 x19), (Value.int .i64 x20), (Value.slice (some ⟨500, 0, none⟩) n21 c22), (Value.int .i64 x23), (Value.int .i64 x24), (Value.int .i64 x25), (Value.int .i64 x26)] 89 false 11)), (500, (AObj.sym l27 false 5)), (501, (AObj.sym l28 false 1))])
def heH1 (x0 : Int) (x1 : Int) (x2 : Int) (x3 : Int) (x4 : Int) (x5 : Int) (n6 : Nat) (c7 : Nat) (x8 : Int) (x9 : Int) (x10 : Int) (x11 : Int) (s12 : ByteArray) (n13 : Nat) (c14 : Nat) (x15 : Int) (x16 : Int) (x17 : Int) (x18 : Int) (x19 : Int) (x20 : Int) (n21 : Nat) (c22 : Nat) (x23 : Int) (x24 : Int) (x25 : Int) (x26 : Int) (l27 : List Value) (l28 : List Value) (Kr : Kh) : Prop := rHead Tryz.prog 67 50003 [(5, (Value.pointer (some ⟨1000, 0, none⟩))), (6, (Value.slice none 0 0)), (7, (Value.pointer (some ⟨1001, 0, none⟩))), (11, (Value.func (.func 107) #[] #[(Value.pointer (some ⟨1002, 0, none⟩)), (Value.pointer (some ⟨1003, 0, none⟩))]))] [(1000, (AObj.cells [(Value.func (.func 68) #[] #[(Value.pointer (some ⟨502, 0, none⟩))])] 112 false 1)), (1001, (AObj.cells [(Value.slice none 0 0)] 56 false 1)), (1002, (AObj.cells [(Value.int .i64 x0), (Value.int .i64 x1), (Value.int .i64 x2), (Value.int .i64 x3), (Value.int .i64 x4), (Value.int .i64 x5), (Value.slice (some ⟨500, 0, none⟩) n6 c7), (Value.int .i64 x8), (Value.int .i64 x9), (Value.int .i64 x10), (Value.int .i64 x11)] 89 false 1)), (1003, (AObj.cells [(Value.string s12), (Value.slice (some ⟨501, 0, none⟩) n13 c14)] 29 false 1)), (502, (AObj.cells [(Value.int .i64 x15), (Value.int .i64 x16), (Value.int .i64 x17), (Value.int .i64 x18), (Value.int .i64 x19), (Value.int .i64 x20), (Value.slice (some ⟨500, 0, none⟩) n21 c22), (Value.int .i64 x23), (Value.int .i64 x24), (Value.int .i64 x25), (Value.int .i64 x26)] 89 false 11)), (500, (AObj.sym l27 false 5)), (501, (AObj.sym l28 false 1))] Kr
theorem heH1_text (x0 : Int) (x1 : Int) (x2 : Int) (x3 : Int) (x4 : Int) (x5 : Int) (n6 : Nat) (c7 : Nat) (x8 : Int) (x9 : Int) (x10 : Int) (x11 : Int) (s12 : ByteArray) (n13 : Nat) (c14 : Nat) (x15 : Int) (x16 : Int) (x17 : Int) (x18 : Int) (x19 : Int) (x20 : Int) (n21 : Nat) (c22 : Nat) (x23 : Int) (x24 : Int) (x25 : Int) (x26 : Int) (l27 : List Go.Value) (l28 : List Go.Value) (Kr : Kh) : heH1 x0 x1 x2 x3 x4 x5 n6 c7 x8 x9 x10 x11 s12 n13 c14 x15 x16 x17 x18 x19 x20 n21 c22 x23 x24 x25 x26 l27 l28 Kr =
 (Kr 107 [(Value.func (Go.Fn.yield 915) [].toArray [].toArray), (Pt 500 0), (Pt 501 0)] [(Prod.mk 500 (AObj.cells [(vI x0), (vI x1), (vI x2), (vI x3), (vI x4), (vI x5), (Sl 502 (n6) (c7)), (vI x8), (vI x9), (vI x10), (vI x11)] 89 false 1)), (Prod.mk 501 (AObj.cells [(Value.string (s12)), (Sl 503 (n13) (c14))] 29 false 1)), (Prod.mk 502 (AObj.sym (l27) false 5)), (Prod.mk 503 (AObj.sym (l28) false 1))] [(Prod.mk 5 (Pt 1000 0)), (Prod.mk 6 (Value.slice none 0 0)), (Prod.mk 7 (Pt 1001 0)), (Prod.mk 1000000 (Value.map (some 1002)))] [(Prod.mk 1000 (AObj.cells [(Value.func (Go.Fn.func 68) [].toArray [(Pt 502 0)].toArray)] 112 false 1)), (Prod.mk 1001 (AObj.cells [(Value.slice none 0 0)] 56 false 1)), (Prod.mk 1002 AObj.deferred), (Prod.mk 502 (AObj.cells [(vI x15), (vI x16), (vI x17), (vI x18), (vI x19), (vI x20), (Sl 500 (n21) (c22)), (vI x23), (vI x24), (vI x25), (vI x26)] 89 false 11)), (Prod.mk 500 (AObj.sym (l27) false 5))]) := by kernel_rfl
abbrev zeH2 (x0 : Int) (x1 : Int) (x2 : Int) (x3 : Int) (x4 : Int) (x5 : Int) (n6 : Nat) (c7 : Nat) (x8 : Int) (x9 : Int) (x10 : Int) (x11 : Int) (l12 : List Value) : Slots × Blocks := ([(5, (Value.pointer (some ⟨1000, 0, none⟩))), (6, (Value.slice none 0 0)), (7, (Value.pointer (some ⟨1001, 0, none⟩))), (1000000, (Go.Value.map (Option.some 1002)))], [(1000, (AObj.cells [(Value.func (.func 68) #[] #[(Value.pointer (some ⟨502, 0, none⟩))])] 112 false 1)), (1001, (AObj.cells [(Value.slice none 0 0)] 56 false 1)), (1002, AObj.deferred), (502, (AObj.cells [(Value.int .i64 x0), (Value.int .i64 x1), (Value.int .i64 x2), (Value.int .i64 x3), (Value.int .i64 x4), (Value.int .i64 x5), (Value.slice (some ⟨500, 0, none⟩) n6 c7), (Value.int .i64 x8), (Value.int .i64 x9), (Value.int .i64 x10), (Value.int .i64 x11)] 89 false 11)), (500, (AObj.sym l12 false 5))])
def weH2 (C : Ct) (x0 : Int) (x1 : Int) (x2 : Int) (x3 : Int) (x4 : Int) (x5 : Int) (n6 : Nat) (c7 : Nat) (x8 : Int) (x9 : Int) (x10 : Int) (x11 : Int) (l12 : List Value) (y0 : Int) (y1 : Int) (y2 : Int) (B : Bx) (X : Ex) : Prop := rRound Tryz.prog (hP C) 67 50003 [(5, (Value.pointer (some ⟨1000, 0, none⟩))), (6, (Value.slice none 0 0)), (7, (Value.pointer (some ⟨1001, 0, none⟩))), (1000000, (Go.Value.map (Option.some 1002)))] [(1000, (AObj.cells [(Value.func (.func 68) #[] #[(Value.pointer (some ⟨502, 0, none⟩))])] 112 false 1)), (1001, (AObj.cells [(Value.slice none 0 0)] 56 false 1)), (1002, AObj.deferred), (502, (AObj.cells [(Value.int .i64 x0), (Value.int .i64 x1), (Value.int .i64 x2), (Value.int .i64 x3), (Value.int .i64 x4), (Value.int .i64 x5), (Value.slice (some ⟨500, 0, none⟩) n6 c7), (Value.int .i64 x8), (Value.int .i64 x9), (Value.int .i64 x10), (Value.int .i64 x11)] 89 false 11)), (500, (AObj.sym l12 false 5))] [(.agg [(.val (.int .i64 y0)), (.val (.int .i64 y1)), (.val (.int .i64 y2))])] B X
theorem weH2_text (C : Ct) (x0 : Int) (x1 : Int) (x2 : Int) (x3 : Int) (x4 : Int) (x5 : Int) (n6 : Nat) (c7 : Nat) (x8 : Int) (x9 : Int) (x10 : Int) (x11 : Int) (l12 : List Go.Value) (y0 : Int) (y1 : Int) (y2 : Int) (B : Bx) (X : Ex) : weH2 C x0 x1 x2 x3 x4 x5 n6 c7 x8 x9 x10 x11 l12 y0 y1 y2 B X =
 (∀ caps : Nat → Nat,
 (((Qv (Value.agg [(vI y0), (vI y1), (vI y2)].toArray)) ∧
 ((Qv (Value.func (Go.Fn.func 68) [].toArray [(Pt 502 0)].toArray)) ∧
 ((Qv (Value.slice none 0 0)) ∧
 True))) ∧
 (bcase (decide (0 + n6 * 5 ≤ List.length l12))
 (∃ n1 : Int,
 (∃ n2 : Int,
 ((Says C 69 [(D.agg [(D.val (vI x0)), (D.val (vI x1)), (D.val (vI x2)), (D.val (vI x3)), (D.val (vI x4)), (D.val (vI x5)), (D.sl (n6) 5 (List.take (n6 * 5) (List.drop 0 l12))), (D.val (vI x8)), (D.val (vI x9)), (D.val (vI x10)), (D.val (vI x11))]), (D.agg [(D.val (vI y0)), (D.val (vI y1)), (D.val (vI y2))])] [(D.agg [(D.val (vI n1)), (D.val (vI n2))])]) ∧
 (((Qv (vI n2)) ∧
 ((Qv (Pt 1006 1)) ∧
 ((Qv (vI n1)) ∧
 ((Qv (Pt 1006 0)) ∧
 True)))) ∧
 (∃ n3 : Int,
 (∃ n4 : Int,
 ((Says C 52 [(D.val (vI n1)), (D.val (vI 100))] [(D.agg [(D.val (vI n3)), (D.val (vI n4))])]) ∧
 (((Qv (vI n2)) ∧
 ((Qv (Pt 1006 1)) ∧
 ((Qv (Pt 1006 0)) ∧
 True))) ∧
 (∃ n5 : Int,
 (∃ n7 : Int,
 ((Says C 52 [(D.val (vI n2)), (D.val (vI 100))] [(D.agg [(D.val (vI n5)), (D.val (vI n7))])]) ∧
 (((Qv (Value.agg [(vI n3), (vI n4), (vI n5), (vI n7)].toArray)) ∧
 ((Qv (Pt 1006 1)) ∧
 ((Qv (Pt 1006 0)) ∧
 True))) ∧
 (True ∧
 ((((Qv (Sl 1007 1 1)) ∧
 (Qv (some (AObj.cells [(vI n3), (vI n4), (vI n5), (vI n7)] 111 false 4)))) ∧
 ((Qv (Value.slice none 0 0)) ∧
 True)) ∧
 (True ∧
 (True ∧
 (B [(Prod.mk 5 (Pt 1000 0)), (Prod.mk 6 (Value.slice none 0 0)), (Prod.mk 7 (Pt 1001 0)), (Prod.mk 1000000 (Value.map (some 1002)))] [(Prod.mk 1000 (AObj.cells [(Value.func (Go.Fn.func 68) [].toArray [(Pt 502 0)].toArray)] 112 false 1)), (Prod.mk 1001 (AObj.cells [(Sl 1003 1 1)] 56 false 1)), (Prod.mk 1002 AObj.deferred), (Prod.mk 502 (AObj.cells [(vI x0), (vI x1), (vI x2), (vI x3), (vI x4), (vI x5), (Sl 500 (n6) (c7)), (vI x8), (vI x9), (vI x10), (vI x11)] 89 false 11)), (Prod.mk 1003 (AObj.sym [(vI n3), (vI n4), (vI n5), (vI n7)] true 4)), (Prod.mk 500 (AObj.sym (l12) false 5))])))))))))))))))))
 False))) := by kernel_rfl
abbrev zeH4 (n0 : Nat) (x1 : Int) (x2 : Int) (x3 : Int) (x4 : Int) (x5 : Int) (x6 : Int) (n7 : Nat) (c8 : Nat) (x9 : Int) (x10 : Int) (x11 : Int) (x12 : Int) (l13 : List Value) (l14 : List Value) : Slots × Blocks := ([(5, (Value.pointer (some ⟨1000, 0, none⟩))), (6, (Value.slice none 0 0)), (7, (Value.pointer (some ⟨1001, 0, none⟩))), (1000000, (Go.Value.map (Option.some 1002)))], [(1000, (AObj.cells [(Value.func (.func 68) #[] #[(Value.pointer (some ⟨502, 0, none⟩))])] 112 false 1)), (1001, (AObj.cells [(Value.slice (some ⟨1003, 0, none⟩) n0 n0)] 56 false 1)), (1002, AObj.deferred), (502, (AObj.cells [(Value.int .i64 x1), (Value.int .i64 x2), (Value.int .i64 x3), (Value.int .i64 x4), (Value.int .i64 x5), (Value.int .i64 x6), (Value.slice (some ⟨500, 0, none⟩) n7 c8), (Value.int .i64 x9), (Value.int .i64 x10), (Value.int .i64 x11), (Value.int .i64 x12)] 89 false 11)), (1003, (AObj.sym l13 true 4)), (500, (AObj.sym l14 false 5))])
def weH4 (C : Ct) (n0 : Nat) (x1 : Int) (x2 : Int) (x3 : Int) (x4 : Int) (x5 : Int) (x6 : Int) (n7 : Nat) (c8 : Nat) (x9 : Int) (x10 : Int) (x11 : Int) (x12 : Int) (l13 : List Value) (l14 : List Value) (y0 : Int) (y1 : Int) (y2 : Int) (B : Bx) (X : Ex) : Prop := rRound Tryz.prog (hP C) 67 50003 [(5, (Value.pointer (some ⟨1000, 0, none⟩))), (6, (Value.slice none 0 0)), (7, (Value.pointer (some ⟨1001, 0, none⟩))), (1000000, (Go.Value.map (Option.some 1002)))] [(1000, (AObj.cells [(Value.func (.func 68) #[] #[(Value.pointer (some ⟨502, 0, none⟩))])] 112 false 1)), (1001, (AObj.cells [(Value.slice (some ⟨1003, 0, none⟩) n0 n0)] 56 false 1)), (1002, AObj.deferred), (502, (AObj.cells [(Value.int .i64 x1), (Value.int .i64 x2), (Value.int .i64 x3), (Value.int .i64 x4), (Value.int .i64 x5), (Value.int .i64 x6), (Value.slice (some ⟨500, 0, none⟩) n7 c8), (Value.int .i64 x9), (Value.int .i64 x10), (Value.int .i64 x11), (Value.int .i64 x12)] 89 false 11)), (1003, (AObj.sym l13 true 4)), (500, (AObj.sym l14 false 5))] [(.agg [(.val (.int .i64 y0)), (.val (.int .i64 y1)), (.val (.int .i64 y2))])] B X
theorem weH4_text (C : Ct) (n0 : Nat) (x1 : Int) (x2 : Int) (x3 : Int) (x4 : Int) (x5 : Int) (x6 : Int) (n7 : Nat) (c8 : Nat) (x9 : Int) (x10 : Int) (x11 : Int) (x12 : Int) (l13 : List Go.Value) (l14 : List Go.Value) (y0 : Int) (y1 : Int) (y2 : Int) (B : Bx) (X : Ex) : weH4 C n0 x1 x2 x3 x4 x5 x6 n7 c8 x9 x10 x11 x12 l13 l14 y0 y1 y2 B X =
 (∀ caps : Nat → Nat,
 (((Qv (Value.agg [(vI y0), (vI y1), (vI y2)].toArray)) ∧
 ((Qv (Value.func (Go.Fn.func 68) [].toArray [(Pt 502 0)].toArray)) ∧
 ((Qv (Sl 1003 (n0) (n0))) ∧
 True))) ∧
 (bcase (decide (0 + n7 * 5 ≤ List.length l14))
 (∃ n1 : Int,
 (∃ n2 : Int,
 ((Says C 69 [(D.agg [(D.val (vI x1)), (D.val (vI x2)), (D.val (vI x3)), (D.val (vI x4)), (D.val (vI x5)), (D.val (vI x6)), (D.sl (n7) 5 (List.take (n7 * 5) (List.drop 0 l14))), (D.val (vI x9)), (D.val (vI x10)), (D.val (vI x11)), (D.val (vI x12))]), (D.agg [(D.val (vI y0)), (D.val (vI y1)), (D.val (vI y2))])] [(D.agg [(D.val (vI n1)), (D.val (vI n2))])]) ∧
 (((Qv (vI n2)) ∧
 ((Qv (Pt 1007 1)) ∧
 ((Qv (vI n1)) ∧
 ((Qv (Pt 1007 0)) ∧
 True)))) ∧
 (∃ n3 : Int,
 (∃ n4 : Int,
 ((Says C 52 [(D.val (vI n1)), (D.val (vI 100))] [(D.agg [(D.val (vI n3)), (D.val (vI n4))])]) ∧
 (((Qv (vI n2)) ∧
 ((Qv (Pt 1007 1)) ∧
 ((Qv (Pt 1007 0)) ∧
 True))) ∧
 (∃ n5 : Int,
 (∃ n6 : Int,
 ((Says C 52 [(D.val (vI n2)), (D.val (vI 100))] [(D.agg [(D.val (vI n5)), (D.val (vI n6))])]) ∧
 (((Qv (Value.agg [(vI n3), (vI n4), (vI n5), (vI n6)].toArray)) ∧
 ((Qv (Pt 1007 1)) ∧
 ((Qv (Pt 1007 0)) ∧
 True))) ∧
 (True ∧
 ((((Qv (Sl 1008 1 1)) ∧
 (Qv (some (AObj.cells [(vI n3), (vI n4), (vI n5), (vI n6)] 111 false 4)))) ∧
 ((Qv (Sl 1003 (n0) (n0))) ∧
 True)) ∧
 (bcase (decide (n0 < n0 + 1))
 (bcase (decide ((2 * (n0 + 1) + 768) * 32 ≤ 281474976710656))
 (bcase (decide (n0 + 1 ≤ 1099511627776))
 (bcase (decide (0 + n0 * 4 ≤ List.length l13))
 (bcase (decide (0 + n0 * 4 = List.length l13))
 (True ∧
 (True ∧
 (B [(Prod.mk 5 (Pt 1000 0)), (Prod.mk 6 (Value.slice none 0 0)), (Prod.mk 7 (Pt 1001 0)), (Prod.mk 1000000 (Value.map (some 1002)))] [(Prod.mk 1000 (AObj.cells [(Value.func (Go.Fn.func 68) [].toArray [(Pt 502 0)].toArray)] 112 false 1)), (Prod.mk 1001 (AObj.cells [(Sl 1003 (n0 + 1) (n0 + 1))] 56 false 1)), (Prod.mk 1002 AObj.deferred), (Prod.mk 502 (AObj.cells [(vI x1), (vI x2), (vI x3), (vI x4), (vI x5), (vI x6), (Sl 500 (n7) (c8)), (vI x9), (vI x10), (vI x11), (vI x12)] 89 false 11)), (Prod.mk 1003 (AObj.sym ((List.take (n0 * 4) (List.drop 0 l13)) ++ [(vI n3), (vI n4), (vI n5), (vI n6)]) true 4)), (Prod.mk 500 (AObj.sym (l14) false 5))])))
 False)
 False)
 False)
 False)
 False)))))))))))))))
 False))) := by kernel_rfl
def neH5 (C : Ct) (L : AtLoop) (n0 : Nat) (x1 : Int) (x2 : Int) (x3 : Int) (x4 : Int) (x5 : Int) (x6 : Int) (n7 : Nat) (c8 : Nat) (x9 : Int) (x10 : Int) (x11 : Int) (x12 : Int) (l13 : List Value) (l14 : List Value) (K : Value → Blocks → Prop) : Prop := jNext Tryz.prog (hP C) L [] 67 50003 .normal [(5, (Value.pointer (some ⟨1000, 0, none⟩))), (6, (Value.slice none 0 0)), (7, (Value.pointer (some ⟨1001, 0, none⟩))), (1000000, (Go.Value.map (Option.some 1002)))] [(1000, (AObj.cells [(Value.func (.func 68) #[] #[(Value.pointer (some ⟨502, 0, none⟩))])] 112 false 1)), (1001, (AObj.cells [(Value.slice (some ⟨1003, 0, none⟩) n0 n0)] 56 false 1)), (1002, AObj.deferred), (502, (AObj.cells [(Value.int .i64 x1), (Value.int .i64 x2), (Value.int .i64 x3), (Value.int .i64 x4), (Value.int .i64 x5), (Value.int .i64 x6), (Value.slice (some ⟨500, 0, none⟩) n7 c8), (Value.int .i64 x9), (Value.int .i64 x10), (Value.int .i64 x11), (Value.int .i64 x12)] 89 false 11)), (1003, (AObj.sym l13 true 4)), (500, (AObj.sym l14 false 5))] (stateK K)
theorem neH5_text (C : Ct) (L : AtLoop) (n0 : Nat) (x1 : Int) (x2 : Int) (x3 : Int) (x4 : Int) (x5 : Int) (x6 : Int) (n7 : Nat) (c8 : Nat) (x9 : Int) (x10 : Int) (x11 : Int) (x12 : Int) (l13 : List Go.Value) (l14 : List Go.Value) (K : Go.Value → Blocks → Prop) : neH5 C L n0 x1 x2 x3 x4 x5 x6 n7 c8 x9 x10 x11 x12 l13 l14 K =
 (K (Sl 1000 (n0) (n0)) [(Prod.mk 1000 (AObj.sym (l13) true 4))]) := by kernel_rfl
def geF (C : Ct) (L : AtLoop) (w : Int) (st : Int) (fi : Int) (ha : Int) (hb : Int) (co : Int) (sa : Int) (sb : Int) (fa : Int) (fb : Int) (n0 : Nat) (c0 : Nat) (l0 : List Value) (nm : ByteArray) (n1 : Nat) (c1 : Nat) (l1 : List Value) (K : Value → Blocks → Prop) : Prop := jFn Tryz.prog (hP C) L [] 64 #[.agg #[.int .i64 w, .int .i64 st, .int .i64 fi, .int .i64 ha, .int .i64 hb, .int .i64 co, .slice (some ⟨500, 0, none⟩) n0 c0, .int .i64 sa, .int .i64 sb, .int .i64 fa, .int .i64 fb], .agg #[.string nm, .slice (some ⟨501, 0, none⟩) n1 c1], .func (.func 65) #[.agg #[.int .i64 w, .int .i64 st, .int .i64 fi, .int .i64 ha, .int .i64 hb, .int .i64 co, .slice (some ⟨500, 0, none⟩) n0 c0, .int .i64 sa, .int .i64 sb, .int .i64 fa, .int .i64 fb]] #[]] (heapOf [(500, .sym l0 false 5), (501, .sym l1 false 1)]) (stateK K)
theorem geF_text (C : Ct) (L : AtLoop) (w : Int) (st : Int) (fi : Int) (ha : Int) (hb : Int) (co : Int) (sa : Int) (sb : Int) (fa : Int) (fb : Int) (n0 : Nat) (c0 : Nat) (l0 : List Go.Value) (nm : ByteArray) (n1 : Nat) (c1 : Nat) (l1 : List Go.Value) (K : Go.Value → Blocks → Prop) : geF C L w st fi ha hb co sa sb fa fb n0 c0 l0 nm n1 c1 l1 K =
 (L 50003 [(Prod.mk 5 (Pt 1000 0)), (Prod.mk 6 (Value.slice none 0 0)), (Prod.mk 7 (Pt 1001 0)), (Prod.mk 11 (Value.func (Go.Fn.func 107) [].toArray [(Pt 1002 0), (Pt 1003 0)].toArray))] [(Prod.mk 1000 (AObj.cells [(Value.func (Go.Fn.func 65) [(Value.agg [(vI w), (vI st), (vI fi), (vI ha), (vI hb), (vI co), (Sl 500 (n0) (c0)), (vI sa), (vI sb), (vI fa), (vI fb)].toArray)].toArray [].toArray)] 108 false 1)), (Prod.mk 1001 (AObj.cells [(Value.slice none 0 0)] 53 false 1)), (Prod.mk 1002 (AObj.cells [(vI w), (vI st), (vI fi), (vI ha), (vI hb), (vI co), (Sl 500 (n0) (c0)), (vI sa), (vI sb), (vI fa), (vI fb)] 89 false 1)), (Prod.mk 1003 (AObj.cells [(Value.string (nm)), (Sl 501 (n1) (c1))] 29 false 1)), (Prod.mk 500 (AObj.sym (l0) false 5)), (Prod.mk 501 (AObj.sym (l1) false 1))]) := by kernel_rfl
abbrev zeF1 (x0 : Int) (x1 : Int) (x2 : Int) (x3 : Int) (x4 : Int) (x5 : Int) (n6 : Nat) (c7 : Nat) (x8 : Int) (x9 : Int) (x10 : Int) (x11 : Int) (x12 : Int) (x13 : Int) (x14 : Int) (x15 : Int) (x16 : Int) (x17 : Int) (n18 : Nat) (c19 : Nat) (x20 : Int) (x21 : Int) (x22 : Int) (x23 : Int) (s24 : ByteArray) (n25 : Nat) (c26 : Nat) (l27 : List Value) (l28 : List Value) : Slots × Blocks := ([(5, (Value.pointer (some ⟨1000, 0, none⟩))), (6, (Value.slice none 0 0)), (7, (Value.pointer (some ⟨1001, 0, none⟩))), (11, (Value.func (.func 107) #[] #[(Value.pointer (some ⟨1002, 0, none⟩)), (Value.pointer (some ⟨1003, 0, none⟩))]))], [(1000, (AObj.cells [(Value.func (.func 65) #[(Value.agg #[(Value.int .i64 x0), (Value.int .i64 x1), (Value.int .i64 x2), (Value.int .i64 x3), (Value.int .i64 x4), (Value.int .i64 x5), (Value.slice (some ⟨500, 0, none⟩) n6 c7), (Value.int .i64 x8), (Value.int .i64 x9), (Value.int .i64 x10), (Value.int .i64 x11)])] #[])] 108 false 1)), (1001, (AObj.cells [(Value.slice none 0 0)] 53 false 1)), (1002, (AObj.cells [(Value.int .i64 x12), (Value.int .i64 x13), (Value.int .i64 x14), (Value.int .i64 x15), (Value.int .i64 x16), (Value.int .i64 x17), (Value.slice (some ⟨500, 0, none⟩) n18 c19), (Value.int .i64 x20), (Value.int .i64 x21), (Value.int .i64 x22), (Value.int .i64 x23)] 89 false 1)), (1003, (AObj.cells [(Value.string s24), (Value.slice (some ⟨501, 0, none⟩) n25 c26)] 29 false 1)), (500, (AObj.sym l27 false 5)), (501, (AObj.sym l28 false 1))])
def heF1 (x0 : Int) (x1 : Int) (x2 : Int) (x3 : Int) (x4 : Int) (x5 : Int) (n6 : Nat) (c7 : Nat) (x8 : Int) (x9 : Int) (x10 : Int) (x11 : Int) (x12 : Int) (x13 : Int) (x14 : Int) (x15 : Int) (x16 : Int) (x17 : Int) (n18 : Nat) (c19 : Nat) (x20 : Int) (x21 : Int) (x22 : Int) (x23 : Int) (s24 : ByteArray) (n25 : Nat) (c26 : Nat) (l27 : List Value) (l28 : List Value) (Kr : Kh) : Prop := rHead Tryz.prog 64 50003 [(5, (Value.pointer (some ⟨1000, 0, none⟩))), (6, (Value.slice none 0 0)), (7, (Value.pointer (some ⟨1001, 0, none⟩))), (11, (Value.func (.func 107) #[] #[(Value.pointer (some ⟨1002, 0, none⟩)), (Value.pointer (some ⟨1003, 0, none⟩))]))] [(1000, (AObj.cells [(Value.func (.func 65) #[(Value.agg #[(Value.int .i64 x0), (Value.int .i64 x1), (Value.int .i64 x2), (Value.int .i64 x3), (Value.int .i64 x4), (Value.int .i64 x5), (Value.slice (some ⟨500, 0, none⟩) n6 c7), (Value.int .i64 x8), (Value.int .i64 x9), (Value.int .i64 x10), (Value.int .i64 x11)])] #[])] 108 false 1)), (1001, (AObj.cells [(Value.slice none 0 0)] 53 false 1)), (1002, (AObj.cells [(Value.int .i64 x12), (Value.int .i64 x13), (Value.int .i64 x14), (Value.int .i64 x15), (Value.int .i64 x16), (Value.int .i64 x17), (Value.slice (some ⟨500, 0, none⟩) n18 c19), (Value.int .i64 x20), (Value.int .i64 x21), (Value.int .i64 x22), (Value.int .i64 x23)] 89 false 1)), (1003, (AObj.cells [(Value.string s24), (Value.slice (some ⟨501, 0, none⟩) n25 c26)] 29 false 1)), (500, (AObj.sym l27 false 5)), (501, (AObj.sym l28 false 1))] Kr
theorem heF1_text (x0 : Int) (x1 : Int) (x2 : Int) (x3 : Int) (x4 : Int) (x5 : Int) (n6 : Nat) (c7 : Nat) (x8 : Int) (x9 : Int) (x10 : Int) (x11 : Int) (x12 : Int) (x13 : Int) (x14 : Int) (x15 : Int) (x16 : Int) (x17 : Int) (n18 : Nat) (c19 : Nat) (x20 : Int) (x21 : Int) (x22 : Int) (x23 : Int) (s24 : ByteArray) (n25 : Nat) (c26 : Nat) (l27 : List Go.Value) (l28 : List Go.Value) (Kr : Kh) : heF1 x0 x1 x2 x3 x4 x5 n6 c7 x8 x9 x10 x11 x12 x13 x14 x15 x16 x17 n18 c19 x20 x21 x22 x23 s24 n25 c26 l27 l28 Kr =
 (Kr 107 [(Value.func (Go.Fn.yield 915) [].toArray [].toArray), (Pt 500 0), (Pt 501 0)] [(Prod.mk 500 (AObj.cells [(vI x12), (vI x13), (vI x14), (vI x15), (vI x16), (vI x17), (Sl 502 (n18) (c19)), (vI x20), (vI x21), (vI x22), (vI x23)] 89 false 1)), (Prod.mk 501 (AObj.cells [(Value.string (s24)), (Sl 503 (n25) (c26))] 29 false 1)), (Prod.mk 502 (AObj.sym (l27) false 5)), (Prod.mk 503 (AObj.sym (l28) false 1))] [(Prod.mk 5 (Pt 1000 0)), (Prod.mk 6 (Value.slice none 0 0)), (Prod.mk 7 (Pt 1001 0)), (Prod.mk 1000000 (Value.map (some 1002)))] [(Prod.mk 1000 (AObj.cells [(Value.func (Go.Fn.func 65) [(Value.agg [(vI x0), (vI x1), (vI x2), (vI x3), (vI x4), (vI x5), (Sl 500 (n6) (c7)), (vI x8), (vI x9), (vI x10), (vI x11)].toArray)].toArray [].toArray)] 108 false 1)), (Prod.mk 1001 (AObj.cells [(Value.slice none 0 0)] 53 false 1)), (Prod.mk 1002 AObj.deferred), (Prod.mk 500 (AObj.sym (l27) false 5))]) := by kernel_rfl
abbrev zeF2 (x0 : Int) (x1 : Int) (x2 : Int) (x3 : Int) (x4 : Int) (x5 : Int) (n6 : Nat) (c7 : Nat) (x8 : Int) (x9 : Int) (x10 : Int) (x11 : Int) (l12 : List Value) : Slots × Blocks := ([(5, (Value.pointer (some ⟨1000, 0, none⟩))), (6, (Value.slice none 0 0)), (7, (Value.pointer (some ⟨1001, 0, none⟩))), (1000000, (Go.Value.map (Option.some 1002)))], [(1000, (AObj.cells [(Value.func (.func 65) #[(Value.agg #[(Value.int .i64 x0), (Value.int .i64 x1), (Value.int .i64 x2), (Value.int .i64 x3), (Value.int .i64 x4), (Value.int .i64 x5), (Value.slice (some ⟨500, 0, none⟩) n6 c7), (Value.int .i64 x8), (Value.int .i64 x9), (Value.int .i64 x10), (Value.int .i64 x11)])] #[])] 108 false 1)), (1001, (AObj.cells [(Value.slice none 0 0)] 53 false 1)), (1002, AObj.deferred), (500, (AObj.sym l12 false 5))])
def weF2 (C : Ct) (x0 : Int) (x1 : Int) (x2 : Int) (x3 : Int) (x4 : Int) (x5 : Int) (n6 : Nat) (c7 : Nat) (x8 : Int) (x9 : Int) (x10 : Int) (x11 : Int) (l12 : List Value) (y0 : Int) (y1 : Int) (y2 : Int) (B : Bx) (X : Ex) : Prop := rRound Tryz.prog (hP C) 64 50003 [(5, (Value.pointer (some ⟨1000, 0, none⟩))), (6, (Value.slice none 0 0)), (7, (Value.pointer (some ⟨1001, 0, none⟩))), (1000000, (Go.Value.map (Option.some 1002)))] [(1000, (AObj.cells [(Value.func (.func 65) #[(Value.agg #[(Value.int .i64 x0), (Value.int .i64 x1), (Value.int .i64 x2), (Value.int .i64 x3), (Value.int .i64 x4), (Value.int .i64 x5), (Value.slice (some ⟨500, 0, none⟩) n6 c7), (Value.int .i64 x8), (Value.int .i64 x9), (Value.int .i64 x10), (Value.int .i64 x11)])] #[])] 108 false 1)), (1001, (AObj.cells [(Value.slice none 0 0)] 53 false 1)), (1002, AObj.deferred), (500, (AObj.sym l12 false 5))] [(.agg [(.val (.int .i64 y0)), (.val (.int .i64 y1)), (.val (.int .i64 y2))])] B X
theorem weF2_text (C : Ct) (x0 : Int) (x1 : Int) (x2 : Int) (x3 : Int) (x4 : Int) (x5 : Int) (n6 : Nat) (c7 : Nat) (x8 : Int) (x9 : Int) (x10 : Int) (x11 : Int) (l12 : List Go.Value) (y0 : Int) (y1 : Int) (y2 : Int) (B : Bx) (X : Ex) : weF2 C x0 x1 x2 x3 x4 x5 n6 c7 x8 x9 x10 x11 l12 y0 y1 y2 B X =
 (∀ caps : Nat → Nat,
 (((Qv (Value.agg [(vI y0), (vI y1), (vI y2)].toArray)) ∧
 ((Qv (Value.func (Go.Fn.func 65) [(Value.agg [(vI x0), (vI x1), (vI x2), (vI x3), (vI x4), (vI x5), (Sl 500 (n6) (c7)), (vI x8), (vI x9), (vI x10), (vI x11)].toArray)].toArray [].toArray)) ∧
 ((Qv (Value.slice none 0 0)) ∧
 True))) ∧
 (bcase (decide (0 + n6 * 5 ≤ List.length l12))
 (∃ n1 : Int,
 (∃ n2 : Int,
 ((Says C 65 [(D.agg [(D.val (vI x0)), (D.val (vI x1)), (D.val (vI x2)), (D.val (vI x3)), (D.val (vI x4)), (D.val (vI x5)), (D.sl (n6) 5 (List.take (n6 * 5) (List.drop 0 l12))), (D.val (vI x8)), (D.val (vI x9)), (D.val (vI x10)), (D.val (vI x11))]), (D.agg [(D.val (vI y0)), (D.val (vI y1)), (D.val (vI y2))])] [(D.agg [(D.val (vI n1)), (D.val (vI n2))])]) ∧
 ((((Qv (Sl 1004 1 1)) ∧
 (Qv (some (AObj.cells [(vI n1), (vI n2)] 23 false 2)))) ∧
 ((Qv (Value.slice none 0 0)) ∧
 True)) ∧
 (True ∧
 (True ∧
 (B [(Prod.mk 5 (Pt 1000 0)), (Prod.mk 6 (Value.slice none 0 0)), (Prod.mk 7 (Pt 1001 0)), (Prod.mk 1000000 (Value.map (some 1002)))] [(Prod.mk 1000 (AObj.cells [(Value.func (Go.Fn.func 65) [(Value.agg [(vI x0), (vI x1), (vI x2), (vI x3), (vI x4), (vI x5), (Sl 500 (n6) (c7)), (vI x8), (vI x9), (vI x10), (vI x11)].toArray)].toArray [].toArray)] 108 false 1)), (Prod.mk 1001 (AObj.cells [(Sl 1003 1 1)] 53 false 1)), (Prod.mk 1002 AObj.deferred), (Prod.mk 500 (AObj.sym (l12) false 5)), (Prod.mk 1003 (AObj.sym [(vI n1), (vI n2)] true 2))])))))))
 False))) := by kernel_rfl
abbrev zeF4 (x0 : Int) (x1 : Int) (x2 : Int) (x3 : Int) (x4 : Int) (x5 : Int) (n6 : Nat) (c7 : Nat) (x8 : Int) (x9 : Int) (x10 : Int) (x11 : Int) (n12 : Nat) (l13 : List Value) (l14 : List Value) : Slots × Blocks := ([(5, (Value.pointer (some ⟨1000, 0, none⟩))), (6, (Value.slice none 0 0)), (7, (Value.pointer (some ⟨1001, 0, none⟩))), (1000000, (Go.Value.map (Option.some 1002)))], [(1000, (AObj.cells [(Value.func (.func 65) #[(Value.agg #[(Value.int .i64 x0), (Value.int .i64 x1), (Value.int .i64 x2), (Value.int .i64 x3), (Value.int .i64 x4), (Value.int .i64 x5), (Value.slice (some ⟨500, 0, none⟩) n6 c7), (Value.int .i64 x8), (Value.int .i64 x9), (Value.int .i64 x10), (Value.int .i64 x11)])] #[])] 108 false 1)), (1001, (AObj.cells [(Value.slice (some ⟨1003, 0, none⟩) n12 n12)] 53 false 1)), (1002, AObj.deferred), (500, (AObj.sym l13 false 5)), (1003, (AObj.sym l14 true 2))])
def weF4 (C : Ct) (x0 : Int) (x1 : Int) (x2 : Int) (x3 : Int) (x4 : Int) (x5 : Int) (n6 : Nat) (c7 : Nat) (x8 : Int) (x9 : Int) (x10 : Int) (x11 : Int) (n12 : Nat) (l13 : List Value) (l14 : List Value) (y0 : Int) (y1 : Int) (y2 : Int) (B : Bx) (X : Ex) : Prop := rRound Tryz.prog (hP C) 64 50003 [(5, (Value.pointer (some ⟨1000, 0, none⟩))), (6, (Value.slice none 0 0)), (7, (Value.pointer (some ⟨1001, 0, none⟩))), (1000000, (Go.Value.map (Option.some 1002)))] [(1000, (AObj.cells [(Value.func (.func 65) #[(Value.agg #[(Value.int .i64 x0), (Value.int .i64 x1), (Value.int .i64 x2), (Value.int .i64 x3), (Value.int .i64 x4), (Value.int .i64 x5), (Value.slice (some ⟨500, 0, none⟩) n6 c7), (Value.int .i64 x8), (Value.int .i64 x9), (Value.int .i64 x10), (Value.int .i64 x11)])] #[])] 108 false 1)), (1001, (AObj.cells [(Value.slice (some ⟨1003, 0, none⟩) n12 n12)] 53 false 1)), (1002, AObj.deferred), (500, (AObj.sym l13 false 5)), (1003, (AObj.sym l14 true 2))] [(.agg [(.val (.int .i64 y0)), (.val (.int .i64 y1)), (.val (.int .i64 y2))])] B X
theorem weF4_text (C : Ct) (x0 : Int) (x1 : Int) (x2 : Int) (x3 : Int) (x4 : Int) (x5 : Int) (n6 : Nat) (c7 : Nat) (x8 : Int) (x9 : Int) (x10 : Int) (x11 : Int) (n12 : Nat) (l13 : List Go.Value) (l14 : List Go.Value) (y0 : Int) (y1 : Int) (y2 : Int) (B : Bx) (X : Ex) : weF4 C x0 x1 x2 x3 x4 x5 n6 c7 x8 x9 x10 x11 n12 l13 l14 y0 y1 y2 B X =
 (∀ caps : Nat → Nat,
 (((Qv (Value.agg [(vI y0), (vI y1), (vI y2)].toArray)) ∧
 ((Qv (Value.func (Go.Fn.func 65) [(Value.agg [(vI x0), (vI x1), (vI x2), (vI x3), (vI x4), (vI x5), (Sl 500 (n6) (c7)), (vI x8), (vI x9), (vI x10), (vI x11)].toArray)].toArray [].toArray)) ∧
 ((Qv (Sl 1003 (n12) (n12))) ∧
 True))) ∧
 (bcase (decide (0 + n6 * 5 ≤ List.length l13))
 (∃ n1 : Int,
 (∃ n2 : Int,
 ((Says C 65 [(D.agg [(D.val (vI x0)), (D.val (vI x1)), (D.val (vI x2)), (D.val (vI x3)), (D.val (vI x4)), (D.val (vI x5)), (D.sl (n6) 5 (List.take (n6 * 5) (List.drop 0 l13))), (D.val (vI x8)), (D.val (vI x9)), (D.val (vI x10)), (D.val (vI x11))]), (D.agg [(D.val (vI y0)), (D.val (vI y1)), (D.val (vI y2))])] [(D.agg [(D.val (vI n1)), (D.val (vI n2))])]) ∧
 ((((Qv (Sl 1005 1 1)) ∧
 (Qv (some (AObj.cells [(vI n1), (vI n2)] 23 false 2)))) ∧
 ((Qv (Sl 1003 (n12) (n12))) ∧
 True)) ∧
 (bcase (decide (n12 < n12 + 1))
 (bcase (decide ((2 * (n12 + 1) + 768) * 16 ≤ 281474976710656))
 (bcase (decide (n12 + 1 ≤ 1099511627776))
 (bcase (decide (0 + n12 * 2 ≤ List.length l14))
 (bcase (decide (0 + n12 * 2 = List.length l14))
 (True ∧
 (True ∧
 (B [(Prod.mk 5 (Pt 1000 0)), (Prod.mk 6 (Value.slice none 0 0)), (Prod.mk 7 (Pt 1001 0)), (Prod.mk 1000000 (Value.map (some 1002)))] [(Prod.mk 1000 (AObj.cells [(Value.func (Go.Fn.func 65) [(Value.agg [(vI x0), (vI x1), (vI x2), (vI x3), (vI x4), (vI x5), (Sl 500 (n6) (c7)), (vI x8), (vI x9), (vI x10), (vI x11)].toArray)].toArray [].toArray)] 108 false 1)), (Prod.mk 1001 (AObj.cells [(Sl 1003 (n12 + 1) (n12 + 1))] 53 false 1)), (Prod.mk 1002 AObj.deferred), (Prod.mk 500 (AObj.sym (l13) false 5)), (Prod.mk 1003 (AObj.sym ((List.take (n12 * 2) (List.drop 0 l14)) ++ [(vI n1), (vI n2)]) true 2))])))
 False)
 False)
 False)
 False)
 False)))))
 False))) := by kernel_rfl
def neF5 (C : Ct) (L : AtLoop) (x0 : Int) (x1 : Int) (x2 : Int) (x3 : Int) (x4 : Int) (x5 : Int) (n6 : Nat) (c7 : Nat) (x8 : Int) (x9 : Int) (x10 : Int) (x11 : Int) (n12 : Nat) (l13 : List Value) (l14 : List Value) (K : Value → Blocks → Prop) : Prop := jNext Tryz.prog (hP C) L [] 64 50003 .normal [(5, (Value.pointer (some ⟨1000, 0, none⟩))), (6, (Value.slice none 0 0)), (7, (Value.pointer (some ⟨1001, 0, none⟩))), (1000000, (Go.Value.map (Option.some 1002)))] [(1000, (AObj.cells [(Value.func (.func 65) #[(Value.agg #[(Value.int .i64 x0), (Value.int .i64 x1), (Value.int .i64 x2), (Value.int .i64 x3), (Value.int .i64 x4), (Value.int .i64 x5), (Value.slice (some ⟨500, 0, none⟩) n6 c7), (Value.int .i64 x8), (Value.int .i64 x9), (Value.int .i64 x10), (Value.int .i64 x11)])] #[])] 108 false 1)), (1001, (AObj.cells [(Value.slice (some ⟨1003, 0, none⟩) n12 n12)] 53 false 1)), (1002, AObj.deferred), (500, (AObj.sym l13 false 5)), (1003, (AObj.sym l14 true 2))] (stateK K)
theorem neF5_text (C : Ct) (L : AtLoop) (x0 : Int) (x1 : Int) (x2 : Int) (x3 : Int) (x4 : Int) (x5 : Int) (n6 : Nat) (c7 : Nat) (x8 : Int) (x9 : Int) (x10 : Int) (x11 : Int) (n12 : Nat) (l13 : List Go.Value) (l14 : List Go.Value) (K : Go.Value → Blocks → Prop) : neF5 C L x0 x1 x2 x3 x4 x5 n6 c7 x8 x9 x10 x11 n12 l13 l14 K =
 (K (Sl 1000 (n12) (n12)) [(Prod.mk 1000 (AObj.sym (l14) true 2))]) := by kernel_rfl
def geQ (C : Ct) (L : AtLoop) (w : Int) (st : Int) (fi : Int) (ha : Int) (hb : Int) (co : Int) (sa : Int) (sb : Int) (fa : Int) (fb : Int) (n0 : Nat) (c0 : Nat) (l0 : List Value) (nm : ByteArray) (n1 : Nat) (c1 : Nat) (l1 : List Value) (K : Value → Blocks → Prop) : Prop := jFn Tryz.prog (hP C) L [] 64 #[.agg #[.int .i64 w, .int .i64 st, .int .i64 fi, .int .i64 ha, .int .i64 hb, .int .i64 co, .slice (some ⟨500, 0, none⟩) n0 c0, .int .i64 sa, .int .i64 sb, .int .i64 fa, .int .i64 fb], .agg #[.string nm, .slice (some ⟨501, 0, none⟩) n1 c1], .func (.func 66) #[.agg #[.int .i64 w, .int .i64 st, .int .i64 fi, .int .i64 ha, .int .i64 hb, .int .i64 co, .slice (some ⟨500, 0, none⟩) n0 c0, .int .i64 sa, .int .i64 sb, .int .i64 fa, .int .i64 fb]] #[]] (heapOf [(500, .sym l0 false 5), (501, .sym l1 false 1)]) (stateK K)
theorem geQ_text (C : Ct) (L : AtLoop) (w : Int) (st : Int) (fi : Int) (ha : Int) (hb : Int) (co : Int) (sa : Int) (sb : Int) (fa : Int) (fb : Int) (n0 : Nat) (c0 : Nat) (l0 : List Go.Value) (nm : ByteArray) (n1 : Nat) (c1 : Nat) (l1 : List Go.Value) (K : Go.Value → Blocks → Prop) : geQ C L w st fi ha hb co sa sb fa fb n0 c0 l0 nm n1 c1 l1 K =
 (L 50003 [(Prod.mk 5 (Pt 1000 0)), (Prod.mk 6 (Value.slice none 0 0)), (Prod.mk 7 (Pt 1001 0)), (Prod.mk 11 (Value.func (Go.Fn.func 107) [].toArray [(Pt 1002 0), (Pt 1003 0)].toArray))] [(Prod.mk 1000 (AObj.cells [(Value.func (Go.Fn.func 66) [(Value.agg [(vI w), (vI st), (vI fi), (vI ha), (vI hb), (vI co), (Sl 500 (n0) (c0)), (vI sa), (vI sb), (vI fa), (vI fb)].toArray)].toArray [].toArray)] 108 false 1)), (Prod.mk 1001 (AObj.cells [(Value.slice none 0 0)] 53 false 1)), (Prod.mk 1002 (AObj.cells [(vI w), (vI st), (vI fi), (vI ha), (vI hb), (vI co), (Sl 500 (n0) (c0)), (vI sa), (vI sb), (vI fa), (vI fb)] 89 false 1)), (Prod.mk 1003 (AObj.cells [(Value.string (nm)), (Sl 501 (n1) (c1))] 29 false 1)), (Prod.mk 500 (AObj.sym (l0) false 5)), (Prod.mk 501 (AObj.sym (l1) false 1))]) := by kernel_rfl
abbrev zeQ1 (x0 : Int) (x1 : Int) (x2 : Int) (x3 : Int) (x4 : Int) (x5 : Int) (n6 : Nat) (c7 : Nat) (x8 : Int) (x9 : Int) (x10 : Int) (x11 : Int) (x12 : Int) (x13 : Int) (x14 : Int) (x15 : Int) (x16 : Int) (x17 : Int) (n18 : Nat) (c19 : Nat) (x20 : Int) (x21 : Int) (x22 : Int) (x23 : Int) (s24 : ByteArray) (n25 : Nat) (c26 : Nat) (l27 : List Value) (l28 : List Value) : Slots × Blocks := ([(5, (Value.pointer (some ⟨1000, 0, none⟩))), (6, (Value.slice none 0 0)), (7, (Value.pointer (some ⟨1001, 0, none⟩))), (11, (Value.func (.func 107) #[] #[(Value.pointer (some ⟨1002, 0, none⟩)), (Value.pointer (some ⟨1003, 0, none⟩))]))], [(1000, (AObj.cells [(Value.func (.func 66) #[(Value.agg #[(Value.int .i64 x0), (Value.int .i64 x1), (Value.int .i64 x2), (Value.int .i64 x3), (Value.int .i64 x4), (Value.int .i64 x5), (Value.slice (some ⟨500, 0, none⟩) n6 c7), (Value.int .i64 x8), (Value.int .i64 x9), (Value.int .i64 x10), (Value.int .i64 x11)])] #[])] 108 false 1)), (1001, (AObj.cells [(Value.slice none 0 0)] 53 false 1)), (1002, (AObj.cells [(Value.int .i64 x12), (Value.int .i64 x13), (Value.int .i64 x14), (Value.int .i64 x15), (Value.int .i64 x16), (Value.int .i64 x17), (Value.slice (some ⟨500, 0, none⟩) n18 c19), (Value.int .i64 x20), (Value.int .i64 x21), (Value.int .i64 x22), (Value.int .i64 x23)] 89 false 1)), (1003, (AObj.cells [(Value.string s24), (Value.slice (some ⟨501, 0, none⟩) n25 c26)] 29 false 1)), (500, (AObj.sym l27 false 5)), (501, (AObj.sym l28 false 1))])
def heQ1 (x0 : Int) (x1 : Int) (x2 : Int) (x3 : Int) (x4 : Int) (x5 : Int) (n6 : Nat) (c7 : Nat) (x8 : Int) (x9 : Int) (x10 : Int) (x11 : Int) (x12 : Int) (x13 : Int) (x14 : Int) (x15 : Int) (x16 : Int) (x17 : Int) (n18 : Nat) (c19 : Nat) (x20 : Int) (x21 : Int) (x22 : Int) (x23 : Int) (s24 : ByteArray) (n25 : Nat) (c26 : Nat) (l27 : List Value) (l28 : List Value) (Kr : Kh) : Prop := rHead Tryz.prog 64 50003 [(5, (Value.pointer (some ⟨1000, 0, none⟩))), (6, (Value.slice none 0 0)), (7, (Value.pointer (some ⟨1001, 0, none⟩))), (11, (Value.func (.func 107) #[] #[(Value.pointer (some ⟨1002, 0, none⟩)), (Value.pointer (some ⟨1003, 0, none⟩))]))] [(1000, (AObj.cells [(Value.func (.func 66) #[(Value.agg #[(Value.int .i64 x0), (Value.int .i64 x1), (Value.int .i64 x2), (Value.int .i64 x3), (Value.int .i64 x4), (Value.int .i64 x5), (Value.slice (some ⟨500, 0, none⟩) n6 c7), (Value.int .i64 x8), (Value.int .i64 x9), (Value.int .i64 x10), (Value.int .i64 x11)])] #[])] 108 false 1)), (1001, (AObj.cells [(Value.slice none 0 0)] 53 false 1)), (1002, (AObj.cells [(Value.int .i64 x12), (Value.int .i64 x13), (Value.int .i64 x14), (Value.int .i64 x15), (Value.int .i64 x16), (Value.int .i64 x17), (Value.slice (some ⟨500, 0, none⟩) n18 c19), (Value.int .i64 x20), (Value.int .i64 x21), (Value.int .i64 x22), (Value.int .i64 x23)] 89 false 1)), (1003, (AObj.cells [(Value.string s24), (Value.slice (some ⟨501, 0, none⟩) n25 c26)] 29 false 1)), (500, (AObj.sym l27 false 5)), (501, (AObj.sym l28 false 1))] Kr
theorem heQ1_text (x0 : Int) (x1 : Int) (x2 : Int) (x3 : Int) (x4 : Int) (x5 : Int) (n6 : Nat) (c7 : Nat) (x8 : Int) (x9 : Int) (x10 : Int) (x11 : Int) (x12 : Int) (x13 : Int) (x14 : Int) (x15 : Int) (x16 : Int) (x17 : Int) (n18 : Nat) (c19 : Nat) (x20 : Int) (x21 : Int) (x22 : Int) (x23 : Int) (s24 : ByteArray) (n25 : Nat) (c26 : Nat) (l27 : List Go.Value) (l28 : List Go.Value) (Kr : Kh) : heQ1 x0 x1 x2 x3 x4 x5 n6 c7 x8 x9 x10 x11 x12 x13 x14 x15 x16 x17 n18 c19 x20 x21 x22 x23 s24 n25 c26 l27 l28 Kr =
 (Kr 107 [(Value.func (Go.Fn.yield 915) [].toArray [].toArray), (Pt 500 0), (Pt 501 0)] [(Prod.mk 500 (AObj.cells [(vI x12), (vI x13), (vI x14), (vI x15), (vI x16), (vI x17), (Sl 502 (n18) (c19)), (vI x20), (vI x21), (vI x22), (vI x23)] 89 false 1)), (Prod.mk 501 (AObj.cells [(Value.string (s24)), (Sl 503 (n25) (c26))] 29 false 1)), (Prod.mk 502 (AObj.sym (l27) false 5)), (Prod.mk 503 (AObj.sym (l28) false 1))] [(Prod.mk 5 (Pt 1000 0)), (Prod.mk 6 (Value.slice none 0 0)), (Prod.mk 7 (Pt 1001 0)), (Prod.mk 1000000 (Value.map (some 1002)))] [(Prod.mk 1000 (AObj.cells [(Value.func (Go.Fn.func 66) [(Value.agg [(vI x0), (vI x1), (vI x2), (vI x3), (vI x4), (vI x5), (Sl 500 (n6) (c7)), (vI x8), (vI x9), (vI x10), (vI x11)].toArray)].toArray [].toArray)] 108 false 1)), (Prod.mk 1001 (AObj.cells [(Value.slice none 0 0)] 53 false 1)), (Prod.mk 1002 AObj.deferred), (Prod.mk 500 (AObj.sym (l27) false 5))]) := by kernel_rfl
abbrev zeQ2 (x0 : Int) (x1 : Int) (x2 : Int) (x3 : Int) (x4 : Int) (x5 : Int) (n6 : Nat) (c7 : Nat) (x8 : Int) (x9 : Int) (x10 : Int) (x11 : Int) (l12 : List Value) : Slots × Blocks := ([(5, (Value.pointer (some ⟨1000, 0, none⟩))), (6, (Value.slice none 0 0)), (7, (Value.pointer (some ⟨1001, 0, none⟩))), (1000000, (Go.Value.map (Option.some 1002)))], [(1000, (AObj.cells [(Value.func (.func 66) #[(Value.agg #[(Value.int .i64 x0), (Value.int .i64 x1), (Value.int .i64 x2), (Value.int .i64 x3), (Value.int .i64 x4), (Value.int .i64 x5), (Value.slice (some ⟨500, 0, none⟩) n6 c7), (Value.int .i64 x8), (Value.int .i64 x9), (Value.int .i64 x10), (Value.int .i64 x11)])] #[])] 108 false 1)), (1001, (AObj.cells [(Value.slice none 0 0)] 53 false 1)), (1002, AObj.deferred), (500, (AObj.sym l12 false 5))])
def weQ2 (C : Ct) (x0 : Int) (x1 : Int) (x2 : Int) (x3 : Int) (x4 : Int) (x5 : Int) (n6 : Nat) (c7 : Nat) (x8 : Int) (x9 : Int) (x10 : Int) (x11 : Int) (l12 : List Value) (y0 : Int) (y1 : Int) (y2 : Int) (B : Bx) (X : Ex) : Prop := rRound Tryz.prog (hP C) 64 50003 [(5, (Value.pointer (some ⟨1000, 0, none⟩))), (6, (Value.slice none 0 0)), (7, (Value.pointer (some ⟨1001, 0, none⟩))), (1000000, (Go.Value.map (Option.some 1002)))] [(1000, (AObj.cells [(Value.func (.func 66) #[(Value.agg #[(Value.int .i64 x0), (Value.int .i64 x1), (Value.int .i64 x2), (Value.int .i64 x3), (Value.int .i64 x4), (Value.int .i64 x5), (Value.slice (some ⟨500, 0, none⟩) n6 c7), (Value.int .i64 x8), (Value.int .i64 x9), (Value.int .i64 x10), (Value.int .i64 x11)])] #[])] 108 false 1)), (1001, (AObj.cells [(Value.slice none 0 0)] 53 false 1)), (1002, AObj.deferred), (500, (AObj.sym l12 false 5))] [(.agg [(.val (.int .i64 y0)), (.val (.int .i64 y1)), (.val (.int .i64 y2))])] B X
theorem weQ2_text (C : Ct) (x0 : Int) (x1 : Int) (x2 : Int) (x3 : Int) (x4 : Int) (x5 : Int) (n6 : Nat) (c7 : Nat) (x8 : Int) (x9 : Int) (x10 : Int) (x11 : Int) (l12 : List Go.Value) (y0 : Int) (y1 : Int) (y2 : Int) (B : Bx) (X : Ex) : weQ2 C x0 x1 x2 x3 x4 x5 n6 c7 x8 x9 x10 x11 l12 y0 y1 y2 B X =
 (∀ caps : Nat → Nat,
 (((Qv (Value.agg [(vI y0), (vI y1), (vI y2)].toArray)) ∧
 ((Qv (Value.func (Go.Fn.func 66) [(Value.agg [(vI x0), (vI x1), (vI x2), (vI x3), (vI x4), (vI x5), (Sl 500 (n6) (c7)), (vI x8), (vI x9), (vI x10), (vI x11)].toArray)].toArray [].toArray)) ∧
 ((Qv (Value.slice none 0 0)) ∧
 True))) ∧
 (bcase (decide (0 + n6 * 5 ≤ List.length l12))
 (∃ n1 : Int,
 (∃ n2 : Int,
 ((Says C 66 [(D.agg [(D.val (vI x0)), (D.val (vI x1)), (D.val (vI x2)), (D.val (vI x3)), (D.val (vI x4)), (D.val (vI x5)), (D.sl (n6) 5 (List.take (n6 * 5) (List.drop 0 l12))), (D.val (vI x8)), (D.val (vI x9)), (D.val (vI x10)), (D.val (vI x11))]), (D.agg [(D.val (vI y0)), (D.val (vI y1)), (D.val (vI y2))])] [(D.agg [(D.val (vI n1)), (D.val (vI n2))])]) ∧
 ((((Qv (Sl 1004 1 1)) ∧
 (Qv (some (AObj.cells [(vI n1), (vI n2)] 23 false 2)))) ∧
 ((Qv (Value.slice none 0 0)) ∧
 True)) ∧
 (True ∧
 (True ∧
 (B [(Prod.mk 5 (Pt 1000 0)), (Prod.mk 6 (Value.slice none 0 0)), (Prod.mk 7 (Pt 1001 0)), (Prod.mk 1000000 (Value.map (some 1002)))] [(Prod.mk 1000 (AObj.cells [(Value.func (Go.Fn.func 66) [(Value.agg [(vI x0), (vI x1), (vI x2), (vI x3), (vI x4), (vI x5), (Sl 500 (n6) (c7)), (vI x8), (vI x9), (vI x10), (vI x11)].toArray)].toArray [].toArray)] 108 false 1)), (Prod.mk 1001 (AObj.cells [(Sl 1003 1 1)] 53 false 1)), (Prod.mk 1002 AObj.deferred), (Prod.mk 500 (AObj.sym (l12) false 5)), (Prod.mk 1003 (AObj.sym [(vI n1), (vI n2)] true 2))])))))))
 False))) := by kernel_rfl
abbrev zeQ4 (x0 : Int) (x1 : Int) (x2 : Int) (x3 : Int) (x4 : Int) (x5 : Int) (n6 : Nat) (c7 : Nat) (x8 : Int) (x9 : Int) (x10 : Int) (x11 : Int) (n12 : Nat) (l13 : List Value) (l14 : List Value) : Slots × Blocks := ([(5, (Value.pointer (some ⟨1000, 0, none⟩))), (6, (Value.slice none 0 0)), (7, (Value.pointer (some ⟨1001, 0, none⟩))), (1000000, (Go.Value.map (Option.some 1002)))], [(1000, (AObj.cells [(Value.func (.func 66) #[(Value.agg #[(Value.int .i64 x0), (Value.int .i64 x1), (Value.int .i64 x2), (Value.int .i64 x3), (Value.int .i64 x4), (Value.int .i64 x5), (Value.slice (some ⟨500, 0, none⟩) n6 c7), (Value.int .i64 x8), (Value.int .i64 x9), (Value.int .i64 x10), (Value.int .i64 x11)])] #[])] 108 false 1)), (1001, (AObj.cells [(Value.slice (some ⟨1003, 0, none⟩) n12 n12)] 53 false 1)), (1002, AObj.deferred), (500, (AObj.sym l13 false 5)), (1003, (AObj.sym l14 true 2))])
def weQ4 (C : Ct) (x0 : Int) (x1 : Int) (x2 : Int) (x3 : Int) (x4 : Int) (x5 : Int) (n6 : Nat) (c7 : Nat) (x8 : Int) (x9 : Int) (x10 : Int) (x11 : Int) (n12 : Nat) (l13 : List Value) (l14 : List Value) (y0 : Int) (y1 : Int) (y2 : Int) (B : Bx) (X : Ex) : Prop := rRound Tryz.prog (hP C) 64 50003 [(5, (Value.pointer (some ⟨1000, 0, none⟩))), (6, (Value.slice none 0 0)), (7, (Value.pointer (some ⟨1001, 0, none⟩))), (1000000, (Go.Value.map (Option.some 1002)))] [(1000, (AObj.cells [(Value.func (.func 66) #[(Value.agg #[(Value.int .i64 x0), (Value.int .i64 x1), (Value.int .i64 x2), (Value.int .i64 x3), (Value.int .i64 x4), (Value.int .i64 x5), (Value.slice (some ⟨500, 0, none⟩) n6 c7), (Value.int .i64 x8), (Value.int .i64 x9), (Value.int .i64 x10), (Value.int .i64 x11)])] #[])] 108 false 1)), (1001, (AObj.cells [(Value.slice (some ⟨1003, 0, none⟩) n12 n12)] 53 false 1)), (1002, AObj.deferred), (500, (AObj.sym l13 false 5)), (1003, (AObj.sym l14 true 2))] [(.agg [(.val (.int .i64 y0)), (.val (.int .i64 y1)), (.val (.int .i64 y2))])] B X
theorem weQ4_text (C : Ct) (x0 : Int) (x1 : Int) (x2 : Int) (x3 : Int) (x4 : Int) (x5 : Int) (n6 : Nat) (c7 : Nat) (x8 : Int) (x9 : Int) (x10 : Int) (x11 : Int) (n12 : Nat) (l13 : List Go.Value) (l14 : List Go.Value) (y0 : Int) (y1 : Int) (y2 : Int) (B : Bx) (X : Ex) : weQ4 C x0 x1 x2 x3 x4 x5 n6 c7 x8 x9 x10 x11 n12 l13 l14 y0 y1 y2 B X =
 (∀ caps : Nat → Nat,
 (((Qv (Value.agg [(vI y0), (vI y1), (vI y2)].toArray)) ∧
 ((Qv (Value.func (Go.Fn.func 66) [(Value.agg [(vI x0), (vI x1), (vI x2), (vI x3), (vI x4), (vI x5), (Sl 500 (n6) (c7)), (vI x8), (vI x9), (vI x10), (vI x11)].toArray)].toArray [].toArray)) ∧
 ((Qv (Sl 1003 (n12) (n12))) ∧
 True))) ∧
 (bcase (decide (0 + n6 * 5 ≤ List.length l13))
 (∃ n1 : Int,
 (∃ n2 : Int,
 ((Says C 66 [(D.agg [(D.val (vI x0)), (D.val (vI x1)), (D.val (vI x2)), (D.val (vI x3)), (D.val (vI x4)), (D.val (vI x5)), (D.sl (n6) 5 (List.take (n6 * 5) (List.drop 0 l13))), (D.val (vI x8)), (D.val (vI x9)), (D.val (vI x10)), (D.val (vI x11))]), (D.agg [(D.val (vI y0)), (D.val (vI y1)), (D.val (vI y2))])] [(D.agg [(D.val (vI n1)), (D.val (vI n2))])]) ∧
 ((((Qv (Sl 1005 1 1)) ∧
 (Qv (some (AObj.cells [(vI n1), (vI n2)] 23 false 2)))) ∧
 ((Qv (Sl 1003 (n12) (n12))) ∧
 True)) ∧
 (bcase (decide (n12 < n12 + 1))
 (bcase (decide ((2 * (n12 + 1) + 768) * 16 ≤ 281474976710656))
 (bcase (decide (n12 + 1 ≤ 1099511627776))
 (bcase (decide (0 + n12 * 2 ≤ List.length l14))
 (bcase (decide (0 + n12 * 2 = List.length l14))
 (True ∧
 (True ∧
 (B [(Prod.mk 5 (Pt 1000 0)), (Prod.mk 6 (Value.slice none 0 0)), (Prod.mk 7 (Pt 1001 0)), (Prod.mk 1000000 (Value.map (some 1002)))] [(Prod.mk 1000 (AObj.cells [(Value.func (Go.Fn.func 66) [(Value.agg [(vI x0), (vI x1), (vI x2), (vI x3), (vI x4), (vI x5), (Sl 500 (n6) (c7)), (vI x8), (vI x9), (vI x10), (vI x11)].toArray)].toArray [].toArray)] 108 false 1)), (Prod.mk 1001 (AObj.cells [(Sl 1003 (n12 + 1) (n12 + 1))] 53 false 1)), (Prod.mk 1002 AObj.deferred), (Prod.mk 500 (AObj.sym (l13) false 5)), (Prod.mk 1003 (AObj.sym ((List.take (n12 * 2) (List.drop 0 l14)) ++ [(vI n1), (vI n2)]) true 2))])))
 False)
 False)
 False)
 False)
 False)))))
 False))) := by kernel_rfl
def neQ5 (C : Ct) (L : AtLoop) (x0 : Int) (x1 : Int) (x2 : Int) (x3 : Int) (x4 : Int) (x5 : Int) (n6 : Nat) (c7 : Nat) (x8 : Int) (x9 : Int) (x10 : Int) (x11 : Int) (n12 : Nat) (l13 : List Value) (l14 : List Value) (K : Value → Blocks → Prop) : Prop := jNext Tryz.prog (hP C) L [] 64 50003 .normal [(5, (Value.pointer (some ⟨1000, 0, none⟩))), (6, (Value.slice none 0 0)), (7, (Value.pointer (some ⟨1001, 0, none⟩))), (1000000, (Go.Value.map (Option.some 1002)))] [(1000, (AObj.cells [(Value.func (.func 66) #[(Value.agg #[(Value.int .i64 x0), (Value.int .i64 x1), (Value.int .i64 x2), (Value.int .i64 x3), (Value.int .i64 x4), (Value.int .i64 x5), (Value.slice (some ⟨500, 0, none⟩) n6 c7), (Value.int .i64 x8), (Value.int .i64 x9), (Value.int .i64 x10), (Value.int .i64 x11)])] #[])] 108 false 1)), (1001, (AObj.cells [(Value.slice (some ⟨1003, 0, none⟩) n12 n12)] 53 false 1)), (1002, AObj.deferred), (500, (AObj.sym l13 false 5)), (1003, (AObj.sym l14 true 2))] (stateK K)
theorem neQ5_text (C : Ct) (L : AtLoop) (x0 : Int) (x1 : Int) (x2 : Int) (x3 : Int) (x4 : Int) (x5 : Int) (n6 : Nat) (c7 : Nat) (x8 : Int) (x9 : Int) (x10 : Int) (x11 : Int) (n12 : Nat) (l13 : List Go.Value) (l14 : List Go.Value) (K : Go.Value → Blocks → Prop) : neQ5 C L x0 x1 x2 x3 x4 x5 n6 c7 x8 x9 x10 x11 n12 l13 l14 K =
 (K (Sl 1000 (n12) (n12)) [(Prod.mk 1000 (AObj.sym (l14) true 2))]) := by kernel_rfl
end Go.Proofs.G5o.R

/- Chapter 3: the draughts of a schedule, and what is collected of them. -/
namespace Go.Proofs.G5o
open Go Go.Abs Go.Proofs Go.Str
set_option maxRecDepth 100000
theorem hokRE : HandlerOK Tryz.prog (R.hE C5) := handlerX_ok mixed (fun g h he => by cases he) (by decide) 6
theorem preROK : PreOK Tryz.prog (R.preP C5) := by
  intro g h he args ats H k hk
  unfold R.preP at he
  rcases ite_so he with ⟨_, rfl⟩ | he
  · exact saidH_ok (fun _ _ _ h => h) _ _ _ _ _ hk
  · cases he
theorem hokRP : HandlerOK Tryz.prog (R.hP C5) := handlerX_ok mixed preROK (by decide) 6
/-- the draughts of a schedule, as they are handed on -/
def drows (b : Int) (k : Nat) : List Int → List (List D)
  | [] => []
  | h :: l => [drD k b h] :: drows h (k + 1) l
theorem drows_drop {b : Int} {k : Nat} {th : List Int} (h : k < th.length) : drows b k (th.drop k) = [drD k b th[k]] :: drows th[k] (k + 1) (th.drop (k + 1)) := by
  rw [List.drop_eq_getElem_cons h]; rfl
theorem bfr_succ {b : Int} {th : List Int} {k : Nat} (h : k < th.length) : bfr b th (k + 1) = th[k] := by simp [bfr, List.getD, List.getElem?_eq_getElem h]
theorem runDo (r : Ru) (c0 c1 : Nat) (nm : List UInt8) (th : List Int) (hth : th.length < 1000000000) :
    CallS Tryz.prog 107 [.func (.yield 915) #[] #[], .pointer (some ⟨500, 0, none⟩), .pointer (some ⟨501, 0, none⟩)] [(915, .yld false (some (drows r.st 0 th))), (500, .cells [.int .i64 r.w, .int .i64 r.st, .int .i64 r.fi, .int .i64 r.hlo, .int .i64 r.hhi, .int .i64 r.co, .slice (some ⟨502, 0, none⟩) r.ss.length c0, .int .i64 r.slo, .int .i64 r.shi, .int .i64 r.flo, .int .i64 r.fhi] 89 false 1), (501, .cells [.string (bs nm), .slice (some ⟨503, 0, none⟩) th.length c1] 29 false 1), (502, .sym (vs5 r.ss) false 5), (503, .sym (vi th) false 1)] EndY := by
  let st : Nat → Slots × Blocks := fun i => R.zDo1 (bfr r.st th i) th.length c1 th.length i (drows (bfr r.st th i) i (th.drop i)) (vi th)
  refine callS_JR hokRE mixed [] (L := fun _ x bl => ∃ i, i ≤ th.length ∧ st i = (x, bl)) Tryz.func107 rfl (.inr rfl) (pts := [0]) (loops := [0]) (by kernel_rfl) (by kernel_rfl) ?_ (fun id q1 q2 => absurd q1 q2) (fun id hid hlt => ?_) (fun id hid hlt => absurd (by obtain rfl := List.mem_singleton.1 hid; decide) hlt)
  · show R.gDo C5 _ (drows r.st 0 th) r.w r.st r.fi r.hlo r.hhi r.co r.slo r.shi r.flo r.fhi r.ss.length c0 (vs5 r.ss) (bs nm) th.length c1 (vi th) _
    rw [R.gDo_text]
    exact ⟨0, Nat.zero_le _, rfl⟩
  · obtain rfl := List.mem_singleton.1 hid
    refine ⟨⟨Nat, st, fun i => i ≤ th.length, fun i => th.length - i, fun s bl h => h, [], [], by kernel_rfl, by kernel_rfl, by decide, ?_⟩⟩
    intro i hi
    refine ⟨fun _ _ _ => False, ?_, (fun id2 q1 _ => by cases q1), (fun id2 q1 => by cases q1), (fun id2 q1 => by cases q1)⟩
    show R.rDo1 C5 _ (bfr r.st th i) th.length c1 th.length i (drows (bfr r.st th i) i (th.drop i)) (vi th) _ _ _
    rw [R.rDo1_text]
    refine bc_dec (fun h => ?_) (fun h => ?_)
    · have hi2 : i < th.length := by omega
      simp only [bc_t h, bc_t (show (0 : Int) ≤ (i : Int) by omega), Int.toNat_natCast, at1 (vi_at th i hi2)]
      refine ⟨_, ⟨drows_drop hi2⟩, ⟨i + 1, hi2, by omega, ?_⟩, ⟨none, rfl, .inr rfl⟩⟩
      show R.zDo1 _ _ _ _ _ _ _ = _
      rw [bfr_succ hi2, w64 (by omega) (by omega)]; rfl
    · show (if 0 = 0 then _ else _)
      rw [if_pos rfl]
      show R.nDo2 C5 _ (drows (bfr r.st th i) i (th.drop i)) _
      rw [R.nDo2_text]
      have : i = th.length := by omega
      have e : drows (bfr r.st th i) i (th.drop i) = [] := by rw [this, List.drop_length, drows]
      rw [e]
      exact ⟨some [], rfl, .inl rfl⟩
end Go.Proofs.G5o

/- Chapter 3: whether a schedule holds, in data. -/
namespace Go.Proofs.G5o
open Go Go.Abs Go.Proofs Go.Str
set_option maxRecDepth 100000
structure VR (r : Ru) (th : List Int) : Prop where
  v : VS r th
  sts : ∀ s ∈ r.ss, stB s
theorem VR.dr {r : Ru} {th : List Int} (v : VR r th) {i : Nat} (hi : i < th.length) : DrOK r i (bfr r.st th i) th[i] := by
  have h := v.v.at hi
  have hl := v.v.len
  exact ⟨v.v.rng, v.sts, by omega, v.v.n6, by omega, by omega, by omega⟩
end Go.Proofs.G5o

/- Chapter 3: what is rolled, in data. -/
namespace Go.Proofs.G5o
open Go Go.Abs Go.Proofs Go.Str
set_option maxRecDepth 100000
theorem conrf (r : Ru) (b h s f : Int) (hw : 1 ≤ r.w ∧ r.w ≤ 2500) (_hl : r.ss.length < 1000000000) (h1 : 1 ≤ h) (hb : h ≤ b) (b1 : b ≤ 1000) (hs : 0 ≤ s ∧ s ≤ 100) (hf : 0 ≤ f ∧ f ≤ 100) : C5 71 [r.d, dI b, dI h, dI s, dI f] [dI (frc r.w b h s f)] := by
  refine con_flat hokP mixed Tryz.func71 rfl (by show 1 ≤ 400; omega) rfl (by kernel_rfl) (fun caps => ?_)
  show grf _ _ r.w r.st r.fi r.hlo r.hhi r.co r.ss.length (caps 500) (vs5 r.ss) r.slo r.shi r.flo r.fhi b h s f _
  rw [grf_text]
  have e := frc_bd hw h1 hb b1 hs hf
  refine bc_beq (fun g => ?_) (fun g => ?_)
  · show [dI 0] = _; rw [frc, if_pos g]
  · rw [w64 (z := b - h) (by omega) (by omega), w64 (z := s * (b - h)) (by omega) (by omega), w64 (z := b + h) (by omega) (by omega), w64 (z := f * (b + h)) (by omega) (by omega), w64 (z := s * (b - h) + f * (b + h)) (by omega) (by omega), w64 (by omega) (by omega)]
    try simp only [Qv, true_and]
    rw [frc, if_neg g]
theorem conrt (r : Ru) (b h s f : Int) (hw : 1 ≤ r.w ∧ r.w ≤ 2500) (hl : r.ss.length < 1000000000) (h1 : 1 ≤ h) (hb : h ≤ b) (b1 : b ≤ 1000) (hs : 0 ≤ s ∧ s ≤ 100) (hf : 0 ≤ f ∧ f ≤ 100) : C5 72 [r.d, dI b, dI h, dI s, dI f] [dI (frc r.w b h s f * (b - h))] := by
  refine con_flat hokP mixed Tryz.func72 rfl (by show 1 ≤ 400; omega) rfl (by kernel_rfl) (fun caps => ?_)
  show grt _ _ r.w r.st r.fi r.hlo r.hhi r.co r.ss.length (caps 500) (vs5 r.ss) r.slo r.shi r.flo r.fhi b h s f _
  rw [grt_text, bc_t (v5le r.ss), v5_whole]
  have e := (frc_bd hw h1 hb b1 hs hf).2.2.2
  have e1 := mulB 750000000 1000 e (show 0 ≤ b - h ∧ b - h ≤ 1000 by omega)
  refine ⟨_, ⟨conrf r b h s f hw hl h1 hb b1 hs hf⟩, ?_⟩
  rw [w64 (z := b - h) (by omega) (by omega), w64 (by omega) (by omega)]
  try simp only [Qv, true_and]
theorem conrh (r : Ru) (h s start lost : Int) (_hl : r.ss.length < 1000000000) (h1 : -1000 ≤ r.st - h ∧ r.st - h ≤ 1000) (hs : 0 ≤ s ∧ s ≤ 100) (h2 : 0 ≤ start ∧ start ≤ 20000) (h3 : 0 ≤ lost ∧ lost ≤ 100000) : C5 74 [r.d, dI h, dI s, dI start, dI lost] [dI (100 * (start - lost) + (r.st - h) * s)] := by
  refine con_flat hokP mixed Tryz.func74 rfl (by show 1 ≤ 400; omega) rfl (by kernel_rfl) (fun caps => ?_)
  show grh _ _ r.w r.st r.fi r.hlo r.hhi r.co r.ss.length (caps 500) (vs5 r.ss) r.slo r.shi r.flo r.fhi h s start lost _
  rw [grh_text]
  have e1 := mulS 1000 100 h1 hs
  rw [Int.mul_comm s, w64 (z := start - lost) (by omega) (by omega), w64 (z := 100 * (start - lost)) (by omega) (by omega), w64 (z := r.st - h) (by omega) (by omega), w64 (z := (r.st - h) * s) (by omega) (by omega), w64 (by omega) (by omega)]
/-! ### valid rules, schedules, materials -/
theorem stE_ok {s : Fv} (h : stE s = 0) : stB s ∧ s.d ≤ s.e := by
  unfold stE at h
  split at h
  · split at h
    · exact ⟨by assumption, by assumption⟩
    · simp at h
  · simp at h
theorem stsE_ok : ∀ {l : List Fv} {i : Int}, (stsE i l).2 = 0 → ∀ s ∈ l, stB s ∧ s.d ≤ s.e
  | [], _, _ => fun s hs => by cases hs
  | s :: r, i, h => by
    rw [stsE] at h
    split at h
    · rename_i h0
      intro t ht
      rcases List.mem_cons.1 ht with rfl | ht
      · exact stE_ok h0
      · exact stsE_ok h t ht
    · rename_i h0; exact absurd h h0
theorem vr_of {r : Ru} {nm : List UInt8} {th : List Int} (h1 : (chk r).2 = 0) (h2 : (schE r nm th).2 = 0) : VR r th := by
  have v := vs_of h1 h2
  refine ⟨v, fun s hs => ?_⟩
  rw [chk_cnt v.rng v.ord] at h1
  have hc : cntE r.ss.length = 0 := by
    have := v.n0; have := v.n6
    rw [cntE, if_neg (by omega), if_neg (by omega)]
  rw [if_pos hc] at h1
  exact (stsE_ok h1 s hs).1
end Go.Proofs.G5o

/- Chapter 3: whether a schedule holds; temperatures of all materials. -/
namespace Go.Proofs.G5o
open Go Go.Abs Go.Proofs Go.Str
set_option maxRecDepth 100000
/-- spans as cells -/
def vq : List ((Int × Int) × (Int × Int)) → List Value
  | [] => []
  | p :: r => .int .i64 p.1.1 :: .int .i64 p.1.2 :: .int .i64 p.2.1 :: .int .i64 p.2.2 :: vq r
@[simp] theorem vq_length : ∀ l : List ((Int × Int) × (Int × Int)), (vq l).length = l.length * 4
  | [] => rfl
  | p :: r => by simp only [vq, List.length_cons, vq_length r]; omega
theorem vq_snoc {l : List ((Int × Int) × (Int × Int))} {i : Nat} (h : i < l.length) {a b : Int × Int} (e : l[i] = (a, b)) : List.take (i * 4) (List.drop 0 (vq (l.take i))) ++ [.int .i64 a.1, .int .i64 a.2, .int .i64 b.1, .int .i64 b.2] = vq (l.take (i + 1)) := by
  rw [List.take_succ_eq_append_getElem h, List.drop_zero, List.take_of_length_le (by simp; omega), e]
  generalize l.take i = m
  induction m with
  | nil => rfl
  | cons p r ih => simp only [List.cons_append, vq, ih]
/-- the spans of the temperatures after each stand -/
def spans (r : Ru) (th : List Int) : List ((Int × Int) × (Int × Int)) := (List.range th.length).map fun i => (low (hL r i (th.getD i 0)) 100, low (hH r i (th.getD i 0)) 100)
theorem spans_len (r : Ru) (th : List Int) : (spans r th).length = th.length := by simp [spans]
theorem spans_at {r : Ru} {th : List Int} {i : Nat} (hi : i < th.length) : (spans r th)[i]'(by rw [spans_len]; exact hi) = (low (hL r i th[i]) 100, low (hH r i th[i]) 100) := by
  simp only [spans, List.getElem_map, List.getElem_range, getD_at hi]
theorem runEH (r : Ru) (c0 c1 : Nat) (nm : List UInt8) (th : List Int) (w : VR r th) :
    freshS Tryz.prog 67 4 [.agg #[.int .i64 r.w, .int .i64 r.st, .int .i64 r.fi, .int .i64 r.hlo, .int .i64 r.hhi, .int .i64 r.co, .slice (some ⟨500, 0, none⟩) r.ss.length c0, .int .i64 r.slo, .int .i64 r.shi, .int .i64 r.flo, .int .i64 r.fhi], .agg #[.string (bs nm), .slice (some ⟨501, 0, none⟩) th.length c1], .func (.func 68) #[] #[.pointer (some ⟨502, 0, none⟩)]] [(500, .sym (vs5 r.ss) false 5), (501, .sym (vi th) false 1), (502, .cells [.int .i64 r.w, .int .i64 r.st, .int .i64 r.fi, .int .i64 r.hlo, .int .i64 r.hhi, .int .i64 r.co, .slice (some ⟨500, 0, none⟩) r.ss.length c0, .int .i64 r.slo, .int .i64 r.shi, .int .i64 r.flo, .int .i64 r.fhi] 89 false 11)] th.length (vq (spans r th)) := by
  have v := w.v
  have hl := v.len
  have h6 := v.n6
  have h0 := v.n0
  let st : Nat → Slots × Blocks := fun i => match i with
    | 0 => R.zeH2 r.w r.st r.fi r.hlo r.hhi r.co r.ss.length c0 r.slo r.shi r.flo r.fhi (vs5 r.ss)
    | i + 1 => R.zeH4 (i + 1) r.w r.st r.fi r.hlo r.hhi r.co r.ss.length c0 r.slo r.shi r.flo r.fhi (vq ((spans r th).take (i + 1))) (vs5 r.ss)
  refine callS_JR hokRP mixed [] (L := fun _ s b => R.zeH1 r.w r.st r.fi r.hlo r.hhi r.co r.ss.length c0 r.slo r.shi r.flo r.fhi (bs nm) th.length c1 r.w r.st r.fi r.hlo r.hhi r.co r.ss.length c0 r.slo r.shi r.flo r.fhi (vs5 r.ss) (vi th) = (s, b)) Tryz.func67 rfl (.inl rfl) (pts := [50003]) (loops := [50003]) (by kernel_rfl) (by kernel_rfl) ?_ (fun id q1 q2 => absurd q1 q2) (fun id hid hlt => absurd hlt (by obtain rfl := List.mem_singleton.1 hid; decide)) (fun id hid hlt => ?_)
  · show R.geH C5 _ r.w r.st r.fi r.hlo r.hhi r.co r.slo r.shi r.flo r.fhi r.ss.length c0 (vs5 r.ss) (bs nm) th.length c1 (vi th) _
    rw [R.geH_text]
  · obtain rfl := List.mem_singleton.1 hid
    refine ⟨⟨?_⟩⟩
    rintro s b e
    cases e
    show R.heH1 r.w r.st r.fi r.hlo r.hhi r.co r.ss.length c0 r.slo r.shi r.flo r.fhi (bs nm) th.length c1 r.w r.st r.fi r.hlo r.hhi r.co r.ss.length c0 r.slo r.shi r.flo r.fhi (vs5 r.ss) (vi th) _
    rw [R.heH1_text]
    refine ⟨drows r.st 0 th, fun rest s b => ∃ i, i ≤ th.length ∧ rest = drows (bfr r.st th i) i (th.drop i) ∧ st i = (s, b), runDo r c0 c1 nm th (by omega), ⟨0, Nat.zero_le _, rfl, rfl⟩, ?_, ?_⟩
    · rintro row rest s b ⟨i, hi, e1, e2⟩
      have hi2 : i < th.length := by
        refine Nat.lt_of_le_of_ne hi (fun h => ?_)
        rw [h, List.drop_length] at e1; cases e1
      rw [drows_drop hi2] at e1
      obtain ⟨rfl, rfl⟩ := List.cons.inj e1
      have hd := w.dr hi2
      have hh := hd.ht
      have go : C5 52 [dI (hL r i th[i]), dI 100] [.agg [dI (low (hL r i th[i]) 100).1, dI (low (hL r i th[i]) 100).2]] := conlT _ _ (by omega) (by omega)
      have go2 : C5 52 [dI (hH r i th[i]), dI 100] [.agg [dI (low (hH r i th[i]) 100).1, dI (low (hH r i th[i]) 100).2]] := conlT _ _ (by omega) (by omega)
      have e := vq_snoc (l := spans r th) (i := i) (by rw [spans_len]; exact hi2) (spans_at hi2)
      cases i with
      | zero =>
        cases e2
        show R.weH2 C5 r.w r.st r.fi r.hlo r.hhi r.co r.ss.length c0 r.slo r.shi r.flo r.fhi (vs5 r.ss) ((0 : Nat) : Int) (bfr r.st th 0) th[0] _ _
        rw [R.weH2_text]
        intro caps
        rw [bc_t (v5le r.ss), v5_whole]
        simp only [Qv, eq_self, true_and, and_true]
        refine ⟨_, _, ⟨conhe r 0 (bfr r.st th 0) th[0] hd⟩, _, _, ⟨go⟩, _, _, ⟨go2⟩, 1, hi2, by rw [bfr_succ hi2], ?_⟩
        show R.zeH4 _ _ _ _ _ _ _ _ _ _ _ _ _ _ _ = _
        rw [← e]; rfl
      | succ i =>
        cases e2
        show R.weH4 C5 (i + 1) r.w r.st r.fi r.hlo r.hhi r.co r.ss.length c0 r.slo r.shi r.flo r.fhi (vq ((spans r th).take (i + 1))) (vs5 r.ss) ((i + 1 : Nat) : Int) (bfr r.st th (i + 1)) th[i + 1] _ _
        rw [R.weH4_text]
        intro caps
        rw [bc_t (v5le r.ss), v5_whole]
        simp only [Qv, eq_self, true_and, and_true]
        have el : (vq ((spans r th).take (i + 1))).length = (i + 1) * 4 := by
          rw [vq_length, List.length_take, spans_len]; omega
        refine ⟨_, _, ⟨conhe r (i + 1) (bfr r.st th (i + 1)) th[i + 1] hd⟩, _, _, ⟨go⟩, _, _, ⟨go2⟩, ?_⟩
        rw [bc_t (show i + 1 < i + 1 + 1 by omega), bc_t (show (2 * (i + 1 + 1) + 768) * 32 ≤ 281474976710656 by omega), bc_t (show i + 1 + 1 ≤ 1099511627776 by omega), bc_t (show 0 + (i + 1) * 4 ≤ (vq ((spans r th).take (i + 1))).length by omega), bc_t (show 0 + (i + 1) * 4 = (vq ((spans r th).take (i + 1))).length by omega)]
        refine ⟨i + 2, hi2, by rw [bfr_succ hi2], ?_⟩
        show R.zeH4 _ _ _ _ _ _ _ _ _ _ _ _ _ _ _ = _
        rw [← e]
    · rintro s b ⟨i, hi, e1, e2⟩
      have hi2 : i = th.length := Decidable.byContradiction fun h => by
        rw [drows_drop (show i < th.length by omega)] at e1; cases e1
      obtain ⟨j, rfl⟩ : ∃ j, i = j + 1 := ⟨i - 1, by omega⟩
      cases e2
      show R.neH5 C5 _ (j + 1) r.w r.st r.fi r.hlo r.hhi r.co r.ss.length c0 r.slo r.shi r.flo r.fhi (vq ((spans r th).take (j + 1))) (vs5 r.ss) _
      rw [R.neH5_text, List.take_of_length_le (by rw [spans_len]; omega), hi2]
      exact ⟨rfl, rfl⟩
end Go.Proofs.G5o

/- Chapter 3: valid rules and schedules. -/
namespace Go.Proofs.G5o
open Go Go.Abs Go.Proofs Go.Str
set_option maxRecDepth 100000
theorem schP_bad {r : Ru} {nm : List UInt8} {th : List Int} (h : (chk r).2 ≠ 0) : schP r nm th = (0, (chk r).2) := by rw [schP, if_neg h]
theorem schP_good {r : Ru} {nm : List UInt8} {th : List Int} (h : (chk r).2 = 0) : schP r nm th = schE r nm th := by rw [schP, if_pos h]
theorem chk_pos {r : Ru} (h1 : (chk r).2 = 0) : 0 < r.ss.length := by
  have hr : rngB r := Decidable.byContradiction fun h => by rw [chk_rng h] at h1; simp at h1
  have ho : ordB r := Decidable.byContradiction fun h => by rw [chk_ord hr h] at h1; simp at h1
  rw [chk_cnt hr ho] at h1
  have hc : cntE r.ss.length = 0 := Decidable.byContradiction fun h => by rw [if_neg h] at h1; exact h h1
  refine Nat.pos_of_ne_zero fun h => ?_
  rw [cntE, if_pos h] at hc; simp at hc
theorem schE_nil {r : Ru} (nm : List UInt8) (h0 : 0 < r.ss.length) : (schE r nm []).2 ≠ 0 := by
  rw [schE]
  split
  · rw [if_neg (by simp; omega)]; decide
  · decide
end Go.Proofs.G5o

/- Chapter 3: the reference's loads and margins, in data. -/
namespace Go.Proofs.G5o
open Go Go.Abs Go.Proofs Go.Str
set_option maxRecDepth 100000
/-- a pair for each stand, from the thicknesses before and after it -/
def tabl (f : Nat → Int → Int → Int × Int) (b : Int) (th : List Int) : List (Int × Int) := (List.range th.length).map fun i => f i (bfr b th i) (th.getD i 0)
theorem tabl_len (f : Nat → Int → Int → Int × Int) (b : Int) (th : List Int) : (tabl f b th).length = th.length := by simp [tabl]
theorem tabl_at {f : Nat → Int → Int → Int × Int} {b : Int} {th : List Int} {i : Nat} (hi : i < th.length) : (tabl f b th)[i]'(by rw [tabl_len]; exact hi) = f i (bfr b th i) th[i] := by
  simp only [tabl, List.getElem_map, List.getElem_range, getD_at hi]
def fP (r : Ru) : Nat → Int → Int → Int × Int := fun _ b h => (fl r b h, fh r b h)
def tP (r : Ru) : Nat → Int → Int → Int × Int := fun _ b h => (fl r b h * (b - h), fh r b h * (b - h))
theorem v5_d {l : List Fv} {k : Nat} (h : k < l.length) : At (vs5 l) (0 + k * 5 + 3) 1 [.int .i64 l[k].d] := by
  have e := vs5_all l k h
  refine ⟨by rw [vs5_length]; omega, ?_⟩
  rw [Nat.zero_add, ← List.drop_drop, vs5_drop, List.drop_eq_getElem_cons h, vs5_cons]
  simp [Fv.row]
theorem v5_e1 {l : List Fv} {k : Nat} (h : k < l.length) : At (vs5 l) (0 + k * 5 + 4) 1 [.int .i64 l[k].e] := by
  refine ⟨by rw [vs5_length]; omega, ?_⟩
  rw [Nat.zero_add, ← List.drop_drop, vs5_drop, List.drop_eq_getElem_cons h, vs5_cons]
  simp [Fv.row]
theorem conls (r : Ru) (k : Nat) (hk : k < r.ss.length) (h6 : r.ss.length ≤ 6) (hs : ∀ s ∈ r.ss, stB s) : C5 73 [r.d, dI k] [.agg [dI (sumD (r.ss.take (k + 1))), dI (sumE (r.ss.take (k + 1)))]] := by
  let inv : Nat × Nat × Int × Int → Prop := fun x => x.1 ≤ k + 1
  let st : Nat × Nat × Int × Int → Slots × Blocks := fun x => zls1 (k : Int) (x.1 : Int) r.w r.st r.fi r.hlo r.hhi r.co r.ss.length x.2.1 r.slo r.shi r.flo r.fhi x.2.2.1 x.2.2.2 (sumD (r.ss.take x.1)) (sumE (r.ss.take x.1)) (vs5 r.ss)
  refine con_of (L := fun _ s b => ∃ x, inv x ∧ st x = (s, b)) hokP mixed Tryz.func73 rfl (by show 1 ≤ 400; omega) rfl (ids := [0]) (by kernel_rfl) rfl (fun caps => ?_) (fun id hid => ?_)
  · show gls _ _ r.w r.st r.fi r.hlo r.hhi r.co r.ss.length (caps 500) (vs5 r.ss) r.slo r.shi r.flo r.fhi (k : Int) _
    rw [gls_text]
    exact ⟨(0, caps 500, 0, 0), Nat.zero_le _, rfl⟩
  · obtain rfl := List.mem_singleton.1 hid
    refine ⟨Nat × Nat × Int × Int, st, inv, fun x => k + 1 - x.1, ⟨fun s b h => h, by kernel_rfl, ?_⟩⟩
    rintro ⟨i, c1, y1, y2⟩ hi
    have hi : i ≤ k + 1 := hi
    show rls1 _ _ (k : Int) (i : Int) r.w r.st r.fi r.hlo r.hhi r.co r.ss.length c1 r.slo r.shi r.flo r.fhi y1 y2 (sumD (r.ss.take i)) (sumE (r.ss.take i)) (vs5 r.ss) _ _ _
    rw [rls1_text]
    refine bc_dec (fun h => ?_) (fun h => ?_)
    · have hi2 : i < r.ss.length := by omega
      have a1 : At (vs5 r.ss) (Go.Addr.off { block := 500, off := 0 + i * 5 } + 3) 1 _ := v5_d hi2
      have a2 : At (vs5 r.ss) (Go.Addr.off (Go.Addr.add { block := 500, off := 0 + i * 5 } 3) + 1) 1 _ := v5_e1 hi2
      have b1 := sum_bd hs (i + 1) (by omega)
      rw [sumD_snoc hi2, sumE_snoc hi2] at b1
      have b0 := sum_bd hs i (by omega)
      simp only [bc_t (show (0 : Int) ≤ (i : Int) by omega), bc_t (show (i : Int) < (r.ss.length : Int) by omega), Int.toNat_natCast, at1 a1, at1 a2, Qv, eq_self, true_and, and_true]
      refine ⟨rfl, (i + 1, c1, y1, y2), by show i + 1 ≤ k + 1; omega, by show k + 1 - (i + 1) < k + 1 - i; omega, ?_⟩
      show zls1 _ _ _ _ _ _ _ _ _ _ _ _ _ _ _ _ _ _ _ = _
      rw [sumD_snoc hi2, sumE_snoc hi2, w64 (z := sumD (r.ss.take i) + r.ss[i].d) (by omega) (by omega), w64 (z := sumE (r.ss.take i) + r.ss[i].e) (by omega) (by omega), w64 (by omega) (by omega)]
      rfl
    · show (if 0 = 0 then _ else _)
      rw [if_pos rfl]
      have hi2 : i = k + 1 := by omega
      show nls2 _ _ y1 y2 (sumD (r.ss.take i)) (sumE (r.ss.take i)) _
      rw [nls2_text, hi2]
theorem confc (r : Ru) (nm : List UInt8) (th : List Int) (v : VR r th) : C5 25 [r.d, scD nm th] [.sl th.length 2 (vp (tabl (fP r) r.st th))] := by
  have hl := v.v.len
  have h6 := v.v.n6
  have h0 := v.v.n0
  let inv : Nat × Nat × Nat → Prop := fun x => x.1 ≤ th.length
  let st : Nat × Nat × Nat → Slots × Blocks := fun x => match x.1 with
    | 0 => zfc1 0 r.w r.st r.fi r.hlo r.hhi r.co r.ss.length x.2.1 r.slo r.shi r.flo r.fhi (bs nm) th.length x.2.2 (vs5 r.ss) (vi th)
    | i + 1 => zfc2 (i + 1) ((i + 1 : Nat) : Int) r.w r.st r.fi r.hlo r.hhi r.co r.ss.length x.2.1 r.slo r.shi r.flo r.fhi (bs nm) th.length x.2.2 (vp ((tabl (fP r) r.st th).take (i + 1))) (vs5 r.ss) (vi th)
  refine con_of (L := fun _ s b => ∃ x, inv x ∧ st x = (s, b)) hokP mixed Tryz.func25 rfl (by show 2 ≤ 400; omega) rfl (ids := [0]) (by kernel_rfl) rfl (fun caps => ?_) (fun id hid => ?_)
  · show gfc _ _ r.w r.st r.fi r.hlo r.hhi r.co r.ss.length (caps 500) (vs5 r.ss) r.slo r.shi r.flo r.fhi (bs nm) th.length (caps 501) (vi th) _
    rw [gfc_text]
    exact ⟨(0, caps 500, caps 501), Nat.zero_le _, rfl⟩
  · obtain rfl := List.mem_singleton.1 hid
    refine ⟨Nat × Nat × Nat, st, inv, fun x => th.length - x.1, ⟨fun s b h => h, by kernel_rfl, ?_⟩⟩
    rintro ⟨i, c1, c2⟩ hi
    have hi : i ≤ th.length := hi
    cases i with
    | zero =>
      have h : 0 < th.length := by omega
      have hd := v.dr h
      show rfc1 _ _ ((0 : Nat) : Int) r.w r.st r.fi r.hlo r.hhi r.co r.ss.length c1 r.slo r.shi r.flo r.fhi (bs nm) th.length c2 (vs5 r.ss) (vi th) _ _ _
      rw [rfc1_text]
      simp only [bc_t (show ((0 : Nat) : Int) < (r.ss.length : Int) by omega), bc_t (v5le r.ss), bc_t (v1le th), v5_whole, v1_whole, bc_t (show (0 : Int) ≤ ((0 : Nat) : Int) by omega), bc_t (show ((0 : Nat) : Int) < (th.length : Int) by omega), Int.toNat_natCast, at1 (vi_at th 0 h), Qv, eq_self, true_and, and_true]
      have sl := hd.sl
      refine ⟨_, ⟨conbf r nm th 0 h (by omega)⟩, _, ⟨conrf r (bfr r.st th 0) th[0] r.slo r.flo hd.rng.1 (by omega) hd.h1 hd.hb hd.b1 sl.1 sl.2.2.1⟩, _, ⟨conrf r (bfr r.st th 0) th[0] r.shi r.fhi hd.rng.1 (by omega) hd.h1 hd.hb hd.b1 sl.2.1 sl.2.2.2⟩, ?_⟩
      refine ⟨(1, c1, c2), h, by show th.length - 1 < th.length - 0; omega, ?_⟩
      have e := vp_snoc (l := tabl (fP r) r.st th) (i := 0) (by rw [tabl_len]; exact h) (tabl_at h)
      show zfc2 _ _ _ _ _ _ _ _ _ _ _ _ _ _ _ _ _ _ _ _ = _
      rw [w64 (by omega) (by omega), ← e]; rfl
    | succ i =>
      show rfc2 _ _ (i + 1) ((i + 1 : Nat) : Int) r.w r.st r.fi r.hlo r.hhi r.co r.ss.length c1 r.slo r.shi r.flo r.fhi (bs nm) th.length c2 (vp ((tabl (fP r) r.st th).take (i + 1))) (vs5 r.ss) (vi th) _ _ _
      rw [rfc2_text]
      have el : (vp ((tabl (fP r) r.st th).take (i + 1))).length = (i + 1) * 2 := by
        rw [vp_length, List.length_take, tabl_len]; omega
      refine bc_dec (fun hlt => ?_) (fun hlt => ?_)
      · have h : i + 1 < th.length := by omega
        have hd := v.dr h
        simp only [bc_t (v5le r.ss), bc_t (v1le th), v5_whole, v1_whole, bc_t (show (0 : Int) ≤ ((i + 1 : Nat) : Int) by omega), bc_t (show ((i + 1 : Nat) : Int) < (th.length : Int) by omega), Int.toNat_natCast, at1 (vi_at th (i + 1) h), Qv, eq_self, true_and, and_true]
        have sl := hd.sl
        refine ⟨_, ⟨conbf r nm th (i + 1) h (by omega)⟩, _, ⟨conrf r (bfr r.st th (i + 1)) th[(i + 1)] r.slo r.flo hd.rng.1 (by omega) hd.h1 hd.hb hd.b1 sl.1 sl.2.2.1⟩, _, ⟨conrf r (bfr r.st th (i + 1)) th[(i + 1)] r.shi r.fhi hd.rng.1 (by omega) hd.h1 hd.hb hd.b1 sl.2.1 sl.2.2.2⟩, ?_⟩
        have e := vp_snoc (l := tabl (fP r) r.st th) (i := i + 1) (by rw [tabl_len]; exact h) (tabl_at h)
        rw [bc_t (show i + 1 < i + 1 + 1 by omega), bc_t (show (2 * (i + 1 + 1) + 768) * 16 ≤ 281474976710656 by omega), bc_t (show i + 1 + 1 ≤ 1099511627776 by omega), bc_t (show 0 + (i + 1) * 2 ≤ (vp ((tabl (fP r) r.st th).take (i + 1))).length by omega), bc_t (show 0 + (i + 1) * 2 = (vp ((tabl (fP r) r.st th).take (i + 1))).length by omega)]
        refine ⟨(i + 2, c1, c2), h, by show th.length - (i + 2) < th.length - (i + 1); omega, ?_⟩
        show zfc2 _ _ _ _ _ _ _ _ _ _ _ _ _ _ _ _ _ _ _ _ = _
        rw [← e, w64 (by omega) (by omega)]; rfl
      · show (if 0 = 0 then _ else _)
        rw [if_pos rfl]
        show nfc4 _ _ (i + 1) (vp ((tabl (fP r) r.st th).take (i + 1))) _
        have hl2 : i + 1 = th.length := by omega
        rw [nfc4_text]
        simp only [Qv, true_and]
        refine ⟨el, ?_⟩
        rw [List.take_of_length_le (by rw [tabl_len]; omega), hl2]
theorem contq (r : Ru) (nm : List UInt8) (th : List Int) (v : VR r th) : C5 26 [r.d, scD nm th] [.sl th.length 2 (vp (tabl (tP r) r.st th))] := by
  have hl := v.v.len
  have h6 := v.v.n6
  have h0 := v.v.n0
  let inv : Nat × Nat × Nat → Prop := fun x => x.1 ≤ th.length
  let st : Nat × Nat × Nat → Slots × Blocks := fun x => match x.1 with
    | 0 => ztq1 0 r.w r.st r.fi r.hlo r.hhi r.co r.ss.length x.2.1 r.slo r.shi r.flo r.fhi (bs nm) th.length x.2.2 (vs5 r.ss) (vi th)
    | i + 1 => ztq2 (i + 1) ((i + 1 : Nat) : Int) r.w r.st r.fi r.hlo r.hhi r.co r.ss.length x.2.1 r.slo r.shi r.flo r.fhi (bs nm) th.length x.2.2 (vp ((tabl (tP r) r.st th).take (i + 1))) (vs5 r.ss) (vi th)
  refine con_of (L := fun _ s b => ∃ x, inv x ∧ st x = (s, b)) hokP mixed Tryz.func26 rfl (by show 2 ≤ 400; omega) rfl (ids := [0]) (by kernel_rfl) rfl (fun caps => ?_) (fun id hid => ?_)
  · show gtq _ _ r.w r.st r.fi r.hlo r.hhi r.co r.ss.length (caps 500) (vs5 r.ss) r.slo r.shi r.flo r.fhi (bs nm) th.length (caps 501) (vi th) _
    rw [gtq_text]
    exact ⟨(0, caps 500, caps 501), Nat.zero_le _, rfl⟩
  · obtain rfl := List.mem_singleton.1 hid
    refine ⟨Nat × Nat × Nat, st, inv, fun x => th.length - x.1, ⟨fun s b h => h, by kernel_rfl, ?_⟩⟩
    rintro ⟨i, c1, c2⟩ hi
    have hi : i ≤ th.length := hi
    cases i with
    | zero =>
      have h : 0 < th.length := by omega
      have hd := v.dr h
      show rtq1 _ _ ((0 : Nat) : Int) r.w r.st r.fi r.hlo r.hhi r.co r.ss.length c1 r.slo r.shi r.flo r.fhi (bs nm) th.length c2 (vs5 r.ss) (vi th) _ _ _
      rw [rtq1_text]
      simp only [bc_t (show ((0 : Nat) : Int) < (r.ss.length : Int) by omega), bc_t (v5le r.ss), bc_t (v1le th), v5_whole, v1_whole, bc_t (show (0 : Int) ≤ ((0 : Nat) : Int) by omega), bc_t (show ((0 : Nat) : Int) < (th.length : Int) by omega), Int.toNat_natCast, at1 (vi_at th 0 h), Qv, eq_self, true_and, and_true]
      have sl := hd.sl
      refine ⟨_, ⟨conbf r nm th 0 h (by omega)⟩, _, ⟨conrt r (bfr r.st th 0) th[0] r.slo r.flo hd.rng.1 (by omega) hd.h1 hd.hb hd.b1 sl.1 sl.2.2.1⟩, _, ⟨conrt r (bfr r.st th 0) th[0] r.shi r.fhi hd.rng.1 (by omega) hd.h1 hd.hb hd.b1 sl.2.1 sl.2.2.2⟩, ?_⟩
      refine ⟨(1, c1, c2), h, by show th.length - 1 < th.length - 0; omega, ?_⟩
      have e := vp_snoc (l := tabl (tP r) r.st th) (i := 0) (by rw [tabl_len]; exact h) (tabl_at h)
      show ztq2 _ _ _ _ _ _ _ _ _ _ _ _ _ _ _ _ _ _ _ _ = _
      rw [w64 (by omega) (by omega), ← e]; rfl
    | succ i =>
      show rtq2 _ _ (i + 1) ((i + 1 : Nat) : Int) r.w r.st r.fi r.hlo r.hhi r.co r.ss.length c1 r.slo r.shi r.flo r.fhi (bs nm) th.length c2 (vp ((tabl (tP r) r.st th).take (i + 1))) (vs5 r.ss) (vi th) _ _ _
      rw [rtq2_text]
      have el : (vp ((tabl (tP r) r.st th).take (i + 1))).length = (i + 1) * 2 := by
        rw [vp_length, List.length_take, tabl_len]; omega
      refine bc_dec (fun hlt => ?_) (fun hlt => ?_)
      · have h : i + 1 < th.length := by omega
        have hd := v.dr h
        simp only [bc_t (v5le r.ss), bc_t (v1le th), v5_whole, v1_whole, bc_t (show (0 : Int) ≤ ((i + 1 : Nat) : Int) by omega), bc_t (show ((i + 1 : Nat) : Int) < (th.length : Int) by omega), Int.toNat_natCast, at1 (vi_at th (i + 1) h), Qv, eq_self, true_and, and_true]
        have sl := hd.sl
        refine ⟨_, ⟨conbf r nm th (i + 1) h (by omega)⟩, _, ⟨conrt r (bfr r.st th (i + 1)) th[(i + 1)] r.slo r.flo hd.rng.1 (by omega) hd.h1 hd.hb hd.b1 sl.1 sl.2.2.1⟩, _, ⟨conrt r (bfr r.st th (i + 1)) th[(i + 1)] r.shi r.fhi hd.rng.1 (by omega) hd.h1 hd.hb hd.b1 sl.2.1 sl.2.2.2⟩, ?_⟩
        have e := vp_snoc (l := tabl (tP r) r.st th) (i := i + 1) (by rw [tabl_len]; exact h) (tabl_at h)
        rw [bc_t (show i + 1 < i + 1 + 1 by omega), bc_t (show (2 * (i + 1 + 1) + 768) * 16 ≤ 281474976710656 by omega), bc_t (show i + 1 + 1 ≤ 1099511627776 by omega), bc_t (show 0 + (i + 1) * 2 ≤ (vp ((tabl (tP r) r.st th).take (i + 1))).length by omega), bc_t (show 0 + (i + 1) * 2 = (vp ((tabl (tP r) r.st th).take (i + 1))).length by omega)]
        refine ⟨(i + 2, c1, c2), h, by show th.length - (i + 2) < th.length - (i + 1); omega, ?_⟩
        show ztq2 _ _ _ _ _ _ _ _ _ _ _ _ _ _ _ _ _ _ _ _ = _
        rw [← e, w64 (by omega) (by omega)]; rfl
      · show (if 0 = 0 then _ else _)
        rw [if_pos rfl]
        show ntq4 _ _ (i + 1) (vp ((tabl (tP r) r.st th).take (i + 1))) _
        have hl2 : i + 1 = th.length := by omega
        rw [ntq4_text]
        simp only [Qv, true_and]
        refine ⟨el, ?_⟩
        rw [List.take_of_length_le (by rw [tabl_len]; omega), hl2]
theorem conhT (r : Ru) (nm : List UInt8) (th : List Int) (v : VR r th) : C5 28 [r.d, scD nm th] [.sl th.length 4 (vq (spans r th))] := by
  have hl := v.v.len
  have h6 := v.v.n6
  have h0 := v.v.n0
  let inv : Nat × Nat × Nat → Prop := fun x => x.1 ≤ th.length
  let st : Nat × Nat × Nat → Slots × Blocks := fun x => match x.1 with
    | 0 => zhT1 0 r.w r.st r.fi r.hlo r.hhi r.co r.ss.length x.2.1 r.slo r.shi r.flo r.fhi (bs nm) th.length x.2.2 (vs5 r.ss) (vi th)
    | i + 1 => zhT2 (i + 1) ((i + 1 : Nat) : Int) r.w r.st r.fi r.hlo r.hhi r.co r.ss.length x.2.1 r.slo r.shi r.flo r.fhi (bs nm) th.length x.2.2 (vq ((spans r th).take (i + 1))) (vs5 r.ss) (vi th)
  refine con_of (L := fun _ s b => ∃ x, inv x ∧ st x = (s, b)) hokP mixed Tryz.func28 rfl (by show 2 ≤ 400; omega) rfl (ids := [0]) (by kernel_rfl) rfl (fun caps => ?_) (fun id hid => ?_)
  · show ghT _ _ r.w r.st r.fi r.hlo r.hhi r.co r.ss.length (caps 500) (vs5 r.ss) r.slo r.shi r.flo r.fhi (bs nm) th.length (caps 501) (vi th) _
    rw [ghT_text]
    exact ⟨(0, caps 500, caps 501), Nat.zero_le _, rfl⟩
  · obtain rfl := List.mem_singleton.1 hid
    refine ⟨Nat × Nat × Nat, st, inv, fun x => th.length - x.1, ⟨fun s b h => h, by kernel_rfl, ?_⟩⟩
    rintro ⟨i, c1, c2⟩ hi
    have hi : i ≤ th.length := hi
    cases i with
    | zero =>
      have h : 0 < th.length := by omega
      have hd := v.dr h
      show rhT1 _ _ ((0 : Nat) : Int) r.w r.st r.fi r.hlo r.hhi r.co r.ss.length c1 r.slo r.shi r.flo r.fhi (bs nm) th.length c2 (vs5 r.ss) (vi th) _ _ _
      rw [rhT1_text]
      simp only [bc_t (show ((0 : Nat) : Int) < (r.ss.length : Int) by omega), bc_t (v5le r.ss), v5_whole, bc_t (show (0 : Int) ≤ ((0 : Nat) : Int) by omega), bc_t (show ((0 : Nat) : Int) < (th.length : Int) by omega), Int.toNat_natCast, at1 (vi_at th 0 h), Qv, eq_self, true_and, and_true]
      have sl := hd.sl
      have bd := hd.ht
      have sd := sum_bd hd.sts (0 + 1) (by omega)
      have rg := hd.rng
      unfold rngB at rg
      have d1 := hd.h1
      have d2 := hd.b1
      have d3 := hd.hb
      refine ⟨_, _, ⟨conls r 0 (by omega) h6 hd.sts⟩, _, ⟨conrh r th[0] r.slo r.hlo _ (by omega) (by have := hd.h1; omega) sl.1 (by omega) (by omega)⟩, _, ⟨conrh r th[0] r.shi r.hhi _ (by omega) (by omega) sl.2.1 (by omega) (by omega)⟩, ?_⟩
      have x1 : (100 : Int) * (r.hlo - sumE (r.ss.take (0 + 1))) + (r.st - th[0]) * r.slo = hL r 0 th[0] := rfl
      have x2 : (100 : Int) * (r.hhi - sumD (r.ss.take (0 + 1))) + (r.st - th[0]) * r.shi = hH r 0 th[0] := rfl
      rw [x1, x2]
      refine ⟨_, _, ⟨conLe (hL r 0 th[0]) 100 (by omega) (by omega) (by decide)⟩, _, _, ⟨conLe (hH r 0 th[0]) 100 (by omega) (by omega) (by decide)⟩, ?_⟩
      refine ⟨(1, c1, c2), h, by show th.length - 1 < th.length - 0; omega, ?_⟩
      have e := vq_snoc (l := spans r th) (i := 0) (by rw [spans_len]; exact h) (spans_at h)
      show zhT2 _ _ _ _ _ _ _ _ _ _ _ _ _ _ _ _ _ _ _ _ = _
      rw [w64 (by omega) (by omega), ← e]; rfl
    | succ i =>
      show rhT2 _ _ (i + 1) ((i + 1 : Nat) : Int) r.w r.st r.fi r.hlo r.hhi r.co r.ss.length c1 r.slo r.shi r.flo r.fhi (bs nm) th.length c2 (vq ((spans r th).take (i + 1))) (vs5 r.ss) (vi th) _ _ _
      rw [rhT2_text]
      have el : (vq ((spans r th).take (i + 1))).length = (i + 1) * 4 := by
        rw [vq_length, List.length_take, spans_len]; omega
      refine bc_dec (fun hlt => ?_) (fun hlt => ?_)
      · have h : i + 1 < th.length := by omega
        have hd := v.dr h
        simp only [bc_t (v5le r.ss), v5_whole, bc_t (show (0 : Int) ≤ ((i + 1 : Nat) : Int) by omega), bc_t (show ((i + 1 : Nat) : Int) < (th.length : Int) by omega), Int.toNat_natCast, at1 (vi_at th (i + 1) h), Qv, eq_self, true_and, and_true]
        have sl := hd.sl
        have bd := hd.ht
        have sd := sum_bd hd.sts ((i + 1) + 1) (by omega)
        have rg := hd.rng
        unfold rngB at rg
        have d1 := hd.h1
        have d2 := hd.b1
        have d3 := hd.hb
        refine ⟨_, _, ⟨conls r (i + 1) (by omega) h6 hd.sts⟩, _, ⟨conrh r th[(i + 1)] r.slo r.hlo _ (by omega) (by have := hd.h1; omega) sl.1 (by omega) (by omega)⟩, _, ⟨conrh r th[(i + 1)] r.shi r.hhi _ (by omega) (by omega) sl.2.1 (by omega) (by omega)⟩, ?_⟩
        have x1 : (100 : Int) * (r.hlo - sumE (r.ss.take ((i + 1) + 1))) + (r.st - th[(i + 1)]) * r.slo = hL r (i + 1) th[(i + 1)] := rfl
        have x2 : (100 : Int) * (r.hhi - sumD (r.ss.take ((i + 1) + 1))) + (r.st - th[(i + 1)]) * r.shi = hH r (i + 1) th[(i + 1)] := rfl
        rw [x1, x2]
        refine ⟨_, _, ⟨conLe (hL r (i + 1) th[(i + 1)]) 100 (by omega) (by omega) (by decide)⟩, _, _, ⟨conLe (hH r (i + 1) th[(i + 1)]) 100 (by omega) (by omega) (by decide)⟩, ?_⟩
        have e := vq_snoc (l := spans r th) (i := i + 1) (by rw [spans_len]; exact h) (spans_at h)
        rw [bc_t (show i + 1 < i + 1 + 1 by omega), bc_t (show (2 * (i + 1 + 1) + 768) * 32 ≤ 281474976710656 by omega), bc_t (show i + 1 + 1 ≤ 1099511627776 by omega), bc_t (show 0 + (i + 1) * 4 ≤ (vq ((spans r th).take (i + 1))).length by omega), bc_t (show 0 + (i + 1) * 4 = (vq ((spans r th).take (i + 1))).length by omega)]
        refine ⟨(i + 2, c1, c2), h, by show th.length - (i + 2) < th.length - (i + 1); omega, ?_⟩
        show zhT2 _ _ _ _ _ _ _ _ _ _ _ _ _ _ _ _ _ _ _ _ = _
        rw [← e, w64 (by omega) (by omega)]; rfl
      · show (if 0 = 0 then _ else _)
        rw [if_pos rfl]
        show nhT4 _ _ (i + 1) (vq ((spans r th).take (i + 1))) _
        have hl2 : i + 1 = th.length := by omega
        rw [nhT4_text]
        simp only [Qv, true_and]
        refine ⟨el, ?_⟩
        rw [List.take_of_length_le (by rw [spans_len]; omega), hl2]
end Go.Proofs.G5o

/- Chapter 3: forces, torques and margins of all stands, in data. -/
namespace Go.Proofs.G5o
open Go Go.Abs Go.Proofs Go.Str
set_option maxRecDepth 100000
abbrev mV (r : Ru) (c0 : Nat) : Value := .agg #[.int .i64 r.w, .int .i64 r.st, .int .i64 r.fi, .int .i64 r.hlo, .int .i64 r.hhi, .int .i64 r.co, .slice (some ⟨500, 0, none⟩) r.ss.length c0, .int .i64 r.slo, .int .i64 r.shi, .int .i64 r.flo, .int .i64 r.fhi]
abbrev sV (nm : List UInt8) (th : List Int) (c1 : Nat) : Value := .agg #[.string (bs nm), .slice (some ⟨501, 0, none⟩) th.length c1]
theorem runEF (r : Ru) (c0 c1 : Nat) (nm : List UInt8) (th : List Int) (w : VR r th) :
    freshS Tryz.prog 64 2 [mV r c0, sV nm th c1, .func (.func 65) #[mV r c0] #[]] [(500, .sym (vs5 r.ss) false 5), (501, .sym (vi th) false 1)] th.length (vp (tabl (fP r) r.st th)) := by
  have v := w.v
  have hl := v.len
  have h6 := v.n6
  have h0 := v.n0
  let st : Nat → Slots × Blocks := fun i => match i with
    | 0 => R.zeF2 r.w r.st r.fi r.hlo r.hhi r.co r.ss.length c0 r.slo r.shi r.flo r.fhi (vs5 r.ss)
    | i + 1 => R.zeF4 r.w r.st r.fi r.hlo r.hhi r.co r.ss.length c0 r.slo r.shi r.flo r.fhi (i + 1) (vs5 r.ss) (vp ((tabl (fP r) r.st th).take (i + 1)))
  refine callS_JR hokRP mixed [] (L := fun _ s b => R.zeF1 r.w r.st r.fi r.hlo r.hhi r.co r.ss.length c0 r.slo r.shi r.flo r.fhi r.w r.st r.fi r.hlo r.hhi r.co r.ss.length c0 r.slo r.shi r.flo r.fhi (bs nm) th.length c1 (vs5 r.ss) (vi th) = (s, b)) Tryz.func64 rfl (.inl rfl) (pts := [50003]) (loops := [50003]) (by kernel_rfl) (by kernel_rfl) ?_ (fun id q1 q2 => absurd q1 q2) (fun id hid hlt => absurd hlt (by obtain rfl := List.mem_singleton.1 hid; decide)) (fun id hid hlt => ?_)
  · show R.geF C5 _ r.w r.st r.fi r.hlo r.hhi r.co r.slo r.shi r.flo r.fhi r.ss.length c0 (vs5 r.ss) (bs nm) th.length c1 (vi th) _
    rw [R.geF_text]
  · obtain rfl := List.mem_singleton.1 hid
    refine ⟨⟨?_⟩⟩
    rintro s b e
    cases e
    show R.heF1 r.w r.st r.fi r.hlo r.hhi r.co r.ss.length c0 r.slo r.shi r.flo r.fhi r.w r.st r.fi r.hlo r.hhi r.co r.ss.length c0 r.slo r.shi r.flo r.fhi (bs nm) th.length c1 (vs5 r.ss) (vi th) _
    rw [R.heF1_text]
    refine ⟨drows r.st 0 th, fun rest s b => ∃ i, i ≤ th.length ∧ rest = drows (bfr r.st th i) i (th.drop i) ∧ st i = (s, b), runDo r c0 c1 nm th (by omega), ⟨0, Nat.zero_le _, rfl, rfl⟩, ?_, ?_⟩
    · rintro row rest s b ⟨i, hi, e1, e2⟩
      have hi2 : i < th.length := by
        refine Nat.lt_of_le_of_ne hi (fun h => ?_)
        rw [h, List.drop_length] at e1; cases e1
      rw [drows_drop hi2] at e1
      obtain ⟨rfl, rfl⟩ := List.cons.inj e1
      have hd := w.dr hi2
      have e := vp_snoc (l := tabl (fP r) r.st th) (i := i) (by rw [tabl_len]; exact hi2) (tabl_at hi2)
      cases i with
      | zero =>
        cases e2
        show R.weF2 C5 r.w r.st r.fi r.hlo r.hhi r.co r.ss.length c0 r.slo r.shi r.flo r.fhi (vs5 r.ss) ((0 : Nat) : Int) (bfr r.st th 0) th[0] _ _
        rw [R.weF2_text]
        intro caps
        simp only [bc_t (v5le r.ss), v5_whole, Qv, eq_self, true_and, and_true]
        refine ⟨_, _, ⟨confo r 0 (bfr r.st th 0) th[0] hd⟩, ?_⟩
        try simp only [Qv, eq_self, true_and, and_true]
        refine ⟨1, hi2, by rw [bfr_succ hi2], ?_⟩
        show R.zeF4 _ _ _ _ _ _ _ _ _ _ _ _ _ _ _ = _
        rw [← e]; rfl
      | succ i =>
        cases e2
        show R.weF4 C5 r.w r.st r.fi r.hlo r.hhi r.co r.ss.length c0 r.slo r.shi r.flo r.fhi (i + 1) (vs5 r.ss) (vp ((tabl (fP r) r.st th).take (i + 1))) ((i + 1 : Nat) : Int) (bfr r.st th (i + 1)) th[i + 1] _ _
        rw [R.weF4_text]
        intro caps
        have el : (vp ((tabl (fP r) r.st th).take (i + 1))).length = (i + 1) * 2 := by
          rw [vp_length, List.length_take, tabl_len]; omega
        simp only [bc_t (v5le r.ss), v5_whole, Qv, eq_self, true_and, and_true]
        refine ⟨_, _, ⟨confo r (i + 1) (bfr r.st th (i + 1)) th[i + 1] hd⟩, ?_⟩
        try simp only [Qv, eq_self, true_and, and_true]
        rw [bc_t (show i + 1 < i + 1 + 1 by omega), bc_t (show (2 * (i + 1 + 1) + 768) * 16 ≤ 281474976710656 by omega), bc_t (show i + 1 + 1 ≤ 1099511627776 by omega), bc_t (show 0 + (i + 1) * 2 ≤ (vp ((tabl (fP r) r.st th).take (i + 1))).length by omega), bc_t (show 0 + (i + 1) * 2 = (vp ((tabl (fP r) r.st th).take (i + 1))).length by omega)]
        refine ⟨i + 2, hi2, by rw [bfr_succ hi2], ?_⟩
        show R.zeF4 _ _ _ _ _ _ _ _ _ _ _ _ _ _ _ = _
        rw [← e]
    · rintro s b ⟨i, hi, e1, e2⟩
      have hi2 : i = th.length := Decidable.byContradiction fun h => by
        rw [drows_drop (show i < th.length by omega)] at e1; cases e1
      obtain ⟨j, rfl⟩ : ∃ j, i = j + 1 := ⟨i - 1, by omega⟩
      cases e2
      show R.neF5 C5 _ r.w r.st r.fi r.hlo r.hhi r.co r.ss.length c0 r.slo r.shi r.flo r.fhi (j + 1) (vs5 r.ss) (vp ((tabl (fP r) r.st th).take (j + 1))) _
      rw [R.neF5_text, List.take_of_length_le (by rw [tabl_len]; omega), hi2]
      exact ⟨rfl, rfl⟩
theorem runEQ (r : Ru) (c0 c1 : Nat) (nm : List UInt8) (th : List Int) (w : VR r th) :
    freshS Tryz.prog 64 2 [mV r c0, sV nm th c1, .func (.func 66) #[mV r c0] #[]] [(500, .sym (vs5 r.ss) false 5), (501, .sym (vi th) false 1)] th.length (vp (tabl (tP r) r.st th)) := by
  have v := w.v
  have hl := v.len
  have h6 := v.n6
  have h0 := v.n0
  let st : Nat → Slots × Blocks := fun i => match i with
    | 0 => R.zeQ2 r.w r.st r.fi r.hlo r.hhi r.co r.ss.length c0 r.slo r.shi r.flo r.fhi (vs5 r.ss)
    | i + 1 => R.zeQ4 r.w r.st r.fi r.hlo r.hhi r.co r.ss.length c0 r.slo r.shi r.flo r.fhi (i + 1) (vs5 r.ss) (vp ((tabl (tP r) r.st th).take (i + 1)))
  refine callS_JR hokRP mixed [] (L := fun _ s b => R.zeQ1 r.w r.st r.fi r.hlo r.hhi r.co r.ss.length c0 r.slo r.shi r.flo r.fhi r.w r.st r.fi r.hlo r.hhi r.co r.ss.length c0 r.slo r.shi r.flo r.fhi (bs nm) th.length c1 (vs5 r.ss) (vi th) = (s, b)) Tryz.func64 rfl (.inl rfl) (pts := [50003]) (loops := [50003]) (by kernel_rfl) (by kernel_rfl) ?_ (fun id q1 q2 => absurd q1 q2) (fun id hid hlt => absurd hlt (by obtain rfl := List.mem_singleton.1 hid; decide)) (fun id hid hlt => ?_)
  · show R.geQ C5 _ r.w r.st r.fi r.hlo r.hhi r.co r.slo r.shi r.flo r.fhi r.ss.length c0 (vs5 r.ss) (bs nm) th.length c1 (vi th) _
    rw [R.geQ_text]
  · obtain rfl := List.mem_singleton.1 hid
    refine ⟨⟨?_⟩⟩
    rintro s b e
    cases e
    show R.heQ1 r.w r.st r.fi r.hlo r.hhi r.co r.ss.length c0 r.slo r.shi r.flo r.fhi r.w r.st r.fi r.hlo r.hhi r.co r.ss.length c0 r.slo r.shi r.flo r.fhi (bs nm) th.length c1 (vs5 r.ss) (vi th) _
    rw [R.heQ1_text]
    refine ⟨drows r.st 0 th, fun rest s b => ∃ i, i ≤ th.length ∧ rest = drows (bfr r.st th i) i (th.drop i) ∧ st i = (s, b), runDo r c0 c1 nm th (by omega), ⟨0, Nat.zero_le _, rfl, rfl⟩, ?_, ?_⟩
    · rintro row rest s b ⟨i, hi, e1, e2⟩
      have hi2 : i < th.length := by
        refine Nat.lt_of_le_of_ne hi (fun h => ?_)
        rw [h, List.drop_length] at e1; cases e1
      rw [drows_drop hi2] at e1
      obtain ⟨rfl, rfl⟩ := List.cons.inj e1
      have hd := w.dr hi2
      have e := vp_snoc (l := tabl (tP r) r.st th) (i := i) (by rw [tabl_len]; exact hi2) (tabl_at hi2)
      cases i with
      | zero =>
        cases e2
        show R.weQ2 C5 r.w r.st r.fi r.hlo r.hhi r.co r.ss.length c0 r.slo r.shi r.flo r.fhi (vs5 r.ss) ((0 : Nat) : Int) (bfr r.st th 0) th[0] _ _
        rw [R.weQ2_text]
        intro caps
        simp only [bc_t (v5le r.ss), v5_whole, Qv, eq_self, true_and, and_true]
        refine ⟨_, _, ⟨conto r 0 (bfr r.st th 0) th[0] hd⟩, ?_⟩
        try simp only [Qv, eq_self, true_and, and_true]
        refine ⟨1, hi2, by rw [bfr_succ hi2], ?_⟩
        show R.zeQ4 _ _ _ _ _ _ _ _ _ _ _ _ _ _ _ = _
        rw [← e]; rfl
      | succ i =>
        cases e2
        show R.weQ4 C5 r.w r.st r.fi r.hlo r.hhi r.co r.ss.length c0 r.slo r.shi r.flo r.fhi (i + 1) (vs5 r.ss) (vp ((tabl (tP r) r.st th).take (i + 1))) ((i + 1 : Nat) : Int) (bfr r.st th (i + 1)) th[i + 1] _ _
        rw [R.weQ4_text]
        intro caps
        have el : (vp ((tabl (tP r) r.st th).take (i + 1))).length = (i + 1) * 2 := by
          rw [vp_length, List.length_take, tabl_len]; omega
        simp only [bc_t (v5le r.ss), v5_whole, Qv, eq_self, true_and, and_true]
        refine ⟨_, _, ⟨conto r (i + 1) (bfr r.st th (i + 1)) th[i + 1] hd⟩, ?_⟩
        try simp only [Qv, eq_self, true_and, and_true]
        rw [bc_t (show i + 1 < i + 1 + 1 by omega), bc_t (show (2 * (i + 1 + 1) + 768) * 16 ≤ 281474976710656 by omega), bc_t (show i + 1 + 1 ≤ 1099511627776 by omega), bc_t (show 0 + (i + 1) * 2 ≤ (vp ((tabl (tP r) r.st th).take (i + 1))).length by omega), bc_t (show 0 + (i + 1) * 2 = (vp ((tabl (tP r) r.st th).take (i + 1))).length by omega)]
        refine ⟨i + 2, hi2, by rw [bfr_succ hi2], ?_⟩
        show R.zeQ4 _ _ _ _ _ _ _ _ _ _ _ _ _ _ _ = _
        rw [← e]
    · rintro s b ⟨i, hi, e1, e2⟩
      have hi2 : i = th.length := Decidable.byContradiction fun h => by
        rw [drows_drop (show i < th.length by omega)] at e1; cases e1
      obtain ⟨j, rfl⟩ : ∃ j, i = j + 1 := ⟨i - 1, by omega⟩
      cases e2
      show R.neQ5 C5 _ r.w r.st r.fi r.hlo r.hhi r.co r.ss.length c0 r.slo r.shi r.flo r.fhi (j + 1) (vs5 r.ss) (vp ((tabl (tP r) r.st th).take (j + 1))) _
      rw [R.neQ5_text, List.take_of_length_le (by rw [tabl_len]; omega), hi2]
      exact ⟨rfl, rfl⟩
theorem conFOb (r : Ru) (nm : List UInt8) (th : List Int) (hlen : r.ss.length < 1000000000) (hth : th.length < 1000000000) (h : (schP r nm th).2 ≠ 0) : C5 21 [r.d, scD nm th] [.nil, dI (schP r nm th).2] := by
  refine con_flat hokP mixed Tryz.func21 rfl (by show 2 ≤ 400; omega) rfl (by kernel_rfl) (fun caps => ?_)
  show gFO _ _ r.w r.st r.fi r.hlo r.hhi r.co r.ss.length (caps 500) (vs5 r.ss) r.slo r.shi r.flo r.fhi (bs nm) th.length (caps 501) (vi th) _
  rw [gFO_text, bc_t (v5le r.ss), bc_t (v1le th), v5_whole, v1_whole]
  refine ⟨_, _, ⟨conKS r nm th hlen hth⟩, ?_⟩
  rw [bc_n h, bc_n h]
theorem conFO (r : Ru) (nm : List UInt8) (th : List Int) (v : VR r th) (h : (schP r nm th).2 = 0) : C5 21 [r.d, scD nm th] [.sl th.length 2 (vp (tabl (fP r) r.st th)), dI 0] := by
  have hl := v.v.len
  have h6 := v.v.n6
  refine con_flat hokP mixed Tryz.func21 rfl (by show 2 ≤ 400; omega) rfl (by kernel_rfl) (fun caps => ?_)
  show gFO _ _ r.w r.st r.fi r.hlo r.hhi r.co r.ss.length (caps 500) (vs5 r.ss) r.slo r.shi r.flo r.fhi (bs nm) th.length (caps 501) (vi th) _
  rw [gFO_text, bc_t (v5le r.ss), bc_t (v1le th), v5_whole, v1_whole]
  refine ⟨_, _, ⟨conKS r nm th (by omega) (by omega)⟩, bc_bne (fun hc => absurd h hc) (fun _ => ?_)⟩
  refine ⟨th.length, vp (tabl (fP r) r.st th), ⟨runEF r _ _ nm th v⟩, ?_⟩
  simp only [vp_length, tabl_len, Qv, eq_self, true_and]
theorem conTOb (r : Ru) (nm : List UInt8) (th : List Int) (hlen : r.ss.length < 1000000000) (hth : th.length < 1000000000) (h : (schP r nm th).2 ≠ 0) : C5 22 [r.d, scD nm th] [.nil, dI (schP r nm th).2] := by
  refine con_flat hokP mixed Tryz.func22 rfl (by show 2 ≤ 400; omega) rfl (by kernel_rfl) (fun caps => ?_)
  show gTO _ _ r.w r.st r.fi r.hlo r.hhi r.co r.ss.length (caps 500) (vs5 r.ss) r.slo r.shi r.flo r.fhi (bs nm) th.length (caps 501) (vi th) _
  rw [gTO_text, bc_t (v5le r.ss), bc_t (v1le th), v5_whole, v1_whole]
  refine ⟨_, _, ⟨conKS r nm th hlen hth⟩, ?_⟩
  rw [bc_n h, bc_n h]
theorem conTO (r : Ru) (nm : List UInt8) (th : List Int) (v : VR r th) (h : (schP r nm th).2 = 0) : C5 22 [r.d, scD nm th] [.sl th.length 2 (vp (tabl (tP r) r.st th)), dI 0] := by
  have hl := v.v.len
  have h6 := v.v.n6
  refine con_flat hokP mixed Tryz.func22 rfl (by show 2 ≤ 400; omega) rfl (by kernel_rfl) (fun caps => ?_)
  show gTO _ _ r.w r.st r.fi r.hlo r.hhi r.co r.ss.length (caps 500) (vs5 r.ss) r.slo r.shi r.flo r.fhi (bs nm) th.length (caps 501) (vi th) _
  rw [gTO_text, bc_t (v5le r.ss), bc_t (v1le th), v5_whole, v1_whole]
  refine ⟨_, _, ⟨conKS r nm th (by omega) (by omega)⟩, bc_bne (fun hc => absurd h hc) (fun _ => ?_)⟩
  refine ⟨th.length, vp (tabl (tP r) r.st th), ⟨runEQ r _ _ nm th v⟩, ?_⟩
  simp only [vp_length, tabl_len, Qv, eq_self, true_and]
theorem conHOb (r : Ru) (nm : List UInt8) (th : List Int) (hlen : r.ss.length < 1000000000) (hth : th.length < 1000000000) (h : (schP r nm th).2 ≠ 0) : C5 23 [r.d, scD nm th] [.nil, dI (schP r nm th).2] := by
  refine con_flat hokP mixed Tryz.func23 rfl (by show 2 ≤ 400; omega) rfl (by kernel_rfl) (fun caps => ?_)
  show gHO _ _ r.w r.st r.fi r.hlo r.hhi r.co r.ss.length (caps 500) (vs5 r.ss) r.slo r.shi r.flo r.fhi (bs nm) th.length (caps 501) (vi th) _
  rw [gHO_text, bc_t (v5le r.ss), bc_t (v1le th), v5_whole, v1_whole]
  refine ⟨_, _, ⟨conKS r nm th hlen hth⟩, ?_⟩
  rw [bc_n h, bc_n h]
theorem conHO (r : Ru) (nm : List UInt8) (th : List Int) (v : VR r th) (h : (schP r nm th).2 = 0) : C5 23 [r.d, scD nm th] [.sl th.length 4 (vq (spans r th)), dI 0] := by
  have hl := v.v.len
  have h6 := v.v.n6
  refine con_flat hokP mixed Tryz.func23 rfl (by show 2 ≤ 400; omega) rfl (by kernel_rfl) (fun caps => ?_)
  show gHO _ _ r.w r.st r.fi r.hlo r.hhi r.co r.ss.length (caps 500) (vs5 r.ss) r.slo r.shi r.flo r.fhi (bs nm) th.length (caps 501) (vi th) _
  rw [gHO_text, bc_t (v5le r.ss), bc_t (v1le th), v5_whole, v1_whole]
  refine ⟨_, _, ⟨conKS r nm th (by omega) (by omega)⟩, bc_bne (fun hc => absurd h hc) (fun _ => ?_)⟩
  refine ⟨th.length, vq (spans r th), ⟨runEH r _ _ nm th v⟩, ?_⟩
  simp only [vq_length, spans_len, Qv, eq_self, true_and]
end Go.Proofs.G5o
