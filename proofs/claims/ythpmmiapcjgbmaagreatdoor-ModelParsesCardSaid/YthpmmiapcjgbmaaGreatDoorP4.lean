/- Texts of the proof, put together: AbsTab, AbsPairs, AbsGood, GStr, GStr2, AbsStr, GvS0r, GvSU0r, AbsFrameD, AbsXD, AbsFrame, AbsState, AbsX, AbsLimD, AbsModD, AbsShort, GvST, GvMT, GvS1r. -/
import Derived.Test.YthpmmiapcjgbmaaGreatDoorP3
import Derived.Test.YthpmmiapcjgbmaaGreatDoorP2
import Derived.Lib.LaidTab
import Derived.Lib.ItoaNum
import Derived.Lib.Join
import Derived.Lib.Split
import Derived.Lib.IndexMore
import Derived.Lib.Strings
import Derived.Lib.Atoi
import Derived.Lib.ItoaLen
import Derived.KernelRfl
import Derived.Test.YthpmmiapcjgbmaaGreatDoorCards
import Derived.Test.YthpmmiapcjgbmaaGreatDoorTie
import Derived.Handed
import Derived.JoinedCond
import Derived.Deep.DeepHandedRow
import Derived.WalkKit
import Derived.Stop.LaidErr
import Derived.Test.YthpmmiapcjgbmaaGreatDoorProg
/- The evaluator with a table: calls whose outcome on some data is known are not entered. -/
namespace Go.Abs
open Go.RowKit
variable {P : Program} {ρ : Ren} {w0 : Start P} {w : World} {H : Heap}

/-! ### Data of values, computed -/
def readCO (H : Heap) : List Value → Option (List D)
  | [] => some []
  | v :: r =>
    match v with
    | .slice none 0 0 => (readCO H r).map (.nil :: ·)
    | .slice (some ⟨i, o, none⟩) len _ =>
      match H.get i with
      | some (.sym cs _ es) => if o + len * es ≤ cs.length then (readCO H r).map (.sl len es ((cs.drop o).take (len * es)) :: ·) else none
      | some (.cells cs _ _ es) => if o + len * es ≤ cs.length then (if ((cs.drop o).take (len * es)).all cellP then (readCO H r).map (.sl len es ((cs.drop o).take (len * es)) :: ·) else none) else none
      | _ => none
    | v => if plain 8 v then (readCO H r).map (.val v :: ·) else none
def readVO (H : Heap) : List Value → Option (List D)
  | [] => some []
  | .agg cs :: r => (readCO H cs.toList).bind fun ds => (readVO H r).map (.agg ds :: ·)
  | v :: r => (readCO H [v]).bind fun ds => (readVO H r).map (ds ++ ·)
theorem readCO_ok : ∀ {l : List Value} {ds : List D}, readCO H l = some ds → ∀ k : List D → Prop, k ds → readCells H l k
  | [], ds, h, k, hk => by
    simp only [readCO, Option.some.injEq] at h; subst h; exact hk
  | v :: r, ds, h, k, hk => by
    unfold readCO at h
    unfold readCells
    split at h
    · obtain ⟨x, hx, rfl⟩ := Option.map_eq_some_iff.1 h
      exact readCO_ok hx _ hk
    · simp only
      split at h
      · rename_i hg
        simp only [hg]
        split at h
        · rename_i hle
          obtain ⟨x, hx, rfl⟩ := Option.map_eq_some_iff.1 h
          exact bcase_intro (fun _ => readCO_ok hx _ hk) (fun hf => absurd hle (of_decide_eq_false hf))
        · cases h
      · rename_i hg
        simp only [hg]
        split at h
        · rename_i hle
          split at h
          · rename_i hall
            obtain ⟨x, hx, rfl⟩ := Option.map_eq_some_iff.1 h
            exact bcase_intro (fun _ => bcase_intro (fun _ => readCO_ok hx _ hk) (fun hf => by rw [hall] at hf; cases hf)) (fun hf => absurd hle (of_decide_eq_false hf))
          · cases h
        · cases h
      · cases h
    · rename_i h1 h2
      split
      · exact absurd rfl h1
      · exact absurd rfl (h2 _ _ _ _)
      · split at h
        · rename_i hp
          obtain ⟨x, hx, rfl⟩ := Option.map_eq_some_iff.1 h
          rw [if_pos hp]
          exact readCO_ok hx _ hk
        · cases h
theorem readVO_ok : ∀ {l : List Value} {ds : List D}, readVO H l = some ds → ∀ k : List D → Prop, k ds → readVals H l k
  | [], ds, h, k, hk => by
    simp only [readVO, Option.some.injEq] at h; subst h; exact hk
  | v :: r, ds, h, k, hk => by
    unfold readVO at h
    unfold readVals
    split at h
    · rename_i e; cases e
    · rename_i e; cases e
      obtain ⟨x, hx, h⟩ := Option.bind_eq_some_iff.1 h
      obtain ⟨y, hy, rfl⟩ := Option.map_eq_some_iff.1 h
      exact readCO_ok hx _ (readVO_ok hy _ hk)
    · rename_i h1 e; cases e
      obtain ⟨x, hx, h⟩ := Option.bind_eq_some_iff.1 h
      obtain ⟨y, hy, rfl⟩ := Option.map_eq_some_iff.1 h
      split
      · rename_i e; cases e
      · rename_i e; cases e; exact absurd rfl (h1 _)
      · rename_i e; cases e
        exact readCO_ok hx _ (readVO_ok hy _ hk)

/-! ### Data laid, computed -/
def layCO : List D → Heap → Option (List Value × Heap)
  | [], H => some ([], H)
  | .nil :: r, H => (layCO r H).map fun x => (.slice none 0 0 :: x.1, x.2)
  | .sl n es cs :: r, H => (layCO r (H.new (.sym cs true es))).map fun x => (.slice (some ⟨H.next, 0, none⟩) n n :: x.1, x.2)
  | .val v :: r, H => match v with
    | .agg _ => none
    | v => (layCO r H).map fun x => (v :: x.1, x.2)
  | .agg _ :: _, _ => none
def layVO : List D → Heap → Option (List Value × Heap)
  | [], H => some ([], H)
  | .agg ds :: r, H => (layCO ds H).bind fun x => (layVO r x.2).map fun y => (.agg x.1.toArray :: y.1, y.2)
  | d :: r, H => (layCO [d] H).bind fun x => match x.1 with
    | [v] => (layVO r x.2).map fun y => (v :: y.1, y.2)
    | _ => none
theorem layCO_ok : ∀ {ds : List D} {H : Heap} {x : List Value × Heap}, layCO ds H = some x → ∀ k : List Value → Heap → Prop, k x.1 x.2 → layC ds H k
  | [], H, x, h, k, hk => by
    simp only [layCO, Option.some.injEq] at h; subst h; exact hk
  | .nil :: r, H, x, h, k, hk => by
    obtain ⟨y, hy, rfl⟩ := Option.map_eq_some_iff.1 h
    exact layCO_ok hy _ hk
  | .sl n es cs :: r, H, x, h, k, hk => by
    obtain ⟨y, hy, rfl⟩ := Option.map_eq_some_iff.1 h
    exact layCO_ok hy _ hk
  | .val v :: r, H, x, h, k, hk => by
    unfold layCO at h
    unfold layC
    split at h
    · cases h
    · rename_i hv
      obtain ⟨y, hy, rfl⟩ := Option.map_eq_some_iff.1 h
      first
        | exact layCO_ok hy _ hk
        | (split
           · exact absurd rfl (hv _)
           · exact layCO_ok hy _ hk)
  | .agg _ :: _, H, x, h, k, hk => by cases h
theorem layVO_ok : ∀ {ds : List D} {H : Heap} {x : List Value × Heap}, layVO ds H = some x → ∀ k : List Value → Heap → Prop, k x.1 x.2 → layV ds H k
  | [], H, x, h, k, hk => by
    simp only [layVO, Option.some.injEq] at h; subst h; exact hk
  | d :: r, H, x, h, k, hk => by
    unfold layVO at h
    unfold layV
    split at h
    · rename_i e; cases e
    · rename_i e; cases e
      obtain ⟨y, hy, h⟩ := Option.bind_eq_some_iff.1 h
      obtain ⟨z, hz, rfl⟩ := Option.map_eq_some_iff.1 h
      exact layCO_ok hy _ (layVO_ok hz _ hk)
    · rename_i h1 e; cases e
      obtain ⟨y, hy, h⟩ := Option.bind_eq_some_iff.1 h
      split at h
      · rename_i he
        obtain ⟨z, hz, rfl⟩ := Option.map_eq_some_iff.1 h
        split
        · rename_i e; cases e
        · rename_i e; cases e; exact absurd rfl (h1 _)
        · rename_i e; cases e
          refine layCO_ok hy _ ?_
          simp only [he]
          exact layVO_ok hz _ hk
      · cases h

/-! ### Data given, computed -/
def giveCO (H : Heap) : List Nat → List Value → Option (List Nat × List D)
  | used, [] => some (used, [])
  | used, v :: r =>
    match v with
    | .slice none 0 0 => (giveCO H used r).map fun x => (x.1, .nil :: x.2)
    | .slice (some ⟨i, 0, none⟩) len cap =>
      if gbase ≤ i ∧ used.contains i = false then
        match H.get i with
        | some (.sym cs true es) => if len = cap ∧ cs.length = len * es then (giveCO H (i :: used) r).map fun x => (x.1, .sl len es cs :: x.2) else none
        | some (.cells cs _ _ es) => if len = cap ∧ cs.length = len * es then (if cs.all cellP then (giveCO H (i :: used) r).map fun x => (x.1, .sl len es cs :: x.2) else none) else none
        | _ => none
      else none
    | v => if plain 8 v then (giveCO H used r).map fun x => (x.1, .val v :: x.2) else none
def giveVO (H : Heap) : List Nat → List Value → Option (List D)
  | _, [] => some []
  | used, .agg cs :: r => (giveCO H used cs.toList).bind fun x => (giveVO H x.1 r).map (.agg x.2 :: ·)
  | used, v :: r => (giveCO H used [v]).bind fun x => (giveVO H x.1 r).map (x.2 ++ ·)
def giveO (v : Value) (H : Heap) : Option (List D) :=
  match v with
  | .tuple vs => if vs.size = 1 then none else giveVO H [] vs.toList
  | v => giveVO H [] [v]
theorem giveCO_ok : ∀ {l : List Value} {used : List Nat} {x : List Nat × List D}, giveCO H used l = some x → ∀ k : List Nat → List D → Prop, k x.1 x.2 → giveCells H used l k
  | [], used, x, h, k, hk => by
    simp only [giveCO, Option.some.injEq] at h; subst h; exact hk
  | v :: r, used, x, h, k, hk => by
    unfold giveCO at h
    unfold giveCells
    split at h
    · obtain ⟨y, hy, rfl⟩ := Option.map_eq_some_iff.1 h
      exact giveCO_ok hy _ hk
    · simp only
      split at h
      · rename_i hc
        rw [if_pos hc]
        split at h
        · rename_i hg
          simp only [hg]
          split at h
          · rename_i hl
            obtain ⟨y, hy, rfl⟩ := Option.map_eq_some_iff.1 h
            exact ⟨hl, giveCO_ok hy _ hk⟩
          · cases h
        · rename_i hg
          simp only [hg]
          split at h
          · rename_i hl
            split at h
            · rename_i hall
              obtain ⟨y, hy, rfl⟩ := Option.map_eq_some_iff.1 h
              exact ⟨hl, bcase_intro (fun _ => giveCO_ok hy _ hk) (fun hf => by rw [hall] at hf; cases hf)⟩
            · cases h
          · cases h
        · cases h
      · cases h
    · rename_i h1 h2
      split
      · exact absurd rfl h1
      · exact absurd rfl (h2 _ _ _)
      · split at h
        · rename_i hp
          obtain ⟨y, hy, rfl⟩ := Option.map_eq_some_iff.1 h
          rw [if_pos hp]
          exact giveCO_ok hy _ hk
        · cases h
theorem giveVO_ok : ∀ {l : List Value} {used : List Nat} {ds : List D}, giveVO H used l = some ds → ∀ k : List D → Prop, k ds → giveVals H used l k
  | [], used, ds, h, k, hk => by
    simp only [giveVO, Option.some.injEq] at h; subst h; exact hk
  | v :: r, used, ds, h, k, hk => by
    unfold giveVO at h
    unfold giveVals
    split at h
    · rename_i e; cases e
    · rename_i e; cases e
      obtain ⟨x, hx, h⟩ := Option.bind_eq_some_iff.1 h
      obtain ⟨y, hy, rfl⟩ := Option.map_eq_some_iff.1 h
      exact giveCO_ok hx _ (giveVO_ok hy _ hk)
    · rename_i h1 e; cases e
      obtain ⟨x, hx, h⟩ := Option.bind_eq_some_iff.1 h
      obtain ⟨y, hy, rfl⟩ := Option.map_eq_some_iff.1 h
      split
      · rename_i e; cases e
      · rename_i e; cases e; exact absurd rfl (h1 _)
      · rename_i e; cases e
        exact giveCO_ok hx _ (giveVO_ok hy _ hk)
theorem giveO_ok {v : Value} {ds : List D} (h : giveO v H = some ds) : dataK (· = ds) v H := by
  unfold giveO at h
  unfold dataK
  split at h
  · split at h
    · cases h
    · rename_i hs
      simp only [if_neg hs]
      exact giveVO_ok h _ rfl
  · rename_i hn
    split
    · exact absurd rfl (hn _)
    · exact giveVO_ok h _ rfl

/-! ### Data compared -/
def cEq : Value → Value → Bool
  | .int j a, .int k b => j == k && a == b
  | .bool a, .bool b => a == b
  | .string a, .string b => a.data.toList == b.data.toList
  | _, _ => false
def csEq : List Value → List Value → Bool
  | [], [] => true
  | a :: xs, b :: bs => cEq a b && csEq xs bs
  | _, _ => false
def d1Eq : D → D → Bool
  | .nil, .nil => true
  | .val a, .val b => cEq a b
  | .sl n es cs, .sl m fs bs => n == m && es == fs && csEq cs bs
  | _, _ => false
def d2Eq : List D → List D → Bool
  | [], [] => true
  | a :: xs, b :: bs => d1Eq a b && d2Eq xs bs
  | _, _ => false
def dEq : D → D → Bool
  | .agg a, .agg b => d2Eq a b
  | a, b => d1Eq a b
def dsEq : List D → List D → Bool
  | [], [] => true
  | a :: xs, b :: bs => dEq a b && dsEq xs bs
  | _, _ => false
theorem cEq_ok : ∀ {a b : Value}, cEq a b = true → a = b := by
  intro a b h
  unfold cEq at h
  split at h
  · simp only [Bool.and_eq_true, beq_iff_eq] at h; rw [h.1, h.2]
  · rw [eq_of_beq h]
  · rename_i x y
    have e := eq_of_beq h
    obtain ⟨x⟩ := x
    obtain ⟨y⟩ := y
    have : x = y := Array.ext' e
    rw [this]
  · cases h
theorem csEq_ok : ∀ {a b : List Value}, csEq a b = true → a = b
  | [], [], _ => rfl
  | a :: xs, b :: bs, h => by
    simp only [csEq, Bool.and_eq_true] at h
    rw [cEq_ok h.1, csEq_ok h.2]
  | [], _ :: _, h => by cases h
  | _ :: _, [], h => by cases h
theorem d1Eq_ok {a b : D} (h : d1Eq a b = true) : a = b := by
  unfold d1Eq at h
  split at h
  · rfl
  · rw [cEq_ok h]
  · simp only [Bool.and_eq_true, beq_iff_eq] at h
    rw [h.1.1, h.1.2, csEq_ok h.2]
  · cases h
theorem d2Eq_ok : ∀ {a b : List D}, d2Eq a b = true → a = b
  | [], [], _ => rfl
  | a :: xs, b :: bs, h => by
    simp only [d2Eq, Bool.and_eq_true] at h
    rw [d1Eq_ok h.1, d2Eq_ok h.2]
  | [], _ :: _, h => by cases h
  | _ :: _, [], h => by cases h
theorem dEq_ok {a b : D} (h : dEq a b = true) : a = b := by
  unfold dEq at h
  split at h
  · rw [d2Eq_ok h]
  · exact d1Eq_ok h
theorem dsEq_ok : ∀ {a b : List D}, dsEq a b = true → a = b
  | [], [], _ => rfl
  | a :: xs, b :: bs, h => by
    simp only [dsEq, Bool.and_eq_true] at h
    rw [dEq_ok h.1, dsEq_ok h.2]
  | [], _ :: _, h => by cases h
  | _ :: _, [], h => by cases h

/-! ### The evaluator with a table -/
abbrev Tab := FuncId → Option (List D → Option (List D))
/-- (a list of what is known) -/
def tabLook : List (List D × List D) → List D → Option (List D)
  | [], _ => none
  | p :: r, ds => if dsEq p.1 ds then some p.2 else tabLook r ds
theorem tabLook_ok : ∀ {t : List (List D × List D)} {ds rs : List D}, tabLook t ds = some rs → (ds, rs) ∈ t
  | [], _, _, h => by cases h
  | p :: r, ds, rs, h => by
    unfold tabLook at h
    split at h
    · rename_i he
      simp only [Option.some.injEq] at h
      rw [← dsEq_ok he, ← h]
      exact List.mem_cons_self ..
    · exact List.mem_cons_of_mem _ (tabLook_ok h)
def tabCall (t : List D → Option (List D)) (args : Array Value) (H : Heap) : Option (Value × Heap) :=
  (readVO H args.toList).bind fun ds => (t ds).bind fun rs => (layVO rs H).map fun x => (tupleOf x.1, x.2)
def evalT (P : Program) (tab : Tab) : Nat → Self
  | 0 => ⟨fun _ _ _ => none, fun _ _ _ _ => none⟩
  | n + 1 => ⟨fun f args H => match tab f with | none => callBody P (evalT P tab n) f args H | some t => tabCall t args H, fun round c A H => codeA P (evalT P tab n) round c A H⟩
def TabOK (P : Program) (tab : Tab) : Prop := ∀ f t, tab f = some t → ∀ ds rs, t ds = some rs → Con P f ds rs
theorem tabCall_sound {f : FuncId} {t : List D → Option (List D)} (ht : ∀ ds rs, t ds = some rs → Con P f ds rs) {args : Array Value} {v : Value} {H' : Heap} (h : tabCall t args H = some (v, H')) : CallH P f args H (fun u K => u = v ∧ K = H') := by
  obtain ⟨ds, h1, h⟩ := Option.bind_eq_some_iff.1 h
  obtain ⟨rs, h2, h⟩ := Option.bind_eq_some_iff.1 h
  obtain ⟨x, h3, h⟩ := Option.map_eq_some_iff.1 h
  simp only [Prod.mk.injEq] at h
  obtain ⟨rfl, rfl⟩ := h
  refine wpFix_call (C := fun g ds rs => g = f ∧ t ds = some rs ∨ Con P g ds rs) (fun g ds rs hc => ?_) (fix := t) ?_
  · rcases hc with ⟨rfl, hm⟩ | hc
    · exact ht _ _ hm
    · exact hc
  · unfold wpFix
    refine readVO_ok h1 _ ?_
    simp only [h2]
    exact ⟨⟨.inl ⟨rfl, h2⟩⟩, layVO_ok h3 _ ⟨rfl, rfl⟩⟩
theorem evalT_sound {tab : Tab} (htab : TabOK P tab) (hmix : P.follows .mixedOrders = true) : ∀ n, SelfS P w0 (evalT P tab n)
  | 0 => ⟨fun n _ _ h => by simp [evalT] at h, fun n _ _ _ h => by simp [evalT] at h, fun n _ _ _ h => by simp [evalT] at h⟩
  | k + 1 => ⟨fun {ρ H w f args args' v H'} n g ha h => by
      simp only [evalT] at h
      split at h
      · exact callBody_sound (evalT_sound htab hmix k) g n ha h
      · rename_i t ht
        refine (tabCall_sound (htab f t ht) h w0 ρ w args' n g ha).mono ?_
        rintro e w' ⟨u, K, ρ', v', ⟨rfl, rfl⟩, h1, h2, h3, h4⟩
        exact ⟨ρ', v', h1, h2, h3, h4⟩, fun n g rr ra h => codeA_sound (evalT_sound htab hmix k) hmix n _ g rr ra h,
      fun n g rr ra h => loopIn_once (loop_body (evalT_sound htab hmix k) n _ (fun g rr ra h => codeA_sound (evalT_sound htab hmix k) hmix n _ g rr ra h) g rr ra h)⟩
/-- A call of known data is run. -/
def runOK (P : Program) (tab : Tab) (n : Nat) (f : FuncId) (ds rs : List D) (caps : Nat → Nat) : Bool :=
  match (evalT P tab n).call f (layVals caps 500 ds).1.toArray (heapOf (layVals caps 500 ds).2) with
  | some (v, H) => (match giveO v H with | some rs' => dsEq rs' rs | none => false)
  | none => false
theorem con_run {tab : Tab} (htab : TabOK P tab) (hmix : P.follows .mixedOrders = true) {n : Nat} {f : FuncId} {ds rs : List D} (hcount : countV ds ≤ 400) (h : ∀ caps, runOK P tab n f ds rs caps = true) : Con P f ds rs := by
  intro w args hgood hr
  obtain ⟨caps, ρ, hst, g, ha⟩ := lay_gam hgood hr hcount
  have h := h caps
  unfold runOK at h
  split at h
  · rename_i v H hc
    split at h
    · rename_i rs' hg
      have e := dsEq_ok h
      subst e
      refine callsIn_wide.1 (((evalT_sound htab hmix n).call 0 g (by simpa using ha) hc).mono ?_)
      rintro e w' ⟨ρ', v', rfl, hv, g', ext'⟩
      obtain ⟨vs, ds', u, rfl, h1, rfl⟩ := dataK_out g' hv (giveO_ok hg)
      exact ⟨⟨vs, u, rfl, h1⟩, g'.below.below hst⟩
    · cases h
  · cases h
end Go.Abs

/- Pairs of whole numbers as cells. -/
namespace Go.Abs
theorem bc_t {p : Prop} [Decidable p] {x y : Prop} (h : p) : bcase (decide p) x y = x := by rw [decide_eq_true h]; rfl
theorem bc_f {p : Prop} [Decidable p] {x y : Prop} (h : ¬ p) : bcase (decide p) x y = y := by rw [decide_eq_false h]; rfl
/-- pairs of whole numbers as cells -/
def vp : List (Int × Int) → List Value
  | [] => []
  | p :: r => .int .i64 p.1 :: .int .i64 p.2 :: vp r
@[simp] theorem vp_length : ∀ l : List (Int × Int), (vp l).length = l.length * 2
  | [] => rfl
  | p :: r => by simp only [vp, List.length_cons, vp_length r]; omega
theorem vp_drop : ∀ (l : List (Int × Int)) (i : Nat), (vp l).drop (i * 2) = vp (l.drop i)
  | l, 0 => by simp
  | [], i + 1 => by simp [vp]
  | p :: r, i + 1 => by
    rw [Nat.add_mul]
    simp only [vp, Nat.one_mul, List.drop_succ_cons]
    exact vp_drop r i
theorem vp_two (l : List (Int × Int)) (i : Nat) (h : i < l.length) : At (vp l) (0 + i * 2) 2 [.int .i64 l[i].1, .int .i64 l[i].2] := by
  refine ⟨by rw [vp_length]; omega, ?_⟩
  rw [Nat.zero_add, vp_drop, List.drop_eq_getElem_cons h]
  rfl
theorem vp_one (l : List (Int × Int)) (i : Nat) (h : i < l.length) : At (vp l) (0 + i * 2) 1 [.int .i64 l[i].1] := by
  refine ⟨by rw [vp_length]; omega, ?_⟩
  rw [Nat.zero_add, vp_drop, List.drop_eq_getElem_cons h]
  rfl
theorem vp_snd (l : List (Int × Int)) (i : Nat) (h : i < l.length) : At (vp l) (0 + i * 2 + 1) 1 [.int .i64 l[i].2] := by
  refine ⟨by rw [vp_length]; omega, ?_⟩
  rw [Nat.zero_add, ← List.drop_drop, vp_drop, List.drop_eq_getElem_cons h]
  rfl
theorem vp_whole (l : List (Int × Int)) : List.take (l.length * 2) (List.drop 0 (vp l)) = vp l := by simp [List.take_of_length_le]
theorem bc_n {a b : Int} {x y : Prop} (h : a ≠ b) : bcase (a != b) x y = x := by rw [show (a != b) = true by simpa using h]; rfl
/-- what is loaded is what is there -/
theorem at1 {l : List Value} {k : Nat} {a : Int} (h : At l k 1 [.int .i64 a]) {Q : Int → Prop} : (∃ n : Int, At l k 1 [.int .i64 n] ∧ Q n) = Q a := by
  apply propext
  constructor
  · rintro ⟨n, hn, hq⟩
    have e := hn.eq.symm.trans h.eq
    simp only [List.cons.injEq, Value.int.injEq, true_and, and_true] at e
    rw [← e]; exact hq
  · intro hq; exact ⟨a, h, hq⟩
theorem at2 {l : List Value} {k : Nat} {a b : Int} (h : At l k 2 [.int .i64 a, .int .i64 b]) {Q : Int → Int → Prop} : (∃ n : Int, ∃ m : Int, At l k 2 [.int .i64 n, .int .i64 m] ∧ Q n m) = Q a b := by
  apply propext
  constructor
  · rintro ⟨n, m, hn, hq⟩
    have e := hn.eq.symm.trans h.eq
    simp only [List.cons.injEq, Value.int.injEq, true_and, and_true] at e
    obtain ⟨rfl, rfl⟩ := e; exact hq
  · intro hq; exact ⟨a, b, h, hq⟩
theorem vp_sndA (l : List (Int × Int)) (i : Nat) (h : i < l.length) (b : Nat) : At (vp l) (Addr.off ⟨b, 0 + i * 2, none⟩ + 1) 1 [.int .i64 l[i].2] := vp_snd l i h
abbrev dI (n : Int) : D := .val (.int .i64 n)
/-- the first number that is not naught -/
def fst0 : List Int → Int
  | [] => 0
  | p :: r => if p = 0 then fst0 r else p
theorem fst0_two (a b : Int) : fst0 [a, b] = if a = 0 then b else a := by
  simp only [fst0]
  split
  · split
    · omega
    · rfl
  · rfl
end Go.Abs

/- What a good world's variables hold, as the library's contracts ask it. -/
namespace Go.Abs
variable {P : Program} {w : World}
theorem mem_vars {name : String} {k : VarKind} {g : Nat} (hm : (name, k) ∈ wantedVars) (hg : P.globalNamed name = some g) : (g, k) ∈ varsOf P :=
  List.mem_filterMap.2 ⟨(name, k), hm, by simp [hg]⟩
theorem good_int (h : GoodW P w) {name : String} {g : Nat} (hm : (name, VarKind.int) ∈ wantedVars) (hg : P.globalNamed name = some g) : ∃ n, w.cell? ⟨g, 0, none⟩ = some (.int .i64 n) := by
  obtain ⟨c, ty, fz, n, e, hc⟩ := h _ (mem_vars hm hg)
  simp only at e
  exact ⟨n, by simp [World.cell?, e, hc]⟩
end Go.Abs

/- Strings as lists of bytes: pieces between separators, decimal numbers. -/
namespace Go.Str

/-- The string of a list of bytes. -/
abbrev bs (l : List UInt8) : ByteArray := ⟨l.toArray⟩
theorem bs_data (s : ByteArray) : bs s.data.toList = s := by cases s; simp [bs]
theorem data_bs (l : List UInt8) : (bs l).data.toList = l := by simp
theorem bs_size (l : List UInt8) : (bs l).size = l.length := by simp [ByteArray.size]
theorem bs_extract (l : List UInt8) (i j : Nat) : (bs l).extract i j = bs ((l.drop i).take (j - i)) := by
  have h := Lib.extract_data (bs l) i j
  rw [data_bs] at h
  rw [← bs_data ((bs l).extract i j), h]
theorem bs_get (l : List UInt8) (i : Nat) : (bs l)[i]? = l[i]? := by
  show (if h : i < (bs l).size then some ((bs l)[i]'h) else none) = _
  by_cases h : i < (bs l).size
  · rw [dif_pos h]
    have h2 : i < l.length := by rw [bs_size] at h; exact h
    rw [List.getElem?_eq_getElem h2]
    rfl
  · rw [dif_neg h]
    rw [bs_size] at h
    rw [List.getElem?_eq_none (by omega)]

/-! ### Pieces between separators -/
def cutA (c : UInt8) : List UInt8 → List UInt8 → List (List UInt8)
  | acc, [] => [acc]
  | acc, b :: r => if b = c then acc :: cutA c [] r else cutA c (acc ++ [b]) r
theorem cutA_miss {c : UInt8} : ∀ {l acc : List UInt8}, c ∉ l → cutA c acc l = [acc ++ l]
  | [], acc, _ => by simp [cutA]
  | b :: r, acc, h => by
    have h1 : ¬ b = c := fun e => h (by simp [e])
    rw [cutA, if_neg h1, cutA_miss (fun hm => h (List.mem_cons_of_mem _ hm))]
    simp
theorem cutA_hit {c : UInt8} : ∀ {a r acc : List UInt8}, c ∉ a → cutA c acc (a ++ c :: r) = (acc ++ a) :: cutA c [] r
  | [], r, acc, _ => by simp [cutA]
  | b :: a, r, acc, h => by
    have h1 : ¬ b = c := fun e => h (by simp [e])
    rw [List.cons_append, cutA, if_neg h1, cutA_hit (fun hm => h (List.mem_cons_of_mem _ hm))]
    simp
theorem cutA_ne {c : UInt8} : ∀ {l acc : List UInt8}, cutA c acc l ≠ []
  | [], acc => by simp [cutA]
  | b :: r, acc => by
    rw [cutA]; split
    · simp
    · exact cutA_ne
theorem cutA_len {c : UInt8} : ∀ {l acc : List UInt8}, (cutA c acc l).length = l.count c + 1
  | [], acc => by simp [cutA]
  | b :: r, acc => by
    rw [cutA]; split
    · next h => rw [List.length_cons, cutA_len, h, List.count_cons_self]
    · next h => rw [cutA_len, List.count_cons_of_ne h]
theorem cutA_le {c : UInt8} : ∀ {l acc : List UInt8}, ∀ x ∈ cutA c acc l, x.length ≤ acc.length + l.length
  | [], acc, x, hx => by simp [cutA] at hx; rw [hx]; simp
  | b :: r, acc, x, hx => by
    rw [cutA] at hx; split at hx
    · rcases List.mem_cons.1 hx with rfl | hx
      · omega
      · have := cutA_le x hx; simp at this ⊢; omega
    · have := cutA_le x hx; simp at this ⊢; omega
/-- where a byte is found -/
theorem index_cases (l : List UInt8) (c : UInt8) : (Lib.index l [c] = -1 ∧ c ∉ l) ∨ ∃ a r, l = a ++ c :: r ∧ c ∉ a ∧ Lib.index l [c] = (a.length : Nat) := by
  rw [Lib.index_one]
  induction l with
  | nil => exact .inl ⟨rfl, by simp⟩
  | cons b l ih =>
    by_cases hb : b = c
    · subst hb
      exact .inr ⟨[], l, rfl, by simp, by simp [Lib.indexByte]⟩
    · rcases ih with ⟨h1, h2⟩ | ⟨a, r, rfl, h2, h3⟩
      · exact .inl ⟨by simp [Lib.indexByte, hb, h1], by simp [h2]; exact fun e => hb e.symm⟩
      · refine .inr ⟨b :: a, r, rfl, by simp [h2]; exact fun e => hb e.symm, ?_⟩
        have h4 : ((a.length : Int) == -1) = false := by rw [beq_eq_false_iff_ne]; omega
        simp only [Lib.indexByte, h3, beq_iff_eq, hb, if_false, h4, Bool.false_eq_true, List.length_cons]
        simp
/-- strings.Split at one byte -/
theorem split_one (c : UInt8) : ∀ (n : Nat) (l : List UInt8), l.length ≤ n → (Lib.splitB (bs [c]) 0 (Lib.countB (bs l) (bs [c])) (bs l)) = (cutA c [] l).map bs := by
  intro n
  induction n with
  | zero =>
    intro l hl
    obtain rfl : l = [] := List.length_eq_zero_iff.1 (by omega)
    rw [Lib.countB_miss _ _ rfl]; rfl
  | succ n ih =>
    intro l hl
    rcases index_cases l c with ⟨h1, h2⟩ | ⟨a, r, rfl, h2, h3⟩
    · have h1' : Lib.indexB (bs l) (bs [c]) = -1 := by unfold Lib.indexB; simpa [bs] using h1
      rw [Lib.countB_miss _ _ h1', Lib.splitB_zero, cutA_miss h2]; simp
    · have h3' : Lib.indexB (bs (a ++ c :: r)) (bs [c]) = (a.length : Nat) := by unfold Lib.indexB; simpa [bs] using h3
      have hs : (bs [c]).size = 1 := by rw [bs_size]; rfl
      rw [Lib.countB_hit _ _ _ (by rw [hs]; decide) h3', Nat.add_comm, Lib.splitB_hit _ _ _ _ _ h3', cutA_hit h2]
      have e1 : (bs (a ++ c :: r)).extract 0 (a.length + 0) = bs a := by rw [bs_extract]; simp
      have e2 : (bs (a ++ c :: r)).extract (a.length + (bs [c]).size) (bs (a ++ c :: r)).size = bs r := by
        rw [bs_extract, hs, bs_size]
        congr 1
        have : (a ++ c :: r).drop (a.length + 1) = r := by
          rw [← List.drop_drop]; simp
        rw [this]
        simp only [List.length_append, List.length_cons]
        rw [show a.length + (r.length + 1) - (a.length + 1) = r.length by omega, List.take_length]
      rw [e1, e2, ih r (by simp at hl; omega)]
      simp
/-- strings.Cut at one byte -/
theorem cut_miss {c : UInt8} {l : List UInt8} (h : c ∉ l) : Lib.cut l [c] = (l, [], false) := by
  rcases index_cases l c with ⟨h1, _⟩ | ⟨a, r, rfl, _, _⟩
  · unfold Lib.cut; rw [h1]; rfl
  · simp at h
theorem cut_hit {c : UInt8} {a r : List UInt8} (h : c ∉ a) : Lib.cut (a ++ c :: r) [c] = (a, r, true) := by
  rcases index_cases (a ++ c :: r) c with ⟨_, h2⟩ | ⟨a', r', e, h2, h3⟩
  · simp at h2
  · have h4 := cutA_hit (acc := []) (r := r) h
    have h5 := cutA_hit (acc := []) (r := r') h2
    rw [← e, h4] at h5
    simp only [List.nil_append, List.cons.injEq] at h5
    obtain ⟨rfl, _⟩ := h5
    unfold Lib.cut; rw [h3]
    rw [if_pos (by omega)]
    simp only [Int.toNat_natCast, List.take_left', List.length_singleton, Prod.mk.injEq, and_true, true_and]
    rw [← List.drop_drop]; simp
/-- a list at its first separator -/
theorem mem_split {c : UInt8} {l : List UInt8} (h : c ∈ l) : ∃ a r, l = a ++ c :: r ∧ c ∉ a := by
  rcases index_cases l c with ⟨_, h2⟩ | ⟨a, r, e, h2, _⟩
  · exact absurd h h2
  · exact ⟨a, r, e, h2⟩

/-! ### Numbers -/
def isDig (b : UInt8) : Bool := decide (48 ≤ b.toNat) && decide (b.toNat ≤ 57)
/-- the number of some digits, behind others -/
def numF (n : Int) (l : List UInt8) : Int := l.foldl (fun n b => 10 * n + ((b.toNat : Int) - 48)) n
theorem numF_nil (n : Int) : numF n [] = n := rfl
theorem numF_cons (n : Int) (b : UInt8) (l : List UInt8) : numF n (b :: l) = numF (10 * n + ((b.toNat : Int) - 48)) l := rfl
theorem numF_append (n : Int) (a b : List UInt8) : numF n (a ++ b) = numF (numF n a) b := by simp [numF, List.foldl_append]
/-- so many digits at the most, no zero ahead of others -/
def okNum (d : Nat) (l : List UInt8) : Bool := decide (1 ≤ l.length) && decide (l.length ≤ d) && !(decide (1 < l.length) && l.head? == some 48) && l.all isDig
/-- a number that may have a sign: (0, false) if it is none -/
def readNum (d : Nat) (l : List UInt8) : Int × Bool :=
  match l with
  | 45 :: r => if decide (1 ≤ r.length) && decide (r.length ≤ d) && !(r.head? == some 48) && r.all isDig then (-(numF 0 r), true) else (0, false)
  | l => if okNum d l then (numF 0 l, true) else (0, false)
theorem numF_ge : ∀ (l : List UInt8) (n : Int), 0 ≤ n → l.all isDig = true → 0 ≤ numF n l ∧ numF n l < (n + 1) * 10 ^ l.length
  | [], n, h, _ => by simp [numF]; omega
  | b :: r, n, h, hd => by
    simp only [List.all_cons, Bool.and_eq_true, isDig, decide_eq_true_eq] at hd
    have := numF_ge r (10 * n + ((b.toNat : Int) - 48)) (by omega) hd.2
    rw [numF_cons]
    refine ⟨this.1, Int.lt_of_lt_of_le this.2 ?_⟩
    rw [List.length_cons, Int.pow_succ]
    have hp : (0 : Int) < 10 ^ r.length := Int.pow_pos (by decide)
    have : (10 * n + ((b.toNat : Int) - 48) + 1) * 10 ^ r.length ≤ (10 * (n + 1)) * 10 ^ r.length := Int.mul_le_mul_of_nonneg_right (by omega) (Int.le_of_lt hp)
    calc _ ≤ _ := this
      _ = _ := by rw [Int.mul_comm 10 (n + 1), Int.mul_assoc, Int.mul_comm 10]
end Go.Str

/- Decimal numerals against the numbers that they spell. -/
namespace Go.Str
abbrev dec (u : Nat) : List UInt8 := Lib.decDigits u
theorem dec_small {u : Nat} (h : u < 10) : dec u = [UInt8.ofNat (48 + u)] := by unfold dec; rw [Lib.decDigits, dif_pos h]
theorem dec_big {u : Nat} (h : ¬ u < 10) : dec u = dec (u / 10) ++ [UInt8.ofNat (48 + u % 10)] := by unfold dec; rw [Lib.decDigits, dif_neg h]
theorem dig_toNat {k : Nat} (h : k < 10) : (UInt8.ofNat (48 + k)).toNat = 48 + k := by
  rw [UInt8.toNat_ofNat']; omega
theorem okNum_inv {d : Nat} {l : List UInt8} (h : okNum d l = true) : 1 ≤ l.length ∧ l.length ≤ d ∧ (1 < l.length → l.head? ≠ some 48) ∧ l.all isDig = true := by
  unfold okNum at h
  simp only [Bool.and_eq_true, decide_eq_true_eq, Bool.not_eq_true', Bool.and_eq_false_iff, decide_eq_false_iff_not, beq_eq_false_iff_ne, ne_eq] at h
  obtain ⟨⟨⟨h1, h2⟩, h3⟩, h4⟩ := h
  exact ⟨h1, h2, fun hl => by rcases h3 with h3 | h3; omega; exact h3, h4⟩
theorem isDig_ofNat {b : UInt8} (h : isDig b = true) {k : Nat} (hk : (k : Int) = (b.toNat : Int) - 48) : UInt8.ofNat (48 + k) = b := by
  simp only [isDig, Bool.and_eq_true, decide_eq_true_eq] at h
  rw [← UInt8.toNat_inj, dig_toNat (by omega)]; omega
/-- a numeral is the numeral of its number -/
theorem dec_numF : ∀ (n : Nat) (l : List UInt8), l.length ≤ n → 1 ≤ l.length → (1 < l.length → l.head? ≠ some 48) → l.all isDig = true → dec (numF 0 l).toNat = l ∧ (l.head? ≠ some 48 → 1 ≤ numF 0 l) ∧ 0 ≤ numF 0 l := by
  intro n
  induction n with
  | zero => intro l h1 h2; omega
  | succ n ih =>
    intro l h1 h2 h3 h4
    rcases List.eq_nil_or_concat l with rfl | ⟨a, b, rfl⟩
    · simp at h2
    · simp only [List.concat_eq_append] at h1 h2 h3 h4 ⊢
      rw [List.all_append, Bool.and_eq_true] at h4
      obtain ⟨h4, h5⟩ := h4
      have h5 : isDig b = true := by simpa using h5
      have hb := h5
      simp only [isDig, Bool.and_eq_true, decide_eq_true_eq] at hb
      rw [numF_append, numF_cons, numF_nil]
      cases a with
      | nil =>
        rw [numF_nil]
        simp only [List.nil_append]
        refine ⟨?_, ?_, by omega⟩
        · rw [dec_small (by omega), isDig_ofNat h5 (by omega)]
        · intro hne
          have : b.toNat ≠ 48 := fun e => hne (by
            have : b = 48 := by rw [← UInt8.toNat_inj, e]; rfl
            rw [this]; rfl)
          omega
      | cons c r =>
        have hh : (c :: r).head? ≠ some 48 := by
          have := h3 (by simp)
          simpa using this
        obtain ⟨e1, e2, e3⟩ := ih (c :: r) (by simp at h1 ⊢; omega) (by simp) (fun _ => hh) h4
        have e2 := e2 hh
        generalize hz : numF 0 (c :: r) = z at *
        refine ⟨?_, fun _ => by omega, by omega⟩
        rw [dec_big (by omega)]
        have k1 : (10 * z + ((b.toNat : Int) - 48)).toNat / 10 = z.toNat := by omega
        have k2 : (((10 * z + ((b.toNat : Int) - 48)).toNat % 10 : Nat) : Int) = (b.toNat : Int) - 48 := by omega
        rw [k1, e1, isDig_ofNat h5 k2]
theorem dec_okNum {d : Nat} {l : List UInt8} (h : okNum d l = true) : dec (numF 0 l).toNat = l := by
  obtain ⟨h1, _, h3, h4⟩ := okNum_inv h
  exact (dec_numF _ l (Nat.le_refl _) h1 h3 h4).1
theorem numF_pos {d : Nat} {l : List UInt8} (h : okNum d l = true) : 0 ≤ numF 0 l ∧ numF 0 l < 10 ^ d := by
  obtain ⟨_, h2, _, h4⟩ := okNum_inv h
  have := numF_ge l 0 (by decide) h4
  refine ⟨this.1, Int.lt_of_lt_of_le this.2 ?_⟩
  rw [Int.zero_add, Int.one_mul]
  exact_mod_cast Nat.pow_le_pow_right (by decide) h2
/-! ### strconv.Itoa, strconv.Atoi -/
theorem itoa_nn {n : Int} (h : 0 ≤ n) : Lib.itoa n = dec n.toNat := by unfold Lib.itoa; rw [if_neg (by omega)]
theorem decFrom_numF : ∀ (l : List UInt8) (acc : Nat), l.all isDig = true → ∃ m : Nat, Lib.decFrom acc l = some m ∧ numF acc l = m
  | [], acc, _ => ⟨acc, rfl, rfl⟩
  | b :: r, acc, h => by
    simp only [List.all_cons, Bool.and_eq_true] at h
    have hb := h.1
    simp only [isDig, Bool.and_eq_true, decide_eq_true_eq] at hb
    obtain ⟨m, h1, h2⟩ := decFrom_numF r (acc * 10 + (b.toNat - 48)) h.2
    refine ⟨m, ?_, ?_⟩
    · simp only [Lib.decFrom, Lib.digitVal, hb, and_self, if_true]; exact h1
    · rw [numF_cons, ← h2]; congr 1; omega
theorem not_sign {b : UInt8} (h : isDig b = true) : (b == 45) = false ∧ (b == 43) = false := by
  simp only [isDig, Bool.and_eq_true, decide_eq_true_eq] at h
  constructor <;> rw [beq_eq_false_iff_ne] <;> rintro rfl
  · have : (45 : UInt8).toNat = 45 := rfl
    omega
  · have : (43 : UInt8).toNat = 43 := rfl
    omega
theorem atoi_ok {d : Nat} {l : List UInt8} (h : okNum d l = true) : Lib.atoi l = some (numF 0 l) ∧ Lib.itoa (numF 0 l) = l := by
  have hd := dec_okNum h
  have hp := (numF_pos h).1
  obtain ⟨h1, _, _, h4⟩ := okNum_inv h
  refine ⟨?_, by rw [itoa_nn hp, hd]⟩
  cases l with
  | nil => simp at h1
  | cons b r =>
    have hb : isDig b = true := by simp only [List.all_cons, Bool.and_eq_true] at h4; exact h4.1
    obtain ⟨m, e1, e2⟩ := decFrom_numF (b :: r) 0 h4
    simp only [Lib.atoi, (not_sign hb).1, (not_sign hb).2, Bool.false_eq_true, if_false, Lib.decNat, List.isEmpty_cons, e1, Option.map_some]
    congr 1
    rw [← e2]; rfl
/-- what is read behind the sign -/
def rdT (neg : Nat) (l : List UInt8) : Int × Bool := if (l.drop neg).all isDig then ((if neg = 1 then -(numF 0 (l.drop neg)) else numF 0 (l.drop neg)), true) else (0, false)
theorem readNum_neg {d : Nat} {r : List UInt8} : readNum d (45 :: r) = if r.length = 0 then (0, false) else if d < r.length then (0, false) else if r.head? = some 48 then (0, false) else rdT 1 (45 :: r) := by
  have e0 : readNum d (45 :: r) = if (decide (1 ≤ r.length) && decide (r.length ≤ d) && !(r.head? == some 48) && r.all isDig) = true then (-(numF 0 r), true) else (0, false) := rfl
  rw [e0]
  by_cases h1 : r.length = 0
  · rw [if_pos h1, if_neg (by simp [h1])]
  rw [if_neg h1]
  by_cases h2 : d < r.length
  · rw [if_pos h2, if_neg (by simp; omega)]
  rw [if_neg h2]
  by_cases h3 : r.head? = some 48
  · rw [if_pos h3, if_neg (by simp [h3])]
  rw [if_neg h3, decide_eq_true (by omega), decide_eq_true (by omega), beq_eq_false_iff_ne.2 h3]
  rfl
theorem readNum_pos {d : Nat} {l : List UInt8} (h0 : l.head? ≠ some 45) : readNum d l = if l.length = 0 then (0, false) else if d < l.length then (0, false) else if l.head? = some 48 ∧ 1 < l.length then (0, false) else rdT 0 l := by
  have e0 : readNum d l = if okNum d l then (numF 0 l, true) else (0, false) := by
    unfold readNum
    split
    · simp at h0
    · rfl
  rw [e0]
  by_cases h1 : l.length = 0
  · rw [if_pos h1, if_neg (by simp [okNum, h1])]
  rw [if_neg h1]
  by_cases h2 : d < l.length
  · rw [if_pos h2, if_neg (by simp [okNum]; omega)]
  rw [if_neg h2]
  by_cases h3 : l.head? = some 48 ∧ 1 < l.length
  · rw [if_pos h3, if_neg (by simp [okNum, h3])]
  rw [if_neg h3]
  have e : okNum d l = l.all isDig := by
    unfold okNum
    have : (decide (1 < l.length) && l.head? == some 48) = false := by
      rw [Bool.and_eq_false_iff, decide_eq_false_iff_not, beq_eq_false_iff_ne]
      rcases Nat.lt_or_ge 1 l.length with h | h
      · exact .inr (fun e => h3 ⟨e, h⟩)
      · exact .inl (by omega)
    rw [this, decide_eq_true (by omega), decide_eq_true (by omega)]; rfl
  rw [e]
  rfl
theorem not_all {l : List UInt8} {i : Nat} {b : UInt8} (h : l[i]? = some b) (hb : isDig b = false) : l.all isDig = false := by
  rw [List.all_eq_false]
  exact ⟨b, List.mem_of_getElem? h, by simp [hb]⟩
theorem pow10_le {k d : Nat} (h : k ≤ d) : (10 : Int) ^ k ≤ 10 ^ d := by
  have := Nat.pow_le_pow_right (n := 10) (by decide) h
  exact_mod_cast this
theorem p17 : (10 : Int) ^ 17 = 100000000000000000 := by decide
theorem p18 : (10 : Int) ^ 18 = 1000000000000000000 := by decide
theorem readNum_ok {d : Nat} {l : List UInt8} (h : okNum d l = true) : readNum d l = (numF 0 l, true) := by
  have h4 := okNum_inv h
  unfold readNum
  split
  · rename_i r
    have := h4.2.2.2
    simp only [List.all_cons, Bool.and_eq_true] at this
    exact absurd (not_sign this.1).1 (by simp)
  · rw [if_pos h]
/-- a number without a sign: nothing else is read as one that is not below naught -/
theorem readNum_no {d : Nat} {l : List UInt8} (h : okNum d l = false) : (readNum d l).2 = true → (readNum d l).1 < 0 := by
  unfold readNum
  split
  · rename_i r
    split
    · next hc =>
      intro _
      simp only [Bool.and_eq_true, decide_eq_true_eq, Bool.not_eq_true', beq_eq_false_iff_ne, ne_eq] at hc
      have := (dec_numF _ r (Nat.le_refl _) hc.1.1.1 (fun _ => hc.1.2) hc.2).2.1 hc.1.2
      show -(numF 0 r) < 0
      omega
    · intro e; cases e
  · rw [h]; intro e; cases e
theorem okNum_mem {d : Nat} {l : List UInt8} {c : UInt8} (h : okNum d l = true) (hc : isDig c = false) : c ∉ l := by
  intro hm
  have := List.all_eq_true.1 (okNum_inv h).2.2.2 c hm
  rw [hc] at this; cases this
theorem okNum_nil {d : Nat} : okNum d [] = false := by simp [okNum]
/-- two numbers with a sign between them -/
def two (c : UInt8) (d : Nat) (w : List UInt8) : Option (Int × Int) :=
  if okNum d (Lib.cut w [c]).1 && okNum d (Lib.cut w [c]).2.1 then some (numF 0 (Lib.cut w [c]).1, numF 0 (Lib.cut w [c]).2.1) else none
theorem two_cut {c : UInt8} {d : Nat} {w : List UInt8} (hc : isDig c = false) : ((cutA c [] w).length ≠ 2 ∧ two c d w = none) ∨ ∃ a b, cutA c [] w = [a, b] ∧ two c d w = if okNum d a && okNum d b then some (numF 0 a, numF 0 b) else none := by
  by_cases hw : c ∈ w
  · obtain ⟨a, r, rfl, ha⟩ := mem_split hw
    have e1 : two c d (a ++ c :: r) = if okNum d a && okNum d r then some (numF 0 a, numF 0 r) else none := by unfold two; rw [cut_hit ha]
    by_cases hr : c ∈ r
    · left
      have : okNum d r = false := by
        cases h : okNum d r with
        | false => rfl
        | true => exact absurd hr (okNum_mem h hc)
      refine ⟨?_, by rw [e1, this, Bool.and_false]; rfl⟩
      rw [cutA_hit ha, List.length_cons, cutA_len]
      have := List.count_pos_iff.2 hr
      omega
    · right
      exact ⟨a, r, by rw [cutA_hit ha, cutA_miss hr]; simp, e1⟩
  · left
    refine ⟨by rw [cutA_miss hw]; simp, ?_⟩
    unfold two; rw [cut_miss hw, okNum_nil, Bool.and_false]; rfl
/-- all words of a list, by one reading -/
def words {α : Type} (f : List UInt8 → Option α) : List (List UInt8) → Option (List α)
  | [] => some []
  | w :: r => match f w with
    | none => none
    | some z => (words f r).map (z :: ·)
theorem bs_toList (l : List UInt8) : (bs l).toList = l := by rw [Lib.toList_data, data_bs]
end Go.Str

/- Strings and lists of strings as cells. -/
namespace Go.Abs
open Go.Str
abbrev str (l : List UInt8) : Value := .string (bs l)
abbrev dS (l : List UInt8) : D := .val (str l)
abbrev dB (b : Bool) : D := .val (.bool b)
/-- lists of strings as cells -/
abbrev strs (xs : List (List UInt8)) : List Value := xs.map str
abbrev dSs (xs : List (List UInt8)) : D := .sl xs.length 1 (strs xs)
theorem strs_whole (xs : List (List UInt8)) : List.take (xs.length * 1) (List.drop 0 (strs xs)) = strs xs := by simp [List.take_of_length_le]
theorem strs_at (xs : List (List UInt8)) (i : Nat) (h : i < xs.length) : At (strs xs) (0 + i * 1) 1 [str xs[i]] := by
  refine ⟨by simp; omega, ?_⟩
  rw [Nat.zero_add, Nat.mul_one, List.drop_eq_getElem_cons (by simpa using h)]
  simp
theorem atS {l : List Value} {k : Nat} {s : ByteArray} (h : At l k 1 [.string s]) {Q : ByteArray → Prop} : (∃ n : ByteArray, At l k 1 [.string n] ∧ Q n) = Q s := by
  apply propext
  constructor
  · rintro ⟨n, hn, hq⟩
    have e := hn.eq.symm.trans h.eq
    simp only [List.cons.injEq, Value.string.injEq, and_true] at e
    rw [← e]; exact hq
  · intro hq; exact ⟨s, h, hq⟩
/-- what is read of a string is what is there -/
theorem byte1 {l : List UInt8} {i : Nat} {b : UInt8} (h : l[i]? = some b) {Q : UInt8 → Prop} : (∃ x : UInt8, ByteAt (bs l) i x ∧ Q x) = Q b := by
  apply propext
  constructor
  · rintro ⟨x, hx, hq⟩
    have e := hx.out
    rw [bs_get, h] at e
    obtain rfl := Option.some.inj e
    exact hq
  · intro hq; exact ⟨b, ⟨by rw [bs_get]; exact h⟩, hq⟩
theorem take_snoc {α : Type} {l : List α} {f i : Nat} (h1 : f ≤ i) (h2 : i < l.length) : (l.drop f).take (i + 1 - f) = (l.drop f).take (i - f) ++ [l[i]] := by
  rw [show i + 1 - f = (i - f) + 1 by omega, List.take_add_one]
  congr 1
  rw [List.getElem?_drop, show f + (i - f) = i by omega, List.getElem?_eq_getElem h2]
  rfl
theorem u8_eq {b c : UInt8} (h : (b.toNat : Int) = (c.toNat : Int)) : b = c := by rw [← UInt8.toNat_inj]; omega
theorem wi1 {i n : Nat} (h : i < n) (hn : n < 4294967296) : IntKind.wrap .i64 ((i : Int) + 1) = ((i + 1 : Nat) : Int) := by rw [w64 (by omega) (by omega)]; rfl
theorem whole_le (xs : List (List UInt8)) : 0 + xs.length * 1 ≤ (strs xs).length := by simp
theorem whole_eq (xs : List (List UInt8)) : 0 + xs.length * 1 = (strs xs).length := by simp
end Go.Abs

/- The library's functions on strings, in data, by the library's own contracts. -/
namespace Go.Proofs.G5v
open Go Go.Abs Go.Proofs Go.RowKit Go.Str Go.Sort
set_option maxRecDepth 100000
theorem mixed : Tryz.prog.follows .mixedOrders = true := by kernel_rfl
abbrev C5 : FuncId → List D → List D → Prop := Con Tryz.prog
theorem vPow : Tryz.prog.globalNamed "internal/strconv.uint64pow10" = some 3 := by kernel_rfl
theorem vMax : Tryz.prog.globalNamed "internal/bytealg.MaxLen" = some 0 := by kernel_rfl
theorem hMax {w : World} (h : GoodW Tryz.prog w) : ∃ n, w.cell? ⟨0, 0, none⟩ = some (.int .i64 n) := good_int h (by simp [wantedVars]) vMax
theorem reads1 {w : World} {v : Value} {args : Array Value} (h : ReadsL w [.val v] args.toList) : args = #[v] := by
  obtain ⟨l⟩ := args
  replace h : ReadsL w [.val v] l := h
  cases h with | cons h1 t => cases t; cases h1; rfl
theorem reads2 {w : World} {u v : Value} {args : Array Value} (h : ReadsL w [.val u, .val v] args.toList) : args = #[u, v] := by
  obtain ⟨l⟩ := args
  replace h : ReadsL w [.val u, .val v] l := h
  cases h with | cons h1 t => cases t with | cons h2 t => cases t; cases h1; cases h2; rfl
/-- strings.Split at one byte -/
theorem conSp (l : List UInt8) (c : UInt8) (hl : l.length < 4294967281) : C5 44 [dS l, dS [c]] [dSs (cutA c [] l)] := by
  intro w args hg hr
  rw [reads2 hr]
  obtain ⟨m, hm⟩ := hMax hg
  refine (Tryz.strings_Split (bs l) (bs [c]) m w (by rw [bs_size]; exact hl) hm (by rw [bs_size]; exact Nat.le_refl _)).mono ?_
  rintro e w' ⟨rfl, rfl⟩
  have hsp := split_one c l.length l (Nat.le_refl _)
  have hlen : Lib.countB (bs l) (bs [c]) + 1 = (cutA c [] l).length := by
    have := Lib.splitB_all (bs [c]) (by rw [bs_size]; exact Nat.le_refl _) 0 _ (bs l) rfl
    rw [← this, hsp, List.length_map]
  have hcs : (Lib.splitB (bs [c]) 0 (Lib.countB (bs l) (bs [c])) (bs l)).map Value.string = strs (cutA c [] l) := by rw [hsp, List.map_map]; rfl
  rw [hlen, hcs]
  have hlen2 : (strs (cutA c [] l)).length = (cutA c [] l).length := by simp [strs]
  refine ⟨⟨[.slice _ _ _], [w.heap.size], rfl, .cons ?_ (.nil _)⟩, (Below.refl _ _).alloc (Nat.le_refl _) _⟩
  refine .sl [] _ 1 _ w.heap.size 0 _ (strs (cutA c [] l)).toArray _ (alloc_get _ _) (Nat.le_refl _) (by simp) (by simp) (Nat.le_refl _) ?_ (by simp) ?_
  · rw [hlen2]; simp [List.take_of_length_le]
  · intro v hv
    obtain ⟨x, _, rfl⟩ := List.mem_map.1 hv
    rfl
end Go.Proofs.G5v

/- Strings: what the frames of the laws share: arguments read as data, a world with the listed tables. -/
namespace Go.Proofs.YthpmmiapcjgbmaaGreatDoor.K
open Go Go.Abs Go.RowKit Go.ChangeShapes Go.WideShapes Go.ChangeAt Go.Proofs Go.Flat Go.Proofs.G5v
set_option maxRecDepth 100000
theorem own : ownKnob Tryz.prog.godebug = none := by kernel_rfl
theorem laidP : laidOutB Tryz.prog = true := by kernel_rfl
theorem mapsP : mapsRowed Tryz.prog = true := by kernel_rfl
theorem slicesP : ∀ t e, t < Tryz.prog.types.size → Tryz.prog.underlying t = some (.slice e) → 0 < Tryz.prog.cellsOf e := slices_full_of Tryz.prog (by kernel_rfl)
theorem tsP {l : List TypeId} (h : l.all (fun t => decide (t < Tryz.prog.types.size)) = true) : ∀ t ∈ l, t < Tryz.prog.types.size := fun t ht => of_decide_eq_true (List.all_eq_true.1 h t ht)
theorem leaf_str {t : TypeId} {d : D} (ht : Tryz.prog.underlying t = some .string) (h : LeafD Tryz.prog t d) : ∃ s : List UInt8, d = dS s := by
  unfold LeafD at h
  rw [ht] at h
  obtain ⟨s, rfl, _⟩ := h
  exact ⟨s.data.toList, by rw [dS, str, Go.Str.bs_data]⟩
/-- The cells of data without addresses. -/
def cellsD : Nat → DataW Unit → List Value
  | 0, _ => []
  | n + 1, .agg ps => ps.flatMap (cellsD n)
  | _ + 1, .lit (.int k z) => [.int k z]
  | _ + 1, .lit (.bool b) => [.bool b]
  | _, _ => []
/-- A world in which the listed tables hold what is listed. -/
def layAt (h : Array Obj) (i : Nat) (d : DataW Unit) : Array Obj := h.modify i fun
  | .cells _ t frozen => .cells (cellsD 8 d).toArray t frozen
  | o => o
/-- So many blocks has the settled world. -/
noncomputable def low : Nat := (World.holding Tryz.prog default ⟨#[], #[], []⟩).heap.size
/-- A variable of an interface type that holds a pointer to an errors.errorString. -/
def layErr (h : Array Obj) (i b : Nat) : Array Obj := h.modify i fun
  | .cells _ t frozen => .cells #[.iface 232 (.pointer (some ⟨b, 0, none⟩))] t frozen
  | o => o
abbrev rngS : ByteArray := ⟨#[118, 97, 108, 117, 101, 32, 111, 117, 116, 32, 111, 102, 32, 114, 97, 110, 103, 101]⟩
abbrev synS : ByteArray := ⟨#[105, 110, 118, 97, 108, 105, 100, 32, 115, 121, 110, 116, 97, 120]⟩
noncomputable def laidHeap (h : Array Obj) : Array Obj :=
  layErr (layErr (layAt (layAt (layAt (layAt (layAt h 6 Rows.laid_math_bits_deBruijn32tab) 7 Rows.laid_math_bits_deBruijn64tab) 3 Rows.laid_internal_strconv_uint64pow10) 5 Rows.laid_unicode_utf8_acceptRanges) 4 Rows.laid_unicode_utf8_first) 2 low) 1 (low + 1)
noncomputable def laidWorld (os : Os) : World :=
  let w0 := World.holding Tryz.prog os ⟨#[.cells #[.string rngS] 234, .cells #[.string synS] 234], #[], []⟩
  { w0 with heap := laidHeap w0.heap }
theorem noStand {ps : Array TypeId} (h : (ps.toList.all fun t => !(Tryz.prog.wantsStandIn t)) = true) : ∀ (j : Nat) t, ps[j]? = some t → Tryz.prog.wantsStandIn t = false := by
  intro j t ht
  have := List.all_eq_true.1 h t (Array.mem_toList_iff.2 (Array.mem_of_getElem? ht))
  simpa using this
theorem starE : "*" ++ "errors.errorString" = "*errors.errorString" := by decide
theorem rowE (u : TypeId) (h : Tryz.prog.typeName? 3 u = some "*errors.errorString") : u = 232 :=
  typeName_ptr_named (nm := "errors.errorString") (by rw [starE]; kernel_rfl) (by kernel_rfl) (by decide) u (by rw [starE]; exact h)
theorem held_iface {W : World} {g : Nat} {n : String} {t : TypeId} {a : Addr} (hg : Tryz.prog.globalNamed n = some g) (h : W.var? Tryz.prog n = some #[.iface t (.pointer (some a))]) : VarKind.iface.ok W.heap[g]? := by
  unfold World.var? at h
  rw [hg, Option.bind_some] at h
  cases ho : W.heap[g]? with
  | none => rw [ho] at h; cases h
  | some o =>
    rw [ho] at h
    cases o with
    | cells c ty fz =>
      obtain rfl := Option.some.inj h
      exact ⟨_, ty, fz, _, rfl, rfl, .inr ⟨_, _, rfl⟩⟩
    | _ => cases h
/-- what the row's condition says of the library's variables -/
theorem good_of {W : World} {rest : List (String × DataW Unit)} {a b c : String × DataW Unit} {t1 t2 : List UInt8} (h4 : laidMet Tryz.prog (a :: b :: ("internal/strconv.uint64pow10", Lib.tabData .u64 Lib.pow10Tab) :: c :: ("strconv.ErrRange", .iface "*errors.errorString" (.ptr (.agg [.lit (.string t1)]))) :: ("strconv.ErrSyntax", .iface "*errors.errorString" (.ptr (.agg [.lit (.string t2)]))) :: rest) W) (h5 : World.ShapedOpen Tryz.prog W) : GoodW Tryz.prog W := by
  have ht := Lib.tabIs_of_head (g := 3) (t := 221) (e := 207) (n := 20) vPow (by kernel_rfl) (by kernel_rfl) (by kernel_rfl) (by kernel_rfl) (by kernel_rfl) h4.tail.tail
  obtain ⟨m, hm⟩ : ∃ m, W.cell? ⟨0, 0, none⟩ = some (.int .i64 m) := Tryz.laysM146.s1_3 W h5
  have gr : Tryz.prog.globalNamed "strconv.ErrRange" = some 2 := by kernel_rfl
  have gs : Tryz.prog.globalNamed "strconv.ErrSyntax" = some 1 := by kernel_rfl
  obtain ⟨a1, s1, hv1, _⟩ := laid_sentinel (ti := 149) (tp := 232) (te := 234) (ts := 9) h4.tail.tail.tail.tail gr (by kernel_rfl) Tryz.underlying149 rowE Tryz.underlying232 Tryz.underlying234 rfl rfl Tryz.underlying9 (by kernel_rfl) (by kernel_rfl)
  obtain ⟨a2, s2, hv2, _⟩ := laid_sentinel (ti := 149) (tp := 232) (te := 234) (ts := 9) h4.tail.tail.tail.tail.tail gs (by kernel_rfl) Tryz.underlying149 rowE Tryz.underlying232 Tryz.underlying234 rfl rfl Tryz.underlying9 (by kernel_rfl) (by kernel_rfl)
  have e : varsOf Tryz.prog = [(3, .tab .u64 pow10s), (0, .int), (1, .iface), (2, .iface)] := by kernel_rfl
  intro q hq
  rw [e] at hq
  rcases List.mem_cons.1 hq with rfl | hq
  · unfold Lib.TabIs World.var? at ht
    rw [vPow, Option.bind_some] at ht
    cases ho : W.heap[3]? with
    | none => rw [ho] at ht; cases ht
    | some o =>
      rw [ho] at ht
      cases o with
      | cells c ty fz =>
        obtain rfl := Option.some.inj ht
        exact ⟨ty, fz, rfl⟩
      | _ => cases ht
  rcases List.mem_cons.1 hq with rfl | hq
  · unfold World.cell? at hm
    cases ho : W.heap[0]? with
    | none => simp [ho] at hm
    | some o =>
      cases o with
      | cells c ty fz => exact ⟨c, ty, fz, m, rfl, by simpa [ho] using hm⟩
      | _ => simp [ho] at hm
  rcases List.mem_cons.1 hq with rfl | hq
  · exact held_iface gs hv2
  · obtain rfl := List.mem_singleton.1 hq
    exact held_iface gr hv1
end Go.Proofs.YthpmmiapcjgbmaaGreatDoor.K

/- A call that is met by what it does to the blocks that it reaches ('state contracts'): definitions. -/
namespace Go.Abs
/-- The blocks that are reached from a call's arguments, each with its number within: what may only be read from abase on, the others from mbase on. -/
def reachC (H : Heap) : Nat → List Nat → Mu → Nat → Nat → Mu
  | 0, _, μ, _, _ => μ
  | _, [], μ, _, _ => μ
  | f + 1, i :: work, μ, ro, mu =>
    match μ.find i with
    | some _ => reachC H f work μ ro mu
    | none =>
      match H.get i with
      | none => reachC H f work μ ro mu
      | some o => if i < mbase then reachC H f (work ++ blocksO o) (μ ++ [(i, ro)]) (ro + 1) mu else reachC H f (work ++ blocksO o) (μ ++ [(i, mu)]) ro (mu + 1)
def callMu (args : List Value) (H : Heap) : Mu := reachC H 1000 (args.flatMap (blocksV 8)) [] abase mbase
def callGood (μ : Mu) (H : Heap) : Bool :=
  nodupB (μ.map (·.1)) && nodupB (μ.map (·.2)) && μ.all fun p =>
    decide (abase ≤ p.1) && (if p.1 < mbase then decide (abase ≤ p.2) && decide (p.2 < mbase) else decide (mbase ≤ p.2) && decide (p.2 < gbase)) &&
    (match H.get p.1 with | some o => (match mapO μ o with | some (.taken) => false | some _ => true | none => false) | none => false)
/-- What a call leads to, by its arguments and the blocks that they reach. -/
abbrev SpecS := List Value → Blocks → (Value → Blocks → Prop) → Prop
/-- The end of such a call. -/
def endMu (v : Value) (H : Heap) : Mu := reach H 1000 (blocksV 8 v ++ mroots H) [] gbase
def stateK (K : Value → Blocks → Prop) : Value → Heap → Prop := fun v H =>
  bcase (gcGood (endMu v H) (gcB H (endMu v H) (endMu v H))) (K (mapV (endMu v H) 8 v) (gcB H (endMu v H) (endMu v H))) False
/-- What is new at the end, and its numbers at the caller's. -/
def newsOf (bs : Blocks) : Blocks := bs.filter fun p => decide (gbase ≤ p.1)
def numFrom : List Nat → Nat → Mu
  | [], _ => []
  | i :: r, n => (i, n) :: numFrom r (n + 1)
def backMu (μ : Mu) (n : Nat) (bs : Blocks) : Mu := μ.map (fun p => (p.2, p.1)) ++ numFrom ((newsOf bs).map (·.1)) n
def objAt (β : Mu) (bs : Blocks) (j : Nat) : AObj := (((heapOf bs).get j).bind (mapO β)).getD .taken
def mergeP (β : Mu) (bs : Blocks) : Mu → Heap → Heap
  | [], H => H
  | p :: r, H => mergeP β bs r (if mbase ≤ p.2 then H.set p.1 (objAt β bs p.2) else H)
def mergeN (β : Mu) (bs : Blocks) : List Nat → Heap → Heap
  | [], H => H
  | j :: r, H => mergeN β bs r (H.new (objAt β bs j))
def merged (μ : Mu) (bs : Blocks) (H : Heap) : Heap := mergeN (backMu μ H.next bs) bs ((newsOf bs).map (·.1)) (mergeP (backMu μ H.next bs) bs μ H)
def wpState (sp : SpecS) (args : Array Value) (H : Heap) (k : Value → Heap → Prop) : Prop :=
  bcase (callGood (callMu args.toList H) H)
    (sp (args.toList.map (mapV (callMu args.toList H) 8)) (gcB H (callMu args.toList H) (callMu args.toList H)) fun v bs =>
      bcase (nodupB ((newsOf bs).map (·.1))) (k (mapV (backMu (callMu args.toList H) H.next bs) 8 v) (merged (callMu args.toList H) bs H)) False) False
end Go.Abs

/- Handlers by a table: each function is met in its own way, the others are entered. -/
namespace Go.Abs
def saidH (P : Program) (C : FuncId → List D → List D → Prop) : Handler := fun g args _ H k =>
  match P.funcs[g]? with | some fn => wpSaid P C g fn.resultTypes.toList args H k | none => False
def fixH (C : FuncId → List D → List D → Prop) (fix : List D → Option (List D)) : Handler := fun g args _ H k => wpFix C g fix args H k
def stateH (s : SpecS) : Handler := fun _ args _ H k => wpState s args H k
/-- (u: so many rounds of the loops of what is entered) -/
def handlerX (P : Program) (pre : FuncId → Option Handler) (u : Nat) : Nat → Handler
  | 0 => fun _ _ _ _ _ => False
  | n + 1 => fun g args ats H k =>
    match pre g with
    | some h => h g args ats H k
    | none => wpFn P (handlerX P pre u n) (fun _ _ _ => False) u g args H k
/-- A check that all of some numbers lie in a range: what it says. -/
def limE (lo hi : Int) : List Value → Int
  | [] => 0
  | .int _ n :: r => if n < lo ∨ n > hi then 2 else limE lo hi r
  | _ :: r => limE lo hi r
def limC : FuncId → List D → List D → Prop := fun _ ds rs =>
  match ds, rs with
  | [.val (.int _ lo), .val (.int _ hi), .sl _ _ cs], [.val (.int _ e)] => e = limE lo hi cs
  | _, _ => False
def limOut (lo hi : Int) (cs : List Value) (bs : Blocks) (K : Value → Blocks → Prop) : Prop :=
  ∃ e : Int, Says limC 0 [.val (.int .i64 lo), .val (.int .i64 hi), .sl cs.length 1 cs] [.val (.int .i64 e)] ∧ K (.int .i64 e) bs
/-- The function that limit(lo, hi) returns, handed so many numbers. -/
def limSpec (ti : TypeId) (n : Nat) : SpecS := fun args bs K =>
  match args, bs with
  | [.slice (some ⟨i, 0, none⟩) m _, .pointer (some ⟨a, 0, none⟩), .pointer (some ⟨b, 0, none⟩)], [(i', .cells cs t o es), (a', .cells [.int .i64 lo] t2 o2 es2), (b', .cells [.int .i64 hi] t3 o3 es3)] =>
    if (i == 900 && i' == 900 && a == 901 && a' == 901 && b == 902 && b' == 902 && t == ti && t2 == ti && t3 == ti && o == false && o2 == false && o3 == false && es == 1 && es2 == 1 && es3 == 1 && m == n && cs.length == n) = true then
      match n, cs with
      | 1, [.int .i64 x] => limOut lo hi [.int .i64 x] bs K
      | 2, [.int .i64 x, .int .i64 y] => limOut lo hi [.int .i64 x, .int .i64 y] bs K
      | 3, [.int .i64 x, .int .i64 y, .int .i64 z] => limOut lo hi [.int .i64 x, .int .i64 y, .int .i64 z] bs K
      | 4, [.int .i64 x, .int .i64 y, .int .i64 z, .int .i64 u] => limOut lo hi [.int .i64 x, .int .i64 y, .int .i64 z, .int .i64 u] bs K
      | _, _ => False
    else False
  | _, _ => False
/-- (by the number of numbers) -/
def limAll (ti : TypeId) : SpecS := fun args bs K =>
  match args with
  | .slice _ m _ :: _ => limSpec ti m args bs K
  | _ => False
end Go.Abs

/- A call that is met by what it does to the blocks that it reaches: it is sound. -/
namespace Go.Abs
open Go.RowKit
variable {P : Program} {ρ : Ren} {w0 : Start P} {w : World} {H : Heap}

/-- A call, by the blocks that its arguments reach. -/
def CallS (P : Program) (f : FuncId) (args : List Value) (bs : Blocks) (K : Value → Blocks → Prop) : Prop :=
  ∀ (w0 : Start P) (ρ : Ren) (w : World) (args' : Array Value) (n : Nat), Gam w0 ρ (heapOf bs) w → LR ρ args args'.toList →
    CallsIn Fence.wide n P f args' w fun e w' => ∃ v bs' ρ' v', K v bs' ∧ e = .returned v' ∧ VR ρ' v v' ∧ Gam w0 ρ' (heapOf bs') w'

/-! ### Renaming, once more (numbers change anyhow; the globals stay) -/
structure MuS (μ : Mu) : Prop where
  snd : (μ.map (·.2)).Nodup
  glb : ∀ i j, (i, j) ∈ μ → i < abase → j = i
variable {μ : Mu}
theorem mapV_S (ok : MuS μ) : ∀ (n : Nat) (v v' : Value), VR ρ v v' → VR (μ.ren ρ) (mapV μ n v) v'
  | 0, v, v', _ => .unknown _ _
  | n + 1, v, v', h => by
    have ih := mapV_S ok n
    cases h with
    | bool b => exact .bool b
    | int k n => exact .int k n
    | float k n => exact .float k n
    | complex k n m => exact .complex k n m
    | string s => exact .string s
    | nilFunc => exact .nilFunc
    | nilIface => exact .nilIface
    | nilPtr => exact .nilPtr
    | nilSlice l c => exact .nilSlice l c
    | nilMap => exact .nilMap
    | unknown r v => unfold mapV; exact .unknown _ _
    | glob g k hg =>
      simp only [mapV]
      cases hm : μ.find g with
      | none => exact .unknown _ _
      | some j =>
        have hj : j = g := ok.glb _ _ (Mu.find_mem hm) hg
        subst hj
        exact .glob _ k hg
    | ptr i k m hm =>
      simp only [mapV]
      cases hf : μ.find i with
      | none => exact .unknown _ _
      | some j => exact .ptr j k m (by rw [Mu.ren_of ok.snd (Mu.find_mem hf)]; exact hm)
    | map i m hm =>
      simp only [mapV]
      cases hf : μ.find i with
      | none => exact .unknown _ _
      | some j => exact .map j m (by rw [Mu.ren_of ok.snd (Mu.find_mem hf)]; exact hm)
    | slice i k len cap m hm ho hl =>
      simp only [mapV]
      cases hf : μ.find i with
      | none => exact .unknown _ _
      | some j => exact .slice j k len cap m (by rw [Mu.ren_of ok.snd (Mu.find_mem hf)]; exact hm) ho hl
    | opened i k len cap capC m hm ho hc hs hl =>
      simp only [mapV]
      cases hf : μ.find i with
      | none => exact .unknown _ _
      | some j => exact .opened j k len cap capC m (by rw [Mu.ren_of ok.snd (Mu.find_mem hf)]; exact hm) ho hc hs hl
    | empty i k off m hm ho hz =>
      simp only [mapV]
      cases hf : μ.find i with
      | none => exact .unknown _ _
      | some j => exact .empty j k off m (by rw [Mu.ren_of ok.snd (Mu.find_mem hf)]; exact hm) ho hz
    | func f a b a' b' ha hb ra rb =>
      simp only [mapV]
      refine VR.func' ?_ ?_
      · simpa using LR.map_left ih (LR.of_arr ha ra)
      · simpa using LR.map_left ih (LR.of_arr hb rb)
    | yield l m hm => unfold mapV; exact .unknown _ _
    | iface t v v' hv => exact .iface t _ _ (ih _ _ hv)
    | agg a a' ha ra =>
      simp only [mapV]
      refine VR.agg' ?_
      simpa using LR.map_left ih (LR.of_arr ha ra)
    | tuple a a' ha ra =>
      simp only [mapV]
      refine VR.tuple' ?_
      simpa using LR.map_left ih (LR.of_arr ha ra)
theorem mapO_S (ok : MuS μ) {m : Meta} {o o2 : AObj} (h : mapO μ o = some o2) (r : ObjR ρ w m o) : ObjR (μ.ren ρ) w m o2 ∧ o2.alive = o.alive := by
  cases o with
  | cells cs ty opn es =>
    simp only [mapO, Option.some.injEq] at h
    subst h
    obtain ⟨a, b, c, d, e, f, g, i⟩ := r
    exact ⟨⟨by simpa using a, b, c, d, e, f, g, by simpa using LR.map_left (mapV_S ok 8) i⟩, rfl⟩
  | sym cs opn es =>
    simp only [mapO, Option.some.injEq] at h
    subst h
    obtain ⟨⟨a, b, c, d, e, z, f, g, i⟩, j⟩ := r
    exact ⟨⟨⟨a, b, c, d, e, z, f, g, i.plain_any (fun v hv => cellP_plain (j v hv))⟩, j⟩, rfl⟩
  | map es c =>
    simp only [mapO] at h
    split at h
    · simp only [Option.some.injEq] at h
      subst h
      obtain ⟨es', h1, h2⟩ := r
      exact ⟨⟨es', h1, ER.map_val (mapV_S ok 8) h2⟩, rfl⟩
    · cases h
  | deferred => simp only [mapO, Option.some.injEq] at h; subst h; exact ⟨r, rfl⟩
  | taken => simp only [mapO, Option.some.injEq] at h; subst h; exact ⟨r, rfl⟩
  | dead _ _ _ => cases h
  | loop _ => cases h
  | siter _ _ => cases h
theorem LR.map_S (ok : MuS μ) {l l' : List Value} (h : LR ρ l l') : LR (μ.ren ρ) (l.map (mapV μ 8)) l' := LR.map_left (mapV_S ok 8) h

/-! ### What is reached has its place -/
def Placed (ρ : Ren) (i : Nat) : Prop := i < abase ∨ ∃ m, ρ i = some m
theorem LR.placed {f : Value → List Nat} (hf : ∀ v v', VR ρ v v' → ∀ i ∈ f v, Placed ρ i) : ∀ {l l' : List Value}, LR ρ l l' → ∀ i ∈ l.flatMap f, Placed ρ i
  | _, _, .nil, i, h => by cases h
  | _, _, .cons h t, i, hi => by
    rw [List.flatMap_cons] at hi
    rcases List.mem_append.1 hi with h1 | h1
    · exact hf _ _ h i h1
    · exact LR.placed hf t i h1
theorem blocksV_placed : ∀ (n : Nat) (v v' : Value), VR ρ v v' → ∀ i ∈ blocksV n v, Placed ρ i
  | 0, _, _, _, i, h => by simp [blocksV] at h
  | n + 1, v, v', hv, i, h => by
    have ih : ∀ (v v' : Value), VR ρ v v' → ∀ i ∈ blocksV n v, Placed ρ i := blocksV_placed n
    cases hv with
    | glob g k hg => simp only [blocksV, List.mem_singleton] at h; subst h; exact .inl hg
    | ptr j k m hm => simp only [blocksV, List.mem_singleton] at h; subst h; exact .inr ⟨m, hm⟩
    | map j m hm => simp only [blocksV, List.mem_singleton] at h; subst h; exact .inr ⟨m, hm⟩
    | slice j k len cap m hm ho => simp only [blocksV, List.mem_singleton] at h; subst h; exact .inr ⟨m, hm⟩
    | opened j k len cap capC m hm ho hc hs => simp only [blocksV, List.mem_singleton] at h; subst h; exact .inr ⟨m, hm⟩
    | empty j k off m hm ho hz => simp only [blocksV, List.mem_singleton] at h; subst h; exact .inr ⟨m, hm⟩
    | func f a b a' b' ha hb ra rb =>
      simp only [blocksV] at h
      rcases List.mem_append.1 h with h | h
      · exact LR.placed ih (LR.of_arr ha ra) i h
      · exact LR.placed ih (LR.of_arr hb rb) i h
    | iface t v v' hv => exact ih _ _ hv i (by simpa [blocksV] using h)
    | agg a a' ha ra => exact LR.placed ih (LR.of_arr ha ra) i (by simpa [blocksV] using h)
    | tuple a a' ha ra => exact LR.placed ih (LR.of_arr ha ra) i (by simpa [blocksV] using h)
    | _ => simp [blocksV] at h
theorem ER.placed : ∀ {l l' : List MapEntry}, ER ρ l l' → ∀ i ∈ l.flatMap (fun e => blocksV 8 e.val), Placed ρ i
  | _, _, .nil, i, h => by cases h
  | _, _, .cons k kk v b t, i, hi => by
    rw [List.flatMap_cons] at hi
    rcases List.mem_append.1 hi with h1 | h1
    · exact blocksV_placed 8 _ _ v i h1
    · exact ER.placed t i h1
theorem blocksO_placed {m : Meta} {o : AObj} (r : ObjR ρ w m o) : ∀ i ∈ blocksO o, Placed ρ i := by
  intro i h
  cases o with
  | cells cs ty opn es =>
    obtain ⟨_, _, _, _, _, _, _, hl⟩ := r
    exact LR.placed (blocksV_placed 8) hl i (by simpa [blocksO] using h)
  | map es c =>
    obtain ⟨es', _, h2⟩ := r
    exact ER.placed h2 i (by simpa [blocksO] using h)
  | _ => simp [blocksO] at h
theorem reachC_placed (g : Gam w0 ρ H w) : ∀ (f : Nat) (work : List Nat) (μ : Mu) (ro mu : Nat), (∀ i ∈ work, Placed ρ i) → (∀ p ∈ μ, Placed ρ p.1) → ∀ p ∈ reachC H f work μ ro mu, Placed ρ p.1
  | 0, _, μ, _, _, _, h => by simpa [reachC] using h
  | f + 1, [], μ, _, _, _, h => by simpa [reachC] using h
  | f + 1, i :: work, μ, ro, mu, hw, h => by
    have hw2 : ∀ j ∈ work, Placed ρ j := fun j hj => hw j (List.mem_cons_of_mem _ hj)
    have hi := hw i (List.mem_cons_self ..)
    unfold reachC
    split
    · exact reachC_placed g f work μ ro mu hw2 h
    · split
      · exact reachC_placed g f work μ ro mu hw2 h
      · rename_i o ho
        have hpl : ∀ j ∈ work ++ blocksO o, Placed ρ j := by
          intro j hj
          rcases List.mem_append.1 hj with hj | hj
          · exact hw2 j hj
          · have hm : ∃ m, ρ i = some m := by
              rcases hi with hlt | hm
              · exact g.gmap i (.inl hlt) (by rw [ho]; simp)
              · exact hm
            obtain ⟨m, hm⟩ := hm
            exact blocksO_placed (g.obj i m o hm ho) j hj
        have hadd : ∀ q, ∀ p ∈ μ ++ [(i, q)], Placed ρ p.1 := by
          intro q p hp
          rcases List.mem_append.1 hp with hp | hp
          · exact h p hp
          · rw [List.mem_singleton.1 hp]; exact hi
        split
        · exact reachC_placed g f _ _ _ _ hpl (hadd _)
        · exact reachC_placed g f _ _ _ _ hpl (hadd _)

/-! ### The call's own view -/
structure CallOK (μ : Mu) (H : Heap) : Prop where
  fst : (μ.map (·.1)).Nodup
  snd : (μ.map (·.2)).Nodup
  lo : ∀ i j, (i, j) ∈ μ → abase ≤ i ∧ abase ≤ j ∧ j < gbase
  mb : ∀ i j, (i, j) ∈ μ → (mbase ≤ i ↔ mbase ≤ j)
  live : ∀ i j, (i, j) ∈ μ → ∃ o o2, H.get i = some o ∧ mapO μ o = some o2 ∧ o.alive = true
theorem mapO_alive {o o2 : AObj} (h : mapO μ o = some o2) (ht : o2 ≠ .taken) : o.alive = true := by
  cases o with
  | taken => simp only [mapO, Option.some.injEq] at h; exact absurd h.symm ht
  | dead _ _ _ => cases h
  | _ => rfl
theorem callGood_ok (h : callGood μ H = true) : CallOK μ H := by
  simp only [callGood, Bool.and_eq_true] at h
  have hall := fun p hp => List.all_eq_true.1 h.2 p hp
  have each : ∀ i j, (i, j) ∈ μ → abase ≤ i ∧ (abase ≤ j ∧ j < gbase) ∧ (mbase ≤ i ↔ mbase ≤ j) ∧ ∃ o o2, H.get i = some o ∧ mapO μ o = some o2 ∧ o.alive = true := by
    intro i j hij
    have := hall _ hij
    simp only [Bool.and_eq_true, decide_eq_true_eq] at this
    obtain ⟨⟨h1, h2⟩, h3⟩ := this
    have h4 : (abase ≤ j ∧ j < gbase) ∧ (mbase ≤ i ↔ mbase ≤ j) := by
      split at h2
      · rename_i hlt
        simp only [Bool.and_eq_true, decide_eq_true_eq] at h2
        refine ⟨⟨h2.1, ?_⟩, by omega⟩
        have : mbase ≤ gbase := by decide
        omega
      · rename_i hge
        simp only [Bool.and_eq_true, decide_eq_true_eq] at h2
        refine ⟨⟨?_, h2.2⟩, by omega⟩
        have : abase ≤ mbase := by decide
        omega
    refine ⟨h1, h4.1, h4.2, ?_⟩
    cases hg : H.get i with
    | none => simp [hg] at h3
    | some o =>
      simp only [hg] at h3
      cases hm : mapO μ o with
      | none => simp [hm] at h3
      | some o2 =>
        refine ⟨o, o2, rfl, hm, mapO_alive hm (fun e => ?_)⟩
        subst e
        simp [hm] at h3
  exact ⟨nodupB_spec h.1.1, nodupB_spec h.1.2, fun i j hij => ⟨(each i j hij).1, (each i j hij).2.1⟩, fun i j hij => (each i j hij).2.2.1, fun i j hij => (each i j hij).2.2.2⟩
theorem CallOK.toS (ok : CallOK μ H) : MuS μ := ⟨ok.snd, fun i j hij hlt => by have := (ok.lo i j hij).1; omega⟩

theorem callGam (g : Gam w0 ρ H w) (ok : CallOK μ H) (hp : ∀ p ∈ μ, Placed ρ p.1) : Gam (P := P) ⟨w, μ.ren ρ⟩ (μ.ren ρ) (heapOf (gcB H μ μ)) w := by
  have hsnd : ∀ {i i' j : Nat}, (i, j) ∈ μ → (i', j) ∈ μ → i = i' := fun h1 h2 => by have := nodup_inj ok.snd h1 h2 rfl; cases this; rfl
  have hfst : ∀ {i j j' : Nat}, (i, j) ∈ μ → (i, j') ∈ μ → j = j' := fun h1 h2 => by have := nodup_inj ok.fst h1 h2 rfl; cases this; rfl
  have hget : ∀ {j : Nat} {o : AObj}, (heapOf (gcB H μ μ)).get j = some o → ∃ i o', (i, j) ∈ μ ∧ H.get i = some o' ∧ mapO μ o' = some o := fun h => gcB_mem (heapOf_get h)
  have obj : ∀ i m o, μ.ren ρ i = some m → (heapOf (gcB H μ μ)).get i = some o → ObjR (μ.ren ρ) w m o ∧ ∃ i0 o0, (i0, i) ∈ μ ∧ ρ i0 = some m ∧ H.get i0 = some o0 ∧ o.alive = o0.alive := by
    intro i m o hm ho
    obtain ⟨i0, hi0, hr0⟩ := Mu.ren_some hm
    obtain ⟨i1, o1, hi1, hg1, hmo⟩ := hget ho
    obtain rfl := hsnd hi0 hi1
    obtain ⟨r1, r2⟩ := mapO_S ok.toS hmo (g.obj _ m _ hr0 hg1)
    exact ⟨r1, i0, o1, hi0, hr0, hg1, r2⟩
  refine ⟨Nat.le_add_right _ _, ?_, .refl _ _, ?_, ?_, ?_, fun i m o hm ho => (obj i m o hm ho).1, ?_, fun i m _ _ h => h, ?_⟩
  · intro i hi
    cases hr : μ.ren ρ i with
    | none => rfl
    | some m =>
      obtain ⟨i0, hi0, _⟩ := Mu.ren_some hr
      have := (ok.lo _ _ hi0).2.2
      have h5 : gbase ≤ i := Nat.le_trans (Nat.le_add_right _ _) hi
      omega
  · intro j m hm
    obtain ⟨i, hi, hr⟩ := Mu.ren_some hm
    have h1 := (g.own i m hr).1
    have := (ok.lo _ _ hi).2.2
    exact ⟨h1, fun h => by omega, fun _ => h1⟩
  · intro j m hm hj
    obtain ⟨i, hi, hr⟩ := Mu.ren_some hm
    have := (ok.lo _ _ hi).2.1
    omega
  · rintro i j mi mj hgi ⟨oi, gi, ai⟩ ⟨oj, gj, aj⟩ ei ej hb
    obtain ⟨_, i0, oi0, hi0, ri0, gi0, hai⟩ := obj i mi oi ei gi
    obtain ⟨_, j0, oj0, hj0, rj0, gj0, haj⟩ := obj j mj oj ej gj
    have := g.inj i0 j0 mi mj ((ok.mb _ _ hi0).2 hgi) ⟨oi0, gi0, by rw [← hai]; exact ai⟩ ⟨oj0, gj0, by rw [← haj]; exact aj⟩ ri0 rj0 hb
    subst this
    exact hfst hi0 hj0
  · intro j hj hn
    cases ho : (heapOf (gcB H μ μ)).get j with
    | none => exact absurd ho hn
    | some o =>
      obtain ⟨i, o', hi, hg, _⟩ := hget ho
      rcases hp _ hi with h | ⟨m, hm⟩
      · have := (ok.lo _ _ hi).1; simp only at h; omega
      · exact ⟨m, by rw [Mu.ren_of ok.snd hi]; exact hm⟩
  · intro q hq
    refine ⟨g.good q hq, ?_⟩
    rintro ⟨j, m, h1, h2, h3, h4⟩
    obtain ⟨i, hij, hr⟩ := Mu.ren_some h3
    have hmi : mbase ≤ i := (ok.mb _ _ hij).2 h1
    obtain ⟨v1, v2⟩ := g.vars q hq
    rcases Nat.lt_or_ge i gbase with hl | hl
    · exact v2 ⟨i, m, hmi, hl, g.pins i m (ok.lo _ _ hij).1 hl hr, h4⟩
    · have h5 := (g.own i m hr).2.1 hl
      have h6 := VarKind.ok_some v1
      have h7 : q.1 < w0.w.heap.size := by
        rcases Nat.lt_or_ge q.1 w0.w.heap.size with h | h
        · exact h
        · rw [Array.getElem?_eq_none h] at h6; cases h6
      omega

/-! ### Back at the caller -/
theorem numFrom_mem : ∀ {l : List Nat} {n j q : Nat}, (j, q) ∈ numFrom l n → j ∈ l ∧ n ≤ q ∧ q < n + l.length
  | [], _, _, _, h => by cases h
  | i :: r, n, j, q, h => by
    unfold numFrom at h
    rcases List.mem_cons.1 h with h | h
    · cases h; exact ⟨List.mem_cons_self .., Nat.le_refl _, by simp⟩
    · obtain ⟨h1, h2, h3⟩ := numFrom_mem h
      exact ⟨List.mem_cons_of_mem _ h1, by omega, by simp only [List.length_cons]; omega⟩
theorem numFrom_snd : ∀ (l : List Nat) (n : Nat), ((numFrom l n).map (·.2)).Nodup
  | [], _ => List.nodup_nil
  | i :: r, n => by
    unfold numFrom
    simp only [List.map_cons, List.nodup_cons]
    refine ⟨fun h => ?_, numFrom_snd r (n + 1)⟩
    obtain ⟨p, hp, e⟩ := List.mem_map.1 h
    obtain ⟨j, q⟩ := p
    have := (numFrom_mem hp).2.1
    simp only at e
    omega
theorem numFrom_fst : ∀ (l : List Nat) (n : Nat), (numFrom l n).map (·.1) = l
  | [], _ => rfl
  | i :: r, n => by unfold numFrom; simp only [List.map_cons, numFrom_fst r]
variable {β : Mu} {bs : Blocks}
theorem mergeP_next : ∀ (l : Mu) (H : Heap), (mergeP β bs l H).next = H.next
  | [], _ => rfl
  | p :: r, H => by
    unfold mergeP
    rw [mergeP_next r]
    split <;> rfl
theorem mergeP_out {i : Nat} : ∀ (l : Mu) (H : Heap), (∀ j, (i, j) ∈ l → ¬ mbase ≤ j) → (mergeP β bs l H).get i = H.get i
  | [], _, _ => rfl
  | p :: r, H, h => by
    unfold mergeP
    rw [mergeP_out r _ (fun j hj => h j (List.mem_cons_of_mem _ hj))]
    split
    · rename_i hm
      rw [Heap.get_set, if_neg (fun e => h p.2 (by rw [e]; exact List.mem_cons_self ..) hm)]
    · rfl
theorem mergeP_in {i j : Nat} : ∀ (l : Mu) (H : Heap), (l.map (·.1)).Nodup → (i, j) ∈ l → mbase ≤ j → (mergeP β bs l H).get i = some (objAt β bs j)
  | [], _, _, h, _ => by cases h
  | p :: r, H, hn, h, hj => by
    simp only [List.map_cons, List.nodup_cons] at hn
    unfold mergeP
    rcases List.mem_cons.1 h with h | h
    · subst h
      rw [mergeP_out r _ (fun q hq => absurd (List.mem_map.2 ⟨_, hq, rfl⟩) hn.1), if_pos hj, Heap.get_set, if_pos rfl]
    · exact mergeP_in r _ hn.2 h hj
theorem mergeN_next : ∀ (l : List Nat) (H : Heap), (mergeN β bs l H).next = H.next + l.length
  | [], _ => rfl
  | j :: r, H => by unfold mergeN; rw [mergeN_next r]; simp only [Heap.next_new, List.length_cons]; omega
theorem mergeN_old {i : Nat} : ∀ (l : List Nat) (H : Heap), i < H.next → (mergeN β bs l H).get i = H.get i
  | [], _, _ => rfl
  | j :: r, H, h => by
    unfold mergeN
    rw [mergeN_old r _ (by simp only [Heap.next_new]; omega), Heap.get_new, if_neg (by omega)]
theorem mergeN_new {i j : Nat} : ∀ (l : List Nat) (H : Heap), (j, i) ∈ numFrom l H.next → (mergeN β bs l H).get i = some (objAt β bs j)
  | [], _, h => by cases h
  | q :: r, H, h => by
    unfold numFrom at h
    unfold mergeN
    rcases List.mem_cons.1 h with h | h
    · cases h
      rw [mergeN_old r _ (by simp only [Heap.next_new]; omega), Heap.get_new, if_pos rfl]
    · exact mergeN_new r (H.new (objAt β bs q)) (by simpa only [Heap.next_new] using h)

theorem mergeGam {ρ' : Ren} {w' : World} (g : Gam w0 ρ H w) (ok : CallOK μ H) (hp : ∀ p ∈ μ, Placed ρ p.1) (g' : Gam (P := P) ⟨w, μ.ren ρ⟩ ρ' (heapOf bs) w') (hnd : ((newsOf bs).map (·.1)).Nodup) :
    ∃ ρm, Gam w0 ρm (merged μ bs H) w' ∧ Ext ρ ρm H (merged μ bs H) ∧ ∀ v v', VR ρ' v v' → VR ρm (mapV (backMu μ H.next bs) 8 v) v' := by
  let news := (newsOf bs).map (·.1)
  let β := backMu μ H.next bs
  have place : ∀ {i j : Nat}, (i, j) ∈ μ → ∃ m, ρ i = some m := by
    intro i j hij
    rcases hp _ hij with h | h
    · have := (ok.lo _ _ hij).1; simp only at h; omega
    · exact h
  have ilt : ∀ {i j : Nat}, (i, j) ∈ μ → i < H.next := fun hij => let ⟨m, hm⟩ := place hij; g.lt hm
  have newge : ∀ j ∈ news, gbase ≤ j := by
    intro j hj
    obtain ⟨p, hp, rfl⟩ := List.mem_map.1 hj
    simpa using (List.mem_filter.1 hp).2
  have βmem : ∀ {j i : Nat}, (j, i) ∈ β → ((i, j) ∈ μ) ∨ (j, i) ∈ numFrom news H.next := by
    intro j i h
    rcases List.mem_append.1 h with h | h
    · obtain ⟨p, hp, e⟩ := List.mem_map.1 h
      cases e; exact .inl hp
    · exact .inr h
  have βS : MuS β := by
    refine ⟨?_, fun j i h hj => ?_⟩
    · show ((μ.map (fun p => (p.2, p.1)) ++ numFrom news H.next).map (·.2)).Nodup
      rw [List.map_append, List.map_map]
      refine List.nodup_append.2 ⟨ok.fst, numFrom_snd _ _, ?_⟩
      intro a ha b hb e
      subst e
      obtain ⟨p, hp1, rfl⟩ := List.mem_map.1 ha
      obtain ⟨q, hq, e⟩ := List.mem_map.1 hb
      obtain ⟨j, i⟩ := q
      have h1 := (numFrom_mem hq).2.1
      have h2 : p.1 < H.next := ilt (j := p.2) hp1
      simp only [Function.comp] at e
      omega
    · rcases βmem h with h | h
      · have := (ok.lo _ _ h).2.1; omega
      · have := newge j (numFrom_mem h).1
        unfold gbase at this; unfold abase at hj; omega
  let ρm : Ren := fun i => if i < H.next then ρ i else β.ren ρ' i
  have ρlt : ∀ {i : Nat}, i < H.next → ρm i = ρ i := fun h => if_pos h
  have ρge : ∀ {i : Nat}, ¬ i < H.next → ρm i = β.ren ρ' i := fun h => if_neg h
  -- what was handed lies where it lay
  have pinned : ∀ {i j : Nat} {m : Meta}, (i, j) ∈ μ → ρ' j = some m → ρ i = some m := by
    intro i j m hij hj
    have h1 := ok.lo _ _ hij
    have := g'.pins j m h1.2.1 h1.2.2 hj
    simp only at this
    rwa [Mu.ren_of ok.snd hij] at this
  have hle : (β.ren ρ').le ρm := by
    intro i m hm
    obtain ⟨j, hj, hr⟩ := Mu.ren_some hm
    rcases βmem hj with h | h
    · rw [ρlt (ilt h)]; exact pinned h hr
    · rw [ρge (by have := (numFrom_mem h).2.1; omega)]; exact hm
  have objR : ∀ {j : Nat} {m : Meta}, ρ' j = some m → ObjR ρm w' m (objAt β bs j) := by
    intro j m hj
    unfold objAt
    cases hg : (heapOf bs).get j with
    | none => trivial
    | some o =>
      simp only [Option.bind_some]
      cases hm : mapO β o with
      | none => trivial
      | some o2 => exact (mapO_S βS hm (g'.obj j m o hj hg)).1.mono hle (fun _ => rfl)
  have objA : ∀ {j : Nat}, (objAt β bs j).alive = true → (heapOf bs).live j := by
    intro j h
    unfold objAt at h
    cases hg : (heapOf bs).get j with
    | none => rw [hg] at h; cases h
    | some o =>
      rw [hg] at h
      simp only [Option.bind_some] at h
      cases hm : mapO β o with
      | none => rw [hm] at h; cases h
      | some o2 =>
        rw [hm] at h
        refine ⟨o, hg, ?_⟩
        by_cases hj : ∃ m, ρ' j = some m
        · obtain ⟨m, hj⟩ := hj
          rw [← (mapO_S βS hm (g'.obj j m o hj hg)).2]; exact h
        · refine mapO_alive hm (fun e => ?_)
          subst e; cases h
  have hnx : (merged μ bs H).next = H.next + news.length := by
    show (mergeN β bs news (mergeP β bs μ H)).next = _
    rw [mergeN_next, mergeP_next]
  have getOut : ∀ {i : Nat}, i < H.next → (∀ j, (i, j) ∈ μ → ¬ mbase ≤ j) → (merged μ bs H).get i = H.get i := by
    intro i hi h
    show (mergeN β bs news (mergeP β bs μ H)).get i = _
    rw [mergeN_old _ _ (by rw [mergeP_next]; exact hi), mergeP_out _ _ h]
  have getIn : ∀ {i j : Nat}, (i, j) ∈ μ → mbase ≤ j → (merged μ bs H).get i = some (objAt β bs j) := by
    intro i j hij hj
    show (mergeN β bs news (mergeP β bs μ H)).get i = _
    rw [mergeN_old _ _ (by rw [mergeP_next]; exact ilt hij), mergeP_in _ _ ok.fst hij hj]
  have getNew : ∀ {i j : Nat}, (j, i) ∈ numFrom news H.next → (merged μ bs H).get i = some (objAt β bs j) := by
    intro i j h
    exact mergeN_new _ _ (by rw [mergeP_next]; exact h)
  have newOf : ∀ {i : Nat} {m : Meta}, ¬ i < H.next → ρm i = some m → ∃ j, (j, i) ∈ numFrom news H.next ∧ ρ' j = some m ∧ gbase ≤ j := by
    intro i m hi hm
    rw [ρge hi] at hm
    obtain ⟨j, hj, hr⟩ := Mu.ren_some hm
    rcases βmem hj with h | h
    · exact absurd (ilt h) hi
    · exact ⟨j, h, hr, newge j (numFrom_mem h).1⟩
  -- what may have been written
  have mayOf : ∀ {k : Nat}, (Start.mk (P := P) w (μ.ren ρ)).may k → ∃ i j m, (i, j) ∈ μ ∧ mbase ≤ i ∧ mbase ≤ j ∧ ρ i = some m ∧ m.b = k ∧ H.live i := by
    rintro k ⟨j, m, h1, h2, h3, h4⟩
    obtain ⟨i, hij, hr⟩ := Mu.ren_some h3
    obtain ⟨o, _, ho, _, ha⟩ := ok.live _ _ hij
    exact ⟨i, j, m, hij, (ok.mb _ _ hij).2 h1, h1, hr, h4, o, ho, ha⟩
  have liveOld : ∀ {i : Nat}, i < H.next → (merged μ bs H).live i → H.live i ∧ ∀ j, (i, j) ∈ μ → mbase ≤ j → (heapOf bs).live j := by
    rintro i hi ⟨o, ho, ha⟩
    by_cases h : ∃ j, (i, j) ∈ μ ∧ mbase ≤ j
    · obtain ⟨j, hij, hj⟩ := h
      obtain ⟨o1, _, h1, _, h2⟩ := ok.live _ _ hij
      refine ⟨⟨o1, h1, h2⟩, fun j' hij' hj' => ?_⟩
      rw [getIn hij' hj'] at ho
      cases ho
      exact objA ha
    · rw [getOut hi (fun j hij hj => h ⟨j, hij, hj⟩)] at ho
      exact ⟨⟨o, ho, ha⟩, fun j hij hj => absurd ⟨j, hij, hj⟩ h⟩
  have hsz : w.heap.size ≤ w'.heap.size := g'.below.size
  refine ⟨ρm, ⟨by rw [hnx]; exact Nat.le_trans g.gb (Nat.le_add_right _ _), ?_, ?_, ?_, ?_, ?_, ?_, ?_, ?_, g.vars⟩, ⟨?_, by rw [hnx]; exact Nat.le_add_right _ _, ?_⟩, fun v v' hv => (mapV_S βS 8 v v' hv).mono hle⟩
  · -- fresh
    intro i hi
    rw [hnx] at hi
    cases hr : ρm i with
    | none => rfl
    | some m =>
      obtain ⟨j, hj, _⟩ := newOf (by omega) hr
      have := (numFrom_mem hj).2.2
      omega
  · -- below
    refine ⟨g'.below.os.trans g.below.os, g'.below.tape.trans g.below.tape, g'.below.output.trans g.below.output, Nat.le_trans g.below.size hsz, fun k hk hm => ?_⟩
    refine (g'.below.block k (Nat.lt_of_lt_of_le hk g.below.size) (fun hmay => ?_)).trans (g.below.block k hk hm)
    obtain ⟨i, j, m, hij, hi, hj, hr, rfl, _⟩ := mayOf hmay
    rcases Nat.lt_or_ge i gbase with hl | hl
    · exact hm ⟨i, m, hi, hl, g.pins i m (ok.lo _ _ hij).1 hl hr, rfl⟩
    · have := (g.own i m hr).2.1 hl
      omega
  · -- own
    intro i m hm
    by_cases hi : i < H.next
    · rw [ρlt hi] at hm
      have := g.own i m hm
      exact ⟨by omega, this.2⟩
    · obtain ⟨j, hj, hr, hge⟩ := newOf hi hm
      have := g'.own j m hr
      have h1 := this.2.1 hge
      simp only at h1
      have h2 := g.below.size
      have h3 := g.gb
      exact ⟨this.1, fun _ => by omega, fun h => by omega⟩
  · -- glob
    intro i m hm hi
    rw [ρlt (by have := g.gb; unfold gbase at this; unfold abase at hi; omega)] at hm
    exact g.glob i m hm hi
  · -- inj
    intro i j mi mj hgi hi hj ei ej hb
    by_cases h1 : i < H.next
    · rw [ρlt h1] at ei
      by_cases h2 : j < H.next
      · rw [ρlt h2] at ej
        exact g.inj i j mi mj hgi (liveOld h1 hi).1 (liveOld h2 hj).1 ei ej hb
      · obtain ⟨q, hq, hr, hge⟩ := newOf h2 ej
        have a1 := (g.own i mi ei).1
        have a2 := (g'.own q mj hr).2.1 hge
        simp only at a2
        omega
    · obtain ⟨p, hp1, hr1, hge1⟩ := newOf h1 ei
      by_cases h2 : j < H.next
      · rw [ρlt h2] at ej
        have a1 := (g.own j mj ej).1
        have a2 := (g'.own p mi hr1).2.1 hge1
        simp only at a2
        omega
      · obtain ⟨q, hq, hr2, hge2⟩ := newOf h2 ej
        obtain ⟨oi, hoi, hai⟩ := hi
        obtain ⟨oj, hoj, haj⟩ := hj
        rw [getNew hp1] at hoi
        rw [getNew hq] at hoj
        cases hoi
        cases hoj
        have := g'.inj p q mi mj (mb_of hge1) (objA hai) (objA haj) hr1 hr2 hb
        subst this
        have hnf : ((numFrom news H.next).map (·.1)).Nodup := by rw [numFrom_fst]; exact hnd
        have := nodup_inj hnf hp1 hq rfl
        cases this
        rfl
  · -- objects
    intro i m o hm ho
    by_cases hi : i < H.next
    · rw [ρlt hi] at hm
      by_cases h : ∃ j, (i, j) ∈ μ ∧ mbase ≤ j
      · obtain ⟨j, hij, hj⟩ := h
        rw [getIn hij hj] at ho
        cases ho
        cases hg : (heapOf bs).get j with
        | none => unfold objAt; rw [hg]; trivial
        | some ob =>
          obtain ⟨m', hm'⟩ := g'.gmap j (.inr ⟨hj, (ok.lo _ _ hij).2.2⟩) (by rw [hg]; simp)
          have := pinned hij hm'
          rw [hm] at this
          cases this
          exact objR hm'
      · have hout : ∀ j, (i, j) ∈ μ → ¬ mbase ≤ j := fun j hij hj => h ⟨j, hij, hj⟩
        rw [getOut hi hout] at ho
        refine (g.obj i m o hm ho).mono (fun q n hq => by rw [ρlt (g.lt hq)]; exact hq) (fun hal => ?_)
        refine g'.below.block m.b (g.own i m hm).1 (fun hmay => ?_)
        obtain ⟨i2, j2, m2, hij2, hi2, hj2, hr2, hb2, hl2⟩ := mayOf hmay
        have := g.inj i2 i m2 m hi2 hl2 ⟨o, ho, hal⟩ hr2 hm hb2
        subst this
        exact hout _ hij2 hj2
    · obtain ⟨j, hj, hr, _⟩ := newOf hi hm
      rw [getNew hj] at ho
      cases ho
      exact objR hr
  · -- gmap
    intro i hi hn
    have hlt : i < H.next := by
      have := g.gb
      rcases hi with h | h
      · unfold gbase at this; unfold abase at h; omega
      · omega
    rw [ρlt hlt]
    by_cases h : ∃ j, (i, j) ∈ μ ∧ mbase ≤ j
    · obtain ⟨j, hij, _⟩ := h
      exact place hij
    · rw [getOut hlt (fun j hij hj => h ⟨j, hij, hj⟩)] at hn
      exact g.gmap i hi hn
  · -- pins
    intro i m ha hi hm
    rw [ρlt (by have := g.gb; omega)] at hm
    exact g.pins i m ha hi hm
  · -- le
    intro i m hm
    rw [ρlt (g.lt hm)]; exact hm
  · -- keep
    intro i hi hn
    refine ⟨by rw [ρlt hi]; exact hn, getOut hi (fun j hij _ => ?_)⟩
    obtain ⟨m, hm⟩ := place hij
    rw [hn] at hm; cases hm

theorem wpState_call {sp : SpecS} {f : FuncId} (hs : ∀ args bs K, sp args bs K → CallS P f args bs K) {args : Array Value} {k : Value → Heap → Prop} (hk : wpState sp args H k) : CallH P f args H k := by
  intro w0 ρ w args' n g ha
  unfold wpState at hk
  obtain ⟨hgood, hk⟩ := bcase_out hk
  have ok := callGood_ok hgood
  have hp : ∀ p ∈ callMu args.toList H, Placed ρ p.1 := reachC_placed g _ _ _ _ _ (LR.placed (blocksV_placed 8) ha) (fun p hp => by cases hp)
  have gC := callGam g ok hp
  refine (hs _ _ _ hk ⟨w, (callMu args.toList H).ren ρ⟩ _ w args' n gC (LR.map_S ok.toS ha)).mono ?_
  rintro e w' ⟨v, bs, ρ', v', hK, rfl, hv, g'⟩
  obtain ⟨hnd, hK⟩ := bcase_out hK
  obtain ⟨ρm, gm, ext, hvr⟩ := mergeGam g ok hp g' (nodupB_spec hnd)
  exact ⟨_, _, ρm, v', hK, rfl, hvr _ _ hv, gm, ext⟩
end Go.Abs

/- State contracts: a function whose body has been walked. -/
namespace Go.Abs
open Go.RowKit
variable {P : Program} {ρ : Ren} {w0 : Start P} {w : World} {H : Heap} {h : Handler} {L : AtLoop}

theorem stateK_out (g : Gam w0 ρ H w) {v v' : Value} (hv : VR ρ v v') {K : Value → Blocks → Prop} (hk : stateK K v H) : ∃ v2 bs ρ2, K v2 bs ∧ VR ρ2 v2 v' ∧ Gam w0 ρ2 (heapOf bs) w := by
  unfold stateK at hk
  obtain ⟨hgood, hk⟩ := bcase_out hk
  let A : AAct := ⟨.leaf, 0, []⟩
  let a : Act := ⟨#[], []⟩
  have ra : ActR ρ A a := ⟨rfl, fun t => by
    have e1 : A.slot t = undef := rfl
    have e2 : a.tmps.getD t undef = undef := rfl
    rw [e1, e2]; exact VR.undef _, ⟨rfl, fun j D e => by simp [A] at e⟩⟩
  obtain ⟨g2, _⟩ := gc_sub g ra rfl (keep := []) hgood
  exact ⟨_, _, _, hk, mapV_VR (gcGood_ok hgood) 8 _ _ hv, g2⟩

/-- A loop of a function, whatever its end is. -/
structure LoopGoodF (P : Program) (h : Handler) (L : AtLoop) (f : FuncId) (c : Code) (lv : Lv) (id : Nat) (F : Value → Heap → Prop) (X : Type) (st : X → Slots × Blocks) (inv : X → Prop) (m : X → Nat) : Prop where
  head : ∀ s b, L id s b → ∃ x, inv x ∧ st x = (s, b)
  flat : ((findLoop c lv id).map fun r => loopIds r.1) = some []
  round : ∀ x, inv x → wpRound P h L f id (st x).1 (st x).2 (fun s b => ∃ y, inv y ∧ m y < m x ∧ st y = (s, b))
    (fun i s b => if i = id then wpNext P h L f id .normal s b F else wpNext P h L f id (.exit i) s b F) F

theorem loopsOK_good (hh : HandlerOK P h) (hmix : P.follows .mixedOrders = true) {f : FuncId} {fn : Func} {c : Code} (hf : P.funcs[f]? = some fn) (hc : fn.body = some c) {F : Value → Heap → Prop} {ids : List Nat} (hids : loopIds c = ids) (hn : nodupB ids = true)
    (hl : ∀ id ∈ ids, ∃ X st inv m, LoopGoodF P h L f c (fnLv fn) id F X st inv m) : loopsOK P h L (fnSize fn) c (fnLv fn) (fnK P fn F) := by
  subst hids
  refine loopsOK_of c hn ?_
  intro id body l' hfl s bl hs
  obtain ⟨X, st, inv, m, hg⟩ := hl id (findLoop_ids c _ id hfl)
  obtain ⟨x, hx, he⟩ := hg.head s bl hs
  have e1 : (st x).1 = s := congrArg Prod.fst he
  have e2 : (st x).2 = bl := congrArg Prod.snd he
  have hin : loopIds body = [] := by have := hg.flat; rw [hfl] at this; simpa using this
  have := loop_rule (P := P) (h := h) (L := L) (sz := fnSize fn) hh hmix st inv m (id := id) (body := body) (l' := l') (k := fun e A H => wpAfter P h L c (fnLv fn) id e A H (fnK P fn F)) (R := fnK P fn F) hin
    (fun x hx => by
      have := hg.round x hx
      unfold wpRound at this
      simp only [hf, hc, hfl] at this
      have e : ∀ i s b, (if i = id then wpNext P h L f id .normal s b F else wpNext P h L f id (.exit i) s b F) = (if i = id then wpAfter P h L c (fnLv fn) id .normal (actOf (fnSize fn) s) (heapOf b) (fnK P fn F) else wpAfter P h L c (fnLv fn) id (.exit i) (actOf (fnSize fn) s) (heapOf b) (fnK P fn F)) := by
        intro i s b
        simp only [wpNext, hf, hc]
      simpa only [e] using this)
    (fun e A H he hR => by subst he; exact wpAfter_ret c (by rw [hfl]; rfl) hR)
    (fun e A H h1 h2 hR => by cases e <;> first | exact h1 rfl | exact h2 rfl | exact hR)
    x hx
  rw [e1, e2] at this
  exact this

/-- A FUNCTION IS PROVED, by what it does to the blocks that it reaches. -/
theorem callS_ofG (hh : HandlerOK P h) (hmix : P.follows .mixedOrders = true) {f : FuncId} {fn : Func} {c : Code} (hf : P.funcs[f]? = some fn) (hc : fn.body = some c) {args : List Value} {bs : Blocks} {K : Value → Blocks → Prop} (hsz2 : max args.toArray.size fn.ntmps = fnSize fn) {ids : List Nat} (hids : loopIds c = ids) (hn : nodupB ids = true)
    (hk : wpFn P h L 0 f args.toArray (heapOf bs) (stateK K))
    (hl : ∀ id ∈ ids, ∃ X st inv m, LoopGoodF P h L f c (fnLv fn) id (stateK K) X st inv m) : CallS P f args bs K := by
  intro w0 ρ w args' n g ha
  refine (wpFn_run (u := 0) (b := false) hh hmix (fun _ => rfl) hf hc hk (fun _ => by rw [hsz2]; exact loopsOK_good hh hmix hf hc hids hn hl) g n (by simpa using ha)).mono ?_
  rintro e w' ⟨v, H', ρ', v', hkv, rfl, hv, g', _⟩
  obtain ⟨v2, bs', ρ2, h1, h2, h3⟩ := stateK_out g' hv hkv
  exact ⟨v2, bs', ρ2, v', h1, rfl, h2, h3⟩
end Go.Abs

/- Handlers by a table hold if each entry does. -/
namespace Go.Abs
open Go.RowKit
variable {P : Program}
theorem saidH_ok {C : FuncId → List D → List D → Prop} (hC : ∀ f ds rs, C f ds rs → Con P f ds rs) : HandlerOK P (saidH P C) := by
  intro g args ats H k hk
  unfold saidH at hk
  split at hk
  · exact wpSaid_call hC hk
  · exact hk.elim
theorem fixH_ok {C : FuncId → List D → List D → Prop} (hC : ∀ f ds rs, C f ds rs → Con P f ds rs) {fix : List D → Option (List D)} : HandlerOK P (fixH C fix) := fun _ _ _ _ _ hk => wpFix_call hC hk
/-- (a state contract speaks of one function) -/
def PreOK (P : Program) (pre : FuncId → Option Handler) : Prop := ∀ g h, pre g = some h → ∀ args ats H k, h g args ats H k → CallH P g args H k
theorem handlerX_ok (hmix : P.follows .mixedOrders = true) {pre : FuncId → Option Handler} (hp : PreOK P pre) {u : Nat} (hu : u ≠ 0) : ∀ n, HandlerOK P (handlerX P pre u n)
  | 0 => fun _ _ _ _ _ h => h.elim
  | n + 1 => fun g args ats H k hk => by
    simp only [handlerX] at hk
    split at hk
    · rename_i h he
      exact hp g h he args ats H k hk
    · exact wpFn_call (handlerX_ok hmix hp hu n) hmix hu hk
theorem limC_of {g : FuncId} {lo hi e : Int} {n es : Nat} {cs : List Value} (h : e = limE lo hi cs) : limC g [.val (.int .i64 lo), .val (.int .i64 hi), .sl n es cs] [.val (.int .i64 e)] := h
theorem limC_out {g : FuncId} {lo hi e : Int} {n es : Nat} {cs : List Value} (h : Says limC g [.val (.int .i64 lo), .val (.int .i64 hi), .sl n es cs] [.val (.int .i64 e)]) : e = limE lo hi cs := h.out
theorem falseH_ok : HandlerOK P (fun _ _ _ _ _ => False) := fun _ _ _ _ _ h => h.elim
/-- A function whose loops are walked round by round. -/
theorem callS_walk {h : Handler} (hh : HandlerOK P h) (hmix : P.follows .mixedOrders = true) {u : Nat} (hu : u ≠ 0) {f : FuncId} {fn : Func} {c : Code} (hf : P.funcs[f]? = some fn) (hc : fn.body = some c) {args : List Value} {bs : Blocks} {K : Value → Blocks → Prop}
    (hk : wpFn P h (fun _ _ _ => False) u f args.toArray (heapOf bs) (stateK K)) : CallS P f args bs K := by
  intro w0 ρ w args' n g ha
  refine (wpFn_run (u := u) (b := false) hh hmix (fun h0 => absurd h0 hu) hf hc hk (fun h0 => absurd h0 hu) g n (by simpa using ha)).mono ?_
  rintro e w' ⟨v, H', ρ', v', hkv, rfl, hv, g', _⟩
  obtain ⟨v2, bs', ρ2, h1, h2, h3⟩ := stateK_out g' hv hkv
  exact ⟨v2, bs', ρ2, v', h1, rfl, h2, h3⟩
/-- The same, with data. -/
theorem con_walk {h : Handler} (hh : HandlerOK P h) (hmix : P.follows .mixedOrders = true) {u : Nat} (hu : u ≠ 0) {f : FuncId} {fn : Func} {c : Code} (hf : P.funcs[f]? = some fn) (hc : fn.body = some c) {ds rs : List D} (hcount : countV ds ≤ 400)
    (hk : ∀ caps, wpFn P h (fun _ _ _ => False) u f (layVals caps 500 ds).1.toArray (heapOf (layVals caps 500 ds).2) (dataK (· = rs))) : Con P f ds rs := by
  intro w args hgood hr
  obtain ⟨caps, ρ, hst, g, ha⟩ := lay_gam hgood hr hcount
  refine callsIn_wide.1 ((wpFn_run (u := u) (b := false) hh hmix (fun h0 => absurd h0 hu) hf hc (hk caps) (fun h0 => absurd h0 hu) g 0 (by simpa using ha)).mono ?_)
  rintro e w' ⟨v, H', ρ', v', hkv, rfl, hv, g', _⟩
  obtain ⟨vs, ds', u, rfl, h1, rfl⟩ := dataK_out g' hv hkv
  exact ⟨⟨vs, u, rfl, h1⟩, g'.below.below hst⟩
theorem callS_mono {f : FuncId} {args : List Value} {bs : Blocks} {K K' : Value → Blocks → Prop} (h : CallS P f args bs K) (hk : ∀ v b, K v b → K' v b) : CallS P f args bs K' := by
  intro w0 ρ w args' n g ha
  refine (h w0 ρ w args' n g ha).mono ?_
  rintro e w' ⟨v2, bs', ρ2, v', h1, h2, h3, h4⟩
  exact ⟨v2, bs', ρ2, v', hk _ _ h1, h2, h3, h4⟩
abbrev limBs (ti : TypeId) (cs : List Value) (lo hi : Int) : Blocks := [(900, .cells cs ti false 1), (901, .cells [.int .i64 lo] ti false 1), (902, .cells [.int .i64 hi] ti false 1)]
abbrev limArgs (n cap : Nat) : List Value := [.slice (some ⟨900, 0, none⟩) n cap, .pointer (some ⟨901, 0, none⟩), .pointer (some ⟨902, 0, none⟩)]
/-- What is left to show of the function that limit returns. -/
def limGoal (P : Program) (f : FuncId) (ti : TypeId) (n : Nat) (cs : List Value) (cap : Nat) (lo hi : Int) (K : Value → Blocks → Prop) : Prop :=
  wpFn P (fun _ _ _ _ _ => False) (fun _ _ _ => False) 6 f (limArgs n cap).toArray (heapOf (limBs ti cs lo hi)) (stateK K)
structure LimGood (P : Program) (f : FuncId) (ti : TypeId) : Prop where
  mix : P.follows .mixedOrders = true
  fn : ∃ fn c, P.funcs[f]? = some fn ∧ fn.body = some c
  one : ∀ cap lo hi x, limGoal P f ti 1 [.int .i64 x] cap lo hi (fun v b => v = .int .i64 (limE lo hi [.int .i64 x]) ∧ b = limBs ti [.int .i64 x] lo hi)
  two : ∀ cap lo hi x y, limGoal P f ti 2 [.int .i64 x, .int .i64 y] cap lo hi (fun v b => v = .int .i64 (limE lo hi [.int .i64 x, .int .i64 y]) ∧ b = limBs ti [.int .i64 x, .int .i64 y] lo hi)
  three : ∀ cap lo hi x y z, limGoal P f ti 3 [.int .i64 x, .int .i64 y, .int .i64 z] cap lo hi (fun v b => v = .int .i64 (limE lo hi [.int .i64 x, .int .i64 y, .int .i64 z]) ∧ b = limBs ti [.int .i64 x, .int .i64 y, .int .i64 z] lo hi)
  four : ∀ cap lo hi x y z u, limGoal P f ti 4 [.int .i64 x, .int .i64 y, .int .i64 z, .int .i64 u] cap lo hi (fun v b => v = .int .i64 (limE lo hi [.int .i64 x, .int .i64 y, .int .i64 z, .int .i64 u]) ∧ b = limBs ti [.int .i64 x, .int .i64 y, .int .i64 z, .int .i64 u] lo hi)
theorem lim_ok {f : FuncId} {ti : TypeId} (g : LimGood P f ti) {args : List Value} {bs : Blocks} {K : Value → Blocks → Prop} (hk : limAll ti args bs K) : CallS P f args bs K := by
  obtain ⟨fn, c, hf, hc⟩ := g.fn
  have run : ∀ {n : Nat} {cs : List Value} {cap : Nat} {lo hi : Int}, limGoal P f ti n cs cap lo hi (fun v b => v = .int .i64 (limE lo hi cs) ∧ b = limBs ti cs lo hi) → limOut lo hi cs (limBs ti cs lo hi) K → CallS P f (limArgs n cap) (limBs ti cs lo hi) K := by
    intro n cs cap lo hi h1 h2
    refine callS_mono (callS_walk falseH_ok g.mix (by decide) hf hc h1) ?_
    rintro v b ⟨rfl, rfl⟩
    obtain ⟨e, he, hK⟩ := h2
    rw [← limC_out he]; exact hK
  unfold limAll at hk
  split at hk
  · unfold limSpec at hk
    split at hk
    · rename_i e2
      split at hk
      · rename_i hc
        simp only [Bool.and_eq_true, beq_iff_eq] at hc
        obtain ⟨⟨⟨⟨⟨⟨⟨⟨⟨⟨⟨⟨⟨⟨⟨⟨rfl, rfl⟩, rfl⟩, rfl⟩, rfl⟩, rfl⟩, rfl⟩, rfl⟩, rfl⟩, rfl⟩, rfl⟩, rfl⟩, rfl⟩, rfl⟩, rfl⟩, hm⟩, hl⟩ := hc
        rw [e2]
        split at hk
        · subst hm; exact run (g.one _ _ _ _) hk
        · subst hm; exact run (g.two _ _ _ _ _) hk
        · subst hm; exact run (g.three _ _ _ _ _ _) hk
        · subst hm; exact run (g.four _ _ _ _ _ _ _) hk
        · exact hk.elim
      · exact hk.elim
    · exact hk.elim
  · exact hk.elim
end Go.Abs

/- The closure that limit(lo, hi) returns, handed a list of numbers of any length. -/
namespace Go.Abs
def limL (ti : TypeId) : SpecS := fun args bs K =>
  match args, bs with
  | [.slice (some ⟨i, 0, none⟩) m _, .pointer (some ⟨a, 0, none⟩), .pointer (some ⟨b, 0, none⟩)], [(i', .sym cs opn es), (a', .cells [.int .i64 lo] t2 o2 es2), (b', .cells [.int .i64 hi] t3 o3 es3)] =>
    if (i == 500 && i' == 500 && a == 900 && a' == 900 && b == 901 && b' == 901 && t2 == ti && t3 == ti && opn == false && o2 == false && o3 == false && es == 1 && es2 == 1 && es3 == 1) = true then
      ∃ l : List Int, cs = l.map (Value.int .i64) ∧ m = l.length ∧ l.length < 1000000000 ∧ ∃ e : Int, Says limC 0 [.val (.int .i64 lo), .val (.int .i64 hi), .sl m 1 cs] [.val (.int .i64 e)] ∧ K (.int .i64 e) [(900, .cells [.int .i64 lo] t2 o2 es2), (901, .cells [.int .i64 hi] t3 o3 es3)]
    else False
  | _, _ => limAll ti args bs K
/-- numbers that are no temperatures far off -/
structure GoodNums (l : List Int) : Prop where
  all : ∀ z ∈ l, 0 ≤ z ∧ z ≤ 100000
end Go.Abs

/- Chapter 4: what a rule, a table and a coil mean, in numbers; how slices.MinFunc is met with the losses of a coil. -/
namespace Go.Abs.MD
/-- the error of a temperature, of a value -/
def xErr (a : Int) : Int := if 0 ≤ a ∧ a ≤ 20000 then 0 else 2
def vErr (a : Int) : Int := if 1 ≤ a ∧ a ≤ 100000 then 0 else 2
/-- a table's check: what is left of it, the knot before, the index -/
def tchk : List (Int × Int) → Option (Int × Int) → Int → Int × Int
  | [], _, _ => (0, 0)
  | p :: r, q, i => if xErr p.1 = 0 ∧ vErr p.2 = 0 then (match q with
    | none => tchk r (some p) (i + 1)
    | some q => if p.1 ≤ q.1 then (i, 9) else tchk r (some p) (i + 1)) else (i, 2)
def prev (ps : List (Int × Int)) : Nat → Option (Int × Int)
  | 0 => none
  | j + 1 => ps[j]?
/-- the index and the error of a table -/
def tab (ps : List (Int × Int)) : Int × Int := if ps.length = 0 then (0, 10) else if 12 < ps.length then (0, 8) else tchk ps none 0
/-- between two knots -/
def line (p q : Int × Int) (x : Int) : Int := (p.2 * (q.1 - x) + q.2 * (x - p.1)) / (q.1 - p.1)
def valGo (x : Int) : Int × Int → List (Int × Int) → Int
  | p, [] => p.2
  | p, q :: r => if x ≤ q.1 then line p q x else valGo x q r
/-- the value of a table -/
def valV (x : Int) : List (Int × Int) → Int
  | [] => 0
  | p :: r => if x ≤ p.1 then p.2 else valGo x p r
/-- the gain at a step: its Num; its Den -/
def gN (a b c d : Int) (s : Int) : Int := a * d + s * c * b
def gD (b d : Int) : Int := b * d
def ab (x : Int) : Int := if x < 0 then -x else x
/-- the loss at a step, over the Den of all gains -/
def loss (T : List (Int × Int)) (a b c d : Int) : List (Int × Int) → Int → Int
  | [], _ => 0
  | p :: r, s => ab (valV p.1 T * gN a b c d s - p.2 * gD b d) + loss T a b c d r s
/-- the first one with the minimum -/
def bestF (f : Int → Int) : Int → List Int → Int
  | m, [] => m
  | m, y :: r => bestF f (if f y < f m then y else m) r
def best (f : Int → Int) : List Int → Int
  | [] => 0
  | x :: r => bestF f x r
def prs : List (Int × Int) → List Value
  | [] => []
  | p :: r => .int .i64 p.1 :: .int .i64 p.2 :: prs r
/-- rules without an error -/
structure RulOK (T : List (Int × Int)) (a b c d e : Int) : Prop where
  tabz : (tab T).2 = 0
  az : 1 ≤ a ∧ a ≤ 900
  bz : 1 ≤ b ∧ b ≤ 900
  cz : 1 ≤ c ∧ c ≤ 900
  dz : 1 ≤ d ∧ d ≤ 900
  ez : 0 ≤ e ∧ e ≤ 900
/-- readings without an error -/
structure ReadOK (R : List (Int × Int)) : Prop where
  len : R.length ≤ 12
  all : ∀ p ∈ R, (0 ≤ p.1 ∧ p.1 ≤ 20000) ∧ 0 ≤ p.2 ∧ p.2 ≤ 100000
end Go.Abs.MD
namespace Go.Abs
open Go.Abs.MD
structure GoodIn (T R : List (Int × Int)) (a b c d e : Int) (l : List Int) : Prop where
  rul : RulOK T a b c d e
  rd : ReadOK R
  pos : 0 < l.length
  few : l.length ≤ 1000
  all : ∀ s ∈ l, 0 ≤ s ∧ s ≤ e
structure GoodMin (T R : List (Int × Int)) (a b c d : Int) (l : List Int) (r : Int) : Prop where
  eq : r = best (loss T a b c d R) l
/-- slices.MinFunc over steps, by the losses of a coil -/
def minP (bf : FuncId) (tg tc : TypeId) : SpecS := fun args bs K =>
  match args, bs with
  | [.slice (some ⟨i, 0, none⟩) m _, .func (.func f) g h], [(i', .sym cs o1 e1), (j', .cells gs t2 o2 e2), (k', .cells ks t3 o3 e3), (p', .sym ts o4 e4), (q', .sym rs o5 e5)] =>
    match h.toList, gs, ks with
    | [.pointer (some ⟨j, 0, none⟩), .pointer (some ⟨k, 0, none⟩)], [.slice (some ⟨p, 0, none⟩) n0 _, .int .i64 a, .int .i64 b, .int .i64 c, .int .i64 d, .int .i64 e], [.string _, .slice (some ⟨q, 0, none⟩) n1 _] =>
      if (f == bf && g.size == 0 && i == 900 && i' == 900 && j == 901 && j' == 901 && k == 902 && k' == 902 && p == 500 && p' == 500 && q == 501 && q' == 501 && o1 == true && e1 == 1 && t2 == tg && o2 == false && e2 == 1 && t3 == tc && o3 == false && e3 == 1 && o4 == false && e4 == 2 && o5 == false && e5 == 2) = true then
        ∃ (T R : List (Int × Int)) (l : List Int) (r : Int), ts = prs T ∧ n0 = T.length ∧ rs = prs R ∧ n1 = R.length ∧ cs = l.map (Value.int .i64) ∧ m = l.length ∧ GoodIn T R a b c d e l ∧ GoodMin T R a b c d l r ∧ K (.int .i64 r) [(900, .sym cs true 1), (901, .cells gs t2 o2 e2), (902, .cells ks t3 o3 e3), (500, .sym ts false 2), (501, .sym rs false 2)]
      else False
    | _, _, _ => False
  | _, _ => False
def copyMR : List D → Option (List D)
  | [.agg [.nil, a, b, c, d, e]] => some [.agg [.sl 0 2 [], a, b, c, d, e]]
  | [.agg [.sl n es cs, a, b, c, d, e]] => some [.agg [.sl n es cs, a, b, c, d, e]]
  | _ => none
def copyMC : List D → Option (List D)
  | [.agg [a, .nil]] => some [.agg [a, .sl 0 2 []]]
  | [.agg [a, .sl n es cs]] => some [.agg [a, .sl n es cs]]
  | _ => none
end Go.Abs

/- Short names for what stands often in printed texts. -/
namespace Go.Abs
abbrev Pt (b o : Nat) : Value := .pointer (some ⟨b, o, none⟩)
abbrev Sl (b n c : Nat) : Value := .slice (some ⟨b, 0, none⟩) n c
abbrev Qv {α : Type} (x : α) : Prop := x = x
end Go.Abs

/- What is left to show of each function, written out; the kernel reckons it. -/
namespace Go.Proofs.G5v
open Go Go.Abs Go.Proofs
set_option maxRecDepth 100000
set_option linter.unusedVariables false
abbrev vI (n : Int) : Value := .int .i64 n
abbrev Ct := FuncId → List D → List D → Prop
abbrev Bx := Slots → Blocks → Prop
abbrev Xx := Nat → Slots → Blocks → Prop
abbrev hE (C : Ct) : Handler := handlerX Tryz.prog (fun _ => none) 12 6
def gCu (C : Ct) (L : AtLoop) (s0 : ByteArray) (x1 : Int) (k : List D → Prop) : Prop := wpFn Tryz.prog (hE C) L 0 51 #[.string s0, .int .u8 x1] (heapOf []) (dataK k)
theorem gCu_text (C : Ct) (L : AtLoop) (s0 : ByteArray) (x1 : Int) (k : List D → Prop) : gCu C L s0 x1 k =
 (L 0 [(Prod.mk 0 (Go.Value.string (s0))), (Prod.mk 1 (Go.Value.int Go.IntKind.u8 (x1))), (Prod.mk 5 (Go.Value.slice Option.none 0 0)), (Prod.mk 6 (vI (0 : Int))), (Prod.mk 7 (vI (0 : Int)))] []) := by kernel_rfl
abbrev zCu1 (s0 : ByteArray) (x1 : Int) (x2 : Int) (x3 : Int) : Slots × Blocks := ([(0, (Value.string s0)), (1, (Value.int Go.IntKind.u8 x1)), (5, (Value.slice none 0 0)), (6, (Value.int .i64 x2)), (7, (Value.int .i64 x3))], [])
def rCu1 (C : Ct) (L : AtLoop) (s0 : ByteArray) (x1 : Int) (x2 : Int) (x3 : Int) (B : Bx) (X : Xx) (k : List D → Prop) : Prop := wpRound Tryz.prog (hE C) L 51 0 [(0, (Value.string s0)), (1, (Value.int Go.IntKind.u8 x1)), (5, (Value.slice none 0 0)), (6, (Value.int .i64 x2)), (7, (Value.int .i64 x3))] [] B X (dataK k)
theorem rCu1_text (C : Ct) (L : AtLoop) (s0 : ByteArray) (x1 : Int) (x2 : Int) (x3 : Int) (B : Bx) (X : Xx) (k : List D → Prop) : rCu1 C L s0 x1 x2 x3 B X k =
 (bcase (decide (x3 < (↑(ByteArray.size s0) : Int)))
 (bcase (decide (0 ≤ x3))
 (∃ b1 : UInt8,
 ((ByteAt (s0) (Int.toNat x3) (b1)) ∧
 (bcase ((↑(UInt8.toNat b1) : Int) == x1)
 (bcase (decide (0 ≤ x3))
 (bcase (decide (x3 ≤ (↑(ByteArray.size s0) : Int)))
 (bcase (decide (0 ≤ x2))
 (bcase (decide (x2 ≤ (↑(Int.toNat x3) : Int)))
 (B [(Prod.mk 0 (Go.Value.string (s0))), (Prod.mk 1 (Go.Value.int Go.IntKind.u8 (x1))), (Prod.mk 5 (Go.Value.slice (Option.some (Go.Addr.mk 1000 0 Option.none)) 1 1)), (Prod.mk 6 (vI (IntKind.wrap .i64 (x3 + 1)))), (Prod.mk 7 (vI (IntKind.wrap .i64 (x3 + 1))))] [(Prod.mk 1000 (AObj.sym [(Go.Value.string (ByteArray.extract s0 (Int.toNat x2) (Int.toNat x3)))] true 1))])
 False)
 False)
 False)
 False)
 (B [(Prod.mk 0 (Go.Value.string (s0))), (Prod.mk 1 (Go.Value.int Go.IntKind.u8 (x1))), (Prod.mk 5 (Go.Value.slice Option.none 0 0)), (Prod.mk 6 (vI x2)), (Prod.mk 7 (vI (IntKind.wrap .i64 (x3 + 1))))] []))))
 False)
 (X 0 [(Prod.mk 0 (Go.Value.string (s0))), (Prod.mk 5 (Go.Value.slice Option.none 0 0)), (Prod.mk 6 (vI x2))] [])) := by kernel_rfl
abbrev zCu2 (s0 : ByteArray) (x1 : Int) (n2 : Nat) (x3 : Int) (x4 : Int) (l5 : List Value) : Slots × Blocks := ([(0, (Value.string s0)), (1, (Value.int Go.IntKind.u8 x1)), (5, (Value.slice (some ⟨1000, 0, none⟩) n2 n2)), (6, (Value.int .i64 x3)), (7, (Value.int .i64 x4))], [(1000, (AObj.sym l5 true 1))])
def rCu2 (C : Ct) (L : AtLoop) (s0 : ByteArray) (x1 : Int) (n2 : Nat) (x3 : Int) (x4 : Int) (l5 : List Value) (B : Bx) (X : Xx) (k : List D → Prop) : Prop := wpRound Tryz.prog (hE C) L 51 0 [(0, (Value.string s0)), (1, (Value.int Go.IntKind.u8 x1)), (5, (Value.slice (some ⟨1000, 0, none⟩) n2 n2)), (6, (Value.int .i64 x3)), (7, (Value.int .i64 x4))] [(1000, (AObj.sym l5 true 1))] B X (dataK k)
theorem rCu2_text (C : Ct) (L : AtLoop) (s0 : ByteArray) (x1 : Int) (n2 : Nat) (x3 : Int) (x4 : Int) (l5 : List Go.Value) (B : Bx) (X : Xx) (k : List D → Prop) : rCu2 C L s0 x1 n2 x3 x4 l5 B X k =
 (bcase (decide (x4 < (↑(ByteArray.size s0) : Int)))
 (bcase (decide (0 ≤ x4))
 (∃ b1 : UInt8,
 ((ByteAt (s0) (Int.toNat x4) (b1)) ∧
 (bcase ((↑(UInt8.toNat b1) : Int) == x1)
 (bcase (decide (0 ≤ x4))
 (bcase (decide (x4 ≤ (↑(ByteArray.size s0) : Int)))
 (bcase (decide (0 ≤ x3))
 (bcase (decide (x3 ≤ (↑(Int.toNat x4) : Int)))
 (bcase (decide (n2 < n2 + 1))
 (bcase (decide ((2 * (n2 + 1) + 768) * 16 ≤ 281474976710656))
 (bcase (decide (n2 + 1 ≤ 1099511627776))
 (bcase (decide (0 + n2 * 1 ≤ List.length l5))
 (bcase (decide (0 + n2 * 1 = List.length l5))
 (B [(Prod.mk 0 (Go.Value.string (s0))), (Prod.mk 1 (Go.Value.int Go.IntKind.u8 (x1))), (Prod.mk 5 (Go.Value.slice (Option.some (Go.Addr.mk 1000 0 Option.none)) (n2 + 1) (n2 + 1))), (Prod.mk 6 (vI (IntKind.wrap .i64 (x4 + 1)))), (Prod.mk 7 (vI (IntKind.wrap .i64 (x4 + 1))))] [(Prod.mk 1000 (AObj.sym ((List.take (n2 * 1) (List.drop 0 l5)) ++ [(Go.Value.string (ByteArray.extract s0 (Int.toNat x3) (Int.toNat x4)))]) true 1))])
 False)
 False)
 False)
 False)
 False)
 False)
 False)
 False)
 False)
 (B [(Prod.mk 0 (Go.Value.string (s0))), (Prod.mk 1 (Go.Value.int Go.IntKind.u8 (x1))), (Prod.mk 5 (Go.Value.slice (Option.some (Go.Addr.mk 1000 0 Option.none)) (n2) (n2))), (Prod.mk 6 (vI x3)), (Prod.mk 7 (vI (IntKind.wrap .i64 (x4 + 1))))] [(Prod.mk 1000 (AObj.sym (l5) true 1))]))))
 False)
 (X 0 [(Prod.mk 0 (Go.Value.string (s0))), (Prod.mk 5 (Go.Value.slice (Option.some (Go.Addr.mk 1000 0 Option.none)) (n2) (n2))), (Prod.mk 6 (vI x3))] [(Prod.mk 1000 (AObj.sym (l5) true 1))])) := by kernel_rfl
def nCu3 (C : Ct) (L : AtLoop) (s0 : ByteArray) (x1 : Int) (k : List D → Prop) : Prop := wpNext Tryz.prog (hE C) L 51 0 .normal [(0, (Value.string s0)), (5, (Value.slice none 0 0)), (6, (Value.int .i64 x1))] [] (dataK k)
theorem nCu3_text (C : Ct) (L : AtLoop) (s0 : ByteArray) (x1 : Int) (k : List D → Prop) : nCu3 C L s0 x1 k =
 (bcase (decide (0 ≤ x1))
 (bcase (decide (x1 ≤ (↑(ByteArray.size s0) : Int)))
 (((1 = 1) ∧
 (1 = 1)) ∧
 (k [(D.sl 1 1 [(Go.Value.string (ByteArray.extract s0 (Int.toNat x1) (ByteArray.size s0)))])]))
 False)
 False) := by kernel_rfl
def nCu4 (C : Ct) (L : AtLoop) (s0 : ByteArray) (n1 : Nat) (x2 : Int) (l3 : List Value) (k : List D → Prop) : Prop := wpNext Tryz.prog (hE C) L 51 0 .normal [(0, (Value.string s0)), (5, (Value.slice (some ⟨1000, 0, none⟩) n1 n1)), (6, (Value.int .i64 x2))] [(1000, (AObj.sym l3 true 1))] (dataK k)
theorem nCu4_text (C : Ct) (L : AtLoop) (s0 : ByteArray) (n1 : Nat) (x2 : Int) (l3 : List Go.Value) (k : List D → Prop) : nCu4 C L s0 n1 x2 l3 k =
 (bcase (decide (0 ≤ x2))
 (bcase (decide (x2 ≤ (↑(ByteArray.size s0) : Int)))
 (bcase (decide (n1 < n1 + 1))
 (bcase (decide ((2 * (n1 + 1) + 768) * 16 ≤ 281474976710656))
 (bcase (decide (n1 + 1 ≤ 1099511627776))
 (bcase (decide (0 + n1 * 1 ≤ List.length l3))
 (bcase (decide (0 + n1 * 1 = List.length l3))
 ((((n1 + 1) = (n1 + 1)) ∧
 ((List.length
  (List.take (n1 * 1) (List.drop 0 l3) ++
    List.take 1
      (List.drop 0
        (Array.toList
          (Array.foldl
            (fun cs x =>
              match x with
              | (c, j) => Array.setIfInBounds cs (0 + j) c)
            (Go.Builtin.zeroCells (Go.Value.cells (Go.Value.string { data := #[] })) 1) (Array.zipIdx (Go.Value.cells (AAct.eval { tmps := Tree.node (Option.some (Go.Value.string s0)) (Tree.node (Option.some (Go.Value.chan (Option.some 0))) (Tree.node (Option.some (Go.Value.chan (Option.some 0))) (Tree.node (Option.some (Go.Value.chan (Option.some 0))) (Tree.node (Option.some (Go.Value.chan (Option.some 0))) (Tree.node (Option.some (Go.Value.string (ByteArray.extract s0 (Int.toNat x2) (ByteArray.size s0)))) Tree.leaf Tree.leaf) Tree.leaf) (Tree.node (Option.some (Go.Value.chan (Option.some 0))) Tree.leaf Tree.leaf)) (Tree.node (Option.some (Go.Value.chan (Option.some 0))) (Tree.node (Option.some (Go.Value.chan (Option.some 0))) Tree.leaf Tree.leaf) (Tree.node (Option.some (Go.Value.chan (Option.some 0))) Tree.leaf Tree.leaf))) (Tree.node (Option.some (Go.Value.slice (Option.some { block := 1000, off := 0 }) n1 n1)) (Tree.node (Option.some (Go.Value.chan (Option.some 0))) (Tree.node (Option.some (Go.Value.chan (Option.some 0))) (Tree.node (Option.some (Go.Value.chan (Option.some 0))) Tree.leaf Tree.leaf) Tree.leaf) (Tree.node (Option.some (Go.Value.chan (Option.some 0))) Tree.leaf Tree.leaf)) (Tree.node (Option.some (Go.Value.chan (Option.some 0))) (Tree.node (Option.some (Go.Value.chan (Option.some 0))) Tree.leaf Tree.leaf) (Tree.node (Option.some (Go.Value.string s0)) Tree.leaf Tree.leaf)))) (Tree.node (Option.some (Go.Value.chan (Option.some 0))) (Tree.node (Option.some (Go.Value.chan (Option.some 0))) (Tree.node (Option.some (Go.Value.chan (Option.some 0))) (Tree.node (Option.some (Go.Value.chan (Option.some 0))) (Tree.node (Option.some (Go.Value.chan (Option.some 0))) Tree.leaf Tree.leaf) Tree.leaf) (Tree.node (Option.some (Go.Value.chan (Option.some 0))) Tree.leaf Tree.leaf)) (Tree.node (Option.some (Go.Value.chan (Option.some 0))) (Tree.node (Option.some (Go.Value.chan (Option.some 0))) Tree.leaf Tree.leaf) (Tree.node (Option.some (Go.Value.slice (Option.some { block := 1000, off := 0 }) n1 n1)) Tree.leaf Tree.leaf))) (Tree.node (Option.some (vI x2)) (Tree.node (Option.some (Go.Value.chan (Option.some 0))) (Tree.node (Option.some (Go.Value.chan (Option.some 0))) Tree.leaf Tree.leaf) (Tree.node (Option.some (Go.Value.chan (Option.some 0))) Tree.leaf Tree.leaf)) (Tree.node (Option.some (Go.Value.chan (Option.some 0))) (Tree.node (Option.some (Go.Value.chan (Option.some 0))) Tree.leaf Tree.leaf) (Tree.node (Option.some (vI x2)) Tree.leaf Tree.leaf)))), size := 34, defers := [] } (Go.Operand.tmp 31))))))))) = ((n1 + 1) * 1))) ∧
 (k [(D.sl (n1 + 1) 1 ((List.take (n1 * 1) (List.drop 0 l3)) ++ [(Go.Value.string (ByteArray.extract s0 (Int.toNat x2) (ByteArray.size s0)))]))]))
 False)
 False)
 False)
 False)
 False)
 False)
 False) := by kernel_rfl
def gNu (C : Ct) (L : AtLoop) (s0 : ByteArray) (x1 : Int) (k : List D → Prop) : Prop := wpFn Tryz.prog (hE C) L 0 89 #[.string s0, .int .i64 x1] (heapOf []) (dataK k)
theorem gNu_text (C : Ct) (L : AtLoop) (s0 : ByteArray) (x1 : Int) (k : List D → Prop) : gNu C L s0 x1 k =
 (bcase (decide ((↑(ByteArray.size s0) : Int) > 0))
 (∃ b1 : UInt8,
 ((ByteAt (s0) 0 (b1)) ∧
 (bcase ((↑(UInt8.toNat b1) : Int) == 45)
 (bcase ((↑(ByteArray.size s0) : Int) == 1)
 (k [(D.val (vI (0 : Int))), (D.val (Value.bool false))])
 (bcase (decide (IntKind.wrap .i64 ((↑(ByteArray.size s0) : Int) - 1) > x1))
 (k [(D.val (vI (0 : Int))), (D.val (Value.bool false))])
 (∃ b2 : UInt8,
 ((ByteAt (s0) 1 (b2)) ∧
 (bcase ((↑(UInt8.toNat b2) : Int) == 48)
 (bcase (decide ((↑(ByteArray.size s0) : Int) > 1))
 (k [(D.val (vI (0 : Int))), (D.val (Value.bool false))])
 (L 0 [(Prod.mk 0 (Go.Value.string (s0))), (Prod.mk 6 (vI (1 : Int))), (Prod.mk 7 (vI (0 : Int))), (Prod.mk 8 (vI (1 : Int)))] []))
 (L 0 [(Prod.mk 0 (Go.Value.string (s0))), (Prod.mk 6 (vI (1 : Int))), (Prod.mk 7 (vI (0 : Int))), (Prod.mk 8 (vI (1 : Int)))] []))))))
 (bcase ((↑(ByteArray.size s0) : Int) == 0)
 (k [(D.val (vI (0 : Int))), (D.val (Value.bool false))])
 (bcase (decide (IntKind.wrap .i64 ((↑(ByteArray.size s0) : Int) - 0) > x1))
 (k [(D.val (vI (0 : Int))), (D.val (Value.bool false))])
 (∃ b2 : UInt8,
 ((ByteAt (s0) 0 (b2)) ∧
 (bcase ((↑(UInt8.toNat b2) : Int) == 48)
 (bcase (decide ((↑(ByteArray.size s0) : Int) > 1))
 (k [(D.val (vI (0 : Int))), (D.val (Value.bool false))])
 (L 0 [(Prod.mk 0 (Go.Value.string (s0))), (Prod.mk 6 (vI (0 : Int))), (Prod.mk 7 (vI (0 : Int))), (Prod.mk 8 (vI (0 : Int)))] []))
 (L 0 [(Prod.mk 0 (Go.Value.string (s0))), (Prod.mk 6 (vI (0 : Int))), (Prod.mk 7 (vI (0 : Int))), (Prod.mk 8 (vI (0 : Int)))] [])))))))))
 (bcase ((↑(ByteArray.size s0) : Int) == 0)
 (k [(D.val (vI (0 : Int))), (D.val (Value.bool false))])
 (bcase (decide (IntKind.wrap .i64 ((↑(ByteArray.size s0) : Int) - 0) > x1))
 (k [(D.val (vI (0 : Int))), (D.val (Value.bool false))])
 (∃ b1 : UInt8,
 ((ByteAt (s0) 0 (b1)) ∧
 (bcase ((↑(UInt8.toNat b1) : Int) == 48)
 (bcase (decide ((↑(ByteArray.size s0) : Int) > 1))
 (k [(D.val (vI (0 : Int))), (D.val (Value.bool false))])
 (L 0 [(Prod.mk 0 (Go.Value.string (s0))), (Prod.mk 6 (vI (0 : Int))), (Prod.mk 7 (vI (0 : Int))), (Prod.mk 8 (vI (0 : Int)))] []))
 (L 0 [(Prod.mk 0 (Go.Value.string (s0))), (Prod.mk 6 (vI (0 : Int))), (Prod.mk 7 (vI (0 : Int))), (Prod.mk 8 (vI (0 : Int)))] []))))))) := by kernel_rfl
abbrev zNu1 (s0 : ByteArray) (x1 : Int) (x2 : Int) (x3 : Int) : Slots × Blocks := ([(0, (Value.string s0)), (6, (Value.int .i64 x1)), (7, (Value.int .i64 x2)), (8, (Value.int .i64 x3))], [])
def rNu1 (C : Ct) (L : AtLoop) (s0 : ByteArray) (x1 : Int) (x2 : Int) (x3 : Int) (B : Bx) (X : Xx) (k : List D → Prop) : Prop := wpRound Tryz.prog (hE C) L 89 0 [(0, (Value.string s0)), (6, (Value.int .i64 x1)), (7, (Value.int .i64 x2)), (8, (Value.int .i64 x3))] [] B X (dataK k)
theorem rNu1_text (C : Ct) (L : AtLoop) (s0 : ByteArray) (x1 : Int) (x2 : Int) (x3 : Int) (B : Bx) (X : Xx) (k : List D → Prop) : rNu1 C L s0 x1 x2 x3 B X k =
 (bcase (decide (x3 < (↑(ByteArray.size s0) : Int)))
 (bcase (decide (0 ≤ x3))
 (∃ b1 : UInt8,
 ((ByteAt (s0) (Int.toNat x3) (b1)) ∧
 (bcase (decide ((↑(UInt8.toNat b1) : Int) < 48))
 (k [(D.val (vI (0 : Int))), (D.val (Value.bool false))])
 (bcase (decide (0 ≤ x3))
 (∃ b2 : UInt8,
 ((ByteAt (s0) (Int.toNat x3) (b2)) ∧
 (bcase (decide ((↑(UInt8.toNat b2) : Int) > 57))
 (k [(D.val (vI (0 : Int))), (D.val (Value.bool false))])
 (bcase (decide (0 ≤ x3))
 (∃ b3 : UInt8,
 ((ByteAt (s0) (Int.toNat x3) (b3)) ∧
 (B [(Prod.mk 0 (Go.Value.string (s0))), (Prod.mk 6 (vI x1)), (Prod.mk 7 (vI (IntKind.wrap .i64 (IntKind.wrap .i64 (10 * x2) + IntKind.wrap .i64 (Go.IntKind.wrap Go.IntKind.u8 ((↑(UInt8.toNat b3) : Int) - 48)))))), (Prod.mk 8 (vI (IntKind.wrap .i64 (x3 + 1))))] [])))
 False))))
 False))))
 False)
 (X 0 [(Prod.mk 6 (vI x1)), (Prod.mk 7 (vI x2))] [])) := by kernel_rfl
def nNu2 (C : Ct) (L : AtLoop) (x0 : Int) (x1 : Int) (k : List D → Prop) : Prop := wpNext Tryz.prog (hE C) L 89 0 .normal [(6, (Value.int .i64 x0)), (7, (Value.int .i64 x1))] [] (dataK k)
theorem nNu2_text (C : Ct) (L : AtLoop) (x0 : Int) (x1 : Int) (k : List D → Prop) : nNu2 C L x0 x1 k =
 (bcase (x0 == 1)
 (k [(D.val (vI (IntKind.wrap .i64 (0 - x1)))), (D.val (Value.bool true))])
 (k [(D.val (vI x1)), (D.val (Value.bool true))])) := by kernel_rfl
end Go.Proofs.G5v

/- What is left to show of each function, written out; the kernel reckons it. -/
namespace Go.Proofs.G5v
open Go Go.Abs Go.Proofs
set_option maxRecDepth 100000
set_option linter.unusedVariables false
abbrev P1 (b o : Nat) : Value := .pointer (some ⟨b, o, none⟩)
def lm1 (cap : Nat) (lo hi x : Int) (K : Value → Blocks → Prop) : Prop := wpFn Tryz.prog (fun _ _ _ _ _ => False) (fun _ _ _ => False) 6 86 #[.slice (some ⟨900, 0, none⟩) 1 cap, .pointer (some ⟨901, 0, none⟩), .pointer (some ⟨902, 0, none⟩)] (heapOf [(900, .cells [.int .i64 x] 3 false 1), (901, .cells [.int .i64 lo] 3 false 1), (902, .cells [.int .i64 hi] 3 false 1)]) (stateK K)
theorem lm1_text (cap : Nat) (lo : Int) (hi : Int) (x : Int) (K : Go.Value → Blocks → Prop) : lm1 cap lo hi x K =
 (bcase (decide (x < lo))
 (K (vI 2) [(Prod.mk 900 (AObj.cells [(vI x)] 3 false 1)), (Prod.mk 901 (AObj.cells [(vI lo)] 3 false 1)), (Prod.mk 902 (AObj.cells [(vI hi)] 3 false 1))])
 (bcase (decide (x > hi))
 (K (vI 2) [(Prod.mk 900 (AObj.cells [(vI x)] 3 false 1)), (Prod.mk 901 (AObj.cells [(vI lo)] 3 false 1)), (Prod.mk 902 (AObj.cells [(vI hi)] 3 false 1))])
 (K (vI 0) [(Prod.mk 900 (AObj.cells [(vI x)] 3 false 1)), (Prod.mk 901 (AObj.cells [(vI lo)] 3 false 1)), (Prod.mk 902 (AObj.cells [(vI hi)] 3 false 1))]))) := by kernel_rfl
def lm2 (cap : Nat) (lo hi x y : Int) (K : Value → Blocks → Prop) : Prop := wpFn Tryz.prog (fun _ _ _ _ _ => False) (fun _ _ _ => False) 6 86 #[.slice (some ⟨900, 0, none⟩) 2 cap, .pointer (some ⟨901, 0, none⟩), .pointer (some ⟨902, 0, none⟩)] (heapOf [(900, .cells [.int .i64 x, .int .i64 y] 3 false 1), (901, .cells [.int .i64 lo] 3 false 1), (902, .cells [.int .i64 hi] 3 false 1)]) (stateK K)
theorem lm2_text (cap : Nat) (lo : Int) (hi : Int) (x : Int) (y : Int) (K : Go.Value → Blocks → Prop) : lm2 cap lo hi x y K =
 (bcase (decide (x < lo))
 (K (vI 2) [(Prod.mk 900 (AObj.cells [(vI x), (vI y)] 3 false 1)), (Prod.mk 901 (AObj.cells [(vI lo)] 3 false 1)), (Prod.mk 902 (AObj.cells [(vI hi)] 3 false 1))])
 (bcase (decide (x > hi))
 (K (vI 2) [(Prod.mk 900 (AObj.cells [(vI x), (vI y)] 3 false 1)), (Prod.mk 901 (AObj.cells [(vI lo)] 3 false 1)), (Prod.mk 902 (AObj.cells [(vI hi)] 3 false 1))])
 (bcase (decide (y < lo))
 (K (vI 2) [(Prod.mk 900 (AObj.cells [(vI x), (vI y)] 3 false 1)), (Prod.mk 901 (AObj.cells [(vI lo)] 3 false 1)), (Prod.mk 902 (AObj.cells [(vI hi)] 3 false 1))])
 (bcase (decide (y > hi))
 (K (vI 2) [(Prod.mk 900 (AObj.cells [(vI x), (vI y)] 3 false 1)), (Prod.mk 901 (AObj.cells [(vI lo)] 3 false 1)), (Prod.mk 902 (AObj.cells [(vI hi)] 3 false 1))])
 (K (vI 0) [(Prod.mk 900 (AObj.cells [(vI x), (vI y)] 3 false 1)), (Prod.mk 901 (AObj.cells [(vI lo)] 3 false 1)), (Prod.mk 902 (AObj.cells [(vI hi)] 3 false 1))]))))) := by kernel_rfl
def lm3 (cap : Nat) (lo hi x y z : Int) (K : Value → Blocks → Prop) : Prop := wpFn Tryz.prog (fun _ _ _ _ _ => False) (fun _ _ _ => False) 6 86 #[.slice (some ⟨900, 0, none⟩) 3 cap, .pointer (some ⟨901, 0, none⟩), .pointer (some ⟨902, 0, none⟩)] (heapOf [(900, .cells [.int .i64 x, .int .i64 y, .int .i64 z] 3 false 1), (901, .cells [.int .i64 lo] 3 false 1), (902, .cells [.int .i64 hi] 3 false 1)]) (stateK K)
theorem lm3_text (cap : Nat) (lo : Int) (hi : Int) (x : Int) (y : Int) (z : Int) (K : Go.Value → Blocks → Prop) : lm3 cap lo hi x y z K =
 (bcase (decide (x < lo))
 (K (vI 2) [(Prod.mk 900 (AObj.cells [(vI x), (vI y), (vI z)] 3 false 1)), (Prod.mk 901 (AObj.cells [(vI lo)] 3 false 1)), (Prod.mk 902 (AObj.cells [(vI hi)] 3 false 1))])
 (bcase (decide (x > hi))
 (K (vI 2) [(Prod.mk 900 (AObj.cells [(vI x), (vI y), (vI z)] 3 false 1)), (Prod.mk 901 (AObj.cells [(vI lo)] 3 false 1)), (Prod.mk 902 (AObj.cells [(vI hi)] 3 false 1))])
 (bcase (decide (y < lo))
 (K (vI 2) [(Prod.mk 900 (AObj.cells [(vI x), (vI y), (vI z)] 3 false 1)), (Prod.mk 901 (AObj.cells [(vI lo)] 3 false 1)), (Prod.mk 902 (AObj.cells [(vI hi)] 3 false 1))])
 (bcase (decide (y > hi))
 (K (vI 2) [(Prod.mk 900 (AObj.cells [(vI x), (vI y), (vI z)] 3 false 1)), (Prod.mk 901 (AObj.cells [(vI lo)] 3 false 1)), (Prod.mk 902 (AObj.cells [(vI hi)] 3 false 1))])
 (bcase (decide (z < lo))
 (K (vI 2) [(Prod.mk 900 (AObj.cells [(vI x), (vI y), (vI z)] 3 false 1)), (Prod.mk 901 (AObj.cells [(vI lo)] 3 false 1)), (Prod.mk 902 (AObj.cells [(vI hi)] 3 false 1))])
 (bcase (decide (z > hi))
 (K (vI 2) [(Prod.mk 900 (AObj.cells [(vI x), (vI y), (vI z)] 3 false 1)), (Prod.mk 901 (AObj.cells [(vI lo)] 3 false 1)), (Prod.mk 902 (AObj.cells [(vI hi)] 3 false 1))])
 (K (vI 0) [(Prod.mk 900 (AObj.cells [(vI x), (vI y), (vI z)] 3 false 1)), (Prod.mk 901 (AObj.cells [(vI lo)] 3 false 1)), (Prod.mk 902 (AObj.cells [(vI hi)] 3 false 1))]))))))) := by kernel_rfl
def lm4 (cap : Nat) (lo hi x y z u : Int) (K : Value → Blocks → Prop) : Prop := wpFn Tryz.prog (fun _ _ _ _ _ => False) (fun _ _ _ => False) 6 86 #[.slice (some ⟨900, 0, none⟩) 4 cap, .pointer (some ⟨901, 0, none⟩), .pointer (some ⟨902, 0, none⟩)] (heapOf [(900, .cells [.int .i64 x, .int .i64 y, .int .i64 z, .int .i64 u] 3 false 1), (901, .cells [.int .i64 lo] 3 false 1), (902, .cells [.int .i64 hi] 3 false 1)]) (stateK K)
theorem lm4_text (cap : Nat) (lo : Int) (hi : Int) (x : Int) (y : Int) (z : Int) (u : Int) (K : Go.Value → Blocks → Prop) : lm4 cap lo hi x y z u K =
 (bcase (decide (x < lo))
 (K (vI 2) [(Prod.mk 900 (AObj.cells [(vI x), (vI y), (vI z), (vI u)] 3 false 1)), (Prod.mk 901 (AObj.cells [(vI lo)] 3 false 1)), (Prod.mk 902 (AObj.cells [(vI hi)] 3 false 1))])
 (bcase (decide (x > hi))
 (K (vI 2) [(Prod.mk 900 (AObj.cells [(vI x), (vI y), (vI z), (vI u)] 3 false 1)), (Prod.mk 901 (AObj.cells [(vI lo)] 3 false 1)), (Prod.mk 902 (AObj.cells [(vI hi)] 3 false 1))])
 (bcase (decide (y < lo))
 (K (vI 2) [(Prod.mk 900 (AObj.cells [(vI x), (vI y), (vI z), (vI u)] 3 false 1)), (Prod.mk 901 (AObj.cells [(vI lo)] 3 false 1)), (Prod.mk 902 (AObj.cells [(vI hi)] 3 false 1))])
 (bcase (decide (y > hi))
 (K (vI 2) [(Prod.mk 900 (AObj.cells [(vI x), (vI y), (vI z), (vI u)] 3 false 1)), (Prod.mk 901 (AObj.cells [(vI lo)] 3 false 1)), (Prod.mk 902 (AObj.cells [(vI hi)] 3 false 1))])
 (bcase (decide (z < lo))
 (K (vI 2) [(Prod.mk 900 (AObj.cells [(vI x), (vI y), (vI z), (vI u)] 3 false 1)), (Prod.mk 901 (AObj.cells [(vI lo)] 3 false 1)), (Prod.mk 902 (AObj.cells [(vI hi)] 3 false 1))])
 (bcase (decide (z > hi))
 (K (vI 2) [(Prod.mk 900 (AObj.cells [(vI x), (vI y), (vI z), (vI u)] 3 false 1)), (Prod.mk 901 (AObj.cells [(vI lo)] 3 false 1)), (Prod.mk 902 (AObj.cells [(vI hi)] 3 false 1))])
 (bcase (decide (u < lo))
 (K (vI 2) [(Prod.mk 900 (AObj.cells [(vI x), (vI y), (vI z), (vI u)] 3 false 1)), (Prod.mk 901 (AObj.cells [(vI lo)] 3 false 1)), (Prod.mk 902 (AObj.cells [(vI hi)] 3 false 1))])
 (bcase (decide (u > hi))
 (K (vI 2) [(Prod.mk 900 (AObj.cells [(vI x), (vI y), (vI z), (vI u)] 3 false 1)), (Prod.mk 901 (AObj.cells [(vI lo)] 3 false 1)), (Prod.mk 902 (AObj.cells [(vI hi)] 3 false 1))])
 (K (vI 0) [(Prod.mk 900 (AObj.cells [(vI x), (vI y), (vI z), (vI u)] 3 false 1)), (Prod.mk 901 (AObj.cells [(vI lo)] 3 false 1)), (Prod.mk 902 (AObj.cells [(vI hi)] 3 false 1))]))))))))) := by kernel_rfl
def preM (C : Ct) : FuncId → Option Handler := fun g => if g == 86 then some (stateH (limL 3)) else if g == 94 then some (stateH (minP 95 116 31)) else if g == 9 then some (fixH C copyMR) else if g == 12 then some (fixH C copyMC) else if [5, 48, 55, 88, 85, 113, 91, 59, 114, 110, 87, 54, 56, 47, 93, 50, 61, 60, 29, 999999, 31, 999999, 77, 81, 999999, 79, 41, 16, 17, 999999, 43, 18, 999999, 999999, 999999, 999999, 42, 76, 999999, 90, 57, 78, 999999, 80].contains g then some (saidH Tryz.prog C) else none
def preL (C : Ct) : FuncId → Option Handler := fun g => if g == 94 then none else preM C g
abbrev hL (C : Ct) : Handler := handlerX Tryz.prog (preL C) 12 6
def gLo (C : Ct) (L : AtLoop) (lo : Int) (hi : Int) (n0 : Nat) (c0 : Nat) (l0 : List Value) (K : Value → Blocks → Prop) : Prop := wpFn Tryz.prog (hE C) L 0 86 #[.slice (some ⟨500, 0, none⟩) n0 c0, .pointer (some ⟨900, 0, none⟩), .pointer (some ⟨901, 0, none⟩)] (heapOf [(500, .sym l0 false 1), (900, .cells [.int .i64 lo] 3 false 1), (901, .cells [.int .i64 hi] 3 false 1)]) (stateK K)
theorem gLo_text (C : Ct) (L : AtLoop) (lo : Int) (hi : Int) (n0 : Nat) (c0 : Nat) (l0 : List Go.Value) (K : Go.Value → Blocks → Prop) : gLo C L lo hi n0 c0 l0 K =
 (L 0 [(Prod.mk 1 (Pt 900 0)), (Prod.mk 2 (Pt 901 0)), (Prod.mk 7 (Sl 500 (n0) (c0))), (Prod.mk 8 (vI ((↑n0 : Int)))), (Prod.mk 9 (vI 0))] [(Prod.mk 900 (AObj.cells [(vI lo)] 3 false 1)), (Prod.mk 901 (AObj.cells [(vI hi)] 3 false 1)), (Prod.mk 500 (AObj.sym (l0) false 1))]) := by kernel_rfl
abbrev zLo1 (n0 : Nat) (c1 : Nat) (x2 : Int) (x3 : Int) (x4 : Int) (x5 : Int) (l6 : List Value) : Slots × Blocks := ([(1, (Value.pointer (some ⟨900, 0, none⟩))), (2, (Value.pointer (some ⟨901, 0, none⟩))), (7, (Value.slice (some ⟨500, 0, none⟩) n0 c1)), (8, (Value.int .i64 x2)), (9, (Value.int .i64 x3))], [(900, (AObj.cells [(Value.int .i64 x4)] 3 false 1)), (901, (AObj.cells [(Value.int .i64 x5)] 3 false 1)), (500, (AObj.sym l6 false 1))])
def rLo1 (C : Ct) (L : AtLoop) (n0 : Nat) (c1 : Nat) (x2 : Int) (x3 : Int) (x4 : Int) (x5 : Int) (l6 : List Value) (B : Bx) (X : Xx) (K : Value → Blocks → Prop) : Prop := wpRound Tryz.prog (hE C) L 86 0 [(1, (Value.pointer (some ⟨900, 0, none⟩))), (2, (Value.pointer (some ⟨901, 0, none⟩))), (7, (Value.slice (some ⟨500, 0, none⟩) n0 c1)), (8, (Value.int .i64 x2)), (9, (Value.int .i64 x3))] [(900, (AObj.cells [(Value.int .i64 x4)] 3 false 1)), (901, (AObj.cells [(Value.int .i64 x5)] 3 false 1)), (500, (AObj.sym l6 false 1))] B X (stateK K)
theorem rLo1_text (C : Ct) (L : AtLoop) (n0 : Nat) (c1 : Nat) (x2 : Int) (x3 : Int) (x4 : Int) (x5 : Int) (l6 : List Go.Value) (B : Bx) (X : Xx) (K : Go.Value → Blocks → Prop) : rLo1 C L n0 c1 x2 x3 x4 x5 l6 B X K =
 (bcase (decide (x3 < x2))
 (bcase (decide (0 ≤ x3))
 (bcase (decide (x3 < (↑n0 : Int)))
 (∃ n1 : Int,
 ((At (l6) (0 + Int.toNat x3 * 1) 1 [(vI n1)]) ∧
 (bcase (decide (n1 < x4))
 (K (vI 2) [(Prod.mk 900 (AObj.cells [(vI x4)] 3 false 1)), (Prod.mk 901 (AObj.cells [(vI x5)] 3 false 1))])
 (bcase (decide (n1 > x5))
 (K (vI 2) [(Prod.mk 900 (AObj.cells [(vI x4)] 3 false 1)), (Prod.mk 901 (AObj.cells [(vI x5)] 3 false 1))])
 (B [(Prod.mk 1 (Pt 900 0)), (Prod.mk 2 (Pt 901 0)), (Prod.mk 7 (Sl 500 (n0) (c1))), (Prod.mk 8 (vI x2)), (Prod.mk 9 (vI (IntKind.wrap .i64 (x3 + 1))))] [(Prod.mk 900 (AObj.cells [(vI x4)] 3 false 1)), (Prod.mk 901 (AObj.cells [(vI x5)] 3 false 1)), (Prod.mk 500 (AObj.sym (l6) false 1))])))))
 False)
 False)
 (X 0 [] [(Prod.mk 900 (AObj.cells [(vI x4)] 3 false 1)), (Prod.mk 901 (AObj.cells [(vI x5)] 3 false 1))])) := by kernel_rfl
def nLo2 (C : Ct) (L : AtLoop) (x0 : Int) (x1 : Int) (K : Value → Blocks → Prop) : Prop := wpNext Tryz.prog (hE C) L 86 0 .normal [] [(900, (AObj.cells [(Value.int .i64 x0)] 3 false 1)), (901, (AObj.cells [(Value.int .i64 x1)] 3 false 1))] (stateK K)
theorem nLo2_text (C : Ct) (L : AtLoop) (x0 : Int) (x1 : Int) (K : Go.Value → Blocks → Prop) : nLo2 C L x0 x1 K =
 (K (vI 0) [(Prod.mk 900 (AObj.cells [(vI x0)] 3 false 1)), (Prod.mk 901 (AObj.cells [(vI x1)] 3 false 1))]) := by kernel_rfl
def gFE (C : Ct) (L : AtLoop) (n0 : Nat) (c0 : Nat) (l0 : List Value) (k : List D → Prop) : Prop := wpFn Tryz.prog (hE C) L 0 48 #[.slice (some ⟨500, 0, none⟩) n0 c0] (heapOf [(500, .sym l0 false 1)]) (dataK k)
theorem gFE_text (C : Ct) (L : AtLoop) (n0 : Nat) (c0 : Nat) (l0 : List Go.Value) (k : List D → Prop) : gFE C L n0 c0 l0 k =
 (L 0 [(Prod.mk 5 (Sl 500 (n0) (c0))), (Prod.mk 6 (vI ((↑n0 : Int)))), (Prod.mk 7 (vI 0))] [(Prod.mk 500 (AObj.sym (l0) false 1))]) := by kernel_rfl
abbrev zFE1 (n0 : Nat) (c1 : Nat) (x2 : Int) (x3 : Int) (l4 : List Value) : Slots × Blocks := ([(5, (Value.slice (some ⟨500, 0, none⟩) n0 c1)), (6, (Value.int .i64 x2)), (7, (Value.int .i64 x3))], [(500, (AObj.sym l4 false 1))])
def rFE1 (C : Ct) (L : AtLoop) (n0 : Nat) (c1 : Nat) (x2 : Int) (x3 : Int) (l4 : List Value) (B : Bx) (X : Xx) (k : List D → Prop) : Prop := wpRound Tryz.prog (hE C) L 48 0 [(5, (Value.slice (some ⟨500, 0, none⟩) n0 c1)), (6, (Value.int .i64 x2)), (7, (Value.int .i64 x3))] [(500, (AObj.sym l4 false 1))] B X (dataK k)
theorem rFE1_text (C : Ct) (L : AtLoop) (n0 : Nat) (c1 : Nat) (x2 : Int) (x3 : Int) (l4 : List Go.Value) (B : Bx) (X : Xx) (k : List D → Prop) : rFE1 C L n0 c1 x2 x3 l4 B X k =
 (bcase (decide (x3 < x2))
 (bcase (decide (0 ≤ x3))
 (bcase (decide (x3 < (↑n0 : Int)))
 (∃ n1 : Int,
 ((At (l4) (0 + Int.toNat x3 * 1) 1 [(vI n1)]) ∧
 (bcase (n1 != 0)
 (k [(D.val (vI n1))])
 (B [(Prod.mk 5 (Sl 500 (n0) (c1))), (Prod.mk 6 (vI x2)), (Prod.mk 7 (vI (IntKind.wrap .i64 (x3 + 1))))] [(Prod.mk 500 (AObj.sym (l4) false 1))]))))
 False)
 False)
 (X 0 [] [])) := by kernel_rfl
def nFE2 (C : Ct) (L : AtLoop) (k : List D → Prop) : Prop := wpNext Tryz.prog (hE C) L 48 0 .normal [] [] (dataK k)
theorem nFE2_text (C : Ct) (L : AtLoop) (k : List D → Prop) : nFE2 C L k =
 (k [(D.val (vI 0))]) := by kernel_rfl
def gcT (C : Ct) (L : AtLoop) (n0 : Nat) (c0 : Nat) (l0 : List Value) (k : List D → Prop) : Prop := wpFn Tryz.prog (hL C) L 0 55 #[.slice (some ⟨500, 0, none⟩) n0 c0] (heapOf [(500, .sym l0 false 1)]) (dataK k)
theorem gcT_text (C : Ct) (L : AtLoop) (n0 : Nat) (c0 : Nat) (l0 : List Go.Value) (k : List D → Prop) : gcT C L n0 c0 l0 k =
 (∃ l1 : List Int,
 (((l0) = (List.map (vI) l1)) ∧
 (((n0) = (List.length l1)) ∧
 (((List.length l1) < 1000000000) ∧
 (∃ e1 : Int,
 ((Says limC 0 [(D.val (vI 0)), (D.val (vI 20000)), (D.sl (n0) 1 (l0))] [(D.val (vI e1))]) ∧
 (k [(D.val (vI e1))]))))))) := by kernel_rfl
def gcC (C : Ct) (L : AtLoop) (x0 : Int) (x1 : Int) (k : List D → Prop) : Prop := wpFn Tryz.prog (hE C) L 0 88 #[.int .i64 x0, .int .i64 x1] (heapOf []) (dataK k)
theorem gcC_text (C : Ct) (L : AtLoop) (x0 : Int) (x1 : Int) (k : List D → Prop) : gcC C L x0 x1 k =
 (bcase (x0 == 0)
 (k [(D.val (vI 10))])
 (bcase (decide (x0 > x1))
 (k [(D.val (vI 8))])
 (k [(D.val (vI 0))]))) := by kernel_rfl
def gcF (C : Ct) (c0 : Nat) (y0_0 : Int) (y0_1 : Int) (y0_2 : Int) (y0_3 : Int) (k : List D → Prop) : Prop := wpFn Tryz.prog (hL C) (fun _ _ _ => False) 8 85 #[.slice (some ⟨500, 0, none⟩) 2 c0] (heapOf [(500, .sym [.int .i64 y0_0, .int .i64 y0_1, .int .i64 y0_2, .int .i64 y0_3] false 2)]) (dataK k)
theorem gcF_text (C : Ct) (c0 : Nat) (y0_0 : Int) (y0_1 : Int) (y0_2 : Int) (y0_3 : Int) (k : List D → Prop) : gcF C c0 y0_0 y0_1 y0_2 y0_3 k =
 (∃ n1 : Int,
 (∃ n2 : Int,
 ((At [(vI y0_0), (vI y0_1), (vI y0_2), (vI y0_3)] 0 2 [(vI n1), (vI n2)]) ∧
 (bcase (decide (n2 ≤ 0))
 (k [(D.val (vI 3))])
 (∃ n3 : Int,
 ((Says C 113 [(D.val (vI n1)), (D.val (vI n2))] [(D.val (vI n3))]) ∧
 (bcase (n3 != 1)
 (k [(D.val (vI 3))])
 (∃ n4 : Int,
 (∃ n5 : Int,
 ((At [(vI y0_0), (vI y0_1), (vI y0_2), (vI y0_3)] 2 2 [(vI n4), (vI n5)]) ∧
 (bcase (decide (n5 ≤ 0))
 (k [(D.val (vI 3))])
 (∃ n6 : Int,
 ((Says C 113 [(D.val (vI n4)), (D.val (vI n5))] [(D.val (vI n6))]) ∧
 (bcase (n6 != 1)
 (k [(D.val (vI 3))])
 (k [(D.val (vI 0))]))))))))))))))) := by kernel_rfl
def gdv (C : Ct) (L : AtLoop) (x0 : Int) (x1 : Int) (k : List D → Prop) : Prop := wpFn Tryz.prog (hE C) L 0 113 #[.int .i64 x0, .int .i64 x1] (heapOf []) (dataK k)
theorem gdv_text (C : Ct) (L : AtLoop) (x0 : Int) (x1 : Int) (k : List D → Prop) : gdv C L x0 x1 k =
 (bcase (x1 != 0)
 (L 0 [(Prod.mk 6 (vI x1)), (Prod.mk 7 (vI (if IntKind.wrap .i64 (0 - Int.tmod x0 x1) > Int.tmod x0 x1 then IntKind.wrap .i64 (0 - Int.tmod x0 x1) else Int.tmod x0 x1)))] [])
 False) := by kernel_rfl
abbrev zdv1 (x0 : Int) (x1 : Int) : Slots × Blocks := ([(6, (Value.int .i64 x0)), (7, (Value.int .i64 x1))], [])
def rdv1 (C : Ct) (L : AtLoop) (x0 : Int) (x1 : Int) (B : Bx) (X : Xx) (k : List D → Prop) : Prop := wpRound Tryz.prog (hE C) L 113 0 [(6, (Value.int .i64 x0)), (7, (Value.int .i64 x1))] [] B X (dataK k)
theorem rdv1_text (C : Ct) (L : AtLoop) (x0 : Int) (x1 : Int) (B : Bx) (X : Xx) (k : List D → Prop) : rdv1 C L x0 x1 B X k =
 (bcase (decide (x1 > 0))
 (bcase (x1 != 0)
 (((bcase (x1 != 0)
 (Qv (vI (Int.tmod x0 x1)))
 False) ∧
 ((Qv (vI x1)) ∧
 ((Qv (vI x0)) ∧
 ((Qv (vI x1)) ∧
 True)))) ∧
 (((bcase (x1 != 0)
 (Qv (vI (Int.tmod x0 x1)))
 False) ∧
 ((Qv (vI x1)) ∧
 True)) ∧
 (True ∧
 (B [(Prod.mk 6 (vI x1)), (Prod.mk 7 (vI (Int.tmod x0 x1)))] []))))
 False)
 (X 0 [(Prod.mk 6 (vI x0))] [])) := by kernel_rfl
def ndv2 (C : Ct) (L : AtLoop) (x0 : Int) (k : List D → Prop) : Prop := wpNext Tryz.prog (hE C) L 113 0 .normal [(6, (Value.int .i64 x0))] [] (dataK k)
theorem ndv2_text (C : Ct) (L : AtLoop) (x0 : Int) (k : List D → Prop) : ndv2 C L x0 k =
 (k [(D.val (vI x0))]) := by kernel_rfl
def glT (C : Ct) (L : AtLoop) (x0 : Int) (x1 : Int) (k : List D → Prop) : Prop := wpFn Tryz.prog (hL C) L 0 91 #[.int .i64 x0, .int .i64 x1] (heapOf []) (dataK k)
theorem glT_text (C : Ct) (L : AtLoop) (x0 : Int) (x1 : Int) (k : List D → Prop) : glT C L x0 x1 k =
 (bcase (decide (x1 < 0))
 (∃ n1 : Int,
 ((Says C 113 [(D.val (vI (IntKind.wrap .i64 (0 - x0)))), (D.val (vI (IntKind.wrap .i64 (0 - x1))))] [(D.val (vI n1))]) ∧
 (bcase (n1 != 0)
 (bcase (n1 != 0)
 (((Qv (Value.agg [(vI (IntKind.wrap .i64 (Int.tdiv (IntKind.wrap .i64 (0 - x0)) n1))), (vI (IntKind.wrap .i64 (Int.tdiv (IntKind.wrap .i64 (0 - x1)) n1)))].toArray)) ∧
 ((bcase (n1 != 0)
 (Qv (vI (IntKind.wrap .i64 (Int.tdiv (IntKind.wrap .i64 (0 - x1)) n1))))
 False) ∧
 ((Qv (vI n1)) ∧
 ((Qv (vI (IntKind.wrap .i64 (0 - x1)))) ∧
 ((bcase (n1 != 0)
 (Qv (vI (IntKind.wrap .i64 (Int.tdiv (IntKind.wrap .i64 (0 - x0)) n1))))
 False) ∧
 ((Qv (vI n1)) ∧
 ((Qv (vI (IntKind.wrap .i64 (0 - x0)))) ∧
 True))))))) ∧
 (True ∧
 (k [(D.agg [(D.val (vI (IntKind.wrap .i64 (Int.tdiv (IntKind.wrap .i64 (0 - x0)) n1)))), (D.val (vI (IntKind.wrap .i64 (Int.tdiv (IntKind.wrap .i64 (0 - x1)) n1))))])])))
 False)
 False)))
 (∃ n1 : Int,
 ((Says C 113 [(D.val (vI x0)), (D.val (vI x1))] [(D.val (vI n1))]) ∧
 (bcase (n1 != 0)
 (bcase (n1 != 0)
 (((Qv (Value.agg [(vI (IntKind.wrap .i64 (Int.tdiv x0 n1))), (vI (IntKind.wrap .i64 (Int.tdiv x1 n1)))].toArray)) ∧
 ((bcase (n1 != 0)
 (Qv (vI (IntKind.wrap .i64 (Int.tdiv x1 n1))))
 False) ∧
 ((Qv (vI n1)) ∧
 ((Qv (vI x1)) ∧
 ((bcase (n1 != 0)
 (Qv (vI (IntKind.wrap .i64 (Int.tdiv x0 n1))))
 False) ∧
 ((Qv (vI n1)) ∧
 ((Qv (vI x0)) ∧
 True))))))) ∧
 (True ∧
 (k [(D.agg [(D.val (vI (IntKind.wrap .i64 (Int.tdiv x0 n1)))), (D.val (vI (IntKind.wrap .i64 (Int.tdiv x1 n1))))])])))
 False)
 False)))) := by kernel_rfl
def giL (C : Ct) (L : AtLoop) (x0 : Int) (k : List D → Prop) : Prop := wpFn Tryz.prog (hL C) L 0 114 #[.int .u8 x0] (heapOf []) (dataK k)
theorem giL_text (C : Ct) (L : AtLoop) (x0 : Int) (k : List D → Prop) : giL C L x0 k =
 (bcase (decide (97 ≤ x0))
 (bcase (decide (x0 ≤ 122))
 (k [(D.val (Value.bool true))])
 (bcase (decide (65 ≤ x0))
 (bcase (decide (x0 ≤ 90))
 (k [(D.val (Value.bool true))])
 (k [(D.val (Value.bool false))]))
 (k [(D.val (Value.bool false))])))
 (bcase (decide (65 ≤ x0))
 (bcase (decide (x0 ≤ 90))
 (k [(D.val (Value.bool true))])
 (k [(D.val (Value.bool false))]))
 (k [(D.val (Value.bool false))]))) := by kernel_rfl
def giD (C : Ct) (L : AtLoop) (x0 : Int) (k : List D → Prop) : Prop := wpFn Tryz.prog (hL C) L 0 110 #[.int .u8 x0] (heapOf []) (dataK k)
theorem giD_text (C : Ct) (L : AtLoop) (x0 : Int) (k : List D → Prop) : giD C L x0 k =
 (bcase (decide (48 ≤ x0))
 (bcase (decide (x0 ≤ 57))
 (k [(D.val (Value.bool true))])
 (k [(D.val (Value.bool false))]))
 (k [(D.val (Value.bool false))])) := by kernel_rfl
def gcN (C : Ct) (L : AtLoop) (s0 : ByteArray) (k : List D → Prop) : Prop := wpFn Tryz.prog (hL C) L 0 87 #[.string s0] (heapOf []) (dataK k)
theorem gcN_text (C : Ct) (L : AtLoop) (s0 : ByteArray) (k : List D → Prop) : gcN C L s0 k =
 (bcase ((↑(ByteArray.size s0) : Int) == 0)
 (k [(D.val (vI 4))])
 (bcase (decide ((↑(ByteArray.size s0) : Int) > 12))
 (k [(D.val (vI 4))])
 (∃ b1 : UInt8,
 ((ByteAt (s0) 0 (b1)) ∧
 (((Says C 114 [(D.val (Value.int IntKind.u8 ((↑(UInt8.toNat b1) : Int))))] [(D.val (Value.bool true))]) ∧
 (L 0 [(Prod.mk 0 (Value.string (s0))), (Prod.mk 19 (vI ((↑(ByteArray.size s0) : Int)))), (Prod.mk 20 (vI 0))] [])) ∨
 ((Says C 114 [(D.val (Value.int IntKind.u8 ((↑(UInt8.toNat b1) : Int))))] [(D.val (Value.bool false))]) ∧
 (k [(D.val (vI 4))]))))))) := by kernel_rfl
abbrev zcN1 (s0 : ByteArray) (x1 : Int) (x2 : Int) : Slots × Blocks := ([(0, (Value.string s0)), (19, (Value.int .i64 x1)), (20, (Value.int .i64 x2))], [])
def rcN1 (C : Ct) (L : AtLoop) (s0 : ByteArray) (x1 : Int) (x2 : Int) (B : Bx) (X : Xx) (k : List D → Prop) : Prop := wpRound Tryz.prog (hL C) L 87 0 [(0, (Value.string s0)), (19, (Value.int .i64 x1)), (20, (Value.int .i64 x2))] [] B X (dataK k)
theorem rcN1_text (C : Ct) (L : AtLoop) (s0 : ByteArray) (x1 : Int) (x2 : Int) (B : Bx) (X : Xx) (k : List D → Prop) : rcN1 C L s0 x1 x2 B X k =
 (bcase (decide (x2 < x1))
 (bcase (decide (0 ≤ x2))
 (∃ b1 : UInt8,
 ((ByteAt (s0) (Int.toNat x2) (b1)) ∧
 (((Says C 114 [(D.val (Value.int IntKind.u8 ((↑(UInt8.toNat b1) : Int))))] [(D.val (Value.bool true))]) ∧
 (B [(Prod.mk 0 (Value.string (s0))), (Prod.mk 19 (vI x1)), (Prod.mk 20 (vI (IntKind.wrap .i64 (x2 + 1))))] [])) ∨
 ((Says C 114 [(D.val (Value.int IntKind.u8 ((↑(UInt8.toNat b1) : Int))))] [(D.val (Value.bool false))]) ∧
 (bcase (decide (0 ≤ x2))
 (∃ b2 : UInt8,
 ((ByteAt (s0) (Int.toNat x2) (b2)) ∧
 (((Says C 110 [(D.val (Value.int IntKind.u8 ((↑(UInt8.toNat b2) : Int))))] [(D.val (Value.bool true))]) ∧
 (B [(Prod.mk 0 (Value.string (s0))), (Prod.mk 19 (vI x1)), (Prod.mk 20 (vI (IntKind.wrap .i64 (x2 + 1))))] [])) ∨
 ((Says C 110 [(D.val (Value.int IntKind.u8 ((↑(UInt8.toNat b2) : Int))))] [(D.val (Value.bool false))]) ∧
 (bcase (decide (0 ≤ x2))
 (∃ b3 : UInt8,
 ((ByteAt (s0) (Int.toNat x2) (b3)) ∧
 (bcase ((↑(UInt8.toNat b3) : Int) != 45)
 (k [(D.val (vI 4))])
 (B [(Prod.mk 0 (Value.string (s0))), (Prod.mk 19 (vI x1)), (Prod.mk 20 (vI (IntKind.wrap .i64 (x2 + 1))))] []))))
 False)))))
 False)))))
 False)
 (X 0 [] [])) := by kernel_rfl
def ncN2 (C : Ct) (L : AtLoop) (k : List D → Prop) : Prop := wpNext Tryz.prog (hL C) L 87 0 .normal [] [] (dataK k)
theorem ncN2_text (C : Ct) (L : AtLoop) (k : List D → Prop) : ncN2 C L k =
 (k [(D.val (vI 0))]) := by kernel_rfl
def gIN (C : Ct) (L : AtLoop) (s0 : ByteArray) (k : List D → Prop) : Prop := wpFn Tryz.prog (hL C) L 0 80 #[.string s0] (heapOf []) (dataK k)
theorem gIN_text (C : Ct) (L : AtLoop) (s0 : ByteArray) (k : List D → Prop) : gIN C L s0 k =
 (bcase (decide ((↑(ByteArray.size s0) : Int) < 1))
 (k [(D.val (Value.bool false))])
 (bcase (decide ((↑(ByteArray.size s0) : Int) > 12))
 (k [(D.val (Value.bool false))])
 (L 0 [(Prod.mk 0 (Value.string (s0))), (Prod.mk 3 (vI 0))] []))) := by kernel_rfl
abbrev zIN1 (s0 : ByteArray) (x1 : Int) : Slots × Blocks := ([(0, (Value.string s0)), (3, (Value.int .i64 x1))], [])
def rIN1 (C : Ct) (L : AtLoop) (s0 : ByteArray) (x1 : Int) (B : Bx) (X : Xx) (k : List D → Prop) : Prop := wpRound Tryz.prog (hL C) L 80 0 [(0, (Value.string s0)), (3, (Value.int .i64 x1))] [] B X (dataK k)
theorem rIN1_text (C : Ct) (L : AtLoop) (s0 : ByteArray) (x1 : Int) (B : Bx) (X : Xx) (k : List D → Prop) : rIN1 C L s0 x1 B X k =
 (bcase (decide (x1 < (↑(ByteArray.size s0) : Int)))
 (bcase (decide (0 ≤ x1))
 (∃ b1 : UInt8,
 ((ByteAt (s0) (Int.toNat x1) (b1)) ∧
 (bcase (decide ((↑(UInt8.toNat b1) : Int) ≥ 97))
 (bcase (decide ((↑(UInt8.toNat b1) : Int) ≤ 122))
 (B [(Prod.mk 0 (Value.string (s0))), (Prod.mk 3 (vI (IntKind.wrap .i64 (x1 + 1))))] [])
 (bcase (decide ((↑(UInt8.toNat b1) : Int) ≥ 65))
 (bcase (decide ((↑(UInt8.toNat b1) : Int) ≤ 90))
 (B [(Prod.mk 0 (Value.string (s0))), (Prod.mk 3 (vI (IntKind.wrap .i64 (x1 + 1))))] [])
 (bcase (x1 == 0)
 (k [(D.val (Value.bool false))])
 (bcase ((↑(UInt8.toNat b1) : Int) != 45)
 (bcase (decide ((↑(UInt8.toNat b1) : Int) < 48))
 (k [(D.val (Value.bool false))])
 (bcase (decide ((↑(UInt8.toNat b1) : Int) > 57))
 (k [(D.val (Value.bool false))])
 (B [(Prod.mk 0 (Value.string (s0))), (Prod.mk 3 (vI (IntKind.wrap .i64 (x1 + 1))))] [])))
 (B [(Prod.mk 0 (Value.string (s0))), (Prod.mk 3 (vI (IntKind.wrap .i64 (x1 + 1))))] []))))
 (bcase (x1 == 0)
 (k [(D.val (Value.bool false))])
 (bcase ((↑(UInt8.toNat b1) : Int) != 45)
 (bcase (decide ((↑(UInt8.toNat b1) : Int) < 48))
 (k [(D.val (Value.bool false))])
 (bcase (decide ((↑(UInt8.toNat b1) : Int) > 57))
 (k [(D.val (Value.bool false))])
 (B [(Prod.mk 0 (Value.string (s0))), (Prod.mk 3 (vI (IntKind.wrap .i64 (x1 + 1))))] [])))
 (B [(Prod.mk 0 (Value.string (s0))), (Prod.mk 3 (vI (IntKind.wrap .i64 (x1 + 1))))] [])))))
 (bcase (decide ((↑(UInt8.toNat b1) : Int) ≥ 65))
 (bcase (decide ((↑(UInt8.toNat b1) : Int) ≤ 90))
 (B [(Prod.mk 0 (Value.string (s0))), (Prod.mk 3 (vI (IntKind.wrap .i64 (x1 + 1))))] [])
 (bcase (x1 == 0)
 (k [(D.val (Value.bool false))])
 (bcase ((↑(UInt8.toNat b1) : Int) != 45)
 (bcase (decide ((↑(UInt8.toNat b1) : Int) < 48))
 (k [(D.val (Value.bool false))])
 (bcase (decide ((↑(UInt8.toNat b1) : Int) > 57))
 (k [(D.val (Value.bool false))])
 (B [(Prod.mk 0 (Value.string (s0))), (Prod.mk 3 (vI (IntKind.wrap .i64 (x1 + 1))))] [])))
 (B [(Prod.mk 0 (Value.string (s0))), (Prod.mk 3 (vI (IntKind.wrap .i64 (x1 + 1))))] []))))
 (bcase (x1 == 0)
 (k [(D.val (Value.bool false))])
 (bcase ((↑(UInt8.toNat b1) : Int) != 45)
 (bcase (decide ((↑(UInt8.toNat b1) : Int) < 48))
 (k [(D.val (Value.bool false))])
 (bcase (decide ((↑(UInt8.toNat b1) : Int) > 57))
 (k [(D.val (Value.bool false))])
 (B [(Prod.mk 0 (Value.string (s0))), (Prod.mk 3 (vI (IntKind.wrap .i64 (x1 + 1))))] [])))
 (B [(Prod.mk 0 (Value.string (s0))), (Prod.mk 3 (vI (IntKind.wrap .i64 (x1 + 1))))] [])))))))
 False)
 (X 0 [] [])) := by kernel_rfl
def nIN2 (C : Ct) (L : AtLoop) (k : List D → Prop) : Prop := wpNext Tryz.prog (hL C) L 80 0 .normal [] [] (dataK k)
theorem nIN2_text (C : Ct) (L : AtLoop) (k : List D → Prop) : nIN2 C L k =
 (k [(D.val (Value.bool true))]) := by kernel_rfl
def gKT (C : Ct) (L : AtLoop) (n0 : Nat) (c0 : Nat) (l0 : List Value) (k : List D → Prop) : Prop := wpFn Tryz.prog (hL C) L 0 54 #[.slice (some ⟨500, 0, none⟩) n0 c0] (heapOf [(500, .sym l0 false 2)]) (dataK k)
theorem gKT_text (C : Ct) (L : AtLoop) (n0 : Nat) (c0 : Nat) (l0 : List Go.Value) (k : List D → Prop) : gKT C L n0 c0 l0 k =
 (∃ n1 : Int,
 ((Says C 88 [(D.val (vI ((↑n0 : Int)))), (D.val (vI 12))] [(D.val (vI n1))]) ∧
 (bcase (n1 != 0)
 (k [(D.val (vI 0)), (D.val (vI n1))])
 (L 0 [(Prod.mk 0 (Sl 500 (n0) (c0))), (Prod.mk 14 (Sl 500 (n0) (c0))), (Prod.mk 15 (vI ((↑n0 : Int)))), (Prod.mk 16 (vI 0))] [(Prod.mk 500 (AObj.sym (l0) false 2))])))) := by kernel_rfl
abbrev zKT1 (n0 : Nat) (c1 : Nat) (n2 : Nat) (c3 : Nat) (x4 : Int) (x5 : Int) (l6 : List Value) : Slots × Blocks := ([(0, (Value.slice (some ⟨500, 0, none⟩) n0 c1)), (14, (Value.slice (some ⟨500, 0, none⟩) n2 c3)), (15, (Value.int .i64 x4)), (16, (Value.int .i64 x5))], [(500, (AObj.sym l6 false 2))])
def rKT1 (C : Ct) (L : AtLoop) (n0 : Nat) (c1 : Nat) (n2 : Nat) (c3 : Nat) (x4 : Int) (x5 : Int) (l6 : List Value) (B : Bx) (X : Xx) (k : List D → Prop) : Prop := wpRound Tryz.prog (hL C) L 54 0 [(0, (Value.slice (some ⟨500, 0, none⟩) n0 c1)), (14, (Value.slice (some ⟨500, 0, none⟩) n2 c3)), (15, (Value.int .i64 x4)), (16, (Value.int .i64 x5))] [(500, (AObj.sym l6 false 2))] B X (dataK k)
theorem rKT1_text (C : Ct) (L : AtLoop) (n0 : Nat) (c1 : Nat) (n2 : Nat) (c3 : Nat) (x4 : Int) (x5 : Int) (l6 : List Go.Value) (B : Bx) (X : Xx) (k : List D → Prop) : rKT1 C L n0 c1 n2 c3 x4 x5 l6 B X k =
 (bcase (decide (x5 < x4))
 (bcase (decide (0 ≤ x5))
 (bcase (decide (x5 < (↑n2 : Int)))
 (∃ n1 : Int,
 (∃ n3 : Int,
 ((At (l6) (0 + Int.toNat x5 * 2) 2 [(vI n1), (vI n3)]) ∧
 ((((Qv (Sl 1002 1 1)) ∧
 (Qv (some (AObj.cells [(vI n3)] 3 false 1)))) ∧
 ((Qv (vI n3)) ∧
 ((Qv (Pt 1000 1)) ∧
 (((Qv (Sl 1001 1 1)) ∧
 (Qv (some (AObj.cells [(vI n1)] 3 false 1)))) ∧
 ((Qv (vI n1)) ∧
 ((Qv (Pt 1000 0)) ∧
 True)))))) ∧
 (∃ n4 : Int,
 ((Says C 55 [(D.sl 1 1 [(vI n1)])] [(D.val (vI n4))]) ∧
 ((((Qv (Sl 1002 1 1)) ∧
 (Qv (some (AObj.cells [(vI n3)] 3 false 1)))) ∧
 ((Qv (vI n3)) ∧
 ((Qv (Pt 1000 1)) ∧
 ((Qv (vI n1)) ∧
 ((Qv (Pt 1000 0)) ∧
 True))))) ∧
 ((((Qv (Sl 1002 1 1)) ∧
 (Qv (some (AObj.cells [(vI n3)] 3 false 1)))) ∧
 ((Qv (vI n3)) ∧
 ((Qv (Pt 1000 1)) ∧
 ((Qv (vI n1)) ∧
 ((Qv (Pt 1000 0)) ∧
 True))))) ∧
 (∃ e1 : Int,
 ((Says limC 0 [(D.val (vI 1)), (D.val (vI 100000)), (D.sl 1 1 [(vI n3)])] [(D.val (vI e1))]) ∧
 ((((Qv (Sl 1005 2 2)) ∧
 (Qv (some (AObj.cells [(vI n4), (vI e1)] 43 false 1)))) ∧
 ((Qv (vI n3)) ∧
 ((Qv (Pt 1000 1)) ∧
 ((Qv (vI n1)) ∧
 ((Qv (Pt 1000 0)) ∧
 True))))) ∧
 (∃ n5 : Int,
 ((Says C 48 [(D.sl 2 1 [(vI n4), (vI e1)])] [(D.val (vI n5))]) ∧
 (((Qv (vI n3)) ∧
 ((Qv (Pt 1000 1)) ∧
 ((Qv (vI n1)) ∧
 ((Qv (Pt 1000 0)) ∧
 True)))) ∧
 (True ∧
 (bcase (n5 != 0)
 (k [(D.val (vI x5)), (D.val (vI n5))])
 (bcase (decide (x5 > 0))
 (bcase (decide (0 ≤ IntKind.wrap .i64 (x5 - 1)))
 (bcase (decide (IntKind.wrap .i64 (x5 - 1) < (↑n0 : Int)))
 (∃ n6 : Int,
 ((At (l6) (0 + Int.toNat (IntKind.wrap .i64 (x5 - 1)) * 2) 1 [(vI n6)]) ∧
 (bcase (decide (n1 ≤ n6))
 (((Qv (Value.bool true)) ∧
 ((bcase (decide (n1 ≤ n6))
 (Qv (Value.bool true))
 ((Value.bool false) = (Value.bool true))) ∧
 ((∃ n7 : Int,
 ((At (l6) (0 + Int.toNat (IntKind.wrap .i64 (x5 - 1)) * 2) 1 [(vI n7)]) ∧
 ((vI n7) = (vI n6)))) ∧
 ((Qv (Pt 500 (0 + Int.toNat (IntKind.wrap .i64 (x5 - 1)) * 2))) ∧
 ((bcase (decide (0 ≤ IntKind.wrap .i64 (x5 - 1)))
 (bcase (decide (IntKind.wrap .i64 (x5 - 1) < (↑n0 : Int)))
 (Qv (Pt 500 (0 + Int.toNat (IntKind.wrap .i64 (x5 - 1)) * 2)))
 False)
 False) ∧
 ((Qv (vI (IntKind.wrap .i64 (x5 - 1)))) ∧
 ((Qv (vI x5)) ∧
 ((Qv (Sl 500 (n0) (c1))) ∧
 ((Qv (vI n1)) ∧
 ((Qv (Pt 1000 0)) ∧
 ((Qv (Value.bool true)) ∧
 ((bcase (decide (x5 > 0))
 (Qv (Value.bool true))
 ((Value.bool false) = (Value.bool true))) ∧
 ((Qv (vI x5)) ∧
 True))))))))))))) ∧
 (k [(D.val (vI x5)), (D.val (vI 9))]))
 (((Qv (Value.bool false)) ∧
 ((bcase (decide (n1 ≤ n6))
 ((Value.bool true) = (Value.bool false))
 (Qv (Value.bool false))) ∧
 ((∃ n7 : Int,
 ((At (l6) (0 + Int.toNat (IntKind.wrap .i64 (x5 - 1)) * 2) 1 [(vI n7)]) ∧
 ((vI n7) = (vI n6)))) ∧
 ((Qv (Pt 500 (0 + Int.toNat (IntKind.wrap .i64 (x5 - 1)) * 2))) ∧
 ((bcase (decide (0 ≤ IntKind.wrap .i64 (x5 - 1)))
 (bcase (decide (IntKind.wrap .i64 (x5 - 1) < (↑n0 : Int)))
 (Qv (Pt 500 (0 + Int.toNat (IntKind.wrap .i64 (x5 - 1)) * 2)))
 False)
 False) ∧
 ((Qv (vI (IntKind.wrap .i64 (x5 - 1)))) ∧
 ((Qv (vI x5)) ∧
 ((Qv (Sl 500 (n0) (c1))) ∧
 ((Qv (vI n1)) ∧
 ((Qv (Pt 1000 0)) ∧
 ((Qv (Value.bool true)) ∧
 ((bcase (decide (x5 > 0))
 (Qv (Value.bool true))
 ((Value.bool false) = (Value.bool true))) ∧
 ((Qv (vI x5)) ∧
 True))))))))))))) ∧
 (B [(Prod.mk 0 (Sl 500 (n0) (c1))), (Prod.mk 14 (Sl 500 (n2) (c3))), (Prod.mk 15 (vI x4)), (Prod.mk 16 (vI (IntKind.wrap .i64 (x5 + 1))))] [(Prod.mk 500 (AObj.sym (l6) false 2))])))))
 False)
 False)
 (((Qv (Value.bool false)) ∧
 ((Qv (Value.tuple [].toArray)) ∧
 ((Qv (Value.tuple [].toArray)) ∧
 ((Qv (Value.tuple [].toArray)) ∧
 ((Qv (Value.tuple [].toArray)) ∧
 ((Qv (Value.tuple [].toArray)) ∧
 ((Qv (Value.tuple [].toArray)) ∧
 ((Qv (Value.tuple [].toArray)) ∧
 ((Qv (Value.tuple [].toArray)) ∧
 ((Qv (Value.tuple [].toArray)) ∧
 ((Qv (Value.bool false)) ∧
 ((bcase (decide (x5 > 0))
 ((Value.bool true) = (Value.bool false))
 (Qv (Value.bool false))) ∧
 ((Qv (vI x5)) ∧
 True))))))))))))) ∧
 (B [(Prod.mk 0 (Sl 500 (n0) (c1))), (Prod.mk 14 (Sl 500 (n2) (c3))), (Prod.mk 15 (vI x4)), (Prod.mk 16 (vI (IntKind.wrap .i64 (x5 + 1))))] [(Prod.mk 500 (AObj.sym (l6) false 2))])))))))))))))))))))
 False)
 False)
 (X 0 [] [])) := by kernel_rfl
def nKT2 (C : Ct) (L : AtLoop) (k : List D → Prop) : Prop := wpNext Tryz.prog (hL C) L 54 0 .normal [] [] (dataK k)
theorem nKT2_text (C : Ct) (L : AtLoop) (k : List D → Prop) : nKT2 C L k =
 (k [(D.val (vI 0)), (D.val (vI 0))]) := by kernel_rfl
def gRK (C : Ct) (L : AtLoop) (n0 : Nat) (c0 : Nat) (l0 : List Value) (k : List D → Prop) : Prop := wpFn Tryz.prog (hL C) L 0 77 #[.slice (some ⟨500, 0, none⟩) n0 c0] (heapOf [(500, .sym l0 false 2)]) (dataK k)
theorem gRK_text (C : Ct) (L : AtLoop) (n0 : Nat) (c0 : Nat) (l0 : List Go.Value) (k : List D → Prop) : gRK C L n0 c0 l0 k =
 (bcase ((↑n0 : Int) == 0)
 (k [(D.val (vI 0)), (D.val (vI 10))])
 (bcase (decide ((↑n0 : Int) > 12))
 (k [(D.val (vI 0)), (D.val (vI 8))])
 (L 0 [(Prod.mk 0 (Sl 500 (n0) (c0))), (Prod.mk 4 (vI 0))] [(Prod.mk 500 (AObj.sym (l0) false 2))]))) := by kernel_rfl
abbrev zRK1 (n0 : Nat) (c1 : Nat) (x2 : Int) (l3 : List Value) : Slots × Blocks := ([(0, (Value.slice (some ⟨500, 0, none⟩) n0 c1)), (4, (Value.int .i64 x2))], [(500, (AObj.sym l3 false 2))])
def rRK1 (C : Ct) (L : AtLoop) (n0 : Nat) (c1 : Nat) (x2 : Int) (l3 : List Value) (B : Bx) (X : Xx) (k : List D → Prop) : Prop := wpRound Tryz.prog (hL C) L 77 0 [(0, (Value.slice (some ⟨500, 0, none⟩) n0 c1)), (4, (Value.int .i64 x2))] [(500, (AObj.sym l3 false 2))] B X (dataK k)
theorem rRK1_text (C : Ct) (L : AtLoop) (n0 : Nat) (c1 : Nat) (x2 : Int) (l3 : List Go.Value) (B : Bx) (X : Xx) (k : List D → Prop) : rRK1 C L n0 c1 x2 l3 B X k =
 (bcase (decide (x2 < (↑n0 : Int)))
 (bcase (decide (0 ≤ x2))
 (bcase (decide (x2 < (↑n0 : Int)))
 (∃ n1 : Int,
 ((At (l3) (0 + Int.toNat x2 * 2) 1 [(vI n1)]) ∧
 (∃ n2 : Int,
 ((Says C 81 [(D.val (vI n1))] [(D.val (vI n2))]) ∧
 (bcase (n2 != 0)
 (k [(D.val (vI x2)), (D.val (vI 2))])
 (bcase (decide (0 ≤ x2))
 (bcase (decide (x2 < (↑n0 : Int)))
 (∃ n3 : Int,
 ((At (l3) (Addr.off { block := 500, off := 0 + Int.toNat x2 * 2 } + 1) 1 [(vI n3)]) ∧
 (((Says C 42 [(D.val (vI n3)), (D.val (vI 1)), (D.val (vI 100000))] [(D.val (Value.bool true))]) ∧
 (bcase (decide (x2 > 0))
 (bcase (decide (0 ≤ x2))
 (bcase (decide (x2 < (↑n0 : Int)))
 (∃ n4 : Int,
 ((At (l3) (0 + Int.toNat x2 * 2) 1 [(vI n4)]) ∧
 (bcase (decide (0 ≤ IntKind.wrap .i64 (x2 - 1)))
 (bcase (decide (IntKind.wrap .i64 (x2 - 1) < (↑n0 : Int)))
 (∃ n5 : Int,
 ((At (l3) (0 + Int.toNat (IntKind.wrap .i64 (x2 - 1)) * 2) 1 [(vI n5)]) ∧
 (bcase (decide (n4 ≤ n5))
 (((Qv (Value.bool true)) ∧
 ((bcase (decide (n4 ≤ n5))
 (Qv (Value.bool true))
 ((Value.bool false) = (Value.bool true))) ∧
 ((∃ n6 : Int,
 ((At (l3) (0 + Int.toNat (IntKind.wrap .i64 (x2 - 1)) * 2) 1 [(vI n6)]) ∧
 ((vI n6) = (vI n5)))) ∧
 ((Qv (Pt 500 (0 + Int.toNat (IntKind.wrap .i64 (x2 - 1)) * 2))) ∧
 ((bcase (decide (0 ≤ IntKind.wrap .i64 (x2 - 1)))
 (bcase (decide (IntKind.wrap .i64 (x2 - 1) < (↑n0 : Int)))
 (Qv (Pt 500 (0 + Int.toNat (IntKind.wrap .i64 (x2 - 1)) * 2)))
 False)
 False) ∧
 ((Qv (vI (IntKind.wrap .i64 (x2 - 1)))) ∧
 ((Qv (vI x2)) ∧
 ((Qv (Sl 500 (n0) (c1))) ∧
 ((∃ n6 : Int,
 ((At (l3) (0 + Int.toNat x2 * 2) 1 [(vI n6)]) ∧
 ((vI n6) = (vI n4)))) ∧
 ((Qv (Pt 500 (0 + Int.toNat x2 * 2))) ∧
 ((bcase (decide (0 ≤ x2))
 (bcase (decide (x2 < (↑n0 : Int)))
 (Qv (Pt 500 (0 + Int.toNat x2 * 2)))
 False)
 False) ∧
 ((Qv (vI x2)) ∧
 ((Qv (Sl 500 (n0) (c1))) ∧
 ((Qv (Value.bool true)) ∧
 ((bcase (decide (x2 > 0))
 (Qv (Value.bool true))
 ((Value.bool false) = (Value.bool true))) ∧
 ((Qv (vI x2)) ∧
 True)))))))))))))))) ∧
 (k [(D.val (vI x2)), (D.val (vI 9))]))
 (((Qv (Value.bool false)) ∧
 ((bcase (decide (n4 ≤ n5))
 ((Value.bool true) = (Value.bool false))
 (Qv (Value.bool false))) ∧
 ((∃ n6 : Int,
 ((At (l3) (0 + Int.toNat (IntKind.wrap .i64 (x2 - 1)) * 2) 1 [(vI n6)]) ∧
 ((vI n6) = (vI n5)))) ∧
 ((Qv (Pt 500 (0 + Int.toNat (IntKind.wrap .i64 (x2 - 1)) * 2))) ∧
 ((bcase (decide (0 ≤ IntKind.wrap .i64 (x2 - 1)))
 (bcase (decide (IntKind.wrap .i64 (x2 - 1) < (↑n0 : Int)))
 (Qv (Pt 500 (0 + Int.toNat (IntKind.wrap .i64 (x2 - 1)) * 2)))
 False)
 False) ∧
 ((Qv (vI (IntKind.wrap .i64 (x2 - 1)))) ∧
 ((Qv (vI x2)) ∧
 ((Qv (Sl 500 (n0) (c1))) ∧
 ((∃ n6 : Int,
 ((At (l3) (0 + Int.toNat x2 * 2) 1 [(vI n6)]) ∧
 ((vI n6) = (vI n4)))) ∧
 ((Qv (Pt 500 (0 + Int.toNat x2 * 2))) ∧
 ((bcase (decide (0 ≤ x2))
 (bcase (decide (x2 < (↑n0 : Int)))
 (Qv (Pt 500 (0 + Int.toNat x2 * 2)))
 False)
 False) ∧
 ((Qv (vI x2)) ∧
 ((Qv (Sl 500 (n0) (c1))) ∧
 ((Qv (Value.bool true)) ∧
 ((bcase (decide (x2 > 0))
 (Qv (Value.bool true))
 ((Value.bool false) = (Value.bool true))) ∧
 ((Qv (vI x2)) ∧
 True)))))))))))))))) ∧
 (B [(Prod.mk 0 (Sl 500 (n0) (c1))), (Prod.mk 4 (vI (IntKind.wrap .i64 (x2 + 1))))] [(Prod.mk 500 (AObj.sym (l3) false 2))])))))
 False)
 False)))
 False)
 False)
 (((Qv (Value.bool false)) ∧
 ((Qv (Value.tuple [].toArray)) ∧
 ((Qv (Value.tuple [].toArray)) ∧
 ((Qv (Value.tuple [].toArray)) ∧
 ((Qv (Value.tuple [].toArray)) ∧
 ((Qv (Value.tuple [].toArray)) ∧
 ((Qv (Value.tuple [].toArray)) ∧
 ((Qv (Value.tuple [].toArray)) ∧
 ((Qv (Value.tuple [].toArray)) ∧
 ((Qv (Value.tuple [].toArray)) ∧
 ((Qv (Value.tuple [].toArray)) ∧
 ((Qv (Value.tuple [].toArray)) ∧
 ((Qv (Value.tuple [].toArray)) ∧
 ((Qv (Value.bool false)) ∧
 ((bcase (decide (x2 > 0))
 ((Value.bool true) = (Value.bool false))
 (Qv (Value.bool false))) ∧
 ((Qv (vI x2)) ∧
 True)))))))))))))))) ∧
 (B [(Prod.mk 0 (Sl 500 (n0) (c1))), (Prod.mk 4 (vI (IntKind.wrap .i64 (x2 + 1))))] [(Prod.mk 500 (AObj.sym (l3) false 2))])))) ∨
 ((Says C 42 [(D.val (vI n3)), (D.val (vI 1)), (D.val (vI 100000))] [(D.val (Value.bool false))]) ∧
 (k [(D.val (vI x2)), (D.val (vI 2))])))))
 False)
 False))))))
 False)
 False)
 (X 0 [] [])) := by kernel_rfl
def nRK2 (C : Ct) (L : AtLoop) (k : List D → Prop) : Prop := wpNext Tryz.prog (hL C) L 77 0 .normal [] [] (dataK k)
theorem nRK2_text (C : Ct) (L : AtLoop) (k : List D → Prop) : nRK2 C L k =
 (k [(D.val (vI 0)), (D.val (vI 0))]) := by kernel_rfl
def gRKn (C : Ct) (L : AtLoop) (k : List D → Prop) : Prop := wpFn Tryz.prog (hL C) L 0 77 #[.slice none 0 0] (heapOf []) (dataK k)
theorem gRKn_text (C : Ct) (L : AtLoop) (k : List D → Prop) : gRKn C L k =
 (k [(D.val (vI 0)), (D.val (vI 10))]) := by kernel_rfl
def gXE (C : Ct) (L : AtLoop) (x0 : Int) (k : List D → Prop) : Prop := wpFn Tryz.prog (hL C) L 0 81 #[.int .i64 x0] (heapOf []) (dataK k)
theorem gXE_text (C : Ct) (L : AtLoop) (x0 : Int) (k : List D → Prop) : gXE C L x0 k =
 (((Says C 42 [(D.val (vI x0)), (D.val (vI 0)), (D.val (vI 20000))] [(D.val (Value.bool true))]) ∧
 (k [(D.val (vI 0))])) ∨
 ((Says C 42 [(D.val (vI x0)), (D.val (vI 0)), (D.val (vI 20000))] [(D.val (Value.bool false))]) ∧
 (k [(D.val (vI 2))]))) := by kernel_rfl
def giG (C : Ct) (L : AtLoop) (x0 : Int) (x1 : Int) (k : List D → Prop) : Prop := wpFn Tryz.prog (hL C) L 0 79 #[.agg #[.int .i64 x0, .int .i64 x1]] (heapOf []) (dataK k)
theorem giG_text (C : Ct) (L : AtLoop) (x0 : Int) (x1 : Int) (k : List D → Prop) : giG C L x0 x1 k =
 (((Says C 42 [(D.val (vI x0)), (D.val (vI 1)), (D.val (vI 900))] [(D.val (Value.bool true))]) ∧
 (bcase (decide (x1 ≤ 900))
 (k [(D.val (Value.bool true))])
 (k [(D.val (Value.bool false))]))) ∨
 ((Says C 42 [(D.val (vI x0)), (D.val (vI 1)), (D.val (vI 900))] [(D.val (Value.bool false))]) ∧
 (k [(D.val (Value.bool false))]))) := by kernel_rfl
def gIL (C : Ct) (L : AtLoop) (x0 : Int) (x1 : Int) (k : List D → Prop) : Prop := wpFn Tryz.prog (hL C) L 0 78 #[.agg #[.int .i64 x0, .int .i64 x1]] (heapOf []) (dataK k)
theorem gIL_text (C : Ct) (L : AtLoop) (x0 : Int) (x1 : Int) (k : List D → Prop) : gIL C L x0 x1 k =
 (bcase (decide (x1 > 0))
 (∃ n1 : Int,
 ((Says C 90 [(D.val (vI x0)), (D.val (vI x1))] [(D.val (vI n1))]) ∧
 (bcase (n1 == 1)
 (k [(D.val (Value.bool true))])
 (k [(D.val (Value.bool false))]))))
 (k [(D.val (Value.bool false))])) := by kernel_rfl
def gKR (C : Ct) (L : AtLoop) (n0 : Nat) (c0 : Nat) (l0 : List Value) (x1 : Int) (x2 : Int) (x3 : Int) (x4 : Int) (x5 : Int) (k : List D → Prop) : Prop := wpFn Tryz.prog (hL C) L 0 47 #[.agg #[.slice (some ⟨500, 0, none⟩) n0 c0, .int .i64 x1, .int .i64 x2, .int .i64 x3, .int .i64 x4, .int .i64 x5]] (heapOf [(500, .sym l0 false 2)]) (dataK k)
theorem gKR_text (C : Ct) (L : AtLoop) (n0 : Nat) (c0 : Nat) (l0 : List Go.Value) (x1 : Int) (x2 : Int) (x3 : Int) (x4 : Int) (x5 : Int) (k : List D → Prop) : gKR C L n0 c0 l0 x1 x2 x3 x4 x5 k =
 (bcase (decide (0 + n0 * 2 ≤ List.length l0))
 (∃ n1 : Int,
 (∃ n2 : Int,
 ((Says C 54 [(D.sl (n0) 2 (List.take (n0 * 2) (List.drop 0 l0)))] [(D.val (vI n1)), (D.val (vI n2))]) ∧
 (bcase (n2 != 0)
 (k [(D.val (vI n1)), (D.val (vI n2))])
 ((((Qv (Sl 1003 1 1)) ∧
 (Qv (some (AObj.cells [(vI x5)] 3 false 1)))) ∧
 ((Qv (vI x5)) ∧
 ((Qv (Pt 1000 5)) ∧
 (((Qv (Sl 1002 4 4)) ∧
 (Qv (some (AObj.cells [(vI x1), (vI x2), (vI x3), (vI x4)] 3 false 1)))) ∧
 ((Qv (vI x4)) ∧
 ((Qv (Pt 1000 4)) ∧
 ((Qv (Pt 1000 3)) ∧
 ((Qv (vI x3)) ∧
 ((Qv (Pt 1000 3)) ∧
 ((Qv (Pt 1000 3)) ∧
 ((Qv (vI x2)) ∧
 ((Qv (Pt 1000 2)) ∧
 ((Qv (Pt 1000 1)) ∧
 ((Qv (vI x1)) ∧
 ((Qv (Pt 1000 1)) ∧
 ((Qv (Pt 1000 1)) ∧
 (((Qv (Sl 1001 2 2)) ∧
 (Qv (some (AObj.cells [(vI x1), (vI x2), (vI x3), (vI x4)] 24 false 2)))) ∧
 ((Qv (Value.agg [(vI x3), (vI x4)].toArray)) ∧
 ((Qv (Pt 1000 3)) ∧
 ((Qv (Value.agg [(vI x1), (vI x2)].toArray)) ∧
 ((Qv (Pt 1000 1)) ∧
 True))))))))))))))))))))) ∧
 (∃ n3 : Int,
 ((Says C 85 [(D.sl 2 2 [(vI x1), (vI x2), (vI x3), (vI x4)])] [(D.val (vI n3))]) ∧
 ((((Qv (Sl 1003 1 1)) ∧
 (Qv (some (AObj.cells [(vI x5)] 3 false 1)))) ∧
 ((Qv (vI x5)) ∧
 ((Qv (Pt 1000 5)) ∧
 (((Qv (Sl 1002 4 4)) ∧
 (Qv (some (AObj.cells [(vI x1), (vI x2), (vI x3), (vI x4)] 3 false 1)))) ∧
 ((Qv (vI x4)) ∧
 ((Qv (Pt 1000 4)) ∧
 ((Qv (Pt 1000 3)) ∧
 ((Qv (vI x3)) ∧
 ((Qv (Pt 1000 3)) ∧
 ((Qv (Pt 1000 3)) ∧
 ((Qv (vI x2)) ∧
 ((Qv (Pt 1000 2)) ∧
 ((Qv (Pt 1000 1)) ∧
 ((Qv (vI x1)) ∧
 ((Qv (Pt 1000 1)) ∧
 ((Qv (Pt 1000 1)) ∧
 ((Qv (Value.agg [(vI x3), (vI x4)].toArray)) ∧
 ((Qv (Pt 1000 3)) ∧
 ((Qv (Value.agg [(vI x1), (vI x2)].toArray)) ∧
 ((Qv (Pt 1000 1)) ∧
 True)))))))))))))))))))) ∧
 ((((Qv (Sl 1003 1 1)) ∧
 (Qv (some (AObj.cells [(vI x5)] 3 false 1)))) ∧
 ((Qv (vI x5)) ∧
 ((Qv (Pt 1000 5)) ∧
 (((Qv (Sl 1002 4 4)) ∧
 (Qv (some (AObj.cells [(vI x1), (vI x2), (vI x3), (vI x4)] 3 false 1)))) ∧
 ((Qv (vI x4)) ∧
 ((Qv (Pt 1000 4)) ∧
 ((Qv (Pt 1000 3)) ∧
 ((Qv (vI x3)) ∧
 ((Qv (Pt 1000 3)) ∧
 ((Qv (Pt 1000 3)) ∧
 ((Qv (vI x2)) ∧
 ((Qv (Pt 1000 2)) ∧
 ((Qv (Pt 1000 1)) ∧
 ((Qv (vI x1)) ∧
 ((Qv (Pt 1000 1)) ∧
 ((Qv (Pt 1000 1)) ∧
 ((Qv (Value.agg [(vI x3), (vI x4)].toArray)) ∧
 ((Qv (Pt 1000 3)) ∧
 ((Qv (Value.agg [(vI x1), (vI x2)].toArray)) ∧
 ((Qv (Pt 1000 1)) ∧
 True)))))))))))))))))))) ∧
 (∃ e1 : Int,
 ((Says limC 0 [(D.val (vI 1)), (D.val (vI 900)), (D.sl 4 1 [(vI x1), (vI x2), (vI x3), (vI x4)])] [(D.val (vI e1))]) ∧
 ((((Qv (Sl 1003 1 1)) ∧
 (Qv (some (AObj.cells [(vI x5)] 3 false 1)))) ∧
 ((Qv (vI x5)) ∧
 ((Qv (Pt 1000 5)) ∧
 ((Qv (vI x4)) ∧
 ((Qv (Pt 1000 4)) ∧
 ((Qv (Pt 1000 3)) ∧
 ((Qv (vI x3)) ∧
 ((Qv (Pt 1000 3)) ∧
 ((Qv (Pt 1000 3)) ∧
 ((Qv (vI x2)) ∧
 ((Qv (Pt 1000 2)) ∧
 ((Qv (Pt 1000 1)) ∧
 ((Qv (vI x1)) ∧
 ((Qv (Pt 1000 1)) ∧
 ((Qv (Pt 1000 1)) ∧
 ((Qv (Value.agg [(vI x3), (vI x4)].toArray)) ∧
 ((Qv (Pt 1000 3)) ∧
 ((Qv (Value.agg [(vI x1), (vI x2)].toArray)) ∧
 ((Qv (Pt 1000 1)) ∧
 True))))))))))))))))))) ∧
 ((((Qv (Sl 1003 1 1)) ∧
 (Qv (some (AObj.cells [(vI x5)] 3 false 1)))) ∧
 ((Qv (vI x5)) ∧
 ((Qv (Pt 1000 5)) ∧
 ((Qv (vI x4)) ∧
 ((Qv (Pt 1000 4)) ∧
 ((Qv (Pt 1000 3)) ∧
 ((Qv (vI x3)) ∧
 ((Qv (Pt 1000 3)) ∧
 ((Qv (Pt 1000 3)) ∧
 ((Qv (vI x2)) ∧
 ((Qv (Pt 1000 2)) ∧
 ((Qv (Pt 1000 1)) ∧
 ((Qv (vI x1)) ∧
 ((Qv (Pt 1000 1)) ∧
 ((Qv (Pt 1000 1)) ∧
 ((Qv (Value.agg [(vI x3), (vI x4)].toArray)) ∧
 ((Qv (Pt 1000 3)) ∧
 ((Qv (Value.agg [(vI x1), (vI x2)].toArray)) ∧
 ((Qv (Pt 1000 1)) ∧
 True))))))))))))))))))) ∧
 (∃ e2 : Int,
 ((Says limC 0 [(D.val (vI 0)), (D.val (vI 900)), (D.sl 1 1 [(vI x5)])] [(D.val (vI e2))]) ∧
 ((((Qv (Sl 1008 3 3)) ∧
 (Qv (some (AObj.cells [(vI n3), (vI e1), (vI e2)] 43 false 1)))) ∧
 ((Qv (vI x5)) ∧
 ((Qv (Pt 1000 5)) ∧
 ((Qv (vI x4)) ∧
 ((Qv (Pt 1000 4)) ∧
 ((Qv (Pt 1000 3)) ∧
 ((Qv (vI x3)) ∧
 ((Qv (Pt 1000 3)) ∧
 ((Qv (Pt 1000 3)) ∧
 ((Qv (vI x2)) ∧
 ((Qv (Pt 1000 2)) ∧
 ((Qv (Pt 1000 1)) ∧
 ((Qv (vI x1)) ∧
 ((Qv (Pt 1000 1)) ∧
 ((Qv (Pt 1000 1)) ∧
 ((Qv (Value.agg [(vI x3), (vI x4)].toArray)) ∧
 ((Qv (Pt 1000 3)) ∧
 ((Qv (Value.agg [(vI x1), (vI x2)].toArray)) ∧
 ((Qv (Pt 1000 1)) ∧
 True))))))))))))))))))) ∧
 (∃ n4 : Int,
 ((Says C 48 [(D.sl 3 1 [(vI n3), (vI e1), (vI e2)])] [(D.val (vI n4))]) ∧
 (((Qv (vI x5)) ∧
 ((Qv (Pt 1000 5)) ∧
 ((Qv (vI x4)) ∧
 ((Qv (Pt 1000 4)) ∧
 ((Qv (Pt 1000 3)) ∧
 ((Qv (vI x3)) ∧
 ((Qv (Pt 1000 3)) ∧
 ((Qv (Pt 1000 3)) ∧
 ((Qv (vI x2)) ∧
 ((Qv (Pt 1000 2)) ∧
 ((Qv (Pt 1000 1)) ∧
 ((Qv (vI x1)) ∧
 ((Qv (Pt 1000 1)) ∧
 ((Qv (Pt 1000 1)) ∧
 ((Qv (Value.agg [(vI x3), (vI x4)].toArray)) ∧
 ((Qv (Pt 1000 3)) ∧
 ((Qv (Value.agg [(vI x1), (vI x2)].toArray)) ∧
 ((Qv (Pt 1000 1)) ∧
 True)))))))))))))))))) ∧
 (((Qv (vI x5)) ∧
 ((Qv (Pt 1000 5)) ∧
 ((Qv (vI x4)) ∧
 ((Qv (Pt 1000 4)) ∧
 ((Qv (Pt 1000 3)) ∧
 ((Qv (vI x3)) ∧
 ((Qv (Pt 1000 3)) ∧
 ((Qv (Pt 1000 3)) ∧
 ((Qv (vI x2)) ∧
 ((Qv (Pt 1000 2)) ∧
 ((Qv (Pt 1000 1)) ∧
 ((Qv (vI x1)) ∧
 ((Qv (Pt 1000 1)) ∧
 ((Qv (Pt 1000 1)) ∧
 ((Qv (Value.agg [(vI x3), (vI x4)].toArray)) ∧
 ((Qv (Pt 1000 3)) ∧
 ((Qv (Value.agg [(vI x1), (vI x2)].toArray)) ∧
 ((Qv (Pt 1000 1)) ∧
 True)))))))))))))))))) ∧
 (True ∧
 (k [(D.val (vI 0)), (D.val (vI n4))]))))))))))))))))))))))
 False) := by kernel_rfl
def gRR (C : Ct) (L : AtLoop) (n0 : Nat) (c0 : Nat) (l0 : List Value) (x1 : Int) (x2 : Int) (x3 : Int) (x4 : Int) (x5 : Int) (k : List D → Prop) : Prop := wpFn Tryz.prog (hL C) L 0 41 #[.agg #[.slice (some ⟨500, 0, none⟩) n0 c0, .int .i64 x1, .int .i64 x2, .int .i64 x3, .int .i64 x4, .int .i64 x5]] (heapOf [(500, .sym l0 false 2)]) (dataK k)
theorem gRR_text (C : Ct) (L : AtLoop) (n0 : Nat) (c0 : Nat) (l0 : List Go.Value) (x1 : Int) (x2 : Int) (x3 : Int) (x4 : Int) (x5 : Int) (k : List D → Prop) : gRR C L n0 c0 l0 x1 x2 x3 x4 x5 k =
 (bcase (decide (0 + n0 * 2 ≤ List.length l0))
 (∃ n1 : Int,
 (∃ n2 : Int,
 ((Says C 77 [(D.sl (n0) 2 (List.take (n0 * 2) (List.drop 0 l0)))] [(D.val (vI n1)), (D.val (vI n2))]) ∧
 (bcase (n2 != 0)
 (k [(D.val (vI n1)), (D.val (vI n2))])
 (((Says C 78 [(D.agg [(D.val (vI x1)), (D.val (vI x2))])] [(D.val (Value.bool true))]) ∧
 (((Says C 78 [(D.agg [(D.val (vI x3)), (D.val (vI x4))])] [(D.val (Value.bool true))]) ∧
 (((Says C 79 [(D.agg [(D.val (vI x1)), (D.val (vI x2))])] [(D.val (Value.bool true))]) ∧
 (((Says C 79 [(D.agg [(D.val (vI x3)), (D.val (vI x4))])] [(D.val (Value.bool true))]) ∧
 (((Says C 42 [(D.val (vI x5)), (D.val (vI 0)), (D.val (vI 900))] [(D.val (Value.bool true))]) ∧
 (k [(D.val (vI 0)), (D.val (vI 0))])) ∨
 ((Says C 42 [(D.val (vI x5)), (D.val (vI 0)), (D.val (vI 900))] [(D.val (Value.bool false))]) ∧
 (k [(D.val (vI 0)), (D.val (vI 2))])))) ∨
 ((Says C 79 [(D.agg [(D.val (vI x3)), (D.val (vI x4))])] [(D.val (Value.bool false))]) ∧
 (k [(D.val (vI 0)), (D.val (vI 2))])))) ∨
 ((Says C 79 [(D.agg [(D.val (vI x1)), (D.val (vI x2))])] [(D.val (Value.bool false))]) ∧
 (k [(D.val (vI 0)), (D.val (vI 2))])))) ∨
 ((Says C 78 [(D.agg [(D.val (vI x3)), (D.val (vI x4))])] [(D.val (Value.bool false))]) ∧
 (k [(D.val (vI 0)), (D.val (vI 3))])))) ∨
 ((Says C 78 [(D.agg [(D.val (vI x1)), (D.val (vI x2))])] [(D.val (Value.bool false))]) ∧
 (k [(D.val (vI 0)), (D.val (vI 3))])))))))
 False) := by kernel_rfl
def gRRn (C : Ct) (L : AtLoop) (x1 : Int) (x2 : Int) (x3 : Int) (x4 : Int) (x5 : Int) (k : List D → Prop) : Prop := wpFn Tryz.prog (hL C) L 0 41 #[.agg #[.slice none 0 0, .int .i64 x1, .int .i64 x2, .int .i64 x3, .int .i64 x4, .int .i64 x5]] (heapOf []) (dataK k)
theorem gRRn_text (C : Ct) (L : AtLoop) (x1 : Int) (x2 : Int) (x3 : Int) (x4 : Int) (x5 : Int) (k : List D → Prop) : gRRn C L x1 x2 x3 x4 x5 k =
 (∃ n1 : Int,
 (∃ n2 : Int,
 ((Says C 77 [D.nil] [(D.val (vI n1)), (D.val (vI n2))]) ∧
 (bcase (n2 != 0)
 (k [(D.val (vI n1)), (D.val (vI n2))])
 (((Says C 78 [(D.agg [(D.val (vI x1)), (D.val (vI x2))])] [(D.val (Value.bool true))]) ∧
 (((Says C 78 [(D.agg [(D.val (vI x3)), (D.val (vI x4))])] [(D.val (Value.bool true))]) ∧
 (((Says C 79 [(D.agg [(D.val (vI x1)), (D.val (vI x2))])] [(D.val (Value.bool true))]) ∧
 (((Says C 79 [(D.agg [(D.val (vI x3)), (D.val (vI x4))])] [(D.val (Value.bool true))]) ∧
 (((Says C 42 [(D.val (vI x5)), (D.val (vI 0)), (D.val (vI 900))] [(D.val (Value.bool true))]) ∧
 (k [(D.val (vI 0)), (D.val (vI 0))])) ∨
 ((Says C 42 [(D.val (vI x5)), (D.val (vI 0)), (D.val (vI 900))] [(D.val (Value.bool false))]) ∧
 (k [(D.val (vI 0)), (D.val (vI 2))])))) ∨
 ((Says C 79 [(D.agg [(D.val (vI x3)), (D.val (vI x4))])] [(D.val (Value.bool false))]) ∧
 (k [(D.val (vI 0)), (D.val (vI 2))])))) ∨
 ((Says C 79 [(D.agg [(D.val (vI x1)), (D.val (vI x2))])] [(D.val (Value.bool false))]) ∧
 (k [(D.val (vI 0)), (D.val (vI 2))])))) ∨
 ((Says C 78 [(D.agg [(D.val (vI x3)), (D.val (vI x4))])] [(D.val (Value.bool false))]) ∧
 (k [(D.val (vI 0)), (D.val (vI 3))])))) ∨
 ((Says C 78 [(D.agg [(D.val (vI x1)), (D.val (vI x2))])] [(D.val (Value.bool false))]) ∧
 (k [(D.val (vI 0)), (D.val (vI 3))]))))))) := by kernel_rfl
def gRE (C : Ct) (L : AtLoop) (n0 : Nat) (c0 : Nat) (l0 : List Value) (x1 : Int) (x2 : Int) (x3 : Int) (x4 : Int) (x5 : Int) (k : List D → Prop) : Prop := wpFn Tryz.prog (hL C) L 0 16 #[.agg #[.slice (some ⟨500, 0, none⟩) n0 c0, .int .i64 x1, .int .i64 x2, .int .i64 x3, .int .i64 x4, .int .i64 x5]] (heapOf [(500, .sym l0 false 2)]) (dataK k)
theorem gRE_text (C : Ct) (L : AtLoop) (n0 : Nat) (c0 : Nat) (l0 : List Go.Value) (x1 : Int) (x2 : Int) (x3 : Int) (x4 : Int) (x5 : Int) (k : List D → Prop) : gRE C L n0 c0 l0 x1 x2 x3 x4 x5 k =
 (bcase (decide (0 + n0 * 2 ≤ List.length l0))
 (∃ n1 : Int,
 (∃ n2 : Int,
 ((Says C 41 [(D.agg [(D.sl (n0) 2 (List.take (n0 * 2) (List.drop 0 l0))), (D.val (vI x1)), (D.val (vI x2)), (D.val (vI x3)), (D.val (vI x4)), (D.val (vI x5))])] [(D.val (vI n1)), (D.val (vI n2))]) ∧
 (k [(D.val (vI n2))]))))
 False) := by kernel_rfl
def gREn (C : Ct) (L : AtLoop) (x1 : Int) (x2 : Int) (x3 : Int) (x4 : Int) (x5 : Int) (k : List D → Prop) : Prop := wpFn Tryz.prog (hL C) L 0 16 #[.agg #[.slice none 0 0, .int .i64 x1, .int .i64 x2, .int .i64 x3, .int .i64 x4, .int .i64 x5]] (heapOf []) (dataK k)
theorem gREn_text (C : Ct) (L : AtLoop) (x1 : Int) (x2 : Int) (x3 : Int) (x4 : Int) (x5 : Int) (k : List D → Prop) : gREn C L x1 x2 x3 x4 x5 k =
 (∃ n1 : Int,
 (∃ n2 : Int,
 ((Says C 41 [(D.agg [D.nil, (D.val (vI x1)), (D.val (vI x2)), (D.val (vI x3)), (D.val (vI x4)), (D.val (vI x5))])] [(D.val (vI n1)), (D.val (vI n2))]) ∧
 (k [(D.val (vI n2))])))) := by kernel_rfl
def gkC (C : Ct) (L : AtLoop) (s0 : ByteArray) (n1 : Nat) (c1 : Nat) (l1 : List Value) (k : List D → Prop) : Prop := wpFn Tryz.prog (hL C) L 0 50 #[.agg #[.string s0, .slice (some ⟨500, 0, none⟩) n1 c1]] (heapOf [(500, .sym l1 false 2)]) (dataK k)
theorem gkC_text (C : Ct) (L : AtLoop) (s0 : ByteArray) (n1 : Nat) (c1 : Nat) (l1 : List Go.Value) (k : List D → Prop) : gkC C L s0 n1 c1 l1 k =
 (((Qv (vI ((↑n1 : Int)))) ∧
 ((Qv (Sl 500 (n1) (c1))) ∧
 ((Qv (Pt 1000 1)) ∧
 ((Qv (Value.string (s0))) ∧
 ((Qv (Pt 1000 0)) ∧
 True))))) ∧
 (∃ n2 : Int,
 ((Says C 87 [(D.val (Value.string (s0)))] [(D.val (vI n2))]) ∧
 (((Qv (vI ((↑n1 : Int)))) ∧
 ((Qv (Sl 500 (n1) (c1))) ∧
 ((Qv (Pt 1000 1)) ∧
 ((Qv (Pt 1000 0)) ∧
 True)))) ∧
 (∃ n3 : Int,
 ((Says C 88 [(D.val (vI ((↑n1 : Int)))), (D.val (vI 12))] [(D.val (vI n3))]) ∧
 ((((Qv (Sl 1001 2 2)) ∧
 (Qv (some (AObj.cells [(vI n2), (vI n3)] 43 false 1)))) ∧
 ((Qv (Sl 500 (n1) (c1))) ∧
 ((Qv (Pt 1000 1)) ∧
 ((Qv (Pt 1000 0)) ∧
 True)))) ∧
 (∃ n4 : Int,
 ((Says C 48 [(D.sl 2 1 [(vI n2), (vI n3)])] [(D.val (vI n4))]) ∧
 (((Qv (Sl 500 (n1) (c1))) ∧
 ((Qv (Pt 1000 1)) ∧
 ((Qv (Pt 1000 0)) ∧
 True))) ∧
 (True ∧
 (bcase (n4 != 0)
 (k [(D.val (vI 0)), (D.val (vI n4))])
 (L 0 [(Prod.mk 21 (Sl 500 (n1) (c1))), (Prod.mk 22 (vI ((↑n1 : Int)))), (Prod.mk 23 (vI 0))] [(Prod.mk 500 (AObj.sym (l1) false 2))]))))))))))))) := by kernel_rfl
abbrev zkC1 (n0 : Nat) (c1 : Nat) (x2 : Int) (x3 : Int) (l4 : List Value) : Slots × Blocks := ([(21, (Value.slice (some ⟨500, 0, none⟩) n0 c1)), (22, (Value.int .i64 x2)), (23, (Value.int .i64 x3))], [(500, (AObj.sym l4 false 2))])
def rkC1 (C : Ct) (L : AtLoop) (n0 : Nat) (c1 : Nat) (x2 : Int) (x3 : Int) (l4 : List Value) (B : Bx) (X : Xx) (k : List D → Prop) : Prop := wpRound Tryz.prog (hL C) L 50 0 [(21, (Value.slice (some ⟨500, 0, none⟩) n0 c1)), (22, (Value.int .i64 x2)), (23, (Value.int .i64 x3))] [(500, (AObj.sym l4 false 2))] B X (dataK k)
theorem rkC1_text (C : Ct) (L : AtLoop) (n0 : Nat) (c1 : Nat) (x2 : Int) (x3 : Int) (l4 : List Go.Value) (B : Bx) (X : Xx) (k : List D → Prop) : rkC1 C L n0 c1 x2 x3 l4 B X k =
 (bcase (decide (x3 < x2))
 (bcase (decide (0 ≤ x3))
 (bcase (decide (x3 < (↑n0 : Int)))
 (∃ n1 : Int,
 (∃ n2 : Int,
 ((At (l4) (0 + Int.toNat x3 * 2) 2 [(vI n1), (vI n2)]) ∧
 ((((Qv (Sl 1002 1 1)) ∧
 (Qv (some (AObj.cells [(vI n2)] 3 false 1)))) ∧
 ((Qv (vI n2)) ∧
 ((Qv (Pt 1000 1)) ∧
 (((Qv (Sl 1001 1 1)) ∧
 (Qv (some (AObj.cells [(vI n1)] 3 false 1)))) ∧
 ((Qv (vI n1)) ∧
 ((Qv (Pt 1000 0)) ∧
 True)))))) ∧
 (∃ n3 : Int,
 ((Says C 55 [(D.sl 1 1 [(vI n1)])] [(D.val (vI n3))]) ∧
 ((((Qv (Sl 1002 1 1)) ∧
 (Qv (some (AObj.cells [(vI n2)] 3 false 1)))) ∧
 ((Qv (vI n2)) ∧
 ((Qv (Pt 1000 1)) ∧
 ((Qv (vI n1)) ∧
 ((Qv (Pt 1000 0)) ∧
 True))))) ∧
 ((((Qv (Sl 1002 1 1)) ∧
 (Qv (some (AObj.cells [(vI n2)] 3 false 1)))) ∧
 ((Qv (vI n2)) ∧
 ((Qv (Pt 1000 1)) ∧
 ((Qv (vI n1)) ∧
 ((Qv (Pt 1000 0)) ∧
 True))))) ∧
 (∃ e1 : Int,
 ((Says limC 0 [(D.val (vI 0)), (D.val (vI 100000)), (D.sl 1 1 [(vI n2)])] [(D.val (vI e1))]) ∧
 ((((Qv (Sl 1005 2 2)) ∧
 (Qv (some (AObj.cells [(vI n3), (vI e1)] 43 false 1)))) ∧
 ((Qv (vI n2)) ∧
 ((Qv (Pt 1000 1)) ∧
 ((Qv (vI n1)) ∧
 ((Qv (Pt 1000 0)) ∧
 True))))) ∧
 (∃ n4 : Int,
 ((Says C 48 [(D.sl 2 1 [(vI n3), (vI e1)])] [(D.val (vI n4))]) ∧
 (((Qv (vI n2)) ∧
 ((Qv (Pt 1000 1)) ∧
 ((Qv (vI n1)) ∧
 ((Qv (Pt 1000 0)) ∧
 True)))) ∧
 (True ∧
 (bcase (n4 != 0)
 (k [(D.val (vI x3)), (D.val (vI n4))])
 (B [(Prod.mk 21 (Sl 500 (n0) (c1))), (Prod.mk 22 (vI x2)), (Prod.mk 23 (vI (IntKind.wrap .i64 (x3 + 1))))] [(Prod.mk 500 (AObj.sym (l4) false 2))])))))))))))))))))
 False)
 False)
 (X 0 [] [])) := by kernel_rfl
def nkC2 (C : Ct) (L : AtLoop) (k : List D → Prop) : Prop := wpNext Tryz.prog (hL C) L 50 0 .normal [] [] (dataK k)
theorem nkC2_text (C : Ct) (L : AtLoop) (k : List D → Prop) : nkC2 C L k =
 (k [(D.val (vI 0)), (D.val (vI 0))]) := by kernel_rfl
def gRC (C : Ct) (L : AtLoop) (s0 : ByteArray) (n1 : Nat) (c1 : Nat) (l1 : List Value) (k : List D → Prop) : Prop := wpFn Tryz.prog (hL C) L 0 43 #[.agg #[.string s0, .slice (some ⟨500, 0, none⟩) n1 c1]] (heapOf [(500, .sym l1 false 2)]) (dataK k)
theorem gRC_text (C : Ct) (L : AtLoop) (s0 : ByteArray) (n1 : Nat) (c1 : Nat) (l1 : List Go.Value) (k : List D → Prop) : gRC C L s0 n1 c1 l1 k =
 (((Says C 80 [(D.val (Value.string (s0)))] [(D.val (Value.bool true))]) ∧
 (bcase ((↑n1 : Int) == 0)
 (k [(D.val (vI 0)), (D.val (vI 10))])
 (bcase (decide ((↑n1 : Int) > 12))
 (k [(D.val (vI 0)), (D.val (vI 8))])
 (L 0 [(Prod.mk 1 (Pt 1000 0)), (Prod.mk 4 (vI 0))] [(Prod.mk 1000 (AObj.cells [(Value.string (s0)), (Sl 500 (n1) (c1))] 31 false 1)), (Prod.mk 500 (AObj.sym (l1) false 2))])))) ∨
 ((Says C 80 [(D.val (Value.string (s0)))] [(D.val (Value.bool false))]) ∧
 (k [(D.val (vI 0)), (D.val (vI 4))]))) := by kernel_rfl
abbrev zRC1 (x0 : Int) (s1 : ByteArray) (n2 : Nat) (c3 : Nat) (l4 : List Value) : Slots × Blocks := ([(1, (Value.pointer (some ⟨1000, 0, none⟩))), (4, (Value.int .i64 x0))], [(1000, (AObj.cells [(Value.string s1), (Value.slice (some ⟨500, 0, none⟩) n2 c3)] 31 false 1)), (500, (AObj.sym l4 false 2))])
def rRC1 (C : Ct) (L : AtLoop) (x0 : Int) (s1 : ByteArray) (n2 : Nat) (c3 : Nat) (l4 : List Value) (B : Bx) (X : Xx) (k : List D → Prop) : Prop := wpRound Tryz.prog (hL C) L 43 0 [(1, (Value.pointer (some ⟨1000, 0, none⟩))), (4, (Value.int .i64 x0))] [(1000, (AObj.cells [(Value.string s1), (Value.slice (some ⟨500, 0, none⟩) n2 c3)] 31 false 1)), (500, (AObj.sym l4 false 2))] B X (dataK k)
theorem rRC1_text (C : Ct) (L : AtLoop) (x0 : Int) (s1 : ByteArray) (n2 : Nat) (c3 : Nat) (l4 : List Go.Value) (B : Bx) (X : Xx) (k : List D → Prop) : rRC1 C L x0 s1 n2 c3 l4 B X k =
 (bcase (decide (x0 < (↑n2 : Int)))
 (bcase (decide (0 ≤ x0))
 (bcase (decide (x0 < (↑n2 : Int)))
 (∃ n1 : Int,
 ((At (l4) (0 + Int.toNat x0 * 2) 1 [(vI n1)]) ∧
 (∃ n3 : Int,
 ((Says C 81 [(D.val (vI n1))] [(D.val (vI n3))]) ∧
 (bcase (n3 != 0)
 (k [(D.val (vI x0)), (D.val (vI 2))])
 (bcase (decide (0 ≤ x0))
 (bcase (decide (x0 < (↑n2 : Int)))
 (∃ n4 : Int,
 ((At (l4) (Addr.off { block := 500, off := 0 + Int.toNat x0 * 2 } + 1) 1 [(vI n4)]) ∧
 (((Says C 42 [(D.val (vI n4)), (D.val (vI 0)), (D.val (vI 100000))] [(D.val (Value.bool true))]) ∧
 (B [(Prod.mk 1 (Pt 1000 0)), (Prod.mk 4 (vI (IntKind.wrap .i64 (x0 + 1))))] [(Prod.mk 1000 (AObj.cells [(Value.string (s1)), (Sl 500 (n2) (c3))] 31 false 1)), (Prod.mk 500 (AObj.sym (l4) false 2))])) ∨
 ((Says C 42 [(D.val (vI n4)), (D.val (vI 0)), (D.val (vI 100000))] [(D.val (Value.bool false))]) ∧
 (k [(D.val (vI x0)), (D.val (vI 2))])))))
 False)
 False))))))
 False)
 False)
 (X 0 [] [])) := by kernel_rfl
def nRC2 (C : Ct) (L : AtLoop) (k : List D → Prop) : Prop := wpNext Tryz.prog (hL C) L 43 0 .normal [] [] (dataK k)
theorem nRC2_text (C : Ct) (L : AtLoop) (k : List D → Prop) : nRC2 C L k =
 (k [(D.val (vI 0)), (D.val (vI 0))]) := by kernel_rfl
def gRCn (C : Ct) (L : AtLoop) (s0 : ByteArray) (k : List D → Prop) : Prop := wpFn Tryz.prog (hL C) L 0 43 #[.agg #[.string s0, .slice none 0 0]] (heapOf []) (dataK k)
theorem gRCn_text (C : Ct) (L : AtLoop) (s0 : ByteArray) (k : List D → Prop) : gRCn C L s0 k =
 (((Says C 80 [(D.val (Value.string (s0)))] [(D.val (Value.bool true))]) ∧
 (k [(D.val (vI 0)), (D.val (vI 10))])) ∨
 ((Says C 80 [(D.val (Value.string (s0)))] [(D.val (Value.bool false))]) ∧
 (k [(D.val (vI 0)), (D.val (vI 4))]))) := by kernel_rfl
def gCe (C : Ct) (L : AtLoop) (s0 : ByteArray) (n1 : Nat) (c1 : Nat) (l1 : List Value) (k : List D → Prop) : Prop := wpFn Tryz.prog (hL C) L 0 18 #[.agg #[.string s0, .slice (some ⟨500, 0, none⟩) n1 c1]] (heapOf [(500, .sym l1 false 2)]) (dataK k)
theorem gCe_text (C : Ct) (L : AtLoop) (s0 : ByteArray) (n1 : Nat) (c1 : Nat) (l1 : List Go.Value) (k : List D → Prop) : gCe C L s0 n1 c1 l1 k =
 (bcase (decide (0 + n1 * 2 ≤ List.length l1))
 (∃ n2 : Int,
 (∃ n3 : Int,
 ((Says C 43 [(D.agg [(D.val (Value.string (s0))), (D.sl (n1) 2 (List.take (n1 * 2) (List.drop 0 l1)))])] [(D.val (vI n2)), (D.val (vI n3))]) ∧
 (k [(D.val (vI n3))]))))
 False) := by kernel_rfl
def gCen (C : Ct) (L : AtLoop) (s0 : ByteArray) (k : List D → Prop) : Prop := wpFn Tryz.prog (hL C) L 0 18 #[.agg #[.string s0, .slice none 0 0]] (heapOf []) (dataK k)
theorem gCen_text (C : Ct) (L : AtLoop) (s0 : ByteArray) (k : List D → Prop) : gCen C L s0 k =
 (∃ n1 : Int,
 (∃ n2 : Int,
 ((Says C 43 [(D.agg [(D.val (Value.string (s0))), D.nil])] [(D.val (vI n1)), (D.val (vI n2))]) ∧
 (k [(D.val (vI n2))])))) := by kernel_rfl
def gWj (C : Ct) (L : AtLoop) (x0 : Int) (x1 : Int) (x2 : Int) (k : List D → Prop) : Prop := wpFn Tryz.prog (hE C) L 0 42 #[.int .i64 x0, .int .i64 x1, .int .i64 x2] (heapOf []) (dataK k)
theorem gWj_text (C : Ct) (L : AtLoop) (x0 : Int) (x1 : Int) (x2 : Int) (k : List D → Prop) : gWj C L x0 x1 x2 k =
 (bcase (decide (x1 ≤ x0))
 (bcase (decide (x0 ≤ x2))
 (k [(D.val (Value.bool true))])
 (k [(D.val (Value.bool false))]))
 (k [(D.val (Value.bool false))])) := by kernel_rfl
def gSi (C : Ct) (L : AtLoop) (x0 : Int) (k : List D → Prop) : Prop := wpFn Tryz.prog (hE C) L 0 76 #[.int .i64 x0] (heapOf []) (dataK k)
theorem gSi_text (C : Ct) (L : AtLoop) (x0 : Int) (k : List D → Prop) : gSi C L x0 k =
 (k [(D.val (vI (if IntKind.wrap .i64 (0 - x0) > x0 then IntKind.wrap .i64 (0 - x0) else x0)))]) := by kernel_rfl
def gGc (C : Ct) (L : AtLoop) (x0 : Int) (x1 : Int) (k : List D → Prop) : Prop := wpFn Tryz.prog (hL C) L 0 90 #[.int .i64 x0, .int .i64 x1] (heapOf []) (dataK k)
theorem gGc_text (C : Ct) (L : AtLoop) (x0 : Int) (x1 : Int) (k : List D → Prop) : gGc C L x0 x1 k =
 (L 0 [(Prod.mk 0 (vI x0)), (Prod.mk 1 (vI x1))] []) := by kernel_rfl
abbrev zGc1 (x0 : Int) (x1 : Int) : Slots × Blocks := ([(0, (Value.int .i64 x0)), (1, (Value.int .i64 x1))], [])
def rGc1 (C : Ct) (L : AtLoop) (x0 : Int) (x1 : Int) (B : Bx) (X : Xx) (k : List D → Prop) : Prop := wpRound Tryz.prog (hL C) L 90 0 [(0, (Value.int .i64 x0)), (1, (Value.int .i64 x1))] [] B X (dataK k)
theorem rGc1_text (C : Ct) (L : AtLoop) (x0 : Int) (x1 : Int) (B : Bx) (X : Xx) (k : List D → Prop) : rGc1 C L x0 x1 B X k =
 (bcase (x1 != 0)
 (bcase (x1 != 0)
 (((bcase (x1 != 0)
 (Qv (vI (Int.tmod x0 x1)))
 False) ∧
 ((Qv (vI x1)) ∧
 ((Qv (vI x0)) ∧
 ((Qv (vI x1)) ∧
 True)))) ∧
 (((bcase (x1 != 0)
 (Qv (vI (Int.tmod x0 x1)))
 False) ∧
 ((Qv (vI x1)) ∧
 True)) ∧
 (True ∧
 (B [(Prod.mk 0 (vI x1)), (Prod.mk 1 (vI (Int.tmod x0 x1)))] []))))
 False)
 (X 0 [(Prod.mk 0 (vI x0))] [])) := by kernel_rfl
def nGc2 (C : Ct) (L : AtLoop) (x0 : Int) (k : List D → Prop) : Prop := wpNext Tryz.prog (hL C) L 90 0 .normal [(0, (Value.int .i64 x0))] [] (dataK k)
theorem nGc2_text (C : Ct) (L : AtLoop) (x0 : Int) (k : List D → Prop) : nGc2 C L x0 k =
 (∃ n1 : Int,
 ((Says C 76 [(D.val (vI x0))] [(D.val (vI n1))]) ∧
 (k [(D.val (vI n1))]))) := by kernel_rfl
def preW (C : Ct) : FuncId → Option Handler := fun g => if g == 148 then some (saidH Tryz.prog C) else none
abbrev hW (C : Ct) : Handler := handlerX Tryz.prog (preW C) 12 6
def gdd (C : Ct) (L : AtLoop) (x0 : Int) (x1 : Int) (k : List D → Prop) : Prop := wpFn Tryz.prog (hE C) L 0 148 #[.int .i64 x0, .int .i64 x1] (heapOf []) (dataK k)
theorem gdd_text (C : Ct) (L : AtLoop) (x0 : Int) (x1 : Int) (k : List D → Prop) : gdd C L x0 x1 k =
 (bcase (x1 != 0)
 (bcase (x1 != 0)
 (((bcase (x1 != 0)
 (Qv (vI (Int.tmod x0 x1)))
 False) ∧
 ((Qv (vI x1)) ∧
 ((Qv (vI x0)) ∧
 ((bcase (x1 != 0)
 (Qv (vI (IntKind.wrap .i64 (Int.tdiv x0 x1))))
 False) ∧
 ((Qv (vI x1)) ∧
 ((Qv (vI x0)) ∧
 True)))))) ∧
 (((bcase (x1 != 0)
 (Qv (vI (Int.tmod x0 x1)))
 False) ∧
 ((Qv (vI x1)) ∧
 ((Qv (vI x0)) ∧
 True))) ∧
 (True ∧
 (bcase (decide (Int.tmod x0 x1 < 0))
 (k [(D.val (vI (IntKind.wrap .i64 (IntKind.wrap .i64 (Int.tdiv x0 x1) - 1)))), (D.val (vI (IntKind.wrap .i64 (Int.tmod x0 x1 + x1))))])
 (k [(D.val (vI (IntKind.wrap .i64 (Int.tdiv x0 x1)))), (D.val (vI (Int.tmod x0 x1)))])))))
 False)
 False) := by kernel_rfl
def gsh (C : Ct) (x0 : Int) (x1 : Int) (x2 : Int) (x3 : Int) (x4 : Int) (x5 : Int) (x6 : Int) (x7 : Int) (k : List D → Prop) : Prop := wpFn Tryz.prog (hW C) (fun _ _ _ => False) 8 121 #[.agg #[.int .i64 x0, .int .i64 x1, .int .i64 x2, .int .i64 x3], .agg #[.int .i64 x4, .int .i64 x5, .int .i64 x6, .int .i64 x7]] (heapOf []) (dataK k)
theorem gsh_text (C : Ct) (x0 : Int) (x1 : Int) (x2 : Int) (x3 : Int) (x4 : Int) (x5 : Int) (x6 : Int) (x7 : Int) (k : List D → Prop) : gsh C x0 x1 x2 x3 x4 x5 x6 x7 k =
 (((Qv (vI (IntKind.wrap .i64 (x5 * x7)))) ∧
 ((Qv (vI x7)) ∧
 ((Qv (Pt 1003 3)) ∧
 ((Qv (Pt 1003 2)) ∧
 ((Qv (vI x5)) ∧
 ((Qv (Pt 1003 1)) ∧
 ((Qv (Pt 1003 0)) ∧
 True))))))) ∧
 (((Qv (vI (IntKind.wrap .i64 (x5 * x7)))) ∧
 ((Qv (vI x7)) ∧
 ((Qv (Pt 1003 3)) ∧
 ((Qv (Pt 1003 2)) ∧
 ((Qv (vI x5)) ∧
 ((Qv (Pt 1003 1)) ∧
 ((Qv (Pt 1003 0)) ∧
 True))))))) ∧
 (((Qv (vI (IntKind.wrap .i64 (x5 * x7)))) ∧
 ((Qv (vI x7)) ∧
 ((Qv (Pt 1003 3)) ∧
 ((Qv (Pt 1003 2)) ∧
 ((Qv (vI x5)) ∧
 ((Qv (Pt 1003 1)) ∧
 ((Qv (Pt 1003 0)) ∧
 True))))))) ∧
 (True ∧
 (((Qv (vI x5)) ∧
 ((Qv (Pt 1005 1)) ∧
 ((Qv (vI (IntKind.wrap .i64 (x0 * x4)))) ∧
 ((Qv (vI x4)) ∧
 ((Qv (Pt 1005 0)) ∧
 ((Qv (vI x0)) ∧
 ((Qv (Pt 1002 0)) ∧
 ((Qv (vI 0)) ∧
 True)))))))) ∧
 (∃ n1 : Int,
 (∃ n2 : Int,
 ((Says C 148 [(D.val (vI (IntKind.wrap .i64 (x0 * x4)))), (D.val (vI x5))] [(D.val (vI n1)), (D.val (vI n2))]) ∧
 (((Qv (vI n2)) ∧
 ((Qv (vI n1)) ∧
 ((Qv (Value.tuple [(vI n1), (vI n2)].toArray)) ∧
 ((Qv (Pt 1005 1)) ∧
 ((Qv (vI x4)) ∧
 ((Qv (Pt 1005 0)) ∧
 ((Qv (vI x0)) ∧
 ((Qv (Pt 1002 0)) ∧
 ((Qv (vI 0)) ∧
 True))))))))) ∧
 (((Qv (vI n2)) ∧
 True) ∧
 (True ∧
 (bcase (x5 != 0)
 (((Qv (vI x7)) ∧
 ((Qv (Pt 1006 1)) ∧
 ((Qv (vI (IntKind.wrap .i64 (x1 * x6)))) ∧
 ((Qv (vI x6)) ∧
 ((Qv (Pt 1006 0)) ∧
 ((Qv (vI x1)) ∧
 ((Qv (Pt 1002 1)) ∧
 ((Qv (vI 1)) ∧
 True)))))))) ∧
 (∃ n3 : Int,
 (∃ n4 : Int,
 ((Says C 148 [(D.val (vI (IntKind.wrap .i64 (x1 * x6)))), (D.val (vI x7))] [(D.val (vI n3)), (D.val (vI n4))]) ∧
 (((Qv (vI n4)) ∧
 ((Qv (vI n3)) ∧
 ((Qv (Value.tuple [(vI n3), (vI n4)].toArray)) ∧
 ((Qv (Pt 1006 1)) ∧
 ((Qv (vI x6)) ∧
 ((Qv (Pt 1006 0)) ∧
 ((Qv (vI x1)) ∧
 ((Qv (Pt 1002 1)) ∧
 ((Qv (vI 1)) ∧
 True))))))))) ∧
 (((Qv (vI n4)) ∧
 True) ∧
 (True ∧
 (bcase (x7 != 0)
 (∃ n5 : Int,
 (∃ n6 : Int,
 ((Says C 148 [(D.val (vI (IntKind.wrap .i64 (IntKind.wrap .i64 (0 + IntKind.wrap .i64 (n2 * IntKind.wrap .i64 (Int.tdiv (IntKind.wrap .i64 (x5 * x7)) x5))) + IntKind.wrap .i64 (n4 * IntKind.wrap .i64 (Int.tdiv (IntKind.wrap .i64 (x5 * x7)) x7)))))), (D.val (vI (IntKind.wrap .i64 (x5 * x7))))] [(D.val (vI n5)), (D.val (vI n6))]) ∧
 (bcase (decide (n6 > 0))
 (bcase (decide (x2 ≤ IntKind.wrap .i64 (IntKind.wrap .i64 (IntKind.wrap .i64 (0 + n1) + n3) + n5)))
 (bcase (decide (IntKind.wrap .i64 (IntKind.wrap .i64 (IntKind.wrap .i64 (IntKind.wrap .i64 (0 + n1) + n3) + n5) + 1) ≤ x3))
 (k [(D.val (Value.bool true))])
 (k [(D.val (Value.bool false))]))
 (k [(D.val (Value.bool false))]))
 (bcase (decide (x2 ≤ IntKind.wrap .i64 (IntKind.wrap .i64 (IntKind.wrap .i64 (0 + n1) + n3) + n5)))
 (bcase (decide (IntKind.wrap .i64 (IntKind.wrap .i64 (IntKind.wrap .i64 (0 + n1) + n3) + n5) ≤ x3))
 (k [(D.val (Value.bool true))])
 (k [(D.val (Value.bool false))]))
 (k [(D.val (Value.bool false))]))))))
 False))))))))
 False)))))))))))) := by kernel_rfl
end Go.Proofs.G5v

/- The small functions on strings of the references, in data. -/
namespace Go.Proofs.G5v
open Go Go.Abs Go.Proofs Go.Str
set_option maxRecDepth 100000
theorem hokE : HandlerOK Tryz.prog (hE C5) := handlerX_ok mixed (fun g h he => by cases he) (by decide) 6
/-- pieces between separators -/
theorem conCu (l : List UInt8) (c : UInt8) (hl : l.length < 4294967281) : C5 51 [dS l, .val (.int .u8 (c.toNat : Int))] [dSs (cutA c [] l)] := by
  let inv : Nat × Nat × List (List UInt8) → Prop := fun x => x.2.1 ≤ x.1 ∧ x.1 ≤ l.length ∧ x.2.2.length ≤ x.1 ∧ x.2.2 ++ cutA c ((l.drop x.2.1).take (x.1 - x.2.1)) (l.drop x.1) = cutA c [] l
  let st : Nat × Nat × List (List UInt8) → Slots × Blocks := fun x => match x.2.2 with
    | [] => zCu1 (bs l) c.toNat x.2.1 x.1
    | y :: r => zCu2 (bs l) c.toNat (y :: r).length x.2.1 x.1 (strs (y :: r))
  refine con_of (L := fun _ s b => ∃ x, inv x ∧ st x = (s, b)) hokE mixed Tryz.func51 rfl (by show 0 ≤ 400; omega) rfl (ids := [0]) (by kernel_rfl) rfl (fun caps => ?_) (fun id hid => ?_)
  · show gCu _ _ (bs l) c.toNat _
    rw [gCu_text]
    exact ⟨(0, 0, []), ⟨Nat.le_refl _, Nat.zero_le _, Nat.le_refl _, by simp⟩, rfl⟩
  · obtain rfl := List.mem_singleton.1 hid
    refine ⟨Nat × Nat × List (List UInt8), st, inv, fun x => l.length - x.1, ⟨fun s b h => h, by kernel_rfl, ?_⟩⟩
    rintro ⟨i, f, out⟩ ⟨h1, h2, h3, h4⟩
    simp only at h1 h2 h3 h4
    have hx : ∀ j, (bs l).extract f j = bs ((l.drop f).take (j - f)) := fun j => bs_extract l f j
    have hend : ¬ i < l.length → out ++ [(l.drop f).take (l.length - f)] = cutA c [] l := by
      intro hi
      obtain rfl : i = l.length := by omega
      rw [List.drop_length, cutA] at h4
      exact h4
    have step : ∀ hi : i < l.length, if l[i] = c then inv (i + 1, i + 1, out ++ [(l.drop f).take (i - f)]) else inv (i + 1, f, out) := by
      intro hi
      rw [List.drop_eq_getElem_cons hi, cutA] at h4
      split
      · next hc =>
        rw [if_pos hc] at h4
        exact ⟨Nat.le_refl _, hi, by simp; omega, by simpa using h4⟩
      · next hc =>
        rw [if_neg hc] at h4
        exact ⟨by show f ≤ i + 1; omega, hi, by show out.length ≤ i + 1; omega, by show out ++ cutA c ((l.drop f).take (i + 1 - f)) (l.drop (i + 1)) = _; rw [take_snoc h1 hi]; exact h4⟩
    cases out with
    | nil =>
      show rCu1 _ _ (bs l) c.toNat f i _ _ _
      rw [rCu1_text]
      simp only [bs_size]
      refine bc_dec (fun h => ?_) (fun h => ?_)
      · have hi : i < l.length := by omega
        have step := step hi
        simp only [bc_t (show (0 : Int) ≤ (i : Int) by omega), Int.toNat_natCast, byte1 (List.getElem?_eq_getElem hi), wi1 hi (by omega)]
        refine bc_beq (fun hc => ?_) (fun hc => ?_)
        · rw [if_pos (u8_eq hc)] at step
          simp only [bc_t (show (i : Int) ≤ (l.length : Int) by omega), bc_t (show (0 : Int) ≤ (f : Int) by omega), bc_t (show (f : Int) ≤ (i : Int) by omega), hx]
          exact ⟨_, step, by show l.length - (i + 1) < l.length - i; omega, rfl⟩
        · rw [if_neg (fun e => hc (by rw [e]))] at step
          exact ⟨_, step, by show l.length - (i + 1) < l.length - i; omega, rfl⟩
      · show nCu3 _ _ (bs l) f _
        rw [nCu3_text]
        simp only [bs_size, bc_t (show (0 : Int) ≤ (f : Int) by omega), bc_t (show (f : Int) ≤ (l.length : Int) by omega), Int.toNat_natCast, hx]
        refine ⟨⟨trivial, trivial⟩, ?_⟩
        rw [← hend (by omega)]
        rfl
    | cons y r =>
      show rCu2 _ _ (bs l) c.toNat (y :: r).length f i (strs (y :: r)) _ _ _
      rw [rCu2_text]
      simp only [bs_size]
      have hlen : (y :: r).length ≤ i := h3
      refine bc_dec (fun h => ?_) (fun h => ?_)
      · have hi : i < l.length := by omega
        have step := step hi
        simp only [bc_t (show (0 : Int) ≤ (i : Int) by omega), Int.toNat_natCast, byte1 (List.getElem?_eq_getElem hi), wi1 hi (by omega)]
        refine bc_beq (fun hc => ?_) (fun hc => ?_)
        · rw [if_pos (u8_eq hc)] at step
          simp only [bc_t (show (i : Int) ≤ (l.length : Int) by omega), bc_t (show (0 : Int) ≤ (f : Int) by omega), bc_t (show (f : Int) ≤ (i : Int) by omega), hx,
            bc_t (Nat.lt_succ_self (y :: r).length), bc_t (show (2 * ((y :: r).length + 1) + 768) * 16 ≤ 281474976710656 by omega), bc_t (show (y :: r).length + 1 ≤ 1099511627776 by omega), bc_t (whole_le (y :: r)), bc_t (whole_eq (y :: r)), strs_whole]
          refine ⟨_, step, by show l.length - (i + 1) < l.length - i; omega, ?_⟩
          show zCu2 _ _ ((y :: r) ++ [_]).length _ _ (strs ((y :: r) ++ [_])) = _
          rw [List.length_append]
          simp only [strs, List.map_append]
          rfl
        · rw [if_neg (fun e => hc (by rw [e]))] at step
          exact ⟨_, step, by show l.length - (i + 1) < l.length - i; omega, rfl⟩
      · show nCu4 _ _ (bs l) (y :: r).length f (strs (y :: r)) _
        rw [nCu4_text]
        simp only [bs_size, bc_t (show (0 : Int) ≤ (f : Int) by omega), bc_t (show (f : Int) ≤ (l.length : Int) by omega), Int.toNat_natCast, hx,
          bc_t (Nat.lt_succ_self (y :: r).length), bc_t (show (2 * ((y :: r).length + 1) + 768) * 16 ≤ 281474976710656 by omega), bc_t (show (y :: r).length + 1 ≤ 1099511627776 by omega), bc_t (whole_le (y :: r)), bc_t (whole_eq (y :: r)), strs_whole]
        refine ⟨⟨trivial, by first | (simp; done) | (simp; rfl) | (simp; kernel_rfl)⟩, ?_⟩
        rw [← hend (by omega)]
        show [_] = [D.sl ((y :: r) ++ [_]).length 1 (strs ((y :: r) ++ [_]))]
        rw [List.length_append]
        simp only [strs, List.map_append]
        rfl
/-! ### decimal numerals -/
/-! ### numbers that are read -/
theorem pow_le {k : Nat} (h : k ≤ 17) : (10 : Int) ^ k ≤ 100000000000000000 := by
  have := pow10_le h
  rw [p17] at this; exact this
theorem isDig_no {b : UInt8} (h : ¬ (48 ≤ b.toNat ∧ b.toNat ≤ 57)) : isDig b = false := by
  unfold isDig
  rw [Bool.and_eq_false_iff, decide_eq_false_iff_not, decide_eq_false_iff_not]; omega
theorem byte48 {b : UInt8} (h1 : 48 ≤ b.toNat) (h2 : b.toNat ≤ 57) : IntKind.wrap .i64 (IntKind.wrap .u8 ((b.toNat : Int) - 48)) = (b.toNat : Int) - 48 := by
  rw [IntKind.wrap_u8]
  rw [w64 (by omega) (by omega)]; omega
theorem conNu (l : List UInt8) (d : Nat) (hd : d ≤ 18) (hl : l.length < 4294967281) : C5 89 [dS l, dI d] [dI (readNum d l).1, dB (readNum d l).2] := by
  let inv : Nat × Nat → Prop := fun x => x.1 ≤ 1 ∧ x.1 ≤ x.2 ∧ x.2 ≤ l.length ∧ l.length ≤ d + x.1 ∧ ((l.drop x.1).take (x.2 - x.1)).all isDig = true ∧ readNum d l = rdT x.1 l
  let st : Nat × Nat → Slots × Blocks := fun x => zNu1 (bs l) x.1 (numF 0 ((l.drop x.1).take (x.2 - x.1))) x.2
  refine con_of (L := fun _ s b => ∃ x, inv x ∧ st x = (s, b)) hokE mixed Tryz.func89 rfl (by show 0 ≤ 400; omega) rfl (ids := [0]) (by kernel_rfl) rfl (fun caps => ?_) (fun id hid => ?_)
  · show gNu _ _ (bs l) d _
    rw [gNu_text]
    simp only [bs_size]
    have pos : (∀ b, l[0]? = some b → b.toNat ≠ 45) → bcase ((l.length : Int) == 0) ([dI 0, dB false] = [dI (readNum d l).1, dB (readNum d l).2])
        (bcase (decide (IntKind.wrap .i64 ((l.length : Int) - 0) > (d : Int))) ([dI 0, dB false] = [dI (readNum d l).1, dB (readNum d l).2])
        (∃ b2 : UInt8, ByteAt (bs l) 0 b2 ∧ bcase ((b2.toNat : Int) == 48) (bcase (decide ((l.length : Int) > 1)) ([dI 0, dB false] = [dI (readNum d l).1, dB (readNum d l).2]) (∃ x, inv x ∧ st x = zNu1 (bs l) 0 0 0)) (∃ x, inv x ∧ st x = zNu1 (bs l) 0 0 0))) := by
      intro hno
      have hh : l.head? ≠ some 45 := by
        intro e
        cases l with
        | nil => simp at e
        | cons b r =>
          simp only [List.head?_cons, Option.some.injEq] at e
          subst e
          exact hno 45 rfl rfl
      have hr := readNum_pos (d := d) hh
      refine bc_beq (fun h => ?_) (fun h => ?_)
      · rw [hr, if_pos (by omega)]
      · rw [if_neg (by omega)] at hr
        have e1 : IntKind.wrap .i64 ((l.length : Int) - 0) = (l.length : Int) := by rw [w64 (by omega) (by omega)]; omega
        simp only [e1]
        refine bc_dec (fun h2 => ?_) (fun h2 => ?_)
        · rw [hr, if_pos (by omega)]
        · rw [if_neg (by omega)] at hr
          cases l with
          | nil => simp at h
          | cons b r =>
            rw [byte1 (l := b :: r) (i := 0) (b := b) rfl]
            have go : ¬ ((b :: r).head? = some 48 ∧ 1 < (b :: r).length) → ∃ x, inv x ∧ st x = zNu1 (bs (b :: r)) 0 0 0 := by
              intro hc
              rw [if_neg hc] at hr
              exact ⟨(0, 0), ⟨by decide, Nat.le_refl _, Nat.zero_le _, by show _ ≤ d + 0; omega, rfl, hr⟩, rfl⟩
            refine bc_beq (fun h3 => ?_) (fun h3 => ?_)
            · have hb : b = 48 := u8_eq (c := 48) h3
              refine bc_dec (fun h4 => ?_) (fun h4 => go (by omega))
              rw [hr, if_pos ⟨by rw [hb]; rfl, by omega⟩]
            · exact go (fun ⟨e, _⟩ => h3 (by simp only [List.head?_cons, Option.some.injEq] at e; rw [e]; rfl))
    refine bc_dec (fun h => ?_) (fun h => ?_)
    · cases l with
      | nil => simp at h
      | cons b r =>
        rw [byte1 (l := b :: r) (i := 0) (b := b) rfl]
        refine bc_beq (fun h45 => ?_) (fun h45 => pos ?_)
        · obtain rfl : b = 45 := u8_eq (c := 45) h45
          have hr := readNum_neg (d := d) (r := r)
          simp only [List.length_cons] at hl ⊢
          refine bc_beq (fun h1 => ?_) (fun h1 => ?_)
          · rw [hr, if_pos (by omega)]
          · rw [if_neg (by omega)] at hr
            have e1 : IntKind.wrap .i64 (((r.length + 1 : Nat) : Int) - 1) = (r.length : Int) := by rw [w64 (by omega) (by omega)]; omega
            simp only [e1]
            refine bc_dec (fun h2 => ?_) (fun h2 => ?_)
            · rw [hr, if_pos (by omega)]
            · rw [if_neg (by omega)] at hr
              cases r with
              | nil => simp at h1
              | cons c r =>
                rw [byte1 (l := 45 :: c :: r) (i := 1) (b := c) rfl]
                refine bc_beq (fun h3 => ?_) (fun h3 => ?_)
                · have hc : c = 48 := u8_eq (c := 48) h3
                  refine bc_yes (by simp only [List.length_cons]; omega) ?_
                  rw [hr, if_pos (by rw [hc]; rfl)]
                · rw [if_neg (fun e => h3 (by simp only [List.head?_cons, Option.some.injEq] at e; rw [e]; rfl))] at hr
                  refine ⟨(1, 1), ⟨by decide, Nat.le_refl _, by simp, by simp only [List.length_cons] at h2 ⊢; omega, rfl, hr⟩, rfl⟩
        · intro b' hb' e
          obtain rfl : b = b' := by simpa using hb'
          exact h45 (by omega)
    · exact pos (fun b hb => by
        have := (List.getElem?_eq_some_iff.1 hb).1
        omega)
  · obtain rfl := List.mem_singleton.1 hid
    refine ⟨Nat × Nat, st, inv, fun x => l.length - x.2, ⟨fun s b h => h, by kernel_rfl, ?_⟩⟩
    rintro ⟨a, i⟩ ⟨ha, hai, hil, hld, hall, hr⟩
    simp only at ha hai hil hld hall hr
    show rNu1 _ _ (bs l) a (numF 0 ((l.drop a).take (i - a))) i _ _ _
    rw [rNu1_text]
    simp only [bs_size]
    have hn := numF_ge _ 0 (by decide) hall
    have hlen : ((l.drop a).take (i - a)).length = i - a := by simp; omega
    rw [hlen] at hn
    refine bc_dec (fun h => ?_) (fun h => ?_)
    · have hi : i < l.length := by omega
      have fail : isDig l[i] = false → [dI 0, dB false] = [dI (readNum d l).1, dB (readNum d l).2] := by
        intro hb
        have hg : (l.drop a)[i - a]? = some l[i] := by rw [List.getElem?_drop, show a + (i - a) = i by omega, List.getElem?_eq_getElem hi]
        rw [hr]; unfold rdT; rw [not_all hg hb]; rfl
      have hp := pow_le (k := i - a) (by omega)
      simp only [bc_t (show (0 : Int) ≤ (i : Int) by omega), Int.toNat_natCast, byte1 (List.getElem?_eq_getElem hi), wi1 hi (by omega)]
      refine bc_dec (fun hb => fail (isDig_no (by omega))) (fun hb => ?_)
      refine bc_dec (fun hb2 => fail (isDig_no (by omega))) (fun hb2 => ?_)
      have hdig : isDig l[i] = true := by unfold isDig; rw [decide_eq_true (by omega), decide_eq_true (by omega)]; rfl
      refine ⟨(a, i + 1), ⟨ha, by show a ≤ i + 1; omega, hi, hld, by show ((l.drop a).take (i + 1 - a)).all isDig = true; rw [take_snoc hai hi, List.all_append, hall]; simp [hdig], hr⟩, by show l.length - (i + 1) < l.length - i; omega, ?_⟩
      show zNu1 (bs l) a (numF 0 ((l.drop a).take (i + 1 - a))) ((i + 1 : Nat) : Int) = _
      rw [take_snoc hai hi, numF_append, numF_cons, numF_nil, byte48 (by omega) (by omega), w64 (z := 10 * _) (by omega) (by omega), w64 (by omega) (by omega)]
    · have hi : i = l.length := by omega
      subst hi
      show nNu2 _ _ a _ _
      rw [nNu2_text]
      have ht : (l.drop a).take (l.length - a) = l.drop a := List.take_of_length_le (by simp)
      rw [ht] at hall hn ⊢
      have hp : (10 : Int) ^ (l.length - a) ≤ 1000000000000000000 := by
        have := pow10_le (k := l.length - a) (d := 18) (by omega)
        rw [p18] at this; exact this
      rw [hr]
      unfold rdT
      rw [if_pos hall]
      refine bc_beq (fun h1 => ?_) (fun h1 => ?_)
      · rw [if_pos (by omega), w64 (by omega) (by omega), Int.zero_sub]
      · rw [if_neg (by omega)]
end Go.Proofs.G5v
