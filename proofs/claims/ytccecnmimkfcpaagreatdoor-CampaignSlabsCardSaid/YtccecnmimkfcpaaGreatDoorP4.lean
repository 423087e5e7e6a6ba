/- Texts of the proof, put together: AbsTab, AbsPairs, AbsGood, GStr, GStr2, AbsStr, GtS0r, GtSK0r, AbsFrameD, AbsXD, AbsFrame, AbsState, AbsX, GtST. -/
import Derived.Test.YtccecnmimkfcpaaGreatDoorP3
import Derived.Test.YtccecnmimkfcpaaGreatDoorP2
import Derived.Lib.LaidTab
import Derived.Lib.ItoaNum
import Derived.Lib.Join
import Derived.Lib.Split
import Derived.Lib.IndexMore
import Derived.Lib.Strings
import Derived.Lib.Atoi
import Derived.Lib.ItoaLen
import Derived.KernelRfl
import Derived.Test.YtccecnmimkfcpaaGreatDoorCards
import Derived.Test.YtccecnmimkfcpaaGreatDoorTie
import Derived.Handed
import Derived.JoinedCond
import Derived.Deep.DeepHandedRow
import Derived.WalkKit
import Derived.Stop.LaidErr
import Derived.Test.YtccecnmimkfcpaaGreatDoorProg
/- The evaluator with a table: calls whose outcome on some data is known are not entered. -/
namespace Go.Abs
open Go.RowKit
variable {P : Program} {ρ : Ren} {w0 : Start P} {w : World} {H : Heap}

/-! ### Data of values, computed -/
def readCO (H : Heap) : List Value → Option (List D)
  | [] => some []
  | v :: r =>
    match v with
    | .slice none 0 0 => (readCO H r).map (.nil :: ·)
    | .slice (some ⟨i, o, none⟩) len _ =>
      match H.get i with
      | some (.sym cs _ es) => if o + len * es ≤ cs.length then (readCO H r).map (.sl len es ((cs.drop o).take (len * es)) :: ·) else none
      | some (.cells cs _ _ es) => if o + len * es ≤ cs.length then (if ((cs.drop o).take (len * es)).all cellP then (readCO H r).map (.sl len es ((cs.drop o).take (len * es)) :: ·) else none) else none
      | _ => none
    | v => if plain 8 v then (readCO H r).map (.val v :: ·) else none
def readVO (H : Heap) : List Value → Option (List D)
  | [] => some []
  | .agg cs :: r => (readCO H cs.toList).bind fun ds => (readVO H r).map (.agg ds :: ·)
  | v :: r => (readCO H [v]).bind fun ds => (readVO H r).map (ds ++ ·)
theorem readCO_ok : ∀ {l : List Value} {ds : List D}, readCO H l = some ds → ∀ k : List D → Prop, k ds → readCells H l k
  | [], ds, h, k, hk => by
    simp only [readCO, Option.some.injEq] at h; subst h; exact hk
  | v :: r, ds, h, k, hk => by
    unfold readCO at h
    unfold readCells
    split at h
    · obtain ⟨x, hx, rfl⟩ := Option.map_eq_some_iff.1 h
      exact readCO_ok hx _ hk
    · simp only
      split at h
      · rename_i hg
        simp only [hg]
        split at h
        · rename_i hle
          obtain ⟨x, hx, rfl⟩ := Option.map_eq_some_iff.1 h
          exact bcase_intro (fun _ => readCO_ok hx _ hk) (fun hf => absurd hle (of_decide_eq_false hf))
        · cases h
      · rename_i hg
        simp only [hg]
        split at h
        · rename_i hle
          split at h
          · rename_i hall
            obtain ⟨x, hx, rfl⟩ := Option.map_eq_some_iff.1 h
            exact bcase_intro (fun _ => bcase_intro (fun _ => readCO_ok hx _ hk) (fun hf => by rw [hall] at hf; cases hf)) (fun hf => absurd hle (of_decide_eq_false hf))
          · cases h
        · cases h
      · cases h
    · rename_i h1 h2
      split
      · exact absurd rfl h1
      · exact absurd rfl (h2 _ _ _ _)
      · split at h
        · rename_i hp
          obtain ⟨x, hx, rfl⟩ := Option.map_eq_some_iff.1 h
          rw [if_pos hp]
          exact readCO_ok hx _ hk
        · cases h
theorem readVO_ok : ∀ {l : List Value} {ds : List D}, readVO H l = some ds → ∀ k : List D → Prop, k ds → readVals H l k
  | [], ds, h, k, hk => by
    simp only [readVO, Option.some.injEq] at h; subst h; exact hk
  | v :: r, ds, h, k, hk => by
    unfold readVO at h
    unfold readVals
    split at h
    · rename_i e; cases e
    · rename_i e; cases e
      obtain ⟨x, hx, h⟩ := Option.bind_eq_some_iff.1 h
      obtain ⟨y, hy, rfl⟩ := Option.map_eq_some_iff.1 h
      exact readCO_ok hx _ (readVO_ok hy _ hk)
    · rename_i h1 e; cases e
      obtain ⟨x, hx, h⟩ := Option.bind_eq_some_iff.1 h
      obtain ⟨y, hy, rfl⟩ := Option.map_eq_some_iff.1 h
      split
      · rename_i e; cases e
      · rename_i e; cases e; exact absurd rfl (h1 _)
      · rename_i e; cases e
        exact readCO_ok hx _ (readVO_ok hy _ hk)

/-! ### Data laid, computed -/
def layCO : List D → Heap → Option (List Value × Heap)
  | [], H => some ([], H)
  | .nil :: r, H => (layCO r H).map fun x => (.slice none 0 0 :: x.1, x.2)
  | .sl n es cs :: r, H => (layCO r (H.new (.sym cs true es))).map fun x => (.slice (some ⟨H.next, 0, none⟩) n n :: x.1, x.2)
  | .val v :: r, H => match v with
    | .agg _ => none
    | v => (layCO r H).map fun x => (v :: x.1, x.2)
  | .agg _ :: _, _ => none
def layVO : List D → Heap → Option (List Value × Heap)
  | [], H => some ([], H)
  | .agg ds :: r, H => (layCO ds H).bind fun x => (layVO r x.2).map fun y => (.agg x.1.toArray :: y.1, y.2)
  | d :: r, H => (layCO [d] H).bind fun x => match x.1 with
    | [v] => (layVO r x.2).map fun y => (v :: y.1, y.2)
    | _ => none
theorem layCO_ok : ∀ {ds : List D} {H : Heap} {x : List Value × Heap}, layCO ds H = some x → ∀ k : List Value → Heap → Prop, k x.1 x.2 → layC ds H k
  | [], H, x, h, k, hk => by
    simp only [layCO, Option.some.injEq] at h; subst h; exact hk
  | .nil :: r, H, x, h, k, hk => by
    obtain ⟨y, hy, rfl⟩ := Option.map_eq_some_iff.1 h
    exact layCO_ok hy _ hk
  | .sl n es cs :: r, H, x, h, k, hk => by
    obtain ⟨y, hy, rfl⟩ := Option.map_eq_some_iff.1 h
    exact layCO_ok hy _ hk
  | .val v :: r, H, x, h, k, hk => by
    unfold layCO at h
    unfold layC
    split at h
    · cases h
    · rename_i hv
      obtain ⟨y, hy, rfl⟩ := Option.map_eq_some_iff.1 h
      first
        | exact layCO_ok hy _ hk
        | (split
           · exact absurd rfl (hv _)
           · exact layCO_ok hy _ hk)
  | .agg _ :: _, H, x, h, k, hk => by cases h
theorem layVO_ok : ∀ {ds : List D} {H : Heap} {x : List Value × Heap}, layVO ds H = some x → ∀ k : List Value → Heap → Prop, k x.1 x.2 → layV ds H k
  | [], H, x, h, k, hk => by
    simp only [layVO, Option.some.injEq] at h; subst h; exact hk
  | d :: r, H, x, h, k, hk => by
    unfold layVO at h
    unfold layV
    split at h
    · rename_i e; cases e
    · rename_i e; cases e
      obtain ⟨y, hy, h⟩ := Option.bind_eq_some_iff.1 h
      obtain ⟨z, hz, rfl⟩ := Option.map_eq_some_iff.1 h
      exact layCO_ok hy _ (layVO_ok hz _ hk)
    · rename_i h1 e; cases e
      obtain ⟨y, hy, h⟩ := Option.bind_eq_some_iff.1 h
      split at h
      · rename_i he
        obtain ⟨z, hz, rfl⟩ := Option.map_eq_some_iff.1 h
        split
        · rename_i e; cases e
        · rename_i e; cases e; exact absurd rfl (h1 _)
        · rename_i e; cases e
          refine layCO_ok hy _ ?_
          simp only [he]
          exact layVO_ok hz _ hk
      · cases h

/-! ### Data given, computed -/
def giveCO (H : Heap) : List Nat → List Value → Option (List Nat × List D)
  | used, [] => some (used, [])
  | used, v :: r =>
    match v with
    | .slice none 0 0 => (giveCO H used r).map fun x => (x.1, .nil :: x.2)
    | .slice (some ⟨i, 0, none⟩) len cap =>
      if gbase ≤ i ∧ used.contains i = false then
        match H.get i with
        | some (.sym cs true es) => if len = cap ∧ cs.length = len * es then (giveCO H (i :: used) r).map fun x => (x.1, .sl len es cs :: x.2) else none
        | some (.cells cs _ _ es) => if len = cap ∧ cs.length = len * es then (if cs.all cellP then (giveCO H (i :: used) r).map fun x => (x.1, .sl len es cs :: x.2) else none) else none
        | _ => none
      else none
    | v => if plain 8 v then (giveCO H used r).map fun x => (x.1, .val v :: x.2) else none
def giveVO (H : Heap) : List Nat → List Value → Option (List D)
  | _, [] => some []
  | used, .agg cs :: r => (giveCO H used cs.toList).bind fun x => (giveVO H x.1 r).map (.agg x.2 :: ·)
  | used, v :: r => (giveCO H used [v]).bind fun x => (giveVO H x.1 r).map (x.2 ++ ·)
def giveO (v : Value) (H : Heap) : Option (List D) :=
  match v with
  | .tuple vs => if vs.size = 1 then none else giveVO H [] vs.toList
  | v => giveVO H [] [v]
theorem giveCO_ok : ∀ {l : List Value} {used : List Nat} {x : List Nat × List D}, giveCO H used l = some x → ∀ k : List Nat → List D → Prop, k x.1 x.2 → giveCells H used l k
  | [], used, x, h, k, hk => by
    simp only [giveCO, Option.some.injEq] at h; subst h; exact hk
  | v :: r, used, x, h, k, hk => by
    unfold giveCO at h
    unfold giveCells
    split at h
    · obtain ⟨y, hy, rfl⟩ := Option.map_eq_some_iff.1 h
      exact giveCO_ok hy _ hk
    · simp only
      split at h
      · rename_i hc
        rw [if_pos hc]
        split at h
        · rename_i hg
          simp only [hg]
          split at h
          · rename_i hl
            obtain ⟨y, hy, rfl⟩ := Option.map_eq_some_iff.1 h
            exact ⟨hl, giveCO_ok hy _ hk⟩
          · cases h
        · rename_i hg
          simp only [hg]
          split at h
          · rename_i hl
            split at h
            · rename_i hall
              obtain ⟨y, hy, rfl⟩ := Option.map_eq_some_iff.1 h
              exact ⟨hl, bcase_intro (fun _ => giveCO_ok hy _ hk) (fun hf => by rw [hall] at hf; cases hf)⟩
            · cases h
          · cases h
        · cases h
      · cases h
    · rename_i h1 h2
      split
      · exact absurd rfl h1
      · exact absurd rfl (h2 _ _ _)
      · split at h
        · rename_i hp
          obtain ⟨y, hy, rfl⟩ := Option.map_eq_some_iff.1 h
          rw [if_pos hp]
          exact giveCO_ok hy _ hk
        · cases h
theorem giveVO_ok : ∀ {l : List Value} {used : List Nat} {ds : List D}, giveVO H used l = some ds → ∀ k : List D → Prop, k ds → giveVals H used l k
  | [], used, ds, h, k, hk => by
    simp only [giveVO, Option.some.injEq] at h; subst h; exact hk
  | v :: r, used, ds, h, k, hk => by
    unfold giveVO at h
    unfold giveVals
    split at h
    · rename_i e; cases e
    · rename_i e; cases e
      obtain ⟨x, hx, h⟩ := Option.bind_eq_some_iff.1 h
      obtain ⟨y, hy, rfl⟩ := Option.map_eq_some_iff.1 h
      exact giveCO_ok hx _ (giveVO_ok hy _ hk)
    · rename_i h1 e; cases e
      obtain ⟨x, hx, h⟩ := Option.bind_eq_some_iff.1 h
      obtain ⟨y, hy, rfl⟩ := Option.map_eq_some_iff.1 h
      split
      · rename_i e; cases e
      · rename_i e; cases e; exact absurd rfl (h1 _)
      · rename_i e; cases e
        exact giveCO_ok hx _ (giveVO_ok hy _ hk)
theorem giveO_ok {v : Value} {ds : List D} (h : giveO v H = some ds) : dataK (· = ds) v H := by
  unfold giveO at h
  unfold dataK
  split at h
  · split at h
    · cases h
    · rename_i hs
      simp only [if_neg hs]
      exact giveVO_ok h _ rfl
  · rename_i hn
    split
    · exact absurd rfl (hn _)
    · exact giveVO_ok h _ rfl

/-! ### Data compared -/
def cEq : Value → Value → Bool
  | .int j a, .int k b => j == k && a == b
  | .bool a, .bool b => a == b
  | .string a, .string b => a.data.toList == b.data.toList
  | _, _ => false
def csEq : List Value → List Value → Bool
  | [], [] => true
  | a :: xs, b :: bs => cEq a b && csEq xs bs
  | _, _ => false
def d1Eq : D → D → Bool
  | .nil, .nil => true
  | .val a, .val b => cEq a b
  | .sl n es cs, .sl m fs bs => n == m && es == fs && csEq cs bs
  | _, _ => false
def d2Eq : List D → List D → Bool
  | [], [] => true
  | a :: xs, b :: bs => d1Eq a b && d2Eq xs bs
  | _, _ => false
def dEq : D → D → Bool
  | .agg a, .agg b => d2Eq a b
  | a, b => d1Eq a b
def dsEq : List D → List D → Bool
  | [], [] => true
  | a :: xs, b :: bs => dEq a b && dsEq xs bs
  | _, _ => false
theorem cEq_ok : ∀ {a b : Value}, cEq a b = true → a = b := by
  intro a b h
  unfold cEq at h
  split at h
  · simp only [Bool.and_eq_true, beq_iff_eq] at h; rw [h.1, h.2]
  · rw [eq_of_beq h]
  · rename_i x y
    have e := eq_of_beq h
    obtain ⟨x⟩ := x
    obtain ⟨y⟩ := y
    have : x = y := Array.ext' e
    rw [this]
  · cases h
theorem csEq_ok : ∀ {a b : List Value}, csEq a b = true → a = b
  | [], [], _ => rfl
  | a :: xs, b :: bs, h => by
    simp only [csEq, Bool.and_eq_true] at h
    rw [cEq_ok h.1, csEq_ok h.2]
  | [], _ :: _, h => by cases h
  | _ :: _, [], h => by cases h
theorem d1Eq_ok {a b : D} (h : d1Eq a b = true) : a = b := by
  unfold d1Eq at h
  split at h
  · rfl
  · rw [cEq_ok h]
  · simp only [Bool.and_eq_true, beq_iff_eq] at h
    rw [h.1.1, h.1.2, csEq_ok h.2]
  · cases h
theorem d2Eq_ok : ∀ {a b : List D}, d2Eq a b = true → a = b
  | [], [], _ => rfl
  | a :: xs, b :: bs, h => by
    simp only [d2Eq, Bool.and_eq_true] at h
    rw [d1Eq_ok h.1, d2Eq_ok h.2]
  | [], _ :: _, h => by cases h
  | _ :: _, [], h => by cases h
theorem dEq_ok {a b : D} (h : dEq a b = true) : a = b := by
  unfold dEq at h
  split at h
  · rw [d2Eq_ok h]
  · exact d1Eq_ok h
theorem dsEq_ok : ∀ {a b : List D}, dsEq a b = true → a = b
  | [], [], _ => rfl
  | a :: xs, b :: bs, h => by
    simp only [dsEq, Bool.and_eq_true] at h
    rw [dEq_ok h.1, dsEq_ok h.2]
  | [], _ :: _, h => by cases h
  | _ :: _, [], h => by cases h

/-! ### The evaluator with a table -/
abbrev Tab := FuncId → Option (List D → Option (List D))
def tabCall (t : List D → Option (List D)) (args : Array Value) (H : Heap) : Option (Value × Heap) :=
  (readVO H args.toList).bind fun ds => (t ds).bind fun rs => (layVO rs H).map fun x => (tupleOf x.1, x.2)
def evalT (P : Program) (tab : Tab) : Nat → Self
  | 0 => ⟨fun _ _ _ => none, fun _ _ _ _ => none⟩
  | n + 1 => ⟨fun f args H => match tab f with | none => callBody P (evalT P tab n) f args H | some t => tabCall t args H, fun round c A H => codeA P (evalT P tab n) round c A H⟩
def TabOK (P : Program) (tab : Tab) : Prop := ∀ f t, tab f = some t → ∀ ds rs, t ds = some rs → Con P f ds rs
theorem tabCall_sound {f : FuncId} {t : List D → Option (List D)} (ht : ∀ ds rs, t ds = some rs → Con P f ds rs) {args : Array Value} {v : Value} {H' : Heap} (h : tabCall t args H = some (v, H')) : CallH P f args H (fun u K => u = v ∧ K = H') := by
  obtain ⟨ds, h1, h⟩ := Option.bind_eq_some_iff.1 h
  obtain ⟨rs, h2, h⟩ := Option.bind_eq_some_iff.1 h
  obtain ⟨x, h3, h⟩ := Option.map_eq_some_iff.1 h
  simp only [Prod.mk.injEq] at h
  obtain ⟨rfl, rfl⟩ := h
  refine wpFix_call (C := fun g ds rs => g = f ∧ t ds = some rs ∨ Con P g ds rs) (fun g ds rs hc => ?_) (fix := t) ?_
  · rcases hc with ⟨rfl, hm⟩ | hc
    · exact ht _ _ hm
    · exact hc
  · unfold wpFix
    refine readVO_ok h1 _ ?_
    simp only [h2]
    exact ⟨⟨.inl ⟨rfl, h2⟩⟩, layVO_ok h3 _ ⟨rfl, rfl⟩⟩
theorem evalT_sound {tab : Tab} (htab : TabOK P tab) (hmix : P.follows .mixedOrders = true) : ∀ n, SelfS P w0 (evalT P tab n)
  | 0 => ⟨fun n _ _ h => by simp [evalT] at h, fun n _ _ _ h => by simp [evalT] at h, fun n _ _ _ h => by simp [evalT] at h⟩
  | k + 1 => ⟨fun {ρ H w f args args' v H'} n g ha h => by
      simp only [evalT] at h
      split at h
      · exact callBody_sound (evalT_sound htab hmix k) g n ha h
      · rename_i t ht
        refine (tabCall_sound (htab f t ht) h w0 ρ w args' n g ha).mono ?_
        rintro e w' ⟨u, K, ρ', v', ⟨rfl, rfl⟩, h1, h2, h3, h4⟩
        exact ⟨ρ', v', h1, h2, h3, h4⟩, fun n g rr ra h => codeA_sound (evalT_sound htab hmix k) hmix n _ g rr ra h,
      fun n g rr ra h => loopIn_once (loop_body (evalT_sound htab hmix k) n _ (fun g rr ra h => codeA_sound (evalT_sound htab hmix k) hmix n _ g rr ra h) g rr ra h)⟩
/-- A call of known data is run. -/
def runOK (P : Program) (tab : Tab) (n : Nat) (f : FuncId) (ds rs : List D) (caps : Nat → Nat) : Bool :=
  match (evalT P tab n).call f (layVals caps 500 ds).1.toArray (heapOf (layVals caps 500 ds).2) with
  | some (v, H) => (match giveO v H with | some rs' => dsEq rs' rs | none => false)
  | none => false
theorem con_run {tab : Tab} (htab : TabOK P tab) (hmix : P.follows .mixedOrders = true) {n : Nat} {f : FuncId} {ds rs : List D} (hcount : countV ds ≤ 400) (h : ∀ caps, runOK P tab n f ds rs caps = true) : Con P f ds rs := by
  intro w args hgood hr
  obtain ⟨caps, ρ, hst, g, ha⟩ := lay_gam hgood hr hcount
  have h := h caps
  unfold runOK at h
  split at h
  · rename_i v H hc
    split at h
    · rename_i rs' hg
      have e := dsEq_ok h
      subst e
      refine callsIn_wide.1 (((evalT_sound htab hmix n).call 0 g (by simpa using ha) hc).mono ?_)
      rintro e w' ⟨ρ', v', rfl, hv, g', ext'⟩
      obtain ⟨vs, ds', u, rfl, h1, rfl⟩ := dataK_out g' hv (giveO_ok hg)
      exact ⟨⟨vs, u, rfl, h1⟩, g'.below.below hst⟩
    · cases h
  · cases h
end Go.Abs

/- Pairs of whole numbers as cells. -/
namespace Go.Abs
theorem bc_t {p : Prop} [Decidable p] {x y : Prop} (h : p) : bcase (decide p) x y = x := by rw [decide_eq_true h]; rfl
theorem bc_f {p : Prop} [Decidable p] {x y : Prop} (h : ¬ p) : bcase (decide p) x y = y := by rw [decide_eq_false h]; rfl
/-- pairs of whole numbers as cells -/
def vp : List (Int × Int) → List Value
  | [] => []
  | p :: r => .int .i64 p.1 :: .int .i64 p.2 :: vp r
@[simp] theorem vp_length : ∀ l : List (Int × Int), (vp l).length = l.length * 2
  | [] => rfl
  | p :: r => by simp only [vp, List.length_cons, vp_length r]; omega
/-- what is loaded is what is there -/
theorem at1 {l : List Value} {k : Nat} {a : Int} (h : At l k 1 [.int .i64 a]) {Q : Int → Prop} : (∃ n : Int, At l k 1 [.int .i64 n] ∧ Q n) = Q a := by
  apply propext
  constructor
  · rintro ⟨n, hn, hq⟩
    have e := hn.eq.symm.trans h.eq
    simp only [List.cons.injEq, Value.int.injEq, true_and, and_true] at e
    rw [← e]; exact hq
  · intro hq; exact ⟨a, h, hq⟩
abbrev dI (n : Int) : D := .val (.int .i64 n)
end Go.Abs

/- What a good world's variables hold, as the library's contracts ask it. -/
namespace Go.Abs
variable {P : Program} {w : World}
theorem mem_vars {name : String} {k : VarKind} {g : Nat} (hm : (name, k) ∈ wantedVars) (hg : P.globalNamed name = some g) : (g, k) ∈ varsOf P :=
  List.mem_filterMap.2 ⟨(name, k), hm, by simp [hg]⟩
theorem good_pow10 (h : GoodW P w) {g : Nat} (hg : P.globalNamed "internal/strconv.uint64pow10" = some g) : Lib.TabIs P w "internal/strconv.uint64pow10" .u64 Lib.pow10Tab := by
  obtain ⟨ty, fz, e⟩ := h _ (mem_vars (k := .tab .u64 pow10s) (by simp [wantedVars]) hg)
  simp only at e
  unfold Lib.TabIs World.var?
  rw [hg]
  simp only [Option.bind_some, e]
  rfl
theorem good_int (h : GoodW P w) {name : String} {g : Nat} (hm : (name, VarKind.int) ∈ wantedVars) (hg : P.globalNamed name = some g) : ∃ n, w.cell? ⟨g, 0, none⟩ = some (.int .i64 n) := by
  obtain ⟨c, ty, fz, n, e, hc⟩ := h _ (mem_vars hm hg)
  simp only at e
  exact ⟨n, by simp [World.cell?, e, hc]⟩
end Go.Abs

/- Strings as lists of bytes: pieces between separators, decimal numbers. -/
namespace Go.Str

/-- The string of a list of bytes. -/
abbrev bs (l : List UInt8) : ByteArray := ⟨l.toArray⟩
theorem bs_data (s : ByteArray) : bs s.data.toList = s := by cases s; simp [bs]
theorem data_bs (l : List UInt8) : (bs l).data.toList = l := by simp
theorem bs_size (l : List UInt8) : (bs l).size = l.length := by simp [ByteArray.size]
theorem bs_append (a b : List UInt8) : bs a ++ bs b = bs (a ++ b) := by
  apply ByteArray.ext
  simp [bs]
theorem bs_extract (l : List UInt8) (i j : Nat) : (bs l).extract i j = bs ((l.drop i).take (j - i)) := by
  have h := Lib.extract_data (bs l) i j
  rw [data_bs] at h
  rw [← bs_data ((bs l).extract i j), h]
theorem bs_get (l : List UInt8) (i : Nat) : (bs l)[i]? = l[i]? := by
  show (if h : i < (bs l).size then some ((bs l)[i]'h) else none) = _
  by_cases h : i < (bs l).size
  · rw [dif_pos h]
    have h2 : i < l.length := by rw [bs_size] at h; exact h
    rw [List.getElem?_eq_getElem h2]
    rfl
  · rw [dif_neg h]
    rw [bs_size] at h
    rw [List.getElem?_eq_none (by omega)]

/-! ### Pieces between separators -/
def cutA (c : UInt8) : List UInt8 → List UInt8 → List (List UInt8)
  | acc, [] => [acc]
  | acc, b :: r => if b = c then acc :: cutA c [] r else cutA c (acc ++ [b]) r
theorem cutA_miss {c : UInt8} : ∀ {l acc : List UInt8}, c ∉ l → cutA c acc l = [acc ++ l]
  | [], acc, _ => by simp [cutA]
  | b :: r, acc, h => by
    have h1 : ¬ b = c := fun e => h (by simp [e])
    rw [cutA, if_neg h1, cutA_miss (fun hm => h (List.mem_cons_of_mem _ hm))]
    simp
theorem cutA_hit {c : UInt8} : ∀ {a r acc : List UInt8}, c ∉ a → cutA c acc (a ++ c :: r) = (acc ++ a) :: cutA c [] r
  | [], r, acc, _ => by simp [cutA]
  | b :: a, r, acc, h => by
    have h1 : ¬ b = c := fun e => h (by simp [e])
    rw [List.cons_append, cutA, if_neg h1, cutA_hit (fun hm => h (List.mem_cons_of_mem _ hm))]
    simp
theorem cutA_ne {c : UInt8} : ∀ {l acc : List UInt8}, cutA c acc l ≠ []
  | [], acc => by simp [cutA]
  | b :: r, acc => by
    rw [cutA]; split
    · simp
    · exact cutA_ne
theorem cutA_le {c : UInt8} : ∀ {l acc : List UInt8}, ∀ x ∈ cutA c acc l, x.length ≤ acc.length + l.length
  | [], acc, x, hx => by simp [cutA] at hx; rw [hx]; simp
  | b :: r, acc, x, hx => by
    rw [cutA] at hx; split at hx
    · rcases List.mem_cons.1 hx with rfl | hx
      · omega
      · have := cutA_le x hx; simp at this ⊢; omega
    · have := cutA_le x hx; simp at this ⊢; omega
/-- the pieces of a joined list -/
theorem cutA_join {c : UInt8} : ∀ {xs : List (List UInt8)}, xs ≠ [] → (∀ x ∈ xs, c ∉ x) → cutA c [] (Lib.join xs [c]) = xs
  | [], h, _ => absurd rfl h
  | [x], _, h => by rw [Lib.join_one, cutA_miss (h x (by simp))]; simp
  | x :: y :: r, _, h => by
    have e : Lib.join (x :: y :: r) [c] = x ++ c :: Lib.join (y :: r) [c] := by
      rw [Lib.join_cons, Lib.join_cons]; simp [Lib.joinTail]
    rw [e, cutA_hit (h x (by simp)), cutA_join (by simp) (fun z hz => h z (List.mem_cons_of_mem _ hz))]
    simp
/-- a list that is joined is whole again -/
theorem join_snoc {c : UInt8} : ∀ {xs : List (List UInt8)} {y : List UInt8}, xs ≠ [] → Lib.join (xs ++ [y]) [c] = Lib.join xs [c] ++ c :: y
  | [], y, h => absurd rfl h
  | x :: r, y, _ => by rw [List.cons_append, Lib.join_cons, Lib.join_cons]; simp [Lib.joinTail]
/-- where a byte is found -/
theorem index_cases (l : List UInt8) (c : UInt8) : (Lib.index l [c] = -1 ∧ c ∉ l) ∨ ∃ a r, l = a ++ c :: r ∧ c ∉ a ∧ Lib.index l [c] = (a.length : Nat) := by
  rw [Lib.index_one]
  induction l with
  | nil => exact .inl ⟨rfl, by simp⟩
  | cons b l ih =>
    by_cases hb : b = c
    · subst hb
      exact .inr ⟨[], l, rfl, by simp, by simp [Lib.indexByte]⟩
    · rcases ih with ⟨h1, h2⟩ | ⟨a, r, rfl, h2, h3⟩
      · exact .inl ⟨by simp [Lib.indexByte, hb, h1], by simp [h2]; exact fun e => hb e.symm⟩
      · refine .inr ⟨b :: a, r, rfl, by simp [h2]; exact fun e => hb e.symm, ?_⟩
        have h4 : ((a.length : Int) == -1) = false := by rw [beq_eq_false_iff_ne]; omega
        simp only [Lib.indexByte, h3, beq_iff_eq, hb, if_false, h4, Bool.false_eq_true, List.length_cons]
        simp
/-- strings.Split at one byte -/
theorem split_one (c : UInt8) : ∀ (n : Nat) (l : List UInt8), l.length ≤ n → (Lib.splitB (bs [c]) 0 (Lib.countB (bs l) (bs [c])) (bs l)) = (cutA c [] l).map bs := by
  intro n
  induction n with
  | zero =>
    intro l hl
    obtain rfl : l = [] := List.length_eq_zero_iff.1 (by omega)
    rw [Lib.countB_miss _ _ rfl]; rfl
  | succ n ih =>
    intro l hl
    rcases index_cases l c with ⟨h1, h2⟩ | ⟨a, r, rfl, h2, h3⟩
    · have h1' : Lib.indexB (bs l) (bs [c]) = -1 := by unfold Lib.indexB; simpa [bs] using h1
      rw [Lib.countB_miss _ _ h1', Lib.splitB_zero, cutA_miss h2]; simp
    · have h3' : Lib.indexB (bs (a ++ c :: r)) (bs [c]) = (a.length : Nat) := by unfold Lib.indexB; simpa [bs] using h3
      have hs : (bs [c]).size = 1 := by rw [bs_size]; rfl
      rw [Lib.countB_hit _ _ _ (by rw [hs]; decide) h3', Nat.add_comm, Lib.splitB_hit _ _ _ _ _ h3', cutA_hit h2]
      have e1 : (bs (a ++ c :: r)).extract 0 (a.length + 0) = bs a := by rw [bs_extract]; simp
      have e2 : (bs (a ++ c :: r)).extract (a.length + (bs [c]).size) (bs (a ++ c :: r)).size = bs r := by
        rw [bs_extract, hs, bs_size]
        congr 1
        have : (a ++ c :: r).drop (a.length + 1) = r := by
          rw [← List.drop_drop]; simp
        rw [this]
        simp only [List.length_append, List.length_cons]
        rw [show a.length + (r.length + 1) - (a.length + 1) = r.length by omega, List.take_length]
      rw [e1, e2, ih r (by simp at hl; omega)]
      simp
/-! ### Numbers -/
def isDig (b : UInt8) : Bool := decide (48 ≤ b.toNat) && decide (b.toNat ≤ 57)
/-- the number of some digits, behind others -/
def numF (n : Int) (l : List UInt8) : Int := l.foldl (fun n b => 10 * n + ((b.toNat : Int) - 48)) n
theorem numF_nil (n : Int) : numF n [] = n := rfl
theorem numF_cons (n : Int) (b : UInt8) (l : List UInt8) : numF n (b :: l) = numF (10 * n + ((b.toNat : Int) - 48)) l := rfl
theorem numF_append (n : Int) (a b : List UInt8) : numF n (a ++ b) = numF (numF n a) b := by simp [numF, List.foldl_append]
/-- so many digits at the most, no zero ahead of others -/
def okNum (d : Nat) (l : List UInt8) : Bool := decide (1 ≤ l.length) && decide (l.length ≤ d) && !(decide (1 < l.length) && l.head? == some 48) && l.all isDig
/-- a number that may have a sign: (0, false) if it is none -/
def readNum (d : Nat) (l : List UInt8) : Int × Bool :=
  match l with
  | 45 :: r => if decide (1 ≤ r.length) && decide (r.length ≤ d) && !(r.head? == some 48) && r.all isDig then (-(numF 0 r), true) else (0, false)
  | l => if okNum d l then (numF 0 l, true) else (0, false)
theorem numF_ge : ∀ (l : List UInt8) (n : Int), 0 ≤ n → l.all isDig = true → 0 ≤ numF n l ∧ numF n l < (n + 1) * 10 ^ l.length
  | [], n, h, _ => by simp [numF]; omega
  | b :: r, n, h, hd => by
    simp only [List.all_cons, Bool.and_eq_true, isDig, decide_eq_true_eq] at hd
    have := numF_ge r (10 * n + ((b.toNat : Int) - 48)) (by omega) hd.2
    rw [numF_cons]
    refine ⟨this.1, Int.lt_of_lt_of_le this.2 ?_⟩
    rw [List.length_cons, Int.pow_succ]
    have hp : (0 : Int) < 10 ^ r.length := Int.pow_pos (by decide)
    have : (10 * n + ((b.toNat : Int) - 48) + 1) * 10 ^ r.length ≤ (10 * (n + 1)) * 10 ^ r.length := Int.mul_le_mul_of_nonneg_right (by omega) (Int.le_of_lt hp)
    calc _ ≤ _ := this
      _ = _ := by rw [Int.mul_comm 10 (n + 1), Int.mul_assoc, Int.mul_comm 10]
end Go.Str

/- Decimal numerals against the numbers that they spell. -/
namespace Go.Str
abbrev dec (u : Nat) : List UInt8 := Lib.decDigits u
theorem dec_small {u : Nat} (h : u < 10) : dec u = [UInt8.ofNat (48 + u)] := by unfold dec; rw [Lib.decDigits, dif_pos h]
theorem dec_big {u : Nat} (h : ¬ u < 10) : dec u = dec (u / 10) ++ [UInt8.ofNat (48 + u % 10)] := by unfold dec; rw [Lib.decDigits, dif_neg h]
theorem dig_toNat {k : Nat} (h : k < 10) : (UInt8.ofNat (48 + k)).toNat = 48 + k := by
  rw [UInt8.toNat_ofNat']; omega
theorem dec_all : ∀ (n u : Nat), u ≤ n → (dec u).all isDig = true := by
  intro n
  induction n with
  | zero => intro u h; rw [dec_small (by omega)]; simp only [List.all_cons, List.all_nil, isDig, dig_toNat (by omega : u < 10), Bool.and_true, Bool.and_eq_true, decide_eq_true_eq]; omega
  | succ n ih =>
    intro u h
    by_cases hu : u < 10
    · rw [dec_small hu]; simp only [List.all_cons, List.all_nil, isDig, dig_toNat hu, Bool.and_true, Bool.and_eq_true, decide_eq_true_eq]; omega
    · rw [dec_big hu, List.all_append, ih _ (by omega)]
      simp only [List.all_cons, List.all_nil, isDig, dig_toNat (by omega : u % 10 < 10), Bool.and_true, Bool.true_and, Bool.and_eq_true, decide_eq_true_eq]; omega
theorem dec_num : ∀ (n u : Nat), u ≤ n → numF 0 (dec u) = u := by
  intro n
  induction n with
  | zero => intro u h; rw [dec_small (by omega), numF_cons, numF_nil, dig_toNat (by omega)]; omega
  | succ n ih =>
    intro u h
    by_cases hu : u < 10
    · rw [dec_small hu, numF_cons, numF_nil, dig_toNat hu]; omega
    · rw [dec_big hu, numF_append, ih _ (by omega), numF_cons, numF_nil, dig_toNat (by omega)]; omega
theorem dec_ne : ∀ (u : Nat), 1 ≤ (dec u).length := by
  intro u
  by_cases hu : u < 10
  · rw [dec_small hu]; simp
  · rw [dec_big hu]; simp
theorem dec_head : ∀ (n u : Nat), u ≤ n → 1 ≤ u → (dec u).head? ≠ some 48 := by
  intro n
  induction n with
  | zero => intro u h1 h2; omega
  | succ n ih =>
    intro u h h1
    by_cases hu : u < 10
    · rw [dec_small hu]
      intro e
      simp only [List.head?_cons, Option.some.injEq] at e
      have := congrArg UInt8.toNat e
      rw [dig_toNat hu] at this
      have h48 : (48 : UInt8).toNat = 48 := rfl
      omega
    · rw [dec_big hu]
      have := ih (u / 10) (by omega) (by omega)
      have hl := dec_ne (u / 10)
      cases hd : dec (u / 10) with
      | nil => rw [hd] at hl; simp at hl
      | cons b r => rw [hd] at this; simpa using this
theorem dec_len : ∀ (d u : Nat), 1 ≤ d → u < 10 ^ d → (dec u).length ≤ d := by
  intro d
  induction d with
  | zero => intro u h; omega
  | succ d ih =>
    intro u _ h
    by_cases hu : u < 10
    · rw [dec_small hu]; simp
    · rw [dec_big hu]
      rw [Nat.pow_succ] at h
      have hd : 1 ≤ d := by
        rcases Nat.eq_zero_or_pos d with rfl | h'
        · simp at h; omega
        · exact h'
      have := ih (u / 10) hd (by omega)
      simp; omega
theorem ten_le_of_len {u : Nat} (h : 1 < (dec u).length) : 10 ≤ u := by
  rcases Nat.lt_or_ge u 10 with hu | hu
  · rw [dec_small hu] at h; simp at h
  · exact hu
theorem okNum_dec {d u : Nat} (h : (dec u).length ≤ d) : okNum d (dec u) = true := by
  have h1 := dec_all u u (Nat.le_refl _)
  have h2 := dec_ne u
  unfold okNum
  rw [h1]
  simp only [Bool.and_eq_true, decide_eq_true_eq, Bool.not_eq_true', Bool.and_eq_false_iff, decide_eq_false_iff_not, and_true]
  refine ⟨⟨h2, h⟩, ?_⟩
  rcases Nat.lt_or_ge 1 (dec u).length with hl | hl
  · right
    have := dec_head u u (Nat.le_refl _) (by have := ten_le_of_len hl; omega)
    simpa using this
  · left; omega
theorem okNum_inv {d : Nat} {l : List UInt8} (h : okNum d l = true) : 1 ≤ l.length ∧ l.length ≤ d ∧ (1 < l.length → l.head? ≠ some 48) ∧ l.all isDig = true := by
  unfold okNum at h
  simp only [Bool.and_eq_true, decide_eq_true_eq, Bool.not_eq_true', Bool.and_eq_false_iff, decide_eq_false_iff_not, beq_eq_false_iff_ne, ne_eq] at h
  obtain ⟨⟨⟨h1, h2⟩, h3⟩, h4⟩ := h
  exact ⟨h1, h2, fun hl => by rcases h3 with h3 | h3; omega; exact h3, h4⟩
theorem isDig_ofNat {b : UInt8} (h : isDig b = true) {k : Nat} (hk : (k : Int) = (b.toNat : Int) - 48) : UInt8.ofNat (48 + k) = b := by
  simp only [isDig, Bool.and_eq_true, decide_eq_true_eq] at h
  rw [← UInt8.toNat_inj, dig_toNat (by omega)]; omega
/-- a numeral is the numeral of its number -/
theorem dec_numF : ∀ (n : Nat) (l : List UInt8), l.length ≤ n → 1 ≤ l.length → (1 < l.length → l.head? ≠ some 48) → l.all isDig = true → dec (numF 0 l).toNat = l ∧ (l.head? ≠ some 48 → 1 ≤ numF 0 l) ∧ 0 ≤ numF 0 l := by
  intro n
  induction n with
  | zero => intro l h1 h2; omega
  | succ n ih =>
    intro l h1 h2 h3 h4
    rcases List.eq_nil_or_concat l with rfl | ⟨a, b, rfl⟩
    · simp at h2
    · simp only [List.concat_eq_append] at h1 h2 h3 h4 ⊢
      rw [List.all_append, Bool.and_eq_true] at h4
      obtain ⟨h4, h5⟩ := h4
      have h5 : isDig b = true := by simpa using h5
      have hb := h5
      simp only [isDig, Bool.and_eq_true, decide_eq_true_eq] at hb
      rw [numF_append, numF_cons, numF_nil]
      cases a with
      | nil =>
        rw [numF_nil]
        simp only [List.nil_append]
        refine ⟨?_, ?_, by omega⟩
        · rw [dec_small (by omega), isDig_ofNat h5 (by omega)]
        · intro hne
          have : b.toNat ≠ 48 := fun e => hne (by
            have : b = 48 := by rw [← UInt8.toNat_inj, e]; rfl
            rw [this]; rfl)
          omega
      | cons c r =>
        have hh : (c :: r).head? ≠ some 48 := by
          have := h3 (by simp)
          simpa using this
        obtain ⟨e1, e2, e3⟩ := ih (c :: r) (by simp at h1 ⊢; omega) (by simp) (fun _ => hh) h4
        have e2 := e2 hh
        generalize hz : numF 0 (c :: r) = z at *
        refine ⟨?_, fun _ => by omega, by omega⟩
        rw [dec_big (by omega)]
        have k1 : (10 * z + ((b.toNat : Int) - 48)).toNat / 10 = z.toNat := by omega
        have k2 : (((10 * z + ((b.toNat : Int) - 48)).toNat % 10 : Nat) : Int) = (b.toNat : Int) - 48 := by omega
        rw [k1, e1, isDig_ofNat h5 k2]
theorem numF_pos {d : Nat} {l : List UInt8} (h : okNum d l = true) : 0 ≤ numF 0 l ∧ numF 0 l < 10 ^ d := by
  obtain ⟨_, h2, _, h4⟩ := okNum_inv h
  have := numF_ge l 0 (by decide) h4
  refine ⟨this.1, Int.lt_of_lt_of_le this.2 ?_⟩
  rw [Int.zero_add, Int.one_mul]
  exact_mod_cast Nat.pow_le_pow_right (by decide) h2
/-! ### strconv.Itoa, strconv.Atoi -/
theorem itoa_nn {n : Int} (h : 0 ≤ n) : Lib.itoa n = dec n.toNat := by unfold Lib.itoa; rw [if_neg (by omega)]
theorem itoa_ng {n : Int} (h : n < 0) : Lib.itoa n = 45 :: dec n.natAbs := by unfold Lib.itoa; rw [if_pos h]
theorem not_sign {b : UInt8} (h : isDig b = true) : (b == 45) = false ∧ (b == 43) = false := by
  simp only [isDig, Bool.and_eq_true, decide_eq_true_eq] at h
  constructor <;> rw [beq_eq_false_iff_ne] <;> rintro rfl
  · have : (45 : UInt8).toNat = 45 := rfl
    omega
  · have : (43 : UInt8).toNat = 43 := rfl
    omega
/-- what is read behind the sign -/
def rdT (neg : Nat) (l : List UInt8) : Int × Bool := if (l.drop neg).all isDig then ((if neg = 1 then -(numF 0 (l.drop neg)) else numF 0 (l.drop neg)), true) else (0, false)
theorem readNum_neg {d : Nat} {r : List UInt8} : readNum d (45 :: r) = if r.length = 0 then (0, false) else if d < r.length then (0, false) else if r.head? = some 48 then (0, false) else rdT 1 (45 :: r) := by
  have e0 : readNum d (45 :: r) = if (decide (1 ≤ r.length) && decide (r.length ≤ d) && !(r.head? == some 48) && r.all isDig) = true then (-(numF 0 r), true) else (0, false) := rfl
  rw [e0]
  by_cases h1 : r.length = 0
  · rw [if_pos h1, if_neg (by simp [h1])]
  rw [if_neg h1]
  by_cases h2 : d < r.length
  · rw [if_pos h2, if_neg (by simp; omega)]
  rw [if_neg h2]
  by_cases h3 : r.head? = some 48
  · rw [if_pos h3, if_neg (by simp [h3])]
  rw [if_neg h3, decide_eq_true (by omega), decide_eq_true (by omega), beq_eq_false_iff_ne.2 h3]
  rfl
theorem readNum_pos {d : Nat} {l : List UInt8} (h0 : l.head? ≠ some 45) : readNum d l = if l.length = 0 then (0, false) else if d < l.length then (0, false) else if l.head? = some 48 ∧ 1 < l.length then (0, false) else rdT 0 l := by
  have e0 : readNum d l = if okNum d l then (numF 0 l, true) else (0, false) := by
    unfold readNum
    split
    · simp at h0
    · rfl
  rw [e0]
  by_cases h1 : l.length = 0
  · rw [if_pos h1, if_neg (by simp [okNum, h1])]
  rw [if_neg h1]
  by_cases h2 : d < l.length
  · rw [if_pos h2, if_neg (by simp [okNum]; omega)]
  rw [if_neg h2]
  by_cases h3 : l.head? = some 48 ∧ 1 < l.length
  · rw [if_pos h3, if_neg (by simp [okNum, h3])]
  rw [if_neg h3]
  have e : okNum d l = l.all isDig := by
    unfold okNum
    have : (decide (1 < l.length) && l.head? == some 48) = false := by
      rw [Bool.and_eq_false_iff, decide_eq_false_iff_not, beq_eq_false_iff_ne]
      rcases Nat.lt_or_ge 1 l.length with h | h
      · exact .inr (fun e => h3 ⟨e, h⟩)
      · exact .inl (by omega)
    rw [this, decide_eq_true (by omega), decide_eq_true (by omega)]; rfl
  rw [e]
  rfl
theorem not_all {l : List UInt8} {i : Nat} {b : UInt8} (h : l[i]? = some b) (hb : isDig b = false) : l.all isDig = false := by
  rw [List.all_eq_false]
  exact ⟨b, List.mem_of_getElem? h, by simp [hb]⟩
theorem pow10_le {k d : Nat} (h : k ≤ d) : (10 : Int) ^ k ≤ 10 ^ d := by
  have := Nat.pow_le_pow_right (n := 10) (by decide) h
  exact_mod_cast this
theorem p17 : (10 : Int) ^ 17 = 100000000000000000 := by decide
theorem p18 : (10 : Int) ^ 18 = 1000000000000000000 := by decide
theorem readNum_ok {d : Nat} {l : List UInt8} (h : okNum d l = true) : readNum d l = (numF 0 l, true) := by
  have h4 := okNum_inv h
  unfold readNum
  split
  · rename_i r
    have := h4.2.2.2
    simp only [List.all_cons, Bool.and_eq_true] at this
    exact absurd (not_sign this.1).1 (by simp)
  · rw [if_pos h]
/-- a number without a sign: nothing else is read as one that is not below naught -/
theorem readNum_no {d : Nat} {l : List UInt8} (h : okNum d l = false) : (readNum d l).2 = true → (readNum d l).1 < 0 := by
  unfold readNum
  split
  · rename_i r
    split
    · next hc =>
      intro _
      simp only [Bool.and_eq_true, decide_eq_true_eq, Bool.not_eq_true', beq_eq_false_iff_ne, ne_eq] at hc
      have := (dec_numF _ r (Nat.le_refl _) hc.1.1.1 (fun _ => hc.1.2) hc.2).2.1 hc.1.2
      show -(numF 0 r) < 0
      omega
    · intro e; cases e
  · rw [h]; intro e; cases e
/-- two numbers with a sign between them -/
def two (c : UInt8) (d : Nat) (w : List UInt8) : Option (Int × Int) :=
  if okNum d (Lib.cut w [c]).1 && okNum d (Lib.cut w [c]).2.1 then some (numF 0 (Lib.cut w [c]).1, numF 0 (Lib.cut w [c]).2.1) else none
theorem bs_toList (l : List UInt8) : (bs l).toList = l := by rw [Lib.toList_data, data_bs]
end Go.Str

/- Strings and lists of strings as cells. -/
namespace Go.Abs
open Go.Str
abbrev str (l : List UInt8) : Value := .string (bs l)
abbrev dS (l : List UInt8) : D := .val (str l)
abbrev dB (b : Bool) : D := .val (.bool b)
/-- lists of strings as cells -/
abbrev strs (xs : List (List UInt8)) : List Value := xs.map str
abbrev dSs (xs : List (List UInt8)) : D := .sl xs.length 1 (strs xs)
theorem strs_whole (xs : List (List UInt8)) : List.take (xs.length * 1) (List.drop 0 (strs xs)) = strs xs := by simp [List.take_of_length_le]
theorem strs_at (xs : List (List UInt8)) (i : Nat) (h : i < xs.length) : At (strs xs) (0 + i * 1) 1 [str xs[i]] := by
  refine ⟨by simp; omega, ?_⟩
  rw [Nat.zero_add, Nat.mul_one, List.drop_eq_getElem_cons (by simpa using h)]
  simp
theorem atS {l : List Value} {k : Nat} {s : ByteArray} (h : At l k 1 [.string s]) {Q : ByteArray → Prop} : (∃ n : ByteArray, At l k 1 [.string n] ∧ Q n) = Q s := by
  apply propext
  constructor
  · rintro ⟨n, hn, hq⟩
    have e := hn.eq.symm.trans h.eq
    simp only [List.cons.injEq, Value.string.injEq, and_true] at e
    rw [← e]; exact hq
  · intro hq; exact ⟨s, h, hq⟩
/-- what is read of a string is what is there -/
theorem byte1 {l : List UInt8} {i : Nat} {b : UInt8} (h : l[i]? = some b) {Q : UInt8 → Prop} : (∃ x : UInt8, ByteAt (bs l) i x ∧ Q x) = Q b := by
  apply propext
  constructor
  · rintro ⟨x, hx, hq⟩
    have e := hx.out
    rw [bs_get, h] at e
    obtain rfl := Option.some.inj e
    exact hq
  · intro hq; exact ⟨b, ⟨by rw [bs_get]; exact h⟩, hq⟩
theorem take_snoc {α : Type} {l : List α} {f i : Nat} (h1 : f ≤ i) (h2 : i < l.length) : (l.drop f).take (i + 1 - f) = (l.drop f).take (i - f) ++ [l[i]] := by
  rw [show i + 1 - f = (i - f) + 1 by omega, List.take_add_one]
  congr 1
  rw [List.getElem?_drop, show f + (i - f) = i by omega, List.getElem?_eq_getElem h2]
  rfl
theorem u8_eq {b c : UInt8} (h : (b.toNat : Int) = (c.toNat : Int)) : b = c := by rw [← UInt8.toNat_inj]; omega
theorem wi1 {i n : Nat} (h : i < n) (hn : n < 4294967296) : IntKind.wrap .i64 ((i : Int) + 1) = ((i + 1 : Nat) : Int) := by rw [w64 (by omega) (by omega)]; rfl
theorem whole_le (xs : List (List UInt8)) : 0 + xs.length * 1 ≤ (strs xs).length := by simp
theorem whole_eq (xs : List (List UInt8)) : 0 + xs.length * 1 = (strs xs).length := by simp
end Go.Abs

/- The library's functions on strings, in data, by the library's own contracts. -/
namespace Go.Proofs.G5t
open Go Go.Abs Go.Proofs Go.RowKit Go.Str Go.Sort
set_option maxRecDepth 100000
theorem mixed : Tryz.prog.follows .mixedOrders = true := by kernel_rfl
abbrev C5 : FuncId → List D → List D → Prop := Con Tryz.prog
theorem vPow : Tryz.prog.globalNamed "internal/strconv.uint64pow10" = some 0 := by kernel_rfl
theorem vMax : Tryz.prog.globalNamed "internal/bytealg.MaxLen" = some 1 := by kernel_rfl
theorem hMax {w : World} (h : GoodW Tryz.prog w) : ∃ n, w.cell? ⟨1, 0, none⟩ = some (.int .i64 n) := good_int h (by simp [wantedVars]) vMax
theorem reads1 {w : World} {v : Value} {args : Array Value} (h : ReadsL w [.val v] args.toList) : args = #[v] := by
  obtain ⟨l⟩ := args
  replace h : ReadsL w [.val v] l := h
  cases h with | cons h1 t => cases t; cases h1; rfl
theorem reads2 {w : World} {u v : Value} {args : Array Value} (h : ReadsL w [.val u, .val v] args.toList) : args = #[u, v] := by
  obtain ⟨l⟩ := args
  replace h : ReadsL w [.val u, .val v] l := h
  cases h with | cons h1 t => cases t with | cons h2 t => cases t; cases h1; cases h2; rfl
theorem below_dg (w : World) (k : Nat) (os : Array Obj) : Below w.heap.size w (grow (w.drewN k) os) :=
  ⟨rfl, rfl, rfl, by simp [grow, World.drewN], fun j hj => heap_grow_old (w.drewN k) os hj⟩
/-- strconv.Itoa -/
theorem conIt (n : Int) (h0 : -9223372036854775808 ≤ n) (h1 : n ≤ 9223372036854775807) : C5 21 [dI n] [dS (Lib.itoa n)] := by
  intro w args hg hr
  rw [reads1 hr]
  refine (Tryz.strconv_Itoa n h0 h1 w (good_pow10 hg vPow)).mono ?_
  rintro e w' ⟨rfl, k, os, rfl⟩
  exact ⟨⟨[.string _], [], rfl, .cons (.val _ _ rfl) (.nil _)⟩, below_dg w k os⟩
/-- strings.Split at one byte -/
theorem conSp (l : List UInt8) (c : UInt8) (hl : l.length < 4294967281) : C5 59 [dS l, dS [c]] [dSs (cutA c [] l)] := by
  intro w args hg hr
  rw [reads2 hr]
  obtain ⟨m, hm⟩ := hMax hg
  refine (Tryz.strings_Split (bs l) (bs [c]) m w (by rw [bs_size]; exact hl) hm (by rw [bs_size]; exact Nat.le_refl _)).mono ?_
  rintro e w' ⟨rfl, rfl⟩
  have hsp := split_one c l.length l (Nat.le_refl _)
  have hlen : Lib.countB (bs l) (bs [c]) + 1 = (cutA c [] l).length := by
    have := Lib.splitB_all (bs [c]) (by rw [bs_size]; exact Nat.le_refl _) 0 _ (bs l) rfl
    rw [← this, hsp, List.length_map]
  have hcs : (Lib.splitB (bs [c]) 0 (Lib.countB (bs l) (bs [c])) (bs l)).map Value.string = strs (cutA c [] l) := by rw [hsp, List.map_map]; rfl
  rw [hlen, hcs]
  have hlen2 : (strs (cutA c [] l)).length = (cutA c [] l).length := by simp [strs]
  refine ⟨⟨[.slice _ _ _], [w.heap.size], rfl, .cons ?_ (.nil _)⟩, (Below.refl _ _).alloc (Nat.le_refl _) _⟩
  refine .sl [] _ 1 _ w.heap.size 0 _ (strs (cutA c [] l)).toArray _ (alloc_get _ _) (Nat.le_refl _) (by simp) (by simp) (Nat.le_refl _) ?_ (by simp) ?_
  · rw [hlen2]; simp [List.take_of_length_le]
  · intro v hv
    obtain ⟨x, _, rfl⟩ := List.mem_map.1 hv
    rfl
/-- strings.Join with one byte between -/
theorem conJn (xs : List (List UInt8)) (c : UInt8) (hN : xs.length ≤ 140737488355328) (hlen : (Lib.join xs [c]).length ≤ 140737488355328) : C5 22 [dSs xs, dS [c]] [dS (Lib.join xs [c])] := by
  intro w args hg hr
  obtain ⟨l⟩ := args
  replace hr : ReadsL w _ l := hr
  cases hr with | cons h1 t => cases t with | cons h2 t =>
  cases t
  cases h2
  cases h1 with | sl _ _ _ b o cap cc ty fz hb hs hc hn hp hl =>
  have e1 : (xs.map bs).map (·.data.toList) = xs := by rw [List.map_map]; conv => rhs; rw [← List.map_id xs]
                                                       exact List.map_congr_left fun x _ => data_bs x
  have := Tryz.strings_Join b o cap (xs.map bs) (bs [c]) w (fun j x hj => ?_) ((Array.getElem?_eq_some_iff.1 hb).1) (by simpa using hN) (by simpa using hl) (by rw [e1, data_bs]; exact hlen)
  · rw [List.length_map] at this
    refine this.mono ?_
    rintro e w' ⟨rfl, hb⟩
    refine ⟨⟨[.string _], [], rfl, .cons ?_ (.nil _)⟩, hb⟩
    rw [e1, data_bs]
    exact .val _ _ rfl
  · rw [List.getElem?_map, Option.map_eq_some_iff] at hj
    obtain ⟨y, hy, rfl⟩ := hj
    have hlen2 : (strs xs).length = xs.length := by simp [strs]
    have h1 : ((cc.toList.drop o).take (strs xs).length)[j]? = some (str y) := by rw [hc]; simp [strs, hy]
    have hj' : j < xs.length := (List.getElem?_eq_some_iff.1 hy).1
    rw [List.getElem?_take, if_pos (by rw [hlen2]; exact hj'), List.getElem?_drop, Array.getElem?_toList] at h1
    simp [World.cell?, hb, h1]
end Go.Proofs.G5t

/- Strings: what the frames of the laws share: arguments read as data, a world with the listed tables. -/
namespace Go.Proofs.YtccecnmimkfcpaaGreatDoor.K
open Go Go.Abs Go.RowKit Go.ChangeShapes Go.WideShapes Go.ChangeAt Go.Proofs Go.Flat Go.Proofs.G5t
set_option maxRecDepth 100000
theorem own : ownKnob Tryz.prog.godebug = none := by kernel_rfl
theorem laidP : laidOutB Tryz.prog = true := by kernel_rfl
theorem mapsP : mapsRowed Tryz.prog = true := by kernel_rfl
theorem slicesP : ∀ t e, t < Tryz.prog.types.size → Tryz.prog.underlying t = some (.slice e) → 0 < Tryz.prog.cellsOf e := slices_full_of Tryz.prog (by kernel_rfl)
theorem tsP {l : List TypeId} (h : l.all (fun t => decide (t < Tryz.prog.types.size)) = true) : ∀ t ∈ l, t < Tryz.prog.types.size := fun t ht => of_decide_eq_true (List.all_eq_true.1 h t ht)
theorem leaf_int {t : TypeId} {d : D} (ht : Tryz.prog.underlying t = some (.int .i64)) (h : LeafD Tryz.prog t d) : ∃ n : Int, d = dI n ∧ (-9223372036854775808 ≤ n ∧ n ≤ 9223372036854775807) := by
  unfold LeafD at h
  rw [ht] at h
  obtain ⟨n, rfl, hw⟩ := h
  exact ⟨n, rfl, wf64 hw⟩
theorem leaf_str {t : TypeId} {d : D} (ht : Tryz.prog.underlying t = some .string) (h : LeafD Tryz.prog t d) : ∃ s : List UInt8, d = dS s := by
  unfold LeafD at h
  rw [ht] at h
  obtain ⟨s, rfl, _⟩ := h
  exact ⟨s.data.toList, by rw [dS, str, Go.Str.bs_data]⟩
/-- The cells of data without addresses. -/
def cellsD : Nat → DataW Unit → List Value
  | 0, _ => []
  | n + 1, .agg ps => ps.flatMap (cellsD n)
  | _ + 1, .lit (.int k z) => [.int k z]
  | _ + 1, .lit (.bool b) => [.bool b]
  | _, _ => []
/-- A world in which the listed tables hold what is listed. -/
def layAt (h : Array Obj) (i : Nat) (d : DataW Unit) : Array Obj := h.modify i fun
  | .cells _ t frozen => .cells (cellsD 8 d).toArray t frozen
  | o => o
noncomputable def laidHeap (h : Array Obj) : Array Obj :=
  layAt (layAt (layAt (layAt (layAt h 2 Rows.laid_math_bits_deBruijn32tab) 3 Rows.laid_math_bits_deBruijn64tab) 0 Rows.laid_internal_strconv_uint64pow10) 5 Rows.laid_unicode_utf8_acceptRanges) 4 Rows.laid_unicode_utf8_first
noncomputable def laidWorld (os : Os) : World := { World.holding Tryz.prog os ⟨#[], #[], []⟩ with heap := laidHeap (World.holding Tryz.prog os ⟨#[], #[], []⟩).heap }
theorem noStand {ps : Array TypeId} (h : (ps.toList.all fun t => !(Tryz.prog.wantsStandIn t)) = true) : ∀ (j : Nat) t, ps[j]? = some t → Tryz.prog.wantsStandIn t = false := by
  intro j t ht
  have := List.all_eq_true.1 h t (Array.mem_toList_iff.2 (Array.mem_of_getElem? ht))
  simpa using this
/-- what the row's condition says of the library's variables -/
theorem good_of {W : World} {rest : List (String × DataW Unit)} {a b : String × DataW Unit} (h4 : laidMet Tryz.prog (a :: b :: ("internal/strconv.uint64pow10", Lib.tabData .u64 Lib.pow10Tab) :: rest) W) (h5 : World.ShapedOpen Tryz.prog W) : GoodW Tryz.prog W := by
  have ht := Lib.tabIs_of_head (g := 0) (t := 183) (e := 157) (n := 20) vPow (by kernel_rfl) (by kernel_rfl) (by kernel_rfl) (by kernel_rfl) (by kernel_rfl) h4.tail.tail
  obtain ⟨m, hm⟩ : ∃ m, W.cell? ⟨1, 0, none⟩ = some (.int .i64 m) := Tryz.laysM146.s1_3 W h5
  have e : varsOf Tryz.prog = [(0, .tab .u64 pow10s), (1, .int)] := by kernel_rfl
  intro q hq
  rw [e] at hq
  rcases List.mem_cons.1 hq with rfl | hq
  · unfold Lib.TabIs World.var? at ht
    rw [vPow, Option.bind_some] at ht
    cases ho : W.heap[0]? with
    | none => rw [ho] at ht; cases ht
    | some o =>
      rw [ho] at ht
      cases o with
      | cells c ty fz =>
        obtain rfl := Option.some.inj ht
        exact ⟨ty, fz, rfl⟩
      | _ => cases ht
  · obtain rfl := List.mem_singleton.1 hq
    unfold World.cell? at hm
    cases ho : W.heap[1]? with
    | none => simp [ho] at hm
    | some o =>
      cases o with
      | cells c ty fz => exact ⟨c, ty, fz, m, rfl, by simpa [ho] using hm⟩
      | _ => simp [ho] at hm
end Go.Proofs.YtccecnmimkfcpaaGreatDoor.K

/- A call that is met by what it does to the blocks that it reaches ('state contracts'): definitions. -/
namespace Go.Abs
/-- The end of such a call. -/
def endMu (v : Value) (H : Heap) : Mu := reach H 1000 (blocksV 8 v ++ mroots H) [] gbase
def stateK (K : Value → Blocks → Prop) : Value → Heap → Prop := fun v H =>
  bcase (gcGood (endMu v H) (gcB H (endMu v H) (endMu v H))) (K (mapV (endMu v H) 8 v) (gcB H (endMu v H) (endMu v H))) False
end Go.Abs

/- Handlers by a table: each function is met in its own way, the others are entered. -/
namespace Go.Abs
def saidH (P : Program) (C : FuncId → List D → List D → Prop) : Handler := fun g args _ H k =>
  match P.funcs[g]? with | some fn => wpSaid P C g fn.resultTypes.toList args H k | none => False
/-- (u: so many rounds of the loops of what is entered) -/
def handlerX (P : Program) (pre : FuncId → Option Handler) (u : Nat) : Nat → Handler
  | 0 => fun _ _ _ _ _ => False
  | n + 1 => fun g args ats H k =>
    match pre g with
    | some h => h g args ats H k
    | none => wpFn P (handlerX P pre u n) (fun _ _ _ => False) u g args H k
/-- A check that all of some numbers lie in a range: what it says. -/
def limE (lo hi : Int) : List Value → Int
  | [] => 0
  | .int _ n :: r => if n < lo ∨ n > hi then 2 else limE lo hi r
  | _ :: r => limE lo hi r
end Go.Abs

/- A call that is met by what it does to the blocks that it reaches: it is sound. -/
namespace Go.Abs
open Go.RowKit
variable {P : Program} {ρ : Ren} {w0 : Start P} {w : World} {H : Heap}

/-! ### Renaming, once more (numbers change anyhow; the globals stay) -/
structure MuS (μ : Mu) : Prop where
  snd : (μ.map (·.2)).Nodup
  glb : ∀ i j, (i, j) ∈ μ → i < abase → j = i
variable {μ : Mu}
/-! ### What is reached has its place -/
def Placed (ρ : Ren) (i : Nat) : Prop := i < abase ∨ ∃ m, ρ i = some m
theorem LR.placed {f : Value → List Nat} (hf : ∀ v v', VR ρ v v' → ∀ i ∈ f v, Placed ρ i) : ∀ {l l' : List Value}, LR ρ l l' → ∀ i ∈ l.flatMap f, Placed ρ i
  | _, _, .nil, i, h => by cases h
  | _, _, .cons h t, i, hi => by
    rw [List.flatMap_cons] at hi
    rcases List.mem_append.1 hi with h1 | h1
    · exact hf _ _ h i h1
    · exact LR.placed hf t i h1
theorem blocksV_placed : ∀ (n : Nat) (v v' : Value), VR ρ v v' → ∀ i ∈ blocksV n v, Placed ρ i
  | 0, _, _, _, i, h => by simp [blocksV] at h
  | n + 1, v, v', hv, i, h => by
    have ih : ∀ (v v' : Value), VR ρ v v' → ∀ i ∈ blocksV n v, Placed ρ i := blocksV_placed n
    cases hv with
    | glob g k hg => simp only [blocksV, List.mem_singleton] at h; subst h; exact .inl hg
    | ptr j k m hm => simp only [blocksV, List.mem_singleton] at h; subst h; exact .inr ⟨m, hm⟩
    | map j m hm => simp only [blocksV, List.mem_singleton] at h; subst h; exact .inr ⟨m, hm⟩
    | slice j k len cap m hm ho => simp only [blocksV, List.mem_singleton] at h; subst h; exact .inr ⟨m, hm⟩
    | opened j k len cap capC m hm ho hc hs => simp only [blocksV, List.mem_singleton] at h; subst h; exact .inr ⟨m, hm⟩
    | empty j k off m hm ho hz => simp only [blocksV, List.mem_singleton] at h; subst h; exact .inr ⟨m, hm⟩
    | func f a b a' b' ha hb ra rb =>
      simp only [blocksV] at h
      rcases List.mem_append.1 h with h | h
      · exact LR.placed ih (LR.of_arr ha ra) i h
      · exact LR.placed ih (LR.of_arr hb rb) i h
    | iface t v v' hv => exact ih _ _ hv i (by simpa [blocksV] using h)
    | agg a a' ha ra => exact LR.placed ih (LR.of_arr ha ra) i (by simpa [blocksV] using h)
    | tuple a a' ha ra => exact LR.placed ih (LR.of_arr ha ra) i (by simpa [blocksV] using h)
    | _ => simp [blocksV] at h
theorem ER.placed : ∀ {l l' : List MapEntry}, ER ρ l l' → ∀ i ∈ l.flatMap (fun e => blocksV 8 e.val), Placed ρ i
  | _, _, .nil, i, h => by cases h
  | _, _, .cons k kk v b t, i, hi => by
    rw [List.flatMap_cons] at hi
    rcases List.mem_append.1 hi with h1 | h1
    · exact blocksV_placed 8 _ _ v i h1
    · exact ER.placed t i h1
/-! ### The call's own view -/
structure CallOK (μ : Mu) (H : Heap) : Prop where
  fst : (μ.map (·.1)).Nodup
  snd : (μ.map (·.2)).Nodup
  lo : ∀ i j, (i, j) ∈ μ → abase ≤ i ∧ abase ≤ j ∧ j < gbase
  mb : ∀ i j, (i, j) ∈ μ → (mbase ≤ i ↔ mbase ≤ j)
  live : ∀ i j, (i, j) ∈ μ → ∃ o o2, H.get i = some o ∧ mapO μ o = some o2 ∧ o.alive = true
/-! ### Back at the caller -/
variable {β : Mu} {bs : Blocks}
end Go.Abs

/- State contracts: a function whose body has been walked. -/
namespace Go.Abs
open Go.RowKit
variable {P : Program} {ρ : Ren} {w0 : Start P} {w : World} {H : Heap} {h : Handler} {L : AtLoop}

/-- A loop of a function, whatever its end is. -/
structure LoopGoodF (P : Program) (h : Handler) (L : AtLoop) (f : FuncId) (c : Code) (lv : Lv) (id : Nat) (F : Value → Heap → Prop) (X : Type) (st : X → Slots × Blocks) (inv : X → Prop) (m : X → Nat) : Prop where
  head : ∀ s b, L id s b → ∃ x, inv x ∧ st x = (s, b)
  flat : ((findLoop c lv id).map fun r => loopIds r.1) = some []
  round : ∀ x, inv x → wpRound P h L f id (st x).1 (st x).2 (fun s b => ∃ y, inv y ∧ m y < m x ∧ st y = (s, b))
    (fun i s b => if i = id then wpNext P h L f id .normal s b F else wpNext P h L f id (.exit i) s b F) F

end Go.Abs

/- Handlers by a table hold if each entry does. -/
namespace Go.Abs
open Go.RowKit
variable {P : Program}
theorem saidH_ok {C : FuncId → List D → List D → Prop} (hC : ∀ f ds rs, C f ds rs → Con P f ds rs) : HandlerOK P (saidH P C) := by
  intro g args ats H k hk
  unfold saidH at hk
  split at hk
  · exact wpSaid_call hC hk
  · exact hk.elim
/-- (a state contract speaks of one function) -/
def PreOK (P : Program) (pre : FuncId → Option Handler) : Prop := ∀ g h, pre g = some h → ∀ args ats H k, h g args ats H k → CallH P g args H k
theorem handlerX_ok (hmix : P.follows .mixedOrders = true) {pre : FuncId → Option Handler} (hp : PreOK P pre) {u : Nat} (hu : u ≠ 0) : ∀ n, HandlerOK P (handlerX P pre u n)
  | 0 => fun _ _ _ _ _ h => h.elim
  | n + 1 => fun g args ats H k hk => by
    simp only [handlerX] at hk
    split at hk
    · rename_i h he
      exact hp g h he args ats H k hk
    · exact wpFn_call (handlerX_ok hmix hp hu n) hmix hu hk
/-- The same, with data. -/
theorem con_walk {h : Handler} (hh : HandlerOK P h) (hmix : P.follows .mixedOrders = true) {u : Nat} (hu : u ≠ 0) {f : FuncId} {fn : Func} {c : Code} (hf : P.funcs[f]? = some fn) (hc : fn.body = some c) {ds rs : List D} (hcount : countV ds ≤ 400)
    (hk : ∀ caps, wpFn P h (fun _ _ _ => False) u f (layVals caps 500 ds).1.toArray (heapOf (layVals caps 500 ds).2) (dataK (· = rs))) : Con P f ds rs := by
  intro w args hgood hr
  obtain ⟨caps, ρ, hst, g, ha⟩ := lay_gam hgood hr hcount
  refine callsIn_wide.1 ((wpFn_run (u := u) (b := false) hh hmix (fun h0 => absurd h0 hu) hf hc (hk caps) (fun h0 => absurd h0 hu) g 0 (by simpa using ha)).mono ?_)
  rintro e w' ⟨v, H', ρ', v', hkv, rfl, hv, g', _⟩
  obtain ⟨vs, ds', u, rfl, h1, rfl⟩ := dataK_out g' hv hkv
  exact ⟨⟨vs, u, rfl, h1⟩, g'.below.below hst⟩
abbrev limBs (ti : TypeId) (cs : List Value) (lo hi : Int) : Blocks := [(900, .cells cs ti false 1), (901, .cells [.int .i64 lo] ti false 1), (902, .cells [.int .i64 hi] ti false 1)]
abbrev limArgs (n cap : Nat) : List Value := [.slice (some ⟨900, 0, none⟩) n cap, .pointer (some ⟨901, 0, none⟩), .pointer (some ⟨902, 0, none⟩)]
/-- What is left to show of the function that limit returns. -/
def limGoal (P : Program) (f : FuncId) (ti : TypeId) (n : Nat) (cs : List Value) (cap : Nat) (lo hi : Int) (K : Value → Blocks → Prop) : Prop :=
  wpFn P (fun _ _ _ _ _ => False) (fun _ _ _ => False) 6 f (limArgs n cap).toArray (heapOf (limBs ti cs lo hi)) (stateK K)
structure LimGood (P : Program) (f : FuncId) (ti : TypeId) : Prop where
  mix : P.follows .mixedOrders = true
  fn : ∃ fn c, P.funcs[f]? = some fn ∧ fn.body = some c
  one : ∀ cap lo hi x, limGoal P f ti 1 [.int .i64 x] cap lo hi (fun v b => v = .int .i64 (limE lo hi [.int .i64 x]) ∧ b = limBs ti [.int .i64 x] lo hi)
  two : ∀ cap lo hi x y, limGoal P f ti 2 [.int .i64 x, .int .i64 y] cap lo hi (fun v b => v = .int .i64 (limE lo hi [.int .i64 x, .int .i64 y]) ∧ b = limBs ti [.int .i64 x, .int .i64 y] lo hi)
  three : ∀ cap lo hi x y z, limGoal P f ti 3 [.int .i64 x, .int .i64 y, .int .i64 z] cap lo hi (fun v b => v = .int .i64 (limE lo hi [.int .i64 x, .int .i64 y, .int .i64 z]) ∧ b = limBs ti [.int .i64 x, .int .i64 y, .int .i64 z] lo hi)
  four : ∀ cap lo hi x y z u, limGoal P f ti 4 [.int .i64 x, .int .i64 y, .int .i64 z, .int .i64 u] cap lo hi (fun v b => v = .int .i64 (limE lo hi [.int .i64 x, .int .i64 y, .int .i64 z, .int .i64 u]) ∧ b = limBs ti [.int .i64 x, .int .i64 y, .int .i64 z, .int .i64 u] lo hi)
end Go.Abs

/- What is left to show of each function, written out; the kernel reckons it. -/
namespace Go.Proofs.G5t
open Go Go.Abs Go.Proofs
set_option maxRecDepth 100000
set_option linter.unusedVariables false
abbrev vI (n : Int) : Value := .int .i64 n
abbrev Ct := FuncId → List D → List D → Prop
abbrev Bx := Slots → Blocks → Prop
abbrev Xx := Nat → Slots → Blocks → Prop
abbrev hE (C : Ct) : Handler := handlerX Tryz.prog (fun _ => none) 12 6
def gCu (C : Ct) (L : AtLoop) (s0 : ByteArray) (x1 : Int) (k : List D → Prop) : Prop := wpFn Tryz.prog (hE C) L 0 28 #[.string s0, .int .u8 x1] (heapOf []) (dataK k)
theorem gCu_text (C : Ct) (L : AtLoop) (s0 : ByteArray) (x1 : Int) (k : List D → Prop) : gCu C L s0 x1 k =
 (L 0 [(Prod.mk 0 (Go.Value.string (s0))), (Prod.mk 1 (Go.Value.int Go.IntKind.u8 (x1))), (Prod.mk 5 (Go.Value.slice Option.none 0 0)), (Prod.mk 6 (vI (0 : Int))), (Prod.mk 7 (vI (0 : Int)))] []) := by kernel_rfl
abbrev zCu1 (s0 : ByteArray) (x1 : Int) (x2 : Int) (x3 : Int) : Slots × Blocks := ([(0, (Value.string s0)), (1, (Value.int Go.IntKind.u8 x1)), (5, (Value.slice none 0 0)), (6, (Value.int .i64 x2)), (7, (Value.int .i64 x3))], [])
def rCu1 (C : Ct) (L : AtLoop) (s0 : ByteArray) (x1 : Int) (x2 : Int) (x3 : Int) (B : Bx) (X : Xx) (k : List D → Prop) : Prop := wpRound Tryz.prog (hE C) L 28 0 [(0, (Value.string s0)), (1, (Value.int Go.IntKind.u8 x1)), (5, (Value.slice none 0 0)), (6, (Value.int .i64 x2)), (7, (Value.int .i64 x3))] [] B X (dataK k)
theorem rCu1_text (C : Ct) (L : AtLoop) (s0 : ByteArray) (x1 : Int) (x2 : Int) (x3 : Int) (B : Bx) (X : Xx) (k : List D → Prop) : rCu1 C L s0 x1 x2 x3 B X k =
 (bcase (decide (x3 < (↑(ByteArray.size s0) : Int)))
 (bcase (decide (0 ≤ x3))
 (∃ b1 : UInt8,
 ((ByteAt (s0) (Int.toNat x3) (b1)) ∧
 (bcase ((↑(UInt8.toNat b1) : Int) == x1)
 (bcase (decide (0 ≤ x3))
 (bcase (decide (x3 ≤ (↑(ByteArray.size s0) : Int)))
 (bcase (decide (0 ≤ x2))
 (bcase (decide (x2 ≤ (↑(Int.toNat x3) : Int)))
 (B [(Prod.mk 0 (Go.Value.string (s0))), (Prod.mk 1 (Go.Value.int Go.IntKind.u8 (x1))), (Prod.mk 5 (Go.Value.slice (Option.some (Go.Addr.mk 1000 0 Option.none)) 1 1)), (Prod.mk 6 (vI (IntKind.wrap .i64 (x3 + 1)))), (Prod.mk 7 (vI (IntKind.wrap .i64 (x3 + 1))))] [(Prod.mk 1000 (AObj.sym [(Go.Value.string (ByteArray.extract s0 (Int.toNat x2) (Int.toNat x3)))] true 1))])
 False)
 False)
 False)
 False)
 (B [(Prod.mk 0 (Go.Value.string (s0))), (Prod.mk 1 (Go.Value.int Go.IntKind.u8 (x1))), (Prod.mk 5 (Go.Value.slice Option.none 0 0)), (Prod.mk 6 (vI x2)), (Prod.mk 7 (vI (IntKind.wrap .i64 (x3 + 1))))] []))))
 False)
 (X 0 [(Prod.mk 0 (Go.Value.string (s0))), (Prod.mk 5 (Go.Value.slice Option.none 0 0)), (Prod.mk 6 (vI x2))] [])) := by kernel_rfl
abbrev zCu2 (s0 : ByteArray) (x1 : Int) (n2 : Nat) (x3 : Int) (x4 : Int) (l5 : List Value) : Slots × Blocks := ([(0, (Value.string s0)), (1, (Value.int Go.IntKind.u8 x1)), (5, (Value.slice (some ⟨1000, 0, none⟩) n2 n2)), (6, (Value.int .i64 x3)), (7, (Value.int .i64 x4))], [(1000, (AObj.sym l5 true 1))])
def rCu2 (C : Ct) (L : AtLoop) (s0 : ByteArray) (x1 : Int) (n2 : Nat) (x3 : Int) (x4 : Int) (l5 : List Value) (B : Bx) (X : Xx) (k : List D → Prop) : Prop := wpRound Tryz.prog (hE C) L 28 0 [(0, (Value.string s0)), (1, (Value.int Go.IntKind.u8 x1)), (5, (Value.slice (some ⟨1000, 0, none⟩) n2 n2)), (6, (Value.int .i64 x3)), (7, (Value.int .i64 x4))] [(1000, (AObj.sym l5 true 1))] B X (dataK k)
theorem rCu2_text (C : Ct) (L : AtLoop) (s0 : ByteArray) (x1 : Int) (n2 : Nat) (x3 : Int) (x4 : Int) (l5 : List Go.Value) (B : Bx) (X : Xx) (k : List D → Prop) : rCu2 C L s0 x1 n2 x3 x4 l5 B X k =
 (bcase (decide (x4 < (↑(ByteArray.size s0) : Int)))
 (bcase (decide (0 ≤ x4))
 (∃ b1 : UInt8,
 ((ByteAt (s0) (Int.toNat x4) (b1)) ∧
 (bcase ((↑(UInt8.toNat b1) : Int) == x1)
 (bcase (decide (0 ≤ x4))
 (bcase (decide (x4 ≤ (↑(ByteArray.size s0) : Int)))
 (bcase (decide (0 ≤ x3))
 (bcase (decide (x3 ≤ (↑(Int.toNat x4) : Int)))
 (bcase (decide (n2 < n2 + 1))
 (bcase (decide ((2 * (n2 + 1) + 768) * 16 ≤ 281474976710656))
 (bcase (decide (n2 + 1 ≤ 1099511627776))
 (bcase (decide (0 + n2 * 1 ≤ List.length l5))
 (bcase (decide (0 + n2 * 1 = List.length l5))
 (B [(Prod.mk 0 (Go.Value.string (s0))), (Prod.mk 1 (Go.Value.int Go.IntKind.u8 (x1))), (Prod.mk 5 (Go.Value.slice (Option.some (Go.Addr.mk 1000 0 Option.none)) (n2 + 1) (n2 + 1))), (Prod.mk 6 (vI (IntKind.wrap .i64 (x4 + 1)))), (Prod.mk 7 (vI (IntKind.wrap .i64 (x4 + 1))))] [(Prod.mk 1000 (AObj.sym ((List.take (n2 * 1) (List.drop 0 l5)) ++ [(Go.Value.string (ByteArray.extract s0 (Int.toNat x3) (Int.toNat x4)))]) true 1))])
 False)
 False)
 False)
 False)
 False)
 False)
 False)
 False)
 False)
 (B [(Prod.mk 0 (Go.Value.string (s0))), (Prod.mk 1 (Go.Value.int Go.IntKind.u8 (x1))), (Prod.mk 5 (Go.Value.slice (Option.some (Go.Addr.mk 1000 0 Option.none)) (n2) (n2))), (Prod.mk 6 (vI x3)), (Prod.mk 7 (vI (IntKind.wrap .i64 (x4 + 1))))] [(Prod.mk 1000 (AObj.sym (l5) true 1))]))))
 False)
 (X 0 [(Prod.mk 0 (Go.Value.string (s0))), (Prod.mk 5 (Go.Value.slice (Option.some (Go.Addr.mk 1000 0 Option.none)) (n2) (n2))), (Prod.mk 6 (vI x3))] [(Prod.mk 1000 (AObj.sym (l5) true 1))])) := by kernel_rfl
def nCu3 (C : Ct) (L : AtLoop) (s0 : ByteArray) (x1 : Int) (k : List D → Prop) : Prop := wpNext Tryz.prog (hE C) L 28 0 .normal [(0, (Value.string s0)), (5, (Value.slice none 0 0)), (6, (Value.int .i64 x1))] [] (dataK k)
theorem nCu3_text (C : Ct) (L : AtLoop) (s0 : ByteArray) (x1 : Int) (k : List D → Prop) : nCu3 C L s0 x1 k =
 (bcase (decide (0 ≤ x1))
 (bcase (decide (x1 ≤ (↑(ByteArray.size s0) : Int)))
 (((1 = 1) ∧
 (1 = 1)) ∧
 (k [(D.sl 1 1 [(Go.Value.string (ByteArray.extract s0 (Int.toNat x1) (ByteArray.size s0)))])]))
 False)
 False) := by kernel_rfl
def nCu4 (C : Ct) (L : AtLoop) (s0 : ByteArray) (n1 : Nat) (x2 : Int) (l3 : List Value) (k : List D → Prop) : Prop := wpNext Tryz.prog (hE C) L 28 0 .normal [(0, (Value.string s0)), (5, (Value.slice (some ⟨1000, 0, none⟩) n1 n1)), (6, (Value.int .i64 x2))] [(1000, (AObj.sym l3 true 1))] (dataK k)
theorem nCu4_text (C : Ct) (L : AtLoop) (s0 : ByteArray) (n1 : Nat) (x2 : Int) (l3 : List Go.Value) (k : List D → Prop) : nCu4 C L s0 n1 x2 l3 k =
 (bcase (decide (0 ≤ x2))
 (bcase (decide (x2 ≤ (↑(ByteArray.size s0) : Int)))
 (bcase (decide (n1 < n1 + 1))
 (bcase (decide ((2 * (n1 + 1) + 768) * 16 ≤ 281474976710656))
 (bcase (decide (n1 + 1 ≤ 1099511627776))
 (bcase (decide (0 + n1 * 1 ≤ List.length l3))
 (bcase (decide (0 + n1 * 1 = List.length l3))
 ((((n1 + 1) = (n1 + 1)) ∧
 ((List.length ((List.take (n1 * 1) (List.drop 0 l3)) ++ [(Go.Value.string (ByteArray.extract s0 (Int.toNat x2) (ByteArray.size s0)))])) = ((n1 + 1) * 1))) ∧
 (k [(D.sl (n1 + 1) 1 ((List.take (n1 * 1) (List.drop 0 l3)) ++ [(Go.Value.string (ByteArray.extract s0 (Int.toNat x2) (ByteArray.size s0)))]))]))
 False)
 False)
 False)
 False)
 False)
 False)
 False) := by kernel_rfl
def gDe (C : Ct) (L : AtLoop) (x0 : Int) (k : List D → Prop) : Prop := wpFn Tryz.prog (hE C) L 0 35 #[.int .i64 x0] (heapOf []) (dataK k)
theorem gDe_text (C : Ct) (L : AtLoop) (x0 : Int) (k : List D → Prop) : gDe C L x0 k =
 (bcase (x0 == 0)
 (k [(D.val (Go.Value.string ({ data := #[48] })))])
 (bcase (decide (x0 < 0))
 (L 0 [(Prod.mk 0 (vI x0)), (Prod.mk 3 (Go.Value.string ({ data := #[] }))), (Prod.mk 4 (Go.Value.string ({ data := #[45] })))] [])
 (L 0 [(Prod.mk 0 (vI x0)), (Prod.mk 3 (Go.Value.string ({ data := #[] }))), (Prod.mk 4 (Go.Value.string ({ data := #[] })))] []))) := by kernel_rfl
abbrev zDe1 (x0 : Int) (s1 : ByteArray) (s2 : ByteArray) : Slots × Blocks := ([(0, (Value.int .i64 x0)), (3, (Value.string s1)), (4, (Value.string s2))], [])
def rDe1 (C : Ct) (L : AtLoop) (x0 : Int) (s1 : ByteArray) (s2 : ByteArray) (B : Bx) (X : Xx) (k : List D → Prop) : Prop := wpRound Tryz.prog (hE C) L 35 0 [(0, (Value.int .i64 x0)), (3, (Value.string s1)), (4, (Value.string s2))] [] B X (dataK k)
theorem rDe1_text (C : Ct) (L : AtLoop) (x0 : Int) (s1 : ByteArray) (s2 : ByteArray) (B : Bx) (X : Xx) (k : List D → Prop) : rDe1 C L x0 s1 s2 B X k =
 (bcase (x0 != 0)
 (bcase (decide (ByteArray.size (List.foldl (fun r n => ByteArray.push r (UInt8.ofNat (Int.toNat n))) ByteArray.empty [Go.IntKind.wrap Go.IntKind.u8 (IntKind.wrap .i64 (48 + if IntKind.wrap .i64 (0 - Int.tmod x0 10) > Int.tmod x0 10 then IntKind.wrap .i64 (0 - Int.tmod x0 10) else Int.tmod x0 10))]) + ByteArray.size s1 ≤ 9223372036854775807))
 (B [(Prod.mk 0 (vI (IntKind.wrap .i64 (Int.tdiv x0 10)))), (Prod.mk 3 (Go.Value.string (List.foldl (fun r n => ByteArray.push r (UInt8.ofNat (Int.toNat n))) ByteArray.empty [Go.IntKind.wrap Go.IntKind.u8 (IntKind.wrap .i64 (48 + if IntKind.wrap .i64 (0 - Int.tmod x0 10) > Int.tmod x0 10 then IntKind.wrap .i64 (0 - Int.tmod x0 10) else Int.tmod x0 10))] ++ s1))), (Prod.mk 4 (Go.Value.string (s2)))] [])
 False)
 (X 0 [(Prod.mk 3 (Go.Value.string (s1))), (Prod.mk 4 (Go.Value.string (s2)))] [])) := by kernel_rfl
def nDe2 (C : Ct) (L : AtLoop) (s0 : ByteArray) (s1 : ByteArray) (k : List D → Prop) : Prop := wpNext Tryz.prog (hE C) L 35 0 .normal [(3, (Value.string s0)), (4, (Value.string s1))] [] (dataK k)
theorem nDe2_text (C : Ct) (L : AtLoop) (s0 : ByteArray) (s1 : ByteArray) (k : List D → Prop) : nDe2 C L s0 s1 k =
 (bcase (decide (ByteArray.size s1 + ByteArray.size s0 ≤ 9223372036854775807))
 (k [(D.val (Go.Value.string (s1 ++ s0)))])
 False) := by kernel_rfl
def gNu (C : Ct) (L : AtLoop) (s0 : ByteArray) (x1 : Int) (k : List D → Prop) : Prop := wpFn Tryz.prog (hE C) L 0 62 #[.string s0, .int .i64 x1] (heapOf []) (dataK k)
theorem gNu_text (C : Ct) (L : AtLoop) (s0 : ByteArray) (x1 : Int) (k : List D → Prop) : gNu C L s0 x1 k =
 (bcase (decide ((↑(ByteArray.size s0) : Int) > 0))
 (∃ b1 : UInt8,
 ((ByteAt (s0) 0 (b1)) ∧
 (bcase ((↑(UInt8.toNat b1) : Int) == 45)
 (bcase ((↑(ByteArray.size s0) : Int) == 1)
 (k [(D.val (vI (0 : Int))), (D.val (Value.bool false))])
 (bcase (decide (IntKind.wrap .i64 ((↑(ByteArray.size s0) : Int) - 1) > x1))
 (k [(D.val (vI (0 : Int))), (D.val (Value.bool false))])
 (∃ b2 : UInt8,
 ((ByteAt (s0) 1 (b2)) ∧
 (bcase ((↑(UInt8.toNat b2) : Int) == 48)
 (bcase (decide ((↑(ByteArray.size s0) : Int) > 1))
 (k [(D.val (vI (0 : Int))), (D.val (Value.bool false))])
 (L 0 [(Prod.mk 0 (Go.Value.string (s0))), (Prod.mk 6 (vI (1 : Int))), (Prod.mk 7 (vI (0 : Int))), (Prod.mk 8 (vI (1 : Int)))] []))
 (L 0 [(Prod.mk 0 (Go.Value.string (s0))), (Prod.mk 6 (vI (1 : Int))), (Prod.mk 7 (vI (0 : Int))), (Prod.mk 8 (vI (1 : Int)))] []))))))
 (bcase ((↑(ByteArray.size s0) : Int) == 0)
 (k [(D.val (vI (0 : Int))), (D.val (Value.bool false))])
 (bcase (decide (IntKind.wrap .i64 ((↑(ByteArray.size s0) : Int) - 0) > x1))
 (k [(D.val (vI (0 : Int))), (D.val (Value.bool false))])
 (∃ b2 : UInt8,
 ((ByteAt (s0) 0 (b2)) ∧
 (bcase ((↑(UInt8.toNat b2) : Int) == 48)
 (bcase (decide ((↑(ByteArray.size s0) : Int) > 1))
 (k [(D.val (vI (0 : Int))), (D.val (Value.bool false))])
 (L 0 [(Prod.mk 0 (Go.Value.string (s0))), (Prod.mk 6 (vI (0 : Int))), (Prod.mk 7 (vI (0 : Int))), (Prod.mk 8 (vI (0 : Int)))] []))
 (L 0 [(Prod.mk 0 (Go.Value.string (s0))), (Prod.mk 6 (vI (0 : Int))), (Prod.mk 7 (vI (0 : Int))), (Prod.mk 8 (vI (0 : Int)))] [])))))))))
 (bcase ((↑(ByteArray.size s0) : Int) == 0)
 (k [(D.val (vI (0 : Int))), (D.val (Value.bool false))])
 (bcase (decide (IntKind.wrap .i64 ((↑(ByteArray.size s0) : Int) - 0) > x1))
 (k [(D.val (vI (0 : Int))), (D.val (Value.bool false))])
 (∃ b1 : UInt8,
 ((ByteAt (s0) 0 (b1)) ∧
 (bcase ((↑(UInt8.toNat b1) : Int) == 48)
 (bcase (decide ((↑(ByteArray.size s0) : Int) > 1))
 (k [(D.val (vI (0 : Int))), (D.val (Value.bool false))])
 (L 0 [(Prod.mk 0 (Go.Value.string (s0))), (Prod.mk 6 (vI (0 : Int))), (Prod.mk 7 (vI (0 : Int))), (Prod.mk 8 (vI (0 : Int)))] []))
 (L 0 [(Prod.mk 0 (Go.Value.string (s0))), (Prod.mk 6 (vI (0 : Int))), (Prod.mk 7 (vI (0 : Int))), (Prod.mk 8 (vI (0 : Int)))] []))))))) := by kernel_rfl
abbrev zNu1 (s0 : ByteArray) (x1 : Int) (x2 : Int) (x3 : Int) : Slots × Blocks := ([(0, (Value.string s0)), (6, (Value.int .i64 x1)), (7, (Value.int .i64 x2)), (8, (Value.int .i64 x3))], [])
def rNu1 (C : Ct) (L : AtLoop) (s0 : ByteArray) (x1 : Int) (x2 : Int) (x3 : Int) (B : Bx) (X : Xx) (k : List D → Prop) : Prop := wpRound Tryz.prog (hE C) L 62 0 [(0, (Value.string s0)), (6, (Value.int .i64 x1)), (7, (Value.int .i64 x2)), (8, (Value.int .i64 x3))] [] B X (dataK k)
theorem rNu1_text (C : Ct) (L : AtLoop) (s0 : ByteArray) (x1 : Int) (x2 : Int) (x3 : Int) (B : Bx) (X : Xx) (k : List D → Prop) : rNu1 C L s0 x1 x2 x3 B X k =
 (bcase (decide (x3 < (↑(ByteArray.size s0) : Int)))
 (bcase (decide (0 ≤ x3))
 (∃ b1 : UInt8,
 ((ByteAt (s0) (Int.toNat x3) (b1)) ∧
 (bcase (decide ((↑(UInt8.toNat b1) : Int) < 48))
 (k [(D.val (vI (0 : Int))), (D.val (Value.bool false))])
 (bcase (decide (0 ≤ x3))
 (∃ b2 : UInt8,
 ((ByteAt (s0) (Int.toNat x3) (b2)) ∧
 (bcase (decide ((↑(UInt8.toNat b2) : Int) > 57))
 (k [(D.val (vI (0 : Int))), (D.val (Value.bool false))])
 (bcase (decide (0 ≤ x3))
 (∃ b3 : UInt8,
 ((ByteAt (s0) (Int.toNat x3) (b3)) ∧
 (B [(Prod.mk 0 (Go.Value.string (s0))), (Prod.mk 6 (vI x1)), (Prod.mk 7 (vI (IntKind.wrap .i64 (IntKind.wrap .i64 (10 * x2) + IntKind.wrap .i64 (Go.IntKind.wrap Go.IntKind.u8 ((↑(UInt8.toNat b3) : Int) - 48)))))), (Prod.mk 8 (vI (IntKind.wrap .i64 (x3 + 1))))] [])))
 False))))
 False))))
 False)
 (X 0 [(Prod.mk 6 (vI x1)), (Prod.mk 7 (vI x2))] [])) := by kernel_rfl
def nNu2 (C : Ct) (L : AtLoop) (x0 : Int) (x1 : Int) (k : List D → Prop) : Prop := wpNext Tryz.prog (hE C) L 62 0 .normal [(6, (Value.int .i64 x0)), (7, (Value.int .i64 x1))] [] (dataK k)
theorem nNu2_text (C : Ct) (L : AtLoop) (x0 : Int) (x1 : Int) (k : List D → Prop) : nNu2 C L x0 x1 k =
 (bcase (x0 == 1)
 (k [(D.val (vI (IntKind.wrap .i64 (0 - x1)))), (D.val (Value.bool true))])
 (k [(D.val (vI x1)), (D.val (Value.bool true))])) := by kernel_rfl
def gWi (C : Ct) (L : AtLoop) (x0 : Int) (x1 : Int) (x2 : Int) (k : List D → Prop) : Prop := wpFn Tryz.prog (hE C) L 0 31 #[.int .i64 x0, .int .i64 x1, .int .i64 x2] (heapOf []) (dataK k)
theorem gWi_text (C : Ct) (L : AtLoop) (x0 : Int) (x1 : Int) (x2 : Int) (k : List D → Prop) : gWi C L x0 x1 x2 k =
 (bcase (decide (x1 ≤ x0))
 (bcase (decide (x0 ≤ x2))
 (k [(D.val (Value.bool true))])
 (k [(D.val (Value.bool false))]))
 (k [(D.val (Value.bool false))])) := by kernel_rfl
end Go.Proofs.G5t
