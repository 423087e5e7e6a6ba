/- Texts of the proof, put together: AbsTab, GbC, GbK0, AbsSeven, G5H, GbK7, GbI, GbT4, AbsInsD, GbT6, GbT7, AbsNum, AbsLow, GbF, GbO, GbQR, GbR, AbsIns, GbE. -/
import Derived.Test.YtekodcjnlkfipaaP4
import Derived.Test.YtekodcjnlkfipaaP3
import Derived.Test.YtekodcjnlkfipaaRows
import Derived.Handed
import Derived.JoinedCond
import Derived.Shelf.Spec.SlicesInsert
import Derived.Laws.IdiomCopy
/- The evaluator with a table: calls whose outcome on some data is known are not entered. -/
namespace Go.Abs
open Go.RowKit
variable {P : Program} {ρ : Ren} {w0 : Start} {w : World} {H : Heap}

/-! ### Data of values, computed -/
def readCO (H : Heap) : List Value → Option (List D)
  | [] => some []
  | v :: r =>
    match v with
    | .slice none 0 0 => (readCO H r).map (.nil :: ·)
    | .slice (some ⟨i, o, none⟩) len _ =>
      match H.get i with
      | some (.sym cs _ es) => if o + len * es ≤ cs.length then (readCO H r).map (.sl len es ((cs.drop o).take (len * es)) :: ·) else none
      | some (.cells cs _ _ es) => if o + len * es ≤ cs.length then (if ((cs.drop o).take (len * es)).all cellP then (readCO H r).map (.sl len es ((cs.drop o).take (len * es)) :: ·) else none) else none
      | _ => none
    | v => if plain 8 v then (readCO H r).map (.val v :: ·) else none
def readVO (H : Heap) : List Value → Option (List D)
  | [] => some []
  | .agg cs :: r => (readCO H cs.toList).bind fun ds => (readVO H r).map (.agg ds :: ·)
  | v :: r => (readCO H [v]).bind fun ds => (readVO H r).map (ds ++ ·)
theorem readCO_ok : ∀ {l : List Value} {ds : List D}, readCO H l = some ds → ∀ k : List D → Prop, k ds → readCells H l k
  | [], ds, h, k, hk => by
    simp only [readCO, Option.some.injEq] at h; subst h; exact hk
  | v :: r, ds, h, k, hk => by
    unfold readCO at h
    unfold readCells
    split at h
    · obtain ⟨x, hx, rfl⟩ := Option.map_eq_some_iff.1 h
      exact readCO_ok hx _ hk
    · simp only
      split at h
      · rename_i hg
        simp only [hg]
        split at h
        · rename_i hle
          obtain ⟨x, hx, rfl⟩ := Option.map_eq_some_iff.1 h
          exact bcase_intro (fun _ => readCO_ok hx _ hk) (fun hf => absurd hle (of_decide_eq_false hf))
        · cases h
      · rename_i hg
        simp only [hg]
        split at h
        · rename_i hle
          split at h
          · rename_i hall
            obtain ⟨x, hx, rfl⟩ := Option.map_eq_some_iff.1 h
            exact bcase_intro (fun _ => bcase_intro (fun _ => readCO_ok hx _ hk) (fun hf => by rw [hall] at hf; cases hf)) (fun hf => absurd hle (of_decide_eq_false hf))
          · cases h
        · cases h
      · cases h
    · rename_i h1 h2
      split
      · exact absurd rfl h1
      · exact absurd rfl (h2 _ _ _ _)
      · split at h
        · rename_i hp
          obtain ⟨x, hx, rfl⟩ := Option.map_eq_some_iff.1 h
          rw [if_pos hp]
          exact readCO_ok hx _ hk
        · cases h
theorem readVO_ok : ∀ {l : List Value} {ds : List D}, readVO H l = some ds → ∀ k : List D → Prop, k ds → readVals H l k
  | [], ds, h, k, hk => by
    simp only [readVO, Option.some.injEq] at h; subst h; exact hk
  | v :: r, ds, h, k, hk => by
    unfold readVO at h
    unfold readVals
    split at h
    · rename_i e; cases e
    · rename_i e; cases e
      obtain ⟨x, hx, h⟩ := Option.bind_eq_some_iff.1 h
      obtain ⟨y, hy, rfl⟩ := Option.map_eq_some_iff.1 h
      exact readCO_ok hx _ (readVO_ok hy _ hk)
    · rename_i h1 e; cases e
      obtain ⟨x, hx, h⟩ := Option.bind_eq_some_iff.1 h
      obtain ⟨y, hy, rfl⟩ := Option.map_eq_some_iff.1 h
      split
      · rename_i e; cases e
      · rename_i e; cases e; exact absurd rfl (h1 _)
      · rename_i e; cases e
        exact readCO_ok hx _ (readVO_ok hy _ hk)

/-! ### Data laid, computed -/
def layCO : List D → Heap → Option (List Value × Heap)
  | [], H => some ([], H)
  | .nil :: r, H => (layCO r H).map fun x => (.slice none 0 0 :: x.1, x.2)
  | .sl n es cs :: r, H => (layCO r (H.new (.sym cs true es))).map fun x => (.slice (some ⟨H.next, 0, none⟩) n n :: x.1, x.2)
  | .val v :: r, H => match v with
    | .agg _ => none
    | v => (layCO r H).map fun x => (v :: x.1, x.2)
  | .agg _ :: _, _ => none
def layVO : List D → Heap → Option (List Value × Heap)
  | [], H => some ([], H)
  | .agg ds :: r, H => (layCO ds H).bind fun x => (layVO r x.2).map fun y => (.agg x.1.toArray :: y.1, y.2)
  | d :: r, H => (layCO [d] H).bind fun x => match x.1 with
    | [v] => (layVO r x.2).map fun y => (v :: y.1, y.2)
    | _ => none
theorem layCO_ok : ∀ {ds : List D} {H : Heap} {x : List Value × Heap}, layCO ds H = some x → ∀ k : List Value → Heap → Prop, k x.1 x.2 → layC ds H k
  | [], H, x, h, k, hk => by
    simp only [layCO, Option.some.injEq] at h; subst h; exact hk
  | .nil :: r, H, x, h, k, hk => by
    obtain ⟨y, hy, rfl⟩ := Option.map_eq_some_iff.1 h
    exact layCO_ok hy _ hk
  | .sl n es cs :: r, H, x, h, k, hk => by
    obtain ⟨y, hy, rfl⟩ := Option.map_eq_some_iff.1 h
    exact layCO_ok hy _ hk
  | .val v :: r, H, x, h, k, hk => by
    unfold layCO at h
    unfold layC
    split at h
    · cases h
    · rename_i hv
      split
      · exact absurd rfl (hv _)
      · obtain ⟨y, hy, rfl⟩ := Option.map_eq_some_iff.1 h
        exact layCO_ok hy _ hk
  | .agg _ :: _, H, x, h, k, hk => by cases h
theorem layVO_ok : ∀ {ds : List D} {H : Heap} {x : List Value × Heap}, layVO ds H = some x → ∀ k : List Value → Heap → Prop, k x.1 x.2 → layV ds H k
  | [], H, x, h, k, hk => by
    simp only [layVO, Option.some.injEq] at h; subst h; exact hk
  | d :: r, H, x, h, k, hk => by
    unfold layVO at h
    unfold layV
    split at h
    · rename_i e; cases e
    · rename_i e; cases e
      obtain ⟨y, hy, h⟩ := Option.bind_eq_some_iff.1 h
      obtain ⟨z, hz, rfl⟩ := Option.map_eq_some_iff.1 h
      exact layCO_ok hy _ (layVO_ok hz _ hk)
    · rename_i h1 e; cases e
      obtain ⟨y, hy, h⟩ := Option.bind_eq_some_iff.1 h
      split at h
      · rename_i he
        obtain ⟨z, hz, rfl⟩ := Option.map_eq_some_iff.1 h
        split
        · rename_i e; cases e
        · rename_i e; cases e; exact absurd rfl (h1 _)
        · rename_i e; cases e
          refine layCO_ok hy _ ?_
          simp only [he]
          exact layVO_ok hz _ hk
      · cases h

/-! ### Data given, computed -/
def giveCO (H : Heap) : List Nat → List Value → Option (List Nat × List D)
  | used, [] => some (used, [])
  | used, v :: r =>
    match v with
    | .slice none 0 0 => (giveCO H used r).map fun x => (x.1, .nil :: x.2)
    | .slice (some ⟨i, 0, none⟩) len cap =>
      if gbase ≤ i ∧ used.contains i = false then
        match H.get i with
        | some (.sym cs true es) => if len = cap ∧ cs.length = len * es then (giveCO H (i :: used) r).map fun x => (x.1, .sl len es cs :: x.2) else none
        | some (.cells cs _ _ es) => if len = cap ∧ cs.length = len * es then (if cs.all cellP then (giveCO H (i :: used) r).map fun x => (x.1, .sl len es cs :: x.2) else none) else none
        | _ => none
      else none
    | v => if plain 8 v then (giveCO H used r).map fun x => (x.1, .val v :: x.2) else none
def giveVO (H : Heap) : List Nat → List Value → Option (List D)
  | _, [] => some []
  | used, .agg cs :: r => (giveCO H used cs.toList).bind fun x => (giveVO H x.1 r).map (.agg x.2 :: ·)
  | used, v :: r => (giveCO H used [v]).bind fun x => (giveVO H x.1 r).map (x.2 ++ ·)
def giveO (v : Value) (H : Heap) : Option (List D) :=
  match v with
  | .tuple vs => if vs.size = 1 then none else giveVO H [] vs.toList
  | v => giveVO H [] [v]
theorem giveCO_ok : ∀ {l : List Value} {used : List Nat} {x : List Nat × List D}, giveCO H used l = some x → ∀ k : List Nat → List D → Prop, k x.1 x.2 → giveCells H used l k
  | [], used, x, h, k, hk => by
    simp only [giveCO, Option.some.injEq] at h; subst h; exact hk
  | v :: r, used, x, h, k, hk => by
    unfold giveCO at h
    unfold giveCells
    split at h
    · obtain ⟨y, hy, rfl⟩ := Option.map_eq_some_iff.1 h
      exact giveCO_ok hy _ hk
    · simp only
      split at h
      · rename_i hc
        rw [if_pos hc]
        split at h
        · rename_i hg
          simp only [hg]
          split at h
          · rename_i hl
            obtain ⟨y, hy, rfl⟩ := Option.map_eq_some_iff.1 h
            exact ⟨hl, giveCO_ok hy _ hk⟩
          · cases h
        · rename_i hg
          simp only [hg]
          split at h
          · rename_i hl
            split at h
            · rename_i hall
              obtain ⟨y, hy, rfl⟩ := Option.map_eq_some_iff.1 h
              exact ⟨hl, bcase_intro (fun _ => giveCO_ok hy _ hk) (fun hf => by rw [hall] at hf; cases hf)⟩
            · cases h
          · cases h
        · cases h
      · cases h
    · rename_i h1 h2
      split
      · exact absurd rfl h1
      · exact absurd rfl (h2 _ _ _)
      · split at h
        · rename_i hp
          obtain ⟨y, hy, rfl⟩ := Option.map_eq_some_iff.1 h
          rw [if_pos hp]
          exact giveCO_ok hy _ hk
        · cases h
theorem giveVO_ok : ∀ {l : List Value} {used : List Nat} {ds : List D}, giveVO H used l = some ds → ∀ k : List D → Prop, k ds → giveVals H used l k
  | [], used, ds, h, k, hk => by
    simp only [giveVO, Option.some.injEq] at h; subst h; exact hk
  | v :: r, used, ds, h, k, hk => by
    unfold giveVO at h
    unfold giveVals
    split at h
    · rename_i e; cases e
    · rename_i e; cases e
      obtain ⟨x, hx, h⟩ := Option.bind_eq_some_iff.1 h
      obtain ⟨y, hy, rfl⟩ := Option.map_eq_some_iff.1 h
      exact giveCO_ok hx _ (giveVO_ok hy _ hk)
    · rename_i h1 e; cases e
      obtain ⟨x, hx, h⟩ := Option.bind_eq_some_iff.1 h
      obtain ⟨y, hy, rfl⟩ := Option.map_eq_some_iff.1 h
      split
      · rename_i e; cases e
      · rename_i e; cases e; exact absurd rfl (h1 _)
      · rename_i e; cases e
        exact giveCO_ok hx _ (giveVO_ok hy _ hk)
theorem giveO_ok {v : Value} {ds : List D} (h : giveO v H = some ds) : dataK (· = ds) v H := by
  unfold giveO at h
  unfold dataK
  split at h
  · split at h
    · cases h
    · rename_i hs
      simp only [if_neg hs]
      exact giveVO_ok h _ rfl
  · rename_i hn
    split
    · exact absurd rfl (hn _)
    · exact giveVO_ok h _ rfl

/-! ### Data compared -/
def cEq : Value → Value → Bool
  | .int j a, .int k b => j == k && a == b
  | .bool a, .bool b => a == b
  | .string a, .string b => a.data.toList == b.data.toList
  | _, _ => false
def csEq : List Value → List Value → Bool
  | [], [] => true
  | a :: xs, b :: bs => cEq a b && csEq xs bs
  | _, _ => false
def d1Eq : D → D → Bool
  | .nil, .nil => true
  | .val a, .val b => cEq a b
  | .sl n es cs, .sl m fs bs => n == m && es == fs && csEq cs bs
  | _, _ => false
def d2Eq : List D → List D → Bool
  | [], [] => true
  | a :: xs, b :: bs => d1Eq a b && d2Eq xs bs
  | _, _ => false
def dEq : D → D → Bool
  | .agg a, .agg b => d2Eq a b
  | a, b => d1Eq a b
def dsEq : List D → List D → Bool
  | [], [] => true
  | a :: xs, b :: bs => dEq a b && dsEq xs bs
  | _, _ => false
theorem cEq_ok : ∀ {a b : Value}, cEq a b = true → a = b := by
  intro a b h
  unfold cEq at h
  split at h
  · simp only [Bool.and_eq_true, beq_iff_eq] at h; rw [h.1, h.2]
  · rw [eq_of_beq h]
  · rename_i x y
    have e := eq_of_beq h
    obtain ⟨x⟩ := x
    obtain ⟨y⟩ := y
    have : x = y := Array.ext' e
    rw [this]
  · cases h
theorem csEq_ok : ∀ {a b : List Value}, csEq a b = true → a = b
  | [], [], _ => rfl
  | a :: xs, b :: bs, h => by
    simp only [csEq, Bool.and_eq_true] at h
    rw [cEq_ok h.1, csEq_ok h.2]
  | [], _ :: _, h => by cases h
  | _ :: _, [], h => by cases h
theorem d1Eq_ok {a b : D} (h : d1Eq a b = true) : a = b := by
  unfold d1Eq at h
  split at h
  · rfl
  · rw [cEq_ok h]
  · simp only [Bool.and_eq_true, beq_iff_eq] at h
    rw [h.1.1, h.1.2, csEq_ok h.2]
  · cases h
theorem d2Eq_ok : ∀ {a b : List D}, d2Eq a b = true → a = b
  | [], [], _ => rfl
  | a :: xs, b :: bs, h => by
    simp only [d2Eq, Bool.and_eq_true] at h
    rw [d1Eq_ok h.1, d2Eq_ok h.2]
  | [], _ :: _, h => by cases h
  | _ :: _, [], h => by cases h
theorem dEq_ok {a b : D} (h : dEq a b = true) : a = b := by
  unfold dEq at h
  split at h
  · rw [d2Eq_ok h]
  · exact d1Eq_ok h
theorem dsEq_ok : ∀ {a b : List D}, dsEq a b = true → a = b
  | [], [], _ => rfl
  | a :: xs, b :: bs, h => by
    simp only [dsEq, Bool.and_eq_true] at h
    rw [dEq_ok h.1, dsEq_ok h.2]
  | [], _ :: _, h => by cases h
  | _ :: _, [], h => by cases h

/-! ### The evaluator with a table -/
abbrev Tab := FuncId → Option (List D → Option (List D))
/-- (a list of what is known) -/
def tabLook : List (List D × List D) → List D → Option (List D)
  | [], _ => none
  | p :: r, ds => if dsEq p.1 ds then some p.2 else tabLook r ds
theorem tabLook_ok : ∀ {t : List (List D × List D)} {ds rs : List D}, tabLook t ds = some rs → (ds, rs) ∈ t
  | [], _, _, h => by cases h
  | p :: r, ds, rs, h => by
    unfold tabLook at h
    split at h
    · rename_i he
      simp only [Option.some.injEq] at h
      rw [← dsEq_ok he, ← h]
      exact List.mem_cons_self ..
    · exact List.mem_cons_of_mem _ (tabLook_ok h)
def tabCall (t : List D → Option (List D)) (args : Array Value) (H : Heap) : Option (Value × Heap) :=
  (readVO H args.toList).bind fun ds => (t ds).bind fun rs => (layVO rs H).map fun x => (tupleOf x.1, x.2)
def evalT (P : Program) (tab : Tab) : Nat → Self
  | 0 => ⟨fun _ _ _ => none, fun _ _ _ _ => none⟩
  | n + 1 => ⟨fun f args H => match tab f with | none => callBody P (evalT P tab n) f args H | some t => tabCall t args H, fun round c A H => codeA P (evalT P tab n) round c A H⟩
def TabOK (P : Program) (tab : Tab) : Prop := ∀ f t, tab f = some t → ∀ ds rs, t ds = some rs → Con P f ds rs
theorem tabCall_sound {f : FuncId} {t : List D → Option (List D)} (ht : ∀ ds rs, t ds = some rs → Con P f ds rs) {args : Array Value} {v : Value} {H' : Heap} (h : tabCall t args H = some (v, H')) : CallH P f args H (fun u K => u = v ∧ K = H') := by
  obtain ⟨ds, h1, h⟩ := Option.bind_eq_some_iff.1 h
  obtain ⟨rs, h2, h⟩ := Option.bind_eq_some_iff.1 h
  obtain ⟨x, h3, h⟩ := Option.map_eq_some_iff.1 h
  simp only [Prod.mk.injEq] at h
  obtain ⟨rfl, rfl⟩ := h
  refine wpFix_call (C := fun g ds rs => g = f ∧ t ds = some rs ∨ Con P g ds rs) (fun g ds rs hc => ?_) (fix := t) ?_
  · rcases hc with ⟨rfl, hm⟩ | hc
    · exact ht _ _ hm
    · exact hc
  · unfold wpFix
    refine readVO_ok h1 _ ?_
    simp only [h2]
    exact ⟨⟨.inl ⟨rfl, h2⟩⟩, layVO_ok h3 _ ⟨rfl, rfl⟩⟩
theorem evalT_sound {tab : Tab} (htab : TabOK P tab) (hmix : P.follows .mixedOrders = true) : ∀ n, SelfS P w0 (evalT P tab n)
  | 0 => ⟨fun n _ _ h => by simp [evalT] at h, fun n _ _ _ h => by simp [evalT] at h, fun n _ _ _ h => by simp [evalT] at h⟩
  | k + 1 => ⟨fun {ρ H w f args args' v H'} n g ha h => by
      simp only [evalT] at h
      split at h
      · exact callBody_sound (evalT_sound htab hmix k) g n ha h
      · rename_i t ht
        refine (tabCall_sound (htab f t ht) h w0 ρ w args' n g ha).mono ?_
        rintro e w' ⟨u, K, ρ', v', ⟨rfl, rfl⟩, h1, h2, h3, h4⟩
        exact ⟨ρ', v', h1, h2, h3, h4⟩, fun n g rr ra h => codeA_sound (evalT_sound htab hmix k) hmix n _ g rr ra h,
      fun n g rr ra h => loopIn_once (loop_body (evalT_sound htab hmix k) n _ (fun g rr ra h => codeA_sound (evalT_sound htab hmix k) hmix n _ g rr ra h) g rr ra h)⟩
/-- A call of known data is run. -/
def runOK (P : Program) (tab : Tab) (n : Nat) (f : FuncId) (ds rs : List D) (caps : Nat → Nat) : Bool :=
  match (evalT P tab n).call f (layVals caps 500 ds).1.toArray (heapOf (layVals caps 500 ds).2) with
  | some (v, H) => (match giveO v H with | some rs' => dsEq rs' rs | none => false)
  | none => false
theorem con_run {tab : Tab} (htab : TabOK P tab) (hmix : P.follows .mixedOrders = true) {n : Nat} {f : FuncId} {ds rs : List D} (hcount : countV ds ≤ 400) (h : ∀ caps, runOK P tab n f ds rs caps = true) : Con P f ds rs := by
  intro w args hr
  obtain ⟨caps, ρ, hst, g, ha⟩ := lay_gam hr hcount
  have h := h caps
  unfold runOK at h
  split at h
  · rename_i v H hc
    split at h
    · rename_i rs' hg
      have e := dsEq_ok h
      subst e
      refine callsIn_wide.1 (((evalT_sound htab hmix n).call 0 g (by simpa using ha) hc).mono ?_)
      rintro e w' ⟨ρ', v', rfl, hv, g', ext'⟩
      obtain ⟨vs, ds', u, rfl, h1, rfl⟩ := dataK_out g' hv (giveO_ok hg)
      exact ⟨⟨vs, u, rfl, h1⟩, g'.below.below hst⟩
    · cases h
  · cases h
end Go.Abs

/- Chapter 5: what small functions do, in data. -/
namespace Go.Proofs.G5b
open Go Go.Abs Go.Proofs Go.Proofs.G5
set_option maxRecDepth 100000
abbrev C5 : FuncId → List D → List D → Prop := Con Try.prog
theorem preOK : PreOK Try.prog (preG C5) := by
  intro g h he args ats H k hk
  unfold preG at he
  split at he
  · rename_i e
    obtain rfl := Option.some.inj he
    rw [beq_iff_eq] at e
    subst e
    exact wpState_call (fun args bs K hk => wit_ok hk) hk
  · split at he
    · obtain rfl := Option.some.inj he
      exact fixH_ok (fun _ _ _ h => h) _ _ _ _ _ hk
    · split at he
      · obtain rfl := Option.some.inj he
        exact saidH_ok (fun _ _ _ h => h) _ _ _ _ _ hk
      · cases he
theorem hok : HandlerOK Try.prog (hG C5) := handlerX_ok mixed preOK (by decide) 6
theorem hokE : HandlerOK Try.prog (hE C5) := handlerX_ok mixed (fun g h he => by cases he) (by decide) 6
theorem vi_snoc (r : List Int) (z : Int) : vi r ++ [vI z] = vi (r ++ [z]) := by simp [vi]
theorem wit_of1 {lo hi e x r : Int} (h : r = if lo ≤ x ∧ x ≤ hi then 0 else e) : Says witC 0 [dI lo, dI hi, dI e, .sl 1 1 [vI x]] [dI r] := ⟨by
  show r = witE lo hi e [.int .i64 x]
  rw [h]; simp only [witE]
  split <;> split <;> first | rfl | omega⟩
def rngE (lo hi e x : Int) : Int := if lo ≤ x ∧ x ≤ hi then 0 else e
theorem wit_rng {lo hi e x : Int} : Says witC 0 [dI lo, dI hi, dI e, .sl 1 1 [vI x]] [dI (rngE lo hi e x)] := wit_of1 rfl
theorem rngE0 {lo hi e x : Int} (he : e ≠ 0) : rngE lo hi e x = 0 ↔ lo ≤ x ∧ x ≤ hi := by
  unfold rngE; split <;> omega
theorem rngE_no {lo hi e x : Int} (h : ¬ (lo ≤ x ∧ x ≤ hi)) : rngE lo hi e x = e := if_neg h
theorem fst0_rng {lo hi e x : Int} {l : List Int} (he : e ≠ 0) : fst0 (rngE lo hi e x :: l) = if lo ≤ x ∧ x ≤ hi then fst0 l else e := by
  unfold rngE
  rw [fst0]
  by_cases h : lo ≤ x ∧ x ≤ hi
  · rw [if_pos h, if_pos h, if_pos rfl]
  · rw [if_neg h, if_neg h, if_neg he]
theorem ite_and2 {α : Type} {p q : Prop} [Decidable p] [Decidable q] {a b : α} : (if p ∧ q then a else b) = if p then (if q then a else b) else b := by
  by_cases hp : p
  · by_cases hq : q
    · rw [if_pos ⟨hp, hq⟩, if_pos hp, if_pos hq]
    · rw [if_neg (fun h => hq h.2), if_pos hp, if_neg hq]
  · rw [if_neg (fun h => hp h.1), if_neg hp]
/-- the first error of a list of errors -/
theorem conFE (l : List Int) (hlen : l.length < 1000000000) : C5 37 [.sl l.length 1 (vi l)] [dI (fst0 l)] := by
  let inv : Nat × Nat → Prop := fun x => x.1 ≤ l.length ∧ fst0 l = fst0 (l.drop x.1)
  let st : Nat × Nat → Slots × Blocks := fun x => (sFE l.length x.2 x.1, [Q500 (vi l)])
  refine con_of (L := fun _ s b => ∃ x, inv x ∧ st x = (s, b)) hok mixed Try.func37 rfl (by show 1 ≤ 400; omega) rfl (ids := [0]) (by kernel_rfl) rfl (fun caps => ?_) (fun id hid => ?_)
  · show gFE _ _ l.length (caps 500) (vi l) _
    rw [gFE_text]
    exact ⟨(0, caps 500), ⟨by simp, rfl⟩, rfl⟩
  · obtain rfl := List.mem_singleton.1 hid
    refine ⟨Nat × Nat, st, inv, fun x => l.length - x.1, ⟨fun s b h => h, by kernel_rfl, ?_⟩⟩
    rintro ⟨i, cap⟩ ⟨hi, hr⟩
    simp only at hi hr
    show rFE _ _ l.length cap (vi l) i _ _ _
    rw [rFE_text]
    refine bc_dec (fun h => ?_) (fun h => ?_)
    · have hi' : i < l.length := by omega
      rw [List.drop_eq_getElem_cons hi', fst0] at hr
      simp only [bc_t h, bc_t (show (0 : Int) ≤ (i : Int) by omega), Int.toNat_natCast, at1 (vi_at l i hi')]
      refine bc_bne (fun hc => ?_) (fun hc => ?_)
      · rw [if_neg hc] at hr
        show [dI l[i]] = [dI (fst0 l)]
        rw [hr]
      · rw [if_pos hc] at hr
        refine ⟨(i + 1, cap), ⟨by show i + 1 ≤ l.length; omega, hr⟩, by show l.length - (i + 1) < l.length - i; omega, ?_⟩
        rw [w64 (by omega) (by omega)]; rfl
    · show (if 0 = 0 then _ else _)
      rw [if_pos rfl]
      show nFE _ _ _
      rw [nFE_text]
      have : i = l.length := by omega
      rw [this, List.drop_length] at hr
      show [dI 0] = [dI (fst0 l)]
      rw [hr]; rfl
def sameE (a : Int) : List Int → Int
  | [] => 0
  | p :: r => if p = a then sameE a r else 10
theorem conCS (a : Int) (l : List Int) (hlen : l.length < 1000000000) : C5 38 [dI a, .sl l.length 1 (vi l)] [dI (sameE a l)] := by
  let inv : Nat × Nat → Prop := fun x => x.1 ≤ l.length ∧ sameE a l = sameE a (l.drop x.1)
  let st : Nat × Nat → Slots × Blocks := fun x => (sCS a l.length x.2 x.1, [Q500 (vi l)])
  refine con_of (L := fun _ s b => ∃ x, inv x ∧ st x = (s, b)) hok mixed Try.func38 rfl (by show 1 ≤ 400; omega) rfl (ids := [0]) (by kernel_rfl) rfl (fun caps => ?_) (fun id hid => ?_)
  · show gCS _ _ a l.length (caps 500) (vi l) _
    rw [gCS_text]
    exact ⟨(0, caps 500), ⟨by simp, rfl⟩, rfl⟩
  · obtain rfl := List.mem_singleton.1 hid
    refine ⟨Nat × Nat, st, inv, fun x => l.length - x.1, ⟨fun s b h => h, by kernel_rfl, ?_⟩⟩
    rintro ⟨i, cap⟩ ⟨hi, hr⟩
    simp only at hi hr
    show rCS _ _ a l.length cap (vi l) i _ _ _
    rw [rCS_text]
    refine bc_dec (fun h => ?_) (fun h => ?_)
    · have hi' : i < l.length := by omega
      rw [List.drop_eq_getElem_cons hi', sameE] at hr
      simp only [bc_t h, bc_t (show (0 : Int) ≤ (i : Int) by omega), Int.toNat_natCast, at1 (vi_at l i hi')]
      refine bc_bne (fun hc => ?_) (fun hc => ?_)
      · rw [if_neg hc] at hr
        show [dI _] = [dI (sameE a l)]
        rw [hr]
      · rw [if_pos hc] at hr
        refine ⟨(i + 1, cap), ⟨by show i + 1 ≤ l.length; omega, hr⟩, by show l.length - (i + 1) < l.length - i; omega, ?_⟩
        rw [w64 (by omega) (by omega)]; rfl
    · show (if 0 = 0 then _ else _)
      rw [if_pos rfl]
      show nCS _ _ _
      rw [nCS_text]
      have : i = l.length := by omega
      rw [this, List.drop_length] at hr
      show [dI 0] = [dI (sameE a l)]
      rw [hr]; rfl
theorem conCC (a b : Int) : C5 34 [dI a, dI b] [dI (if a = 0 then 10 else if a > b then 8 else 0)] := by
  refine con_flat hok mixed Try.func34 rfl (by show 0 ≤ 400; omega) rfl (by kernel_rfl) (fun caps => ?_)
  show gCC _ _ a b _
  rw [gCC_text]
  refine bc_beq (fun h => ?_) (fun h => bc_dec (fun h2 => ?_) (fun h2 => ?_))
  · show _ = _; rw [if_pos h]
  · show _ = _; rw [if_neg h, if_pos h2]
  · show _ = _; rw [if_neg h, if_neg h2]
theorem conWi (a b c : Int) : C5 26 [dI a, dI b, dI c] [.val (.bool (decide (b ≤ a ∧ a ≤ c)))] := by
  refine con_flat hok mixed Try.func26 rfl (by show 0 ≤ 400; omega) rfl (by kernel_rfl) (fun caps => ?_)
  show gWi _ _ a b c _
  rw [gWi_text]
  refine bc_dec (fun h => bc_dec (fun h2 => ?_) (fun h2 => ?_)) (fun h => ?_)
  · show _ = _; rw [decide_eq_true (show b ≤ a ∧ a ≤ c from ⟨h, h2⟩)]
  · show _ = _; rw [decide_eq_false (show ¬ (b ≤ a ∧ a ≤ c) by omega)]
  · show _ = _; rw [decide_eq_false (show ¬ (b ≤ a ∧ a ≤ c) by omega)]
theorem sayWt {a b c : Int} (h : b ≤ a ∧ a ≤ c) : Says C5 26 [dI a, dI b, dI c] [.val (.bool true)] := by
  have := conWi a b c
  rw [decide_eq_true h] at this
  exact ⟨this⟩
theorem sayWf {a b c : Int} (h : ¬ (b ≤ a ∧ a ≤ c)) : Says C5 26 [dI a, dI b, dI c] [.val (.bool false)] := by
  have := conWi a b c
  rw [decide_eq_false h] at this
  exact ⟨this⟩
/-- the numbers of a monitor -/
structure VM (D nu de ba : Int) : Prop where
  dl : 0 ≤ D ∧ D ≤ 10
  nu : 0 ≤ nu ∧ nu ≤ 100
  de : 1 ≤ de ∧ de ≤ 100
  ba : 0 ≤ ba ∧ ba ≤ 10000
def mE (D nu de ba : Int) : Int := if (0 ≤ D ∧ D ≤ 10) ∧ (0 ≤ nu ∧ nu ≤ 100) ∧ (1 ≤ de ∧ de ≤ 100) ∧ (0 ≤ ba ∧ ba ≤ 10000) then 0 else 2
theorem mE_ok {D nu de ba : Int} : mE D nu de ba = 0 ↔ VM D nu de ba := by
  unfold mE
  constructor
  · intro h
    split at h
    · rename_i hc; exact ⟨hc.1, hc.2.1, hc.2.2.1, hc.2.2.2⟩
    · omega
  · intro h; rw [if_pos ⟨h.1, h.2, h.3, h.4⟩]
theorem conCM (a b c d : Int) : C5 79 [.agg [dI a, dI b, dI c, dI d]] [dI (mE a b c d)] := by
  refine con_flat hok mixed Try.func79 rfl (by show 0 ≤ 400; omega) rfl (by kernel_rfl) (fun caps => ?_)
  show gCM _ _ a b c d _
  rw [gCM_text]
  simp only [eq_self, true_and, and_true]
  refine ⟨_, wit_rng, _, wit_rng, _, wit_rng, _, wit_rng, _, ⟨conFE [rngE 0 10 2 a, rngE 0 100 2 b, rngE 1 100 2 c, rngE 0 10000 2 d] (by simp)⟩, ?_⟩
  show [dI _] = [dI _]
  have : fst0 [rngE 0 10 2 a, rngE 0 100 2 b, rngE 1 100 2 c, rngE 0 10000 2 d] = mE a b c d := by
    have h2 : (2 : Int) ≠ 0 := by decide
    rw [fst0_rng h2, fst0_rng h2, fst0_rng h2, fst0_rng h2, mE, ite_and2 (p := 0 ≤ a ∧ a ≤ 10) (q := (0 ≤ b ∧ b ≤ 100) ∧ (1 ≤ c ∧ c ≤ 100) ∧ (0 ≤ d ∧ d ≤ 10000)), ite_and2 (p := 0 ≤ b ∧ b ≤ 100) (q := (1 ≤ c ∧ c ≤ 100) ∧ (0 ≤ d ∧ d ≤ 10000)), ite_and2 (p := 1 ≤ c ∧ c ≤ 100) (q := (0 ≤ d ∧ d ≤ 10000))]
    rfl
  rw [this]
theorem mul_bd {a b A B : Int} (ha : 0 ≤ a ∧ a ≤ A) (hb : -B ≤ b ∧ b ≤ B) : -(A * B) ≤ a * b ∧ a * b ≤ A * B := by
  have hB : 0 ≤ B := by omega
  have e1 : a * B ≤ A * B := Int.mul_le_mul_of_nonneg_right ha.2 hB
  have e2 : a * b ≤ a * B := Int.mul_le_mul_of_nonneg_left hb.2 ha.1
  have e3 : a * -B ≤ a * b := Int.mul_le_mul_of_nonneg_left hb.1 ha.1
  rw [Int.mul_neg] at e3
  omega
theorem tdiv_bd {n g : Int} (hn : -10000000 ≤ n ∧ n ≤ 10000000) : -10000000 ≤ n.tdiv g ∧ n.tdiv g ≤ 10000000 := by
  have h := Int.natAbs_tdiv_le_natAbs n g
  omega
theorem tk_bd {D nu de ba y : Int} (hm : VM D nu de ba) (hy : -100000 ≤ y ∧ y ≤ 100000) : -10000000 ≤ tk nu de ba y ∧ tk nu de ba y ≤ 10000000 := by
  unfold tk
  split
  · omega
  · exact tdiv_bd (mul_bd hm.nu hy)
theorem conTk {D nu de ba y : Int} (hm : VM D nu de ba) (hy : -100000 ≤ y ∧ y ≤ 100000) : C5 64 [.agg [dI D, dI nu, dI de, dI ba], dI y] [dI (tk nu de ba y)] := by
  refine con_flat hok mixed Try.func64 rfl (by show 0 ≤ 400; omega) rfl (by kernel_rfl) (fun caps => ?_)
  show gTk _ _ D nu de ba y _
  rw [gTk_text, w64 (z := 0 - y) (by omega) (by omega)]
  have hp := mul_bd hm.nu hy
  rw [w64 (z := nu * y) (by omega) (by omega)]
  have hq := tdiv_bd (n := nu * y) (g := de) hp
  rw [w64 (by omega) (by omega)]
  have e : (if 0 - y > y then 0 - y else y) = szI y := by rw [show (0 : Int) - y = -y by omega]; rfl
  rw [e]
  have := hm.de
  refine bc_dec (fun h => ?_) (fun h => bc_bne (fun _ => ?_) (fun h0 => absurd h0 (by omega)))
  · show _ = _; rw [tk, if_pos h]
  · show _ = _; rw [tk, if_neg h]
end Go.Proofs.G5b

/- Chapter 5: what the frames of the laws share. -/
namespace Go.Proofs.Ytekodcjnlkfipaa.K
open Go Go.Abs Go.RowKit Go.ChangeShapes Go.WideShapes Go.ChangeAt Go.Proofs Go.Flat
set_option maxRecDepth 100000
theorem own : ownKnob Try.prog.godebug = none := by kernel_rfl
theorem laidP : laidOutB Try.prog = true := by kernel_rfl
theorem mapsP : mapsRowed Try.prog = true := by kernel_rfl
theorem slicesP : ∀ t e, t < Try.prog.types.size → Try.prog.underlying t = some (.slice e) → 0 < Try.prog.cellsOf e := slices_full_of Try.prog (by kernel_rfl)
theorem tsP {l : List TypeId} (h : l.all (fun t => decide (t < Try.prog.types.size)) = true) : ∀ t ∈ l, t < Try.prog.types.size := fun t ht => of_decide_eq_true (List.all_eq_true.1 h t ht)
theorem flat_vi : ∀ l : List Int, (l.flatMap fun a => [Value.int .i64 a]) = vi l
  | [] => rfl
  | a :: r => by rw [List.flatMap_cons, flat_vi r]; rfl
/-- lists of whole numbers -/
theorem leaf_ints {t e : TypeId} {d : D} (ht : Try.prog.underlying t = some (.slice e)) (he : leaves Try.prog 10 e = some [.int .i64]) (h : LeafD Try.prog t d) : d = .nil ∨ ∃ l : List Int, d = .sl l.length 1 (vi l) := by
  unfold LeafD at h
  rw [ht] at h
  simp only at h
  rcases h with h | ⟨n, cs, L, rfl, hL, hn, hl, hc⟩
  · exact .inl h
  · rw [he] at hL
    obtain rfl := Option.some.inj hL
    simp only [List.length_cons, List.length_nil, Nat.zero_add] at hl hc ⊢
    obtain ⟨ps, hp, rfl⟩ := chunks_of (f := fun a : Int => [Value.int .i64 a]) (k := 1) (fun _ => rfl) n cs hl (fun i hi => by
      have := hc i hi
      generalize (cs.drop (i * 1)).take 1 = x at this ⊢
      cases this with
      | cons h t => cases t; obtain ⟨a, rfl, _⟩ := h; exact ⟨a, rfl⟩)
    refine .inr ⟨ps, ?_⟩
    rw [hp]
    rw [flat_vi]
theorem leaf_int {t : TypeId} {d : D} (ht : Try.prog.underlying t = some (.int .i64)) (h : LeafD Try.prog t d) : ∃ n : Int, d = dI n ∧ (-9223372036854775808 ≤ n ∧ n ≤ 9223372036854775807) := by
  unfold LeafD at h
  rw [ht] at h
  obtain ⟨n, rfl, hw⟩ := h
  exact ⟨n, rfl, wf64 hw⟩
theorem leafs_int {t : TypeId} (ht : Try.prog.underlying t = some (.int .i64)) : ∀ {us : List TypeId} {ds : List D}, (∀ u ∈ us, u = t) → LeafsD Try.prog us ds → ∃ l : List Int, ds = l.map dI ∧ l.length = us.length ∧ ∀ n ∈ l, -9223372036854775808 ≤ n ∧ n ≤ 9223372036854775807
  | [], _, _, h => by cases h; exact ⟨[], rfl, rfl, by simp⟩
  | u :: us, _, hu, h => by
    cases h with
    | cons h1 h2 =>
      obtain rfl := hu _ (List.mem_cons_self ..)
      obtain ⟨n, rfl, hn⟩ := leaf_int ht h1
      obtain ⟨l, rfl, hl, hb⟩ := leafs_int ht (fun v hv => hu v (List.mem_cons_of_mem _ hv)) h2
      exact ⟨n :: l, rfl, by simp [hl], fun m hm => by
        rcases List.mem_cons.1 hm with rfl | hm
        · exact hn
        · exact hb m hm⟩
end Go.Proofs.Ytekodcjnlkfipaa.K

/- Lists of structs of seven whole numbers as cells. -/
namespace Go.Abs
/-- seven whole numbers -/
structure Sv where
  a : Int
  b : Int
  c : Int
  d : Int
  e : Int
  f : Int
  g : Int
def Sv.row (p : Sv) : List Value := [.int .i64 p.a, .int .i64 p.b, .int .i64 p.c, .int .i64 p.d, .int .i64 p.e, .int .i64 p.f, .int .i64 p.g]
def vs7 (l : List Sv) : List Value := l.flatMap Sv.row
theorem vs7_cons (p : Sv) (r : List Sv) : vs7 (p :: r) = p.row ++ vs7 r := List.flatMap_cons
@[simp] theorem vs7_length : ∀ l : List Sv, (vs7 l).length = l.length * 7
  | [] => rfl
  | p :: r => by rw [vs7_cons, List.length_append, vs7_length r, List.length_cons]; simp only [Sv.row, List.length_cons, List.length_nil]; omega
theorem vs7_drop : ∀ (l : List Sv) (i : Nat), (vs7 l).drop (i * 7) = vs7 (l.drop i)
  | l, 0 => by simp
  | [], i + 1 => by simp [vs7]
  | p :: r, i + 1 => by
    rw [vs7_cons, show (i + 1) * 7 = i * 7 + 7 by omega, List.drop_succ_cons, Nat.add_comm, ← List.drop_drop]
    have : (p.row ++ vs7 r).drop 7 = vs7 r := by simp [Sv.row]
    rw [this]; exact vs7_drop r i
theorem vs7_all (l : List Sv) (i : Nat) (h : i < l.length) : At (vs7 l) (0 + i * 7) 7 l[i].row := by
  refine ⟨by rw [vs7_length]; omega, ?_⟩
  rw [Nat.zero_add, vs7_drop, List.drop_eq_getElem_cons h, vs7_cons]
  simp [Sv.row]
/-- one of the seven -/
theorem vs7_one (l : List Sv) (i : Nat) (h : i < l.length) (j : Nat) (v : Value) (hj : l[i].row[j]? = some v) : At (vs7 l) (0 + i * 7 + j) 1 [v] := by
  have hj7 : j < 7 := (List.getElem?_eq_some_iff.1 hj).1
  refine ⟨by rw [vs7_length]; omega, ?_⟩
  rw [Nat.zero_add, ← List.drop_drop, vs7_drop, List.drop_eq_getElem_cons h, vs7_cons]
  apply List.ext_getElem?
  intro k
  cases k with
  | zero =>
    rw [List.getElem?_take, if_pos (by omega), List.getElem?_drop, List.getElem?_append_left (by simpa [Sv.row] using hj7)]
    exact hj
  | succ k => rw [List.getElem?_take, if_neg (by omega)]; rfl
theorem at7 {l : List Value} {k : Nat} {p : Sv} (h : At l k 7 p.row) {Q : Int → Int → Int → Int → Int → Int → Int → Prop} :
    (∃ n1 : Int, ∃ n2 : Int, ∃ n3 : Int, ∃ n4 : Int, ∃ n5 : Int, ∃ n6 : Int, ∃ n7 : Int, At l k 7 [.int .i64 n1, .int .i64 n2, .int .i64 n3, .int .i64 n4, .int .i64 n5, .int .i64 n6, .int .i64 n7] ∧ Q n1 n2 n3 n4 n5 n6 n7) = Q p.a p.b p.c p.d p.e p.f p.g := by
  apply propext
  constructor
  · rintro ⟨n1, n2, n3, n4, n5, n6, n7, hn, hq⟩
    have e := hn.eq.symm.trans h.eq
    simp only [Sv.row, List.cons.injEq, Value.int.injEq, true_and, and_true] at e
    obtain ⟨rfl, rfl, rfl, rfl, rfl, rfl, rfl⟩ := e
    exact hq
  · intro hq; exact ⟨_, _, _, _, _, _, _, h, hq⟩
end Go.Abs

/- Chapter 5: loopers: corrections, heights after a tick, boxes; what they are, and that greater heights never lead to smaller ones. -/
namespace Go.Abs
abbrev hgt (n : Int) : Prop := -1000 ≤ n ∧ n ≤ 1000
/-- the error of a looper -/
def lpE (p : Sv) : Int :=
  if (hgt p.a ∧ hgt p.d ∧ hgt p.e ∧ hgt p.f ∧ hgt p.g) ∧ (0 ≤ p.b ∧ p.b ≤ 100) ∧ (1 ≤ p.c ∧ p.c ≤ 100) then
    (if p.b > p.c then 3 else if p.d > p.e ∨ p.f > p.g then 9 else if p.f ≤ p.a ∧ p.a ≤ p.g then 0 else 22)
  else 2
/-- a valid looper -/
structure LpV (p : Sv) : Prop where
  a : hgt p.a
  d : hgt p.d
  e : hgt p.e
  f : hgt p.f
  g : hgt p.g
  b0 : 0 ≤ p.b
  b1 : p.b ≤ 100
  c0 : 1 ≤ p.c
  c1 : p.c ≤ 100
  bc : p.b ≤ p.c
  de : p.d ≤ p.e
  fg : p.f ≤ p.g
  fa : p.f ≤ p.a
  ag : p.a ≤ p.g
theorem lpE_ok {p : Sv} : lpE p = 0 ↔ LpV p := by
  unfold lpE
  constructor
  · intro h
    split at h
    · rename_i hc
      split at h
      · omega
      · split at h
        · omega
        · split at h
          · exact ⟨hc.1.1, hc.1.2.1, hc.1.2.2.1, hc.1.2.2.2.1, hc.1.2.2.2.2, hc.2.1.1, hc.2.1.2, hc.2.2.1, hc.2.2.2, by omega, by omega, by omega, by omega, by omega⟩
          · omega
    · omega
  · intro h
    have ha := h.a; have hb := h.b0; have hc := h.c0; have hbc := h.bc; have hde := h.de; have hfg := h.fg; have hfa := h.fa; have hag := h.ag
    rw [if_pos ⟨⟨h.a, h.d, h.e, h.f, h.g⟩, ⟨h.b0, h.b1⟩, h.c0, h.c1⟩, if_neg (by omega), if_neg (by omega), if_pos ⟨hfa, hag⟩]
def corr (p : Sv) (h : Int) : Int := (p.b * (h - p.a)).tdiv p.c
theorem tdiv_step {x y d k : Int} (hd : 1 ≤ d) (hk : 0 ≤ k) (h : y ≤ x + d * k) : y.tdiv d ≤ x.tdiv d + k := by
  have h1 : y.tdiv d ≤ (x + d * k).tdiv d := Int.tdiv_le_tdiv (by omega) h
  have h2 : (x + d * k).tdiv d ≤ x.tdiv d + k := by
    rcases Int.lt_or_le x 0 with hx | hx
    · rcases Int.lt_or_le (x + d * k) 0 with hy | hy
      · have e1 : (x + d * k).tdiv d = -((-(x + d * k)) / d) := by
          rw [← Int.tdiv_eq_ediv_of_nonneg (by omega), Int.neg_tdiv]; omega
        have e2 : x.tdiv d = -((-x) / d) := by
          rw [← Int.tdiv_eq_ediv_of_nonneg (by omega), Int.neg_tdiv]; omega
        have e3 : (-(x + d * k)) / d = (-x) / d + -k := by
          rw [show -(x + d * k) = -x + d * -k by rw [Int.mul_neg]; omega, Int.add_mul_ediv_left _ _ (by omega)]
        rw [e1, e2, e3]; omega
      · rw [Int.tdiv_eq_ediv_of_nonneg hy, Int.add_mul_ediv_left _ _ (by omega)]
        have : x / d ≤ x.tdiv d := by
          have hs : d.sign = 1 := Int.sign_eq_one_of_pos (by omega)
          rw [Int.tdiv_eq_ediv, hs]
          split <;> omega
        omega
    · have hy : 0 ≤ x + d * k := by
        have := Int.mul_nonneg (show 0 ≤ d by omega) hk
        omega
      rw [Int.tdiv_eq_ediv_of_nonneg hy, Int.tdiv_eq_ediv_of_nonneg hx, Int.add_mul_ediv_left _ _ (by omega)]
      omega
  omega
theorem corr_mono {p : Sv} (hp : LpV p) {h k : Int} (hk : h ≤ k) : corr p h ≤ corr p k := by
  have := hp.c0
  exact Int.tdiv_le_tdiv (by omega) (Int.mul_le_mul_of_nonneg_left (by omega) hp.b0)
theorem corr_step {p : Sv} (hp : LpV p) {h k : Int} (hk : h ≤ k) : h - corr p h ≤ k - corr p k := by
  have hc := hp.c0
  have : corr p k ≤ corr p h + (k - h) := by
    refine tdiv_step hc (by omega) ?_
    have e : p.b * (k - p.a) = p.b * (h - p.a) + p.b * (k - h) := by rw [← Int.mul_add]; congr 1; omega
    have := Int.mul_le_mul_of_nonneg_right hp.bc (show 0 ≤ k - h by omega)
    omega
  omega
theorem corr_bd {p : Sv} (hp : LpV p) {h : Int} (hh : hgt h) : -2000 ≤ corr p h ∧ corr p h ≤ 2000 := by
  have ha := hp.a
  have hc := hp.c0
  have h1 : corr p h ≤ corr p p.a + 2000 := by
    rcases Int.le_total h p.a with hk | hk
    · have := corr_mono hp hk; omega
    · have := corr_step hp hk; omega
  have h2 : corr p p.a - 2000 ≤ corr p h := by
    rcases Int.le_total h p.a with hk | hk
    · have := corr_step hp hk; omega
    · have := corr_mono hp hk; omega
  have h3 : corr p p.a = 0 := by unfold corr; rw [Int.sub_self, Int.mul_zero]; exact Int.zero_tdiv _
  omega
theorem prod_bd {p : Sv} (hp : LpV p) {h : Int} (hh : hgt h) : -1000000 ≤ p.b * (h - p.a) ∧ p.b * (h - p.a) ≤ 1000000 := by
  have ha := hp.a; have hb := hp.b0; have hb1 := hp.b1
  have e1 : p.b * (h - p.a) ≤ p.b * 2000 := Int.mul_le_mul_of_nonneg_left (by omega) hb
  have e2 : p.b * -2000 ≤ p.b * (h - p.a) := Int.mul_le_mul_of_nonneg_left (by omega) hb
  omega
def sv0 : Sv := ⟨0, 0, 1, 0, 0, 0, 0⟩
/-- the correction of the looper with an index; none after the last one -/
def cA (ps : List Sv) (hs : List Int) (i : Nat) : Int := if i = ps.length then 0 else corr (ps.getD i sv0) (hs.getD i 0)
def aftV (ps : List Sv) (hs ds : List Int) (i : Nat) : Int := hs.getD i 0 - cA ps hs i + cA ps hs (i + 1) + ds.getD i 0
/-- heights after a tick -/
def aft (ps : List Sv) (hs ds : List Int) : List Int := (List.range ps.length).map (aftV ps hs ds)
theorem aft_length (ps : List Sv) (hs ds : List Int) : (aft ps hs ds).length = ps.length := by simp [aft]
theorem gd_at {α : Type} {l : List α} {i : Nat} {d : α} (h : i < l.length) : l.getD i d = l[i] := by simp [List.getD, h]
theorem gd_mem {α : Type} {l : List α} {i : Nat} {d : α} (h : i < l.length) : l.getD i d ∈ l := by
  rw [gd_at h]; exact List.getElem_mem h
theorem cA_bd {ps : List Sv} {hs : List Int} (hv : ∀ p ∈ ps, LpV p) (hh : ∀ h ∈ hs, hgt h) (hl : hs.length = ps.length) {i : Nat} (hi : i ≤ ps.length) : -2000 ≤ cA ps hs i ∧ cA ps hs i ≤ 2000 := by
  unfold cA
  split
  · omega
  · exact corr_bd (hv _ (gd_mem (by omega))) (hh _ (gd_mem (by omega)))
theorem rg_snoc (f : Nat → Int) (i : Nat) : vi ((List.range i).map f) ++ [.int .i64 (f i)] = vi ((List.range (i + 1)).map f) := by
  rw [List.range_succ, List.map_append]; simp [vi]
theorem rg_take (f : Nat → Int) (i : Nat) : List.take (i * 1) (List.drop 0 (vi ((List.range i).map f))) = vi ((List.range i).map f) := by
  rw [List.drop_zero, List.take_of_length_le (by simp)]
theorem vs7_whole (l : List Sv) : List.take (l.length * 7) (List.drop 0 (vs7 l)) = vs7 l := by rw [List.drop_zero, List.take_of_length_le (by simp)]
theorem v7le (l : List Sv) : 0 + l.length * 7 ≤ (vs7 l).length := by simp
theorem v1le (l : List Int) : 0 + l.length * 1 ≤ (vi l).length := by simp
/-- the first error of heights and disturbances -/
def mvGo : List Sv → List Int → List Int → Int
  | p :: ps, h :: hs, d :: ds => if p.f ≤ h ∧ h ≤ p.g then (if p.d ≤ d ∧ d ≤ p.e then mvGo ps hs ds else 2) else 22
  | _, _, _ => 0
def mvE (ps : List Sv) (hs ds : List Int) : Int := if hs.length ≠ ps.length ∨ ds.length ≠ ps.length then 10 else mvGo ps hs ds
theorem mvGo_ok : ∀ {ps : List Sv} {hs ds : List Int}, hs.length = ps.length → ds.length = ps.length → mvGo ps hs ds = 0 → (∀ p ∈ ps, LpV p) → (∀ h ∈ hs, hgt h) ∧ (∀ d ∈ ds, hgt d)
  | [], [], [], _, _, _, _ => by simp
  | p :: ps, h :: hs, d :: ds, h1, h2, h0, hv => by
    simp only [List.length_cons, Nat.add_right_cancel_iff] at h1 h2
    unfold mvGo at h0
    have hp := hv p (List.mem_cons_self ..)
    have a1 := hp.d; have a2 := hp.e; have a3 := hp.f; have a4 := hp.g
    split at h0
    · split at h0
      · obtain ⟨i1, i2⟩ := mvGo_ok h1 h2 h0 (fun q hq => hv q (List.mem_cons_of_mem _ hq))
        refine ⟨fun x hx => ?_, fun x hx => ?_⟩
        · rcases List.mem_cons.1 hx with rfl | hx
          · exact ⟨by omega, by omega⟩
          · exact i1 x hx
        · rcases List.mem_cons.1 hx with rfl | hx
          · exact ⟨by omega, by omega⟩
          · exact i2 x hx
      · omega
    · omega
  | [], _ :: _, _, h1, _, _, _ => by simp at h1
  | _ :: _, [], _, h1, _, _, _ => by simp at h1
  | [], [], _ :: _, _, h2, _, _ => by simp at h2
  | _ :: _, _ :: _, [], _, h2, _, _ => by simp at h2
/-- the first looper with an error, from an index on -/
def lpGo : Nat → List Sv → Int × Int
  | _, [] => (0, 0)
  | i, p :: r => if lpE p ≠ 0 then (i, lpE p) else lpGo (i + 1) r
def chE (l : List Sv) : Int × Int := if l.length = 0 then (0, 10) else if l.length > 5 then (0, 8) else lpGo 0 l
theorem lpGo_ok : ∀ {l : List Sv} {i : Nat}, (lpGo i l).2 = 0 → ∀ p ∈ l, LpV p
  | [], _, _, p, hp => by cases hp
  | q :: r, i, h, p, hp => by
    unfold lpGo at h
    split at h
    · rename_i hq; exact absurd h hq
    · rename_i hq
      rcases List.mem_cons.1 hp with rfl | hp
      · exact lpE_ok.1 (by omega)
      · exact lpGo_ok h p hp
theorem chE_ok {l : List Sv} (h : (chE l).2 = 0) : 0 < l.length ∧ l.length ≤ 5 ∧ ∀ p ∈ l, LpV p := by
  unfold chE at h
  split at h
  · simp at h
  · split at h
    · simp at h
    · exact ⟨by omega, by omega, lpGo_ok h⟩
end Go.Abs

/- Chapter 5: lists of loopers as arguments. -/
namespace Go.Proofs.Ytekodcjnlkfipaa.K
open Go Go.Abs Go.RowKit Go.ChangeShapes Go.WideShapes Go.ChangeAt Go.Proofs Go.Flat
set_option maxRecDepth 100000
theorem leaf_svs {t e : TypeId} {d : D} (ht : Try.prog.underlying t = some (.slice e)) (he : leaves Try.prog 10 e = some [.int .i64, .int .i64, .int .i64, .int .i64, .int .i64, .int .i64, .int .i64]) (h : LeafD Try.prog t d) : d = .nil ∨ ∃ l : List Sv, d = .sl l.length 7 (vs7 l) := by
  unfold LeafD at h
  rw [ht] at h
  simp only at h
  rcases h with h | ⟨n, cs, L, rfl, hL, hn, hl, hc⟩
  · exact .inl h
  · rw [he] at hL
    obtain rfl := Option.some.inj hL
    simp only [List.length_cons, List.length_nil, Nat.zero_add] at hl hc ⊢
    obtain ⟨ps, hp, rfl⟩ := chunks_of (f := Sv.row) (k := 7) (fun _ => rfl) n cs hl (fun i hi => by
      have := hc i hi
      generalize (cs.drop (i * 7)).take 7 = x at this ⊢
      cases this with | cons h1 t => cases t with | cons h2 t => cases t with | cons h3 t => cases t with | cons h4 t => cases t with | cons h5 t => cases t with | cons h6 t => cases t with | cons h7 t =>
      cases t
      obtain ⟨a, rfl, _⟩ := h1
      obtain ⟨b, rfl, _⟩ := h2
      obtain ⟨c, rfl, _⟩ := h3
      obtain ⟨d, rfl, _⟩ := h4
      obtain ⟨e, rfl, _⟩ := h5
      obtain ⟨f, rfl, _⟩ := h6
      obtain ⟨g, rfl, _⟩ := h7
      exact ⟨⟨a, b, c, d, e, f, g⟩, rfl⟩)
    exact .inr ⟨ps, by rw [hp]; rfl⟩
end Go.Proofs.Ytekodcjnlkfipaa.K

/- slices.Insert at the beginning, where there is room: one number is put before the others, in place. -/
namespace Go.Proofs.G5b
open Go Go.Abs Go.Proofs Go.Shelf Go.RowKit Go.Lib
set_option maxHeartbeats 4000000 in
set_option maxRecDepth 100000 in
theorem insW (b off n c vb voff vc : Nat) (cs : List Value) (x : Value) (w : World) (hn : 0 < n) (hn63 : n + 1 ≤ 9223372036854775807) (hroom : n + 1 ≤ c) (hvb : vb ≠ b) (hcl : cs.length = n)
    (hcs : ∀ j v, cs[j]? = some v → w.cell? ⟨b, off + j, none⟩ = some v) (hsp : ∀ j, j < n + 1 → (w.cell? ⟨b, off + j, none⟩).isSome = true) (hfz : ∀ j, j < n + 1 → w.frozen? ⟨b, off + j, none⟩ = false)
    (hvs : w.cell? ⟨vb, voff, none⟩ = some x) (h1c : ∀ v ∈ cs, v.oneCell' = true) (h1v : x.oneCell' = true)
    (tA tB : TypeId) (kA kB : Nat) (hsa : w.shape? vb = some (tA, kA)) (hsb : w.shape? b = some (tB, kB)) (hkB : kB ≠ 0) (hfa : w.frozen? ⟨vb, voff, none⟩ = false) (hfe : w.frozen? ⟨vb, kA, none⟩ = false) :
    Calls Try.prog 95 #[.slice (some ⟨b, off, none⟩) n c, .int .i64 0, .slice (some ⟨vb, voff, none⟩) 1 vc] w fun e w' =>
      e = .returned (.slice (some ⟨b, off, none⟩) (n + 1) c) ∧ w' = (w.drew.setCells b (off + 1) cs).setCells b off [x] := by
  have t22 := Try.underlying25
  have t3 := Try.underlying3
  have t4 := Try.underlying4
  have z3 : ∀ w, (Go.sizeOf 3).run Try.prog w = .ok 1 w := by intro w; kernel_rfl
  have z22 : ∀ w, (Go.sizeOf 25).run Try.prog w = .ok 1 w := by intro w; kernel_rfl
  have z4 : ∀ w, (Go.sizeOf 4).run Try.prog w = .ok 1 w := by intro w; kernel_rfl
  have a3 : ∀ w, (isAgg 3).run Try.prog w = .ok false w := by intro w; kernel_rfl
  have a22 : ∀ w, (isAgg 25).run Try.prog w = .ok false w := by intro w; kernel_rfl
  have a4 : ∀ w, (isAgg 4).run Try.prog w = .ok false w := by intro w; kernel_rfl
  have v3 : ∀ w, (zeroValue 3).run Try.prog w = .ok (Value.int IntKind.i64 0) w := by intro w; kernel_rfl
  have v22 : ∀ w, (zeroValue 25).run Try.prog w = .ok (Value.slice none 0 0) w := by intro w; kernel_rfl
  have v4 : ∀ w, (zeroValue 4).run Try.prog w = .ok (Value.bool false) w := by intro w; kernel_rfl
  have u22 := run_underlying t22
  have u3 := run_underlying t3
  have u4 := run_underlying t4
  have hz2 : ¬ ((0 : Int) = (n : Int)) := by omega
  have hsz : (Try.prog.info? 3).map (·.size) = some 1 := by kernel_rfl
  have hov : ∀ lb cb, (callFunc 99 #[.slice (some ⟨vb, voff, none⟩) 1 vc, .slice (some ⟨b, off + 1, none⟩) lb cb]).run Try.prog w = .ok (.value (.bool false)) w := fun lb cb => by
    rw [run_callFunc_extern Try.func99 (by kernel_rfl) (by kernel_rfl) (by kernel_rfl) (e := Extern.SlicesOverlaps.overlaps #[25, 25] #[4]) (by kernel_rfl),
      Lib.run_overlaps_apart w 25 4 3 t22 1 z3 ⟨vb, voff, none⟩ ⟨b, off + 1, none⟩ 1 vc lb cb hvb tA tB kA kB hsa hsb hkB hfa hfe]
    rfl
  have mixed := mixed
  have hb2 : ¬ (c = 1) := by omega
  have hw1 : IntKind.i64.wrap 1 = 1 := by rw [IntKind.wrap_i64]; omega
  have hw2 : IntKind.i64.wrap ((n : Int) + 1) = (n : Int) + 1 := by rw [IntKind.wrap_i64]; omega
  have hb1 : (1 : Int) ≤ (n : Int) + 1 := by omega
  have hb0 : (0 : Int) ≤ (n : Int) + 1 := by omega
  have htn : (1 : Int).toNat = 1 := rfl
  have hb4 : ¬ (c = 0) := by omega
  have hcp1 : ∀ ty dc sc, (Builtin.copy_ #[25, 25] ty #[.slice (some ⟨b, off + 1, none⟩) n dc, .slice (some ⟨b, off, none⟩) (n + 1) sc]).run Try.prog w.drew = .ok (goInt cs.length) (w.drew.setCells b (off + 1) cs) := fun ty dc sc =>
    run_copy_cells w.drew _ _ ty 3 b (off + 1) n dc ⟨b, off, none⟩ (n + 1) sc cs t22 hsz (by rw [hcl]; simp only [Nat.min_def]; split <;> omega)
      (fun j v hj => by rw [Addr.add_lit]; exact hcs j v hj)
      (fun j hj => by rw [Nat.add_assoc]; exact hsp _ (by omega)) (fun j hj => by rw [Nat.add_assoc]; exact hfz _ (by omega)) h1c
  obtain ⟨W1, hW1⟩ : ∃ W1, W1 = w.drew.setCells b (off + 1) cs := ⟨_, rfl⟩
  have hsp1 : ∀ k, k < n + 1 → (W1.cell? ⟨b, off + k, none⟩).isSome = true := fun k hk => by
    rw [hW1]
    exact isSome_setCells b _ _ _ (fun j hj => by rw [Nat.add_assoc]; exact hsp _ (by omega)) _ (hsp k hk)
  have hcp2 : ∀ (W : World), (∀ x, W.cell? x = W1.cell? x) → (∀ x, W.frozen? x = W1.frozen? x) → ∀ ty dc, (Builtin.copy_ #[25, 25] ty #[.slice (some ⟨b, off, none⟩) (n + 1) dc, .slice (some ⟨vb, voff, none⟩) 1 vc]).run Try.prog W = .ok (goInt 1) (W.setCells b off [x]) := fun W hWc hWf ty dc =>
    run_copy_cells W _ _ ty 3 b off (n + 1) dc ⟨vb, voff, none⟩ 1 vc [x] t22 hsz (by simp only [List.length_singleton, Nat.min_def]; split <;> omega)
      (fun j v hj => by
        rw [Addr.add_lit, hWc, hW1, World.cell?_setCells_out b _ _ _ _ (fun h _ => absurd h hvb)]
        cases j with
        | zero => simp only [List.getElem?_cons_zero, Option.some.injEq] at hj; rw [← hj]; exact hvs
        | succ j => simp at hj)
      (fun j hj => by rw [hWc]; exact hsp1 _ (by simp only [List.length_singleton] at hj; omega)) (fun j hj => by rw [hWf, hW1, World.frozen?_setCells]; exact hfz _ (by simp only [List.length_singleton] at hj; omega)) (by intro v hv; rw [List.mem_singleton.1 hv]; exact h1v)
  rw [← hW1] at hcp1
  go_enter Try.func95, Try.ntmps95
  go_wp2_with (simp only [hov])
  go_region_law_o (refine step_copy_runI rfl _ _ 25 25 rfl _ _ (by simp [Act.eval, Act.put]) (by simp [Act.eval, Act.put]) (hcp1 _ _ _) ?_)
  go_wp2_with (at_builtin; refine wpList_copy_runI _ rfl _ _ 25 25 rfl _ _ rfl rfl (hcp2 _ (fun _ => rfl) (fun _ => rfl) _ _) ?_)
  go_ret
  first | exact ⟨rfl, rfl⟩ | exact ⟨rfl, by rw [hW1]⟩
end Go.Proofs.G5b

/- What is left to show of each function, written out; the kernel reckons it. -/
namespace Go.Proofs.G5b
open Go Go.Abs Go.Proofs
set_option maxRecDepth 100000
set_option linter.unusedVariables false
theorem fRe_text (C : Ct) (cap : Nat) (x : Int) (k : List D → Prop) : fRe C cap x k =
(( (((Go.Value.slice (Option.some (Go.Addr.mk 1000 0 Option.none)) 1 501) = (Go.Value.slice (Option.some (Go.Addr.mk 1000 0 Option.none)) 1 501)) ∧
 (((Go.Value.int Go.IntKind.i64 (1 : Int)) = (Go.Value.int Go.IntKind.i64 (1 : Int))) ∧
 (((Go.Value.slice (Option.some (Go.Addr.mk 1000 0 Option.none)) 501 501) = (Go.Value.slice (Option.some (Go.Addr.mk 1000 0 Option.none)) 501 501)) ∧
 (((Go.Value.slice (Option.some (Go.Addr.mk 1000 1 Option.none)) 500 500) = (Go.Value.slice (Option.some (Go.Addr.mk 1000 1 Option.none)) 500 500)) ∧
 (((Go.Value.int Go.IntKind.i64 (1 : Int)) = (Go.Value.int Go.IntKind.i64 (1 : Int))) ∧
 (((Go.Value.slice (Option.some (Go.Addr.mk 1000 0 Option.none)) 501 501) = (Go.Value.slice (Option.some (Go.Addr.mk 1000 0 Option.none)) 501 501)) ∧
 (((Go.Value.int Go.IntKind.i64 (1 : Int)) = (Go.Value.int Go.IntKind.i64 (1 : Int))) ∧
 True)))))))) ∧
 (( (((Go.Value.int Go.IntKind.i64 (2 : Int)) = (Go.Value.int Go.IntKind.i64 (2 : Int))) ∧
 (((Go.Value.int Go.IntKind.i64 (1 : Int)) = (Go.Value.int Go.IntKind.i64 (1 : Int))) ∧
 (((Go.Value.slice (Option.some (Go.Addr.mk 1000 0 Option.none)) 501 501) = (Go.Value.slice (Option.some (Go.Addr.mk 1000 0 Option.none)) 501 501)) ∧
 (((Go.Value.int Go.IntKind.i64 (1 : Int)) = (Go.Value.int Go.IntKind.i64 (1 : Int))) ∧
 (((Go.Value.slice (Option.some (Go.Addr.mk 1000 0 Option.none)) 501 501) = (Go.Value.slice (Option.some (Go.Addr.mk 1000 0 Option.none)) 501 501)) ∧
 (((Go.Value.int Go.IntKind.i64 (1 : Int)) = (Go.Value.int Go.IntKind.i64 (1 : Int))) ∧
 True))))))) ∧
 (True ∧
 (( (((Go.Value.slice (Option.some (Go.Addr.mk 1000 0 Option.none)) 2 501) = (Go.Value.slice (Option.some (Go.Addr.mk 1000 0 Option.none)) 2 501)) ∧
 (((Go.Value.int Go.IntKind.i64 (2 : Int)) = (Go.Value.int Go.IntKind.i64 (2 : Int))) ∧
 (((Go.Value.slice (Option.some (Go.Addr.mk 1000 0 Option.none)) 501 501) = (Go.Value.slice (Option.some (Go.Addr.mk 1000 0 Option.none)) 501 501)) ∧
 (((Go.Value.slice (Option.some (Go.Addr.mk 1000 2 Option.none)) 499 499) = (Go.Value.slice (Option.some (Go.Addr.mk 1000 2 Option.none)) 499 499)) ∧
 (((Go.Value.int Go.IntKind.i64 (2 : Int)) = (Go.Value.int Go.IntKind.i64 (2 : Int))) ∧
 (((Go.Value.slice (Option.some (Go.Addr.mk 1000 0 Option.none)) 501 501) = (Go.Value.slice (Option.some (Go.Addr.mk 1000 0 Option.none)) 501 501)) ∧
 (((Go.Value.int Go.IntKind.i64 (2 : Int)) = (Go.Value.int Go.IntKind.i64 (2 : Int))) ∧
 True)))))))) ∧
 (( (((Go.Value.int Go.IntKind.i64 (4 : Int)) = (Go.Value.int Go.IntKind.i64 (4 : Int))) ∧
 (((Go.Value.int Go.IntKind.i64 (2 : Int)) = (Go.Value.int Go.IntKind.i64 (2 : Int))) ∧
 (((Go.Value.slice (Option.some (Go.Addr.mk 1000 0 Option.none)) 501 501) = (Go.Value.slice (Option.some (Go.Addr.mk 1000 0 Option.none)) 501 501)) ∧
 (((Go.Value.int Go.IntKind.i64 (2 : Int)) = (Go.Value.int Go.IntKind.i64 (2 : Int))) ∧
 (((Go.Value.slice (Option.some (Go.Addr.mk 1000 0 Option.none)) 501 501) = (Go.Value.slice (Option.some (Go.Addr.mk 1000 0 Option.none)) 501 501)) ∧
 (((Go.Value.int Go.IntKind.i64 (2 : Int)) = (Go.Value.int Go.IntKind.i64 (2 : Int))) ∧
 True))))))) ∧
 (True ∧
 (( (((Go.Value.slice (Option.some (Go.Addr.mk 1000 0 Option.none)) 4 501) = (Go.Value.slice (Option.some (Go.Addr.mk 1000 0 Option.none)) 4 501)) ∧
 (((Go.Value.int Go.IntKind.i64 (4 : Int)) = (Go.Value.int Go.IntKind.i64 (4 : Int))) ∧
 (((Go.Value.slice (Option.some (Go.Addr.mk 1000 0 Option.none)) 501 501) = (Go.Value.slice (Option.some (Go.Addr.mk 1000 0 Option.none)) 501 501)) ∧
 (((Go.Value.slice (Option.some (Go.Addr.mk 1000 4 Option.none)) 497 497) = (Go.Value.slice (Option.some (Go.Addr.mk 1000 4 Option.none)) 497 497)) ∧
 (((Go.Value.int Go.IntKind.i64 (4 : Int)) = (Go.Value.int Go.IntKind.i64 (4 : Int))) ∧
 (((Go.Value.slice (Option.some (Go.Addr.mk 1000 0 Option.none)) 501 501) = (Go.Value.slice (Option.some (Go.Addr.mk 1000 0 Option.none)) 501 501)) ∧
 (((Go.Value.int Go.IntKind.i64 (4 : Int)) = (Go.Value.int Go.IntKind.i64 (4 : Int))) ∧
 True)))))))) ∧
 (( (((Go.Value.int Go.IntKind.i64 (8 : Int)) = (Go.Value.int Go.IntKind.i64 (8 : Int))) ∧
 (((Go.Value.int Go.IntKind.i64 (4 : Int)) = (Go.Value.int Go.IntKind.i64 (4 : Int))) ∧
 (((Go.Value.slice (Option.some (Go.Addr.mk 1000 0 Option.none)) 501 501) = (Go.Value.slice (Option.some (Go.Addr.mk 1000 0 Option.none)) 501 501)) ∧
 (((Go.Value.int Go.IntKind.i64 (4 : Int)) = (Go.Value.int Go.IntKind.i64 (4 : Int))) ∧
 (((Go.Value.slice (Option.some (Go.Addr.mk 1000 0 Option.none)) 501 501) = (Go.Value.slice (Option.some (Go.Addr.mk 1000 0 Option.none)) 501 501)) ∧
 (((Go.Value.int Go.IntKind.i64 (4 : Int)) = (Go.Value.int Go.IntKind.i64 (4 : Int))) ∧
 True))))))) ∧
 (True ∧
 (( (((Go.Value.slice (Option.some (Go.Addr.mk 1000 0 Option.none)) 8 501) = (Go.Value.slice (Option.some (Go.Addr.mk 1000 0 Option.none)) 8 501)) ∧
 (((Go.Value.int Go.IntKind.i64 (8 : Int)) = (Go.Value.int Go.IntKind.i64 (8 : Int))) ∧
 (((Go.Value.slice (Option.some (Go.Addr.mk 1000 0 Option.none)) 501 501) = (Go.Value.slice (Option.some (Go.Addr.mk 1000 0 Option.none)) 501 501)) ∧
 (((Go.Value.slice (Option.some (Go.Addr.mk 1000 8 Option.none)) 493 493) = (Go.Value.slice (Option.some (Go.Addr.mk 1000 8 Option.none)) 493 493)) ∧
 (((Go.Value.int Go.IntKind.i64 (8 : Int)) = (Go.Value.int Go.IntKind.i64 (8 : Int))) ∧
 (((Go.Value.slice (Option.some (Go.Addr.mk 1000 0 Option.none)) 501 501) = (Go.Value.slice (Option.some (Go.Addr.mk 1000 0 Option.none)) 501 501)) ∧
 (((Go.Value.int Go.IntKind.i64 (8 : Int)) = (Go.Value.int Go.IntKind.i64 (8 : Int))) ∧
 True)))))))) ∧
 (( (((Go.Value.int Go.IntKind.i64 (16 : Int)) = (Go.Value.int Go.IntKind.i64 (16 : Int))) ∧
 (((Go.Value.int Go.IntKind.i64 (8 : Int)) = (Go.Value.int Go.IntKind.i64 (8 : Int))) ∧
 (((Go.Value.slice (Option.some (Go.Addr.mk 1000 0 Option.none)) 501 501) = (Go.Value.slice (Option.some (Go.Addr.mk 1000 0 Option.none)) 501 501)) ∧
 (((Go.Value.int Go.IntKind.i64 (8 : Int)) = (Go.Value.int Go.IntKind.i64 (8 : Int))) ∧
 (((Go.Value.slice (Option.some (Go.Addr.mk 1000 0 Option.none)) 501 501) = (Go.Value.slice (Option.some (Go.Addr.mk 1000 0 Option.none)) 501 501)) ∧
 (((Go.Value.int Go.IntKind.i64 (8 : Int)) = (Go.Value.int Go.IntKind.i64 (8 : Int))) ∧
 True))))))) ∧
 (True ∧
 (( (((Go.Value.slice (Option.some (Go.Addr.mk 1000 0 Option.none)) 16 501) = (Go.Value.slice (Option.some (Go.Addr.mk 1000 0 Option.none)) 16 501)) ∧
 (((Go.Value.int Go.IntKind.i64 (16 : Int)) = (Go.Value.int Go.IntKind.i64 (16 : Int))) ∧
 (((Go.Value.slice (Option.some (Go.Addr.mk 1000 0 Option.none)) 501 501) = (Go.Value.slice (Option.some (Go.Addr.mk 1000 0 Option.none)) 501 501)) ∧
 (((Go.Value.slice (Option.some (Go.Addr.mk 1000 16 Option.none)) 485 485) = (Go.Value.slice (Option.some (Go.Addr.mk 1000 16 Option.none)) 485 485)) ∧
 (((Go.Value.int Go.IntKind.i64 (16 : Int)) = (Go.Value.int Go.IntKind.i64 (16 : Int))) ∧
 (((Go.Value.slice (Option.some (Go.Addr.mk 1000 0 Option.none)) 501 501) = (Go.Value.slice (Option.some (Go.Addr.mk 1000 0 Option.none)) 501 501)) ∧
 (((Go.Value.int Go.IntKind.i64 (16 : Int)) = (Go.Value.int Go.IntKind.i64 (16 : Int))) ∧
 True)))))))) ∧
 (( (((Go.Value.int Go.IntKind.i64 (32 : Int)) = (Go.Value.int Go.IntKind.i64 (32 : Int))) ∧
 (((Go.Value.int Go.IntKind.i64 (16 : Int)) = (Go.Value.int Go.IntKind.i64 (16 : Int))) ∧
 (((Go.Value.slice (Option.some (Go.Addr.mk 1000 0 Option.none)) 501 501) = (Go.Value.slice (Option.some (Go.Addr.mk 1000 0 Option.none)) 501 501)) ∧
 (((Go.Value.int Go.IntKind.i64 (16 : Int)) = (Go.Value.int Go.IntKind.i64 (16 : Int))) ∧
 (((Go.Value.slice (Option.some (Go.Addr.mk 1000 0 Option.none)) 501 501) = (Go.Value.slice (Option.some (Go.Addr.mk 1000 0 Option.none)) 501 501)) ∧
 (((Go.Value.int Go.IntKind.i64 (16 : Int)) = (Go.Value.int Go.IntKind.i64 (16 : Int))) ∧
 True))))))) ∧
 (True ∧
 (( (((Go.Value.slice (Option.some (Go.Addr.mk 1000 0 Option.none)) 32 501) = (Go.Value.slice (Option.some (Go.Addr.mk 1000 0 Option.none)) 32 501)) ∧
 (((Go.Value.int Go.IntKind.i64 (32 : Int)) = (Go.Value.int Go.IntKind.i64 (32 : Int))) ∧
 (((Go.Value.slice (Option.some (Go.Addr.mk 1000 0 Option.none)) 501 501) = (Go.Value.slice (Option.some (Go.Addr.mk 1000 0 Option.none)) 501 501)) ∧
 (((Go.Value.slice (Option.some (Go.Addr.mk 1000 32 Option.none)) 469 469) = (Go.Value.slice (Option.some (Go.Addr.mk 1000 32 Option.none)) 469 469)) ∧
 (((Go.Value.int Go.IntKind.i64 (32 : Int)) = (Go.Value.int Go.IntKind.i64 (32 : Int))) ∧
 (((Go.Value.slice (Option.some (Go.Addr.mk 1000 0 Option.none)) 501 501) = (Go.Value.slice (Option.some (Go.Addr.mk 1000 0 Option.none)) 501 501)) ∧
 (((Go.Value.int Go.IntKind.i64 (32 : Int)) = (Go.Value.int Go.IntKind.i64 (32 : Int))) ∧
 True)))))))) ∧
 (( (((Go.Value.int Go.IntKind.i64 (64 : Int)) = (Go.Value.int Go.IntKind.i64 (64 : Int))) ∧
 (((Go.Value.int Go.IntKind.i64 (32 : Int)) = (Go.Value.int Go.IntKind.i64 (32 : Int))) ∧
 (((Go.Value.slice (Option.some (Go.Addr.mk 1000 0 Option.none)) 501 501) = (Go.Value.slice (Option.some (Go.Addr.mk 1000 0 Option.none)) 501 501)) ∧
 (((Go.Value.int Go.IntKind.i64 (32 : Int)) = (Go.Value.int Go.IntKind.i64 (32 : Int))) ∧
 (((Go.Value.slice (Option.some (Go.Addr.mk 1000 0 Option.none)) 501 501) = (Go.Value.slice (Option.some (Go.Addr.mk 1000 0 Option.none)) 501 501)) ∧
 (((Go.Value.int Go.IntKind.i64 (32 : Int)) = (Go.Value.int Go.IntKind.i64 (32 : Int))) ∧
 True))))))) ∧
 (True ∧
 (( (((Go.Value.slice (Option.some (Go.Addr.mk 1000 0 Option.none)) 64 501) = (Go.Value.slice (Option.some (Go.Addr.mk 1000 0 Option.none)) 64 501)) ∧
 (((Go.Value.int Go.IntKind.i64 (64 : Int)) = (Go.Value.int Go.IntKind.i64 (64 : Int))) ∧
 (((Go.Value.slice (Option.some (Go.Addr.mk 1000 0 Option.none)) 501 501) = (Go.Value.slice (Option.some (Go.Addr.mk 1000 0 Option.none)) 501 501)) ∧
 (((Go.Value.slice (Option.some (Go.Addr.mk 1000 64 Option.none)) 437 437) = (Go.Value.slice (Option.some (Go.Addr.mk 1000 64 Option.none)) 437 437)) ∧
 (((Go.Value.int Go.IntKind.i64 (64 : Int)) = (Go.Value.int Go.IntKind.i64 (64 : Int))) ∧
 (((Go.Value.slice (Option.some (Go.Addr.mk 1000 0 Option.none)) 501 501) = (Go.Value.slice (Option.some (Go.Addr.mk 1000 0 Option.none)) 501 501)) ∧
 (((Go.Value.int Go.IntKind.i64 (64 : Int)) = (Go.Value.int Go.IntKind.i64 (64 : Int))) ∧
 True)))))))) ∧
 (( (((Go.Value.int Go.IntKind.i64 (128 : Int)) = (Go.Value.int Go.IntKind.i64 (128 : Int))) ∧
 (((Go.Value.int Go.IntKind.i64 (64 : Int)) = (Go.Value.int Go.IntKind.i64 (64 : Int))) ∧
 (((Go.Value.slice (Option.some (Go.Addr.mk 1000 0 Option.none)) 501 501) = (Go.Value.slice (Option.some (Go.Addr.mk 1000 0 Option.none)) 501 501)) ∧
 (((Go.Value.int Go.IntKind.i64 (64 : Int)) = (Go.Value.int Go.IntKind.i64 (64 : Int))) ∧
 (((Go.Value.slice (Option.some (Go.Addr.mk 1000 0 Option.none)) 501 501) = (Go.Value.slice (Option.some (Go.Addr.mk 1000 0 Option.none)) 501 501)) ∧
 (((Go.Value.int Go.IntKind.i64 (64 : Int)) = (Go.Value.int Go.IntKind.i64 (64 : Int))) ∧
 True))))))) ∧
 (True ∧
 (( (((Go.Value.slice (Option.some (Go.Addr.mk 1000 0 Option.none)) 128 501) = (Go.Value.slice (Option.some (Go.Addr.mk 1000 0 Option.none)) 128 501)) ∧
 (((Go.Value.int Go.IntKind.i64 (128 : Int)) = (Go.Value.int Go.IntKind.i64 (128 : Int))) ∧
 (((Go.Value.slice (Option.some (Go.Addr.mk 1000 0 Option.none)) 501 501) = (Go.Value.slice (Option.some (Go.Addr.mk 1000 0 Option.none)) 501 501)) ∧
 (((Go.Value.slice (Option.some (Go.Addr.mk 1000 128 Option.none)) 373 373) = (Go.Value.slice (Option.some (Go.Addr.mk 1000 128 Option.none)) 373 373)) ∧
 (((Go.Value.int Go.IntKind.i64 (128 : Int)) = (Go.Value.int Go.IntKind.i64 (128 : Int))) ∧
 (((Go.Value.slice (Option.some (Go.Addr.mk 1000 0 Option.none)) 501 501) = (Go.Value.slice (Option.some (Go.Addr.mk 1000 0 Option.none)) 501 501)) ∧
 (((Go.Value.int Go.IntKind.i64 (128 : Int)) = (Go.Value.int Go.IntKind.i64 (128 : Int))) ∧
 True)))))))) ∧
 (( (((Go.Value.int Go.IntKind.i64 (256 : Int)) = (Go.Value.int Go.IntKind.i64 (256 : Int))) ∧
 (((Go.Value.int Go.IntKind.i64 (128 : Int)) = (Go.Value.int Go.IntKind.i64 (128 : Int))) ∧
 (((Go.Value.slice (Option.some (Go.Addr.mk 1000 0 Option.none)) 501 501) = (Go.Value.slice (Option.some (Go.Addr.mk 1000 0 Option.none)) 501 501)) ∧
 (((Go.Value.int Go.IntKind.i64 (128 : Int)) = (Go.Value.int Go.IntKind.i64 (128 : Int))) ∧
 (((Go.Value.slice (Option.some (Go.Addr.mk 1000 0 Option.none)) 501 501) = (Go.Value.slice (Option.some (Go.Addr.mk 1000 0 Option.none)) 501 501)) ∧
 (((Go.Value.int Go.IntKind.i64 (128 : Int)) = (Go.Value.int Go.IntKind.i64 (128 : Int))) ∧
 True))))))) ∧
 (True ∧
 (( (((Go.Value.slice (Option.some (Go.Addr.mk 1000 0 Option.none)) 256 501) = (Go.Value.slice (Option.some (Go.Addr.mk 1000 0 Option.none)) 256 501)) ∧
 (((Go.Value.int Go.IntKind.i64 (256 : Int)) = (Go.Value.int Go.IntKind.i64 (256 : Int))) ∧
 (((Go.Value.slice (Option.some (Go.Addr.mk 1000 0 Option.none)) 501 501) = (Go.Value.slice (Option.some (Go.Addr.mk 1000 0 Option.none)) 501 501)) ∧
 (((Go.Value.slice (Option.some (Go.Addr.mk 1000 256 Option.none)) 245 245) = (Go.Value.slice (Option.some (Go.Addr.mk 1000 256 Option.none)) 245 245)) ∧
 (((Go.Value.int Go.IntKind.i64 (256 : Int)) = (Go.Value.int Go.IntKind.i64 (256 : Int))) ∧
 (((Go.Value.slice (Option.some (Go.Addr.mk 1000 0 Option.none)) 501 501) = (Go.Value.slice (Option.some (Go.Addr.mk 1000 0 Option.none)) 501 501)) ∧
 (((Go.Value.int Go.IntKind.i64 (256 : Int)) = (Go.Value.int Go.IntKind.i64 (256 : Int))) ∧
 True)))))))) ∧
 (( (((Go.Value.int Go.IntKind.i64 (501 : Int)) = (Go.Value.int Go.IntKind.i64 (501 : Int))) ∧
 (((Go.Value.int Go.IntKind.i64 (256 : Int)) = (Go.Value.int Go.IntKind.i64 (256 : Int))) ∧
 (((Go.Value.slice (Option.some (Go.Addr.mk 1000 0 Option.none)) 501 501) = (Go.Value.slice (Option.some (Go.Addr.mk 1000 0 Option.none)) 501 501)) ∧
 (((Go.Value.int Go.IntKind.i64 (256 : Int)) = (Go.Value.int Go.IntKind.i64 (256 : Int))) ∧
 (((Go.Value.slice (Option.some (Go.Addr.mk 1000 0 Option.none)) 501 501) = (Go.Value.slice (Option.some (Go.Addr.mk 1000 0 Option.none)) 501 501)) ∧
 (((Go.Value.int Go.IntKind.i64 (256 : Int)) = (Go.Value.int Go.IntKind.i64 (256 : Int))) ∧
 True))))))) ∧
 (True ∧
 (((501 = 501) ∧
 (501 = 501)) ∧
 (k [(D.sl 501 1 (List.replicate 501 (Go.Value.int Go.IntKind.i64 (x))))]))))))))))))))))))))))))))))) := by kernel_rfl
end Go.Proofs.G5b

/- One number is put before the others of an own list, where there is room: what it does (slices.Insert at 0). -/
namespace Go.Abs
def wpIns (args : Array Value) (H : Heap) (k : Value → Heap → Prop) : Prop :=
  match args.toList with
  | [.slice (some ⟨b, 0, none⟩) n cap, .int .i64 z, .slice (some ⟨vb, 0, none⟩) 1 _] =>
    match H.get b, H.get vb with
    | some (.sym cs true 1), some (.cells [x] _ false _) =>
      if z = 0 ∧ mbase ≤ b ∧ b ≠ vb ∧ 0 < n ∧ n + 1 ≤ cap ∧ cap ≤ 1000000 ∧ cs.length = cap ∧ cellP x = true then
        k (.slice (some ⟨b, 0, none⟩) (n + 1) cap) (H.set b (.sym (listSet (listSet cs 1 (cs.take n)) 0 [x]) true 1))
      else False
    | _, _ => False
  | _ => False
end Go.Abs

/- What is left to show of each function, written out; the kernel reckons it. -/
namespace Go.Proofs.G5b
open Go Go.Abs Go.Proofs
set_option maxRecDepth 100000
set_option linter.unusedVariables false
abbrev S502 (n cap : Nat) : Value := .slice (some ⟨502, 0, none⟩) n cap
def preI : FuncId → Option Handler := fun g => if g == 95 then some (fun _ args _ H k => wpIns args H k) else none
abbrev hI : Handler := handlerX Try.prog preI 12 6
def gAf (cap1 cap2 cap3 : Nat) (cs0 : List Value) (den a b d c1 c2 x : Int) (k : List D → Prop) : Prop := wpFn Try.prog hI (fun _ _ _ => False) 6 88 #[.agg #[S500 2 cap1, vI den], .agg #[S501 2 cap2, vI d], .agg #[S502 2 cap3, vI x]] (heapOf [(500, .sym cs0 false 2), (501, .sym [vI a, vI b] false 1), (502, .sym [vI c1, vI c2] false 1)]) (dataK k)
theorem gAf_text (cap1 : Nat) (cap2 : Nat) (cap3 : Nat) (cs0 : List Go.Value) (den : Int) (a : Int) (b : Int) (d : Int) (c1 : Int) (c2 : Int) (x : Int) (k : List D → Prop) : gAf cap1 cap2 cap3 cs0 den a b d c1 c2 x k =
 (∃ n1 : Int,
 ((At [(Go.Value.int Go.IntKind.i64 (a)), (Go.Value.int Go.IntKind.i64 (b))] 0 1 [(Go.Value.int Go.IntKind.i64 (n1))]) ∧
 (∃ n2 : Int,
 ((At [(Go.Value.int Go.IntKind.i64 (c1)), (Go.Value.int Go.IntKind.i64 (c2))] 0 1 [(Go.Value.int Go.IntKind.i64 (n2))]) ∧
 (∃ n3 : Int,
 ((At [(Go.Value.int Go.IntKind.i64 (a)), (Go.Value.int Go.IntKind.i64 (b))] 1 1 [(Go.Value.int Go.IntKind.i64 (n3))]) ∧
 (∃ n4 : Int,
 ((At [(Go.Value.int Go.IntKind.i64 (c1)), (Go.Value.int Go.IntKind.i64 (c2))] 1 1 [(Go.Value.int Go.IntKind.i64 (n4))]) ∧
 (((2 = 2) ∧
 (2 = 2)) ∧
 (k [(D.agg [(D.sl 2 1 [(Go.Value.int Go.IntKind.i64 (Go.IntKind.wrap Go.IntKind.i64 (Go.IntKind.wrap Go.IntKind.i64 (Go.IntKind.wrap Go.IntKind.i64 (x * Go.IntKind.wrap Go.IntKind.i64 (d * den)) + Go.IntKind.wrap Go.IntKind.i64 (n2 * n1)) + Go.IntKind.wrap Go.IntKind.i64 (n4 * n3)))), (Go.Value.int Go.IntKind.i64 (Go.IntKind.wrap Go.IntKind.i64 (n1 * den)))]), (D.val (Go.Value.int Go.IntKind.i64 (Go.IntKind.wrap Go.IntKind.i64 (d * den))))])])))))))))) := by kernel_rfl
end Go.Proofs.G5b

/- What is left to show of each function, written out; the kernel reckons it. -/
namespace Go.Proofs.G5b
open Go Go.Abs Go.Proofs
set_option maxRecDepth 100000
set_option linter.unusedVariables false
abbrev hZ : Handler := handlerX Try.prog (fun _ => none) 12 6
def gPr (a b c d : Int) (k : List D → Prop) : Prop := wpFn Try.prog hZ (fun _ _ _ => False) 12 93 #[.agg #[vI a, vI b], .agg #[vI c, vI d]] (heapOf []) (dataK k)
theorem gPr_text (a : Int) (b : Int) (c : Int) (d : Int) (k : List D → Prop) : gPr a b c d k =
 (∃ n1 : Int,
 ((At [(Go.Value.int Go.IntKind.i64 (Go.IntKind.wrap Go.IntKind.i64 (a * c))), (Go.Value.int Go.IntKind.i64 (Go.IntKind.wrap Go.IntKind.i64 (a * d))), (Go.Value.int Go.IntKind.i64 (Go.IntKind.wrap Go.IntKind.i64 (b * c))), (Go.Value.int Go.IntKind.i64 (Go.IntKind.wrap Go.IntKind.i64 (b * d)))] 0 1 [(Go.Value.int Go.IntKind.i64 (n1))]) ∧
 (∃ n2 : Int,
 ((At [(Go.Value.int Go.IntKind.i64 (Go.IntKind.wrap Go.IntKind.i64 (a * c))), (Go.Value.int Go.IntKind.i64 (Go.IntKind.wrap Go.IntKind.i64 (a * d))), (Go.Value.int Go.IntKind.i64 (Go.IntKind.wrap Go.IntKind.i64 (b * c))), (Go.Value.int Go.IntKind.i64 (Go.IntKind.wrap Go.IntKind.i64 (b * d)))] 1 1 [(Go.Value.int Go.IntKind.i64 (n2))]) ∧
 (∃ n3 : Int,
 ((At [(Go.Value.int Go.IntKind.i64 (Go.IntKind.wrap Go.IntKind.i64 (a * c))), (Go.Value.int Go.IntKind.i64 (Go.IntKind.wrap Go.IntKind.i64 (a * d))), (Go.Value.int Go.IntKind.i64 (Go.IntKind.wrap Go.IntKind.i64 (b * c))), (Go.Value.int Go.IntKind.i64 (Go.IntKind.wrap Go.IntKind.i64 (b * d)))] 2 1 [(Go.Value.int Go.IntKind.i64 (n3))]) ∧
 (∃ n4 : Int,
 ((At [(Go.Value.int Go.IntKind.i64 (Go.IntKind.wrap Go.IntKind.i64 (a * c))), (Go.Value.int Go.IntKind.i64 (Go.IntKind.wrap Go.IntKind.i64 (a * d))), (Go.Value.int Go.IntKind.i64 (Go.IntKind.wrap Go.IntKind.i64 (b * c))), (Go.Value.int Go.IntKind.i64 (Go.IntKind.wrap Go.IntKind.i64 (b * d)))] 3 1 [(Go.Value.int Go.IntKind.i64 (n4))]) ∧
 (∃ n5 : Int,
 ((At [(Go.Value.int Go.IntKind.i64 (Go.IntKind.wrap Go.IntKind.i64 (a * c))), (Go.Value.int Go.IntKind.i64 (Go.IntKind.wrap Go.IntKind.i64 (a * d))), (Go.Value.int Go.IntKind.i64 (Go.IntKind.wrap Go.IntKind.i64 (b * c))), (Go.Value.int Go.IntKind.i64 (Go.IntKind.wrap Go.IntKind.i64 (b * d)))] 0 1 [(Go.Value.int Go.IntKind.i64 (n5))]) ∧
 (∃ n6 : Int,
 ((At [(Go.Value.int Go.IntKind.i64 (Go.IntKind.wrap Go.IntKind.i64 (a * c))), (Go.Value.int Go.IntKind.i64 (Go.IntKind.wrap Go.IntKind.i64 (a * d))), (Go.Value.int Go.IntKind.i64 (Go.IntKind.wrap Go.IntKind.i64 (b * c))), (Go.Value.int Go.IntKind.i64 (Go.IntKind.wrap Go.IntKind.i64 (b * d)))] 1 1 [(Go.Value.int Go.IntKind.i64 (n6))]) ∧
 (∃ n7 : Int,
 ((At [(Go.Value.int Go.IntKind.i64 (Go.IntKind.wrap Go.IntKind.i64 (a * c))), (Go.Value.int Go.IntKind.i64 (Go.IntKind.wrap Go.IntKind.i64 (a * d))), (Go.Value.int Go.IntKind.i64 (Go.IntKind.wrap Go.IntKind.i64 (b * c))), (Go.Value.int Go.IntKind.i64 (Go.IntKind.wrap Go.IntKind.i64 (b * d)))] 2 1 [(Go.Value.int Go.IntKind.i64 (n7))]) ∧
 (∃ n8 : Int,
 ((At [(Go.Value.int Go.IntKind.i64 (Go.IntKind.wrap Go.IntKind.i64 (a * c))), (Go.Value.int Go.IntKind.i64 (Go.IntKind.wrap Go.IntKind.i64 (a * d))), (Go.Value.int Go.IntKind.i64 (Go.IntKind.wrap Go.IntKind.i64 (b * c))), (Go.Value.int Go.IntKind.i64 (Go.IntKind.wrap Go.IntKind.i64 (b * d)))] 3 1 [(Go.Value.int Go.IntKind.i64 (n8))]) ∧
 (k [(D.agg [(D.val (Go.Value.int Go.IntKind.i64 (if n4 < if n3 < if n2 < n1 then n2 else n1 then n3 else if n2 < n1 then n2 else n1 then n4 else if n3 < if n2 < n1 then n2 else n1 then n3 else if n2 < n1 then n2 else n1))), (D.val (Go.Value.int Go.IntKind.i64 (if n8 > if n7 > if n6 > n5 then n6 else n5 then n7 else if n6 > n5 then n6 else n5 then n8 else if n7 > if n6 > n5 then n6 else n5 then n7 else if n6 > n5 then n6 else n5)))])]))))))))))))))))) := by kernel_rfl
def gLT (C : Ct) (L : AtLoop) (n d : Int) (k : List D → Prop) : Prop := wpFn Try.prog hZ L 0 73 #[vI n, vI d] (heapOf []) (dataK k)
theorem gLT_text (C : Ct) (L : AtLoop) (n : Int) (d : Int) (k : List D → Prop) : gLT C L n d k =
 (L 0 [(Prod.mk 0 (Go.Value.int Go.IntKind.i64 (n))), (Prod.mk 1 (Go.Value.int Go.IntKind.i64 (d))), (Prod.mk 4 (Go.Value.pointer (Option.some (Go.Addr.mk 1000 0 Option.none)))), (Prod.mk 5 (Go.Value.int Go.IntKind.i64 (n))), (Prod.mk 6 (Go.Value.int Go.IntKind.i64 (d)))] [(Prod.mk 1000 (AObj.cells [(Go.Value.int Go.IntKind.i64 (0 : Int)), (Go.Value.int Go.IntKind.i64 (0 : Int))] 63 false 2))]) := by kernel_rfl
def sLT (n d a b : Int) : Slots := [(0, vI n), (1, vI d), (4, P1 1000 0), (5, vI a), (6, vI b)]
abbrev bLT : Blocks := [(1000, .cells [vI 0, vI 0] 63 false 2)]
def rLT (C : Ct) (L : AtLoop) (n d a b : Int) (B : Bx) (X : Xx) (k : List D → Prop) : Prop := wpRound Try.prog hZ L 73 0 (sLT n d a b) bLT B X (dataK k)
theorem rLT_text (C : Ct) (L : AtLoop) (n : Int) (d : Int) (a : Int) (b : Int) (B : Bx) (X : Xx) (k : List D → Prop) : rLT C L n d a b B X k =
 (bcase (b != 0)
 (bcase (b != 0)
 (((bcase (b != 0)
 ((Go.Value.int Go.IntKind.i64 (Int.tmod a b)) = (Go.Value.int Go.IntKind.i64 (Int.tmod a b)))
 False) ∧
 (((Go.Value.int Go.IntKind.i64 (b)) = (Go.Value.int Go.IntKind.i64 (b))) ∧
 (((Go.Value.int Go.IntKind.i64 (a)) = (Go.Value.int Go.IntKind.i64 (a))) ∧
 (((Go.Value.int Go.IntKind.i64 (b)) = (Go.Value.int Go.IntKind.i64 (b))) ∧
 True)))) ∧
 (((bcase (b != 0)
 ((Go.Value.int Go.IntKind.i64 (Int.tmod a b)) = (Go.Value.int Go.IntKind.i64 (Int.tmod a b)))
 False) ∧
 (((Go.Value.int Go.IntKind.i64 (b)) = (Go.Value.int Go.IntKind.i64 (b))) ∧
 True)) ∧
 (True ∧
 (B [(Prod.mk 0 (Go.Value.int Go.IntKind.i64 (n))), (Prod.mk 1 (Go.Value.int Go.IntKind.i64 (d))), (Prod.mk 4 (Go.Value.pointer (Option.some (Go.Addr.mk 1000 0 Option.none)))), (Prod.mk 5 (Go.Value.int Go.IntKind.i64 (b))), (Prod.mk 6 (Go.Value.int Go.IntKind.i64 (Int.tmod a b)))] [(Prod.mk 1000 (AObj.cells [(Go.Value.int Go.IntKind.i64 (0 : Int)), (Go.Value.int Go.IntKind.i64 (0 : Int))] 63 false 2))]))))
 False)
 (X 0 [(Prod.mk 0 (Go.Value.int Go.IntKind.i64 (n))), (Prod.mk 1 (Go.Value.int Go.IntKind.i64 (d))), (Prod.mk 4 (Go.Value.pointer (Option.some (Go.Addr.mk 1000 0 Option.none)))), (Prod.mk 5 (Go.Value.int Go.IntKind.i64 (a)))] [(Prod.mk 1000 (AObj.cells [(Go.Value.int Go.IntKind.i64 (0 : Int)), (Go.Value.int Go.IntKind.i64 (0 : Int))] 63 false 2))])) := by kernel_rfl
def nLT (C : Ct) (L : AtLoop) (n d a : Int) (k : List D → Prop) : Prop := wpNext Try.prog hZ L 73 0 .normal [(0, vI n), (1, vI d), (4, P1 1000 0), (5, vI a)] bLT (dataK k)
theorem nLT_text (C : Ct) (L : AtLoop) (n : Int) (d : Int) (a : Int) (k : List D → Prop) : nLT C L n d a k =
 (bcase (decide (a < 0))
 (bcase (decide (d < 0))
 (bcase (a != 0)
 (bcase (a != 0)
 ((((Go.Value.agg [(Go.Value.int Go.IntKind.i64 (Go.IntKind.wrap Go.IntKind.i64 (Int.tdiv n a))), (Go.Value.int Go.IntKind.i64 (Go.IntKind.wrap Go.IntKind.i64 (Int.tdiv d a)))].toArray) = (Go.Value.agg [(Go.Value.int Go.IntKind.i64 (Go.IntKind.wrap Go.IntKind.i64 (Int.tdiv n a))), (Go.Value.int Go.IntKind.i64 (Go.IntKind.wrap Go.IntKind.i64 (Int.tdiv d a)))].toArray)) ∧
 ((bcase (a != 0)
 ((Go.Value.int Go.IntKind.i64 (Go.IntKind.wrap Go.IntKind.i64 (Int.tdiv d a))) = (Go.Value.int Go.IntKind.i64 (Go.IntKind.wrap Go.IntKind.i64 (Int.tdiv d a))))
 False) ∧
 (((Go.Value.int Go.IntKind.i64 (a)) = (Go.Value.int Go.IntKind.i64 (a))) ∧
 (((Go.Value.int Go.IntKind.i64 (d)) = (Go.Value.int Go.IntKind.i64 (d))) ∧
 ((bcase (a != 0)
 ((Go.Value.int Go.IntKind.i64 (Go.IntKind.wrap Go.IntKind.i64 (Int.tdiv n a))) = (Go.Value.int Go.IntKind.i64 (Go.IntKind.wrap Go.IntKind.i64 (Int.tdiv n a))))
 False) ∧
 (((Go.Value.int Go.IntKind.i64 (a)) = (Go.Value.int Go.IntKind.i64 (a))) ∧
 (((Go.Value.int Go.IntKind.i64 (n)) = (Go.Value.int Go.IntKind.i64 (n))) ∧
 True))))))) ∧
 (True ∧
 (k [(D.agg [(D.val (Go.Value.int Go.IntKind.i64 (Go.IntKind.wrap Go.IntKind.i64 (Int.tdiv n a)))), (D.val (Go.Value.int Go.IntKind.i64 (Go.IntKind.wrap Go.IntKind.i64 (Int.tdiv d a))))])])))
 False)
 False)
 (bcase (Go.IntKind.wrap Go.IntKind.i64 (0 - a) != 0)
 (bcase (Go.IntKind.wrap Go.IntKind.i64 (0 - a) != 0)
 ((((Go.Value.agg [(Go.Value.int Go.IntKind.i64 (Go.IntKind.wrap Go.IntKind.i64 (Int.tdiv n (Go.IntKind.wrap Go.IntKind.i64 (0 - a))))), (Go.Value.int Go.IntKind.i64 (Go.IntKind.wrap Go.IntKind.i64 (Int.tdiv d (Go.IntKind.wrap Go.IntKind.i64 (0 - a)))))].toArray) = (Go.Value.agg [(Go.Value.int Go.IntKind.i64 (Go.IntKind.wrap Go.IntKind.i64 (Int.tdiv n (Go.IntKind.wrap Go.IntKind.i64 (0 - a))))), (Go.Value.int Go.IntKind.i64 (Go.IntKind.wrap Go.IntKind.i64 (Int.tdiv d (Go.IntKind.wrap Go.IntKind.i64 (0 - a)))))].toArray)) ∧
 ((bcase (Go.IntKind.wrap Go.IntKind.i64 (0 - a) != 0)
 ((Go.Value.int Go.IntKind.i64 (Go.IntKind.wrap Go.IntKind.i64 (Int.tdiv d (Go.IntKind.wrap Go.IntKind.i64 (0 - a))))) = (Go.Value.int Go.IntKind.i64 (Go.IntKind.wrap Go.IntKind.i64 (Int.tdiv d (Go.IntKind.wrap Go.IntKind.i64 (0 - a))))))
 False) ∧
 (((Go.Value.int Go.IntKind.i64 (Go.IntKind.wrap Go.IntKind.i64 (0 - a))) = (Go.Value.int Go.IntKind.i64 (Go.IntKind.wrap Go.IntKind.i64 (0 - a)))) ∧
 (((Go.Value.int Go.IntKind.i64 (d)) = (Go.Value.int Go.IntKind.i64 (d))) ∧
 ((bcase (Go.IntKind.wrap Go.IntKind.i64 (0 - a) != 0)
 ((Go.Value.int Go.IntKind.i64 (Go.IntKind.wrap Go.IntKind.i64 (Int.tdiv n (Go.IntKind.wrap Go.IntKind.i64 (0 - a))))) = (Go.Value.int Go.IntKind.i64 (Go.IntKind.wrap Go.IntKind.i64 (Int.tdiv n (Go.IntKind.wrap Go.IntKind.i64 (0 - a))))))
 False) ∧
 (((Go.Value.int Go.IntKind.i64 (Go.IntKind.wrap Go.IntKind.i64 (0 - a))) = (Go.Value.int Go.IntKind.i64 (Go.IntKind.wrap Go.IntKind.i64 (0 - a)))) ∧
 (((Go.Value.int Go.IntKind.i64 (n)) = (Go.Value.int Go.IntKind.i64 (n))) ∧
 True))))))) ∧
 (True ∧
 (k [(D.agg [(D.val (Go.Value.int Go.IntKind.i64 (Go.IntKind.wrap Go.IntKind.i64 (Int.tdiv n (Go.IntKind.wrap Go.IntKind.i64 (0 - a)))))), (D.val (Go.Value.int Go.IntKind.i64 (Go.IntKind.wrap Go.IntKind.i64 (Int.tdiv d (Go.IntKind.wrap Go.IntKind.i64 (0 - a))))))])])))
 False)
 False))
 (bcase (decide (d < 0))
 (bcase (Go.IntKind.wrap Go.IntKind.i64 (0 - a) != 0)
 (bcase (Go.IntKind.wrap Go.IntKind.i64 (0 - a) != 0)
 ((((Go.Value.agg [(Go.Value.int Go.IntKind.i64 (Go.IntKind.wrap Go.IntKind.i64 (Int.tdiv n (Go.IntKind.wrap Go.IntKind.i64 (0 - a))))), (Go.Value.int Go.IntKind.i64 (Go.IntKind.wrap Go.IntKind.i64 (Int.tdiv d (Go.IntKind.wrap Go.IntKind.i64 (0 - a)))))].toArray) = (Go.Value.agg [(Go.Value.int Go.IntKind.i64 (Go.IntKind.wrap Go.IntKind.i64 (Int.tdiv n (Go.IntKind.wrap Go.IntKind.i64 (0 - a))))), (Go.Value.int Go.IntKind.i64 (Go.IntKind.wrap Go.IntKind.i64 (Int.tdiv d (Go.IntKind.wrap Go.IntKind.i64 (0 - a)))))].toArray)) ∧
 ((bcase (Go.IntKind.wrap Go.IntKind.i64 (0 - a) != 0)
 ((Go.Value.int Go.IntKind.i64 (Go.IntKind.wrap Go.IntKind.i64 (Int.tdiv d (Go.IntKind.wrap Go.IntKind.i64 (0 - a))))) = (Go.Value.int Go.IntKind.i64 (Go.IntKind.wrap Go.IntKind.i64 (Int.tdiv d (Go.IntKind.wrap Go.IntKind.i64 (0 - a))))))
 False) ∧
 (((Go.Value.int Go.IntKind.i64 (Go.IntKind.wrap Go.IntKind.i64 (0 - a))) = (Go.Value.int Go.IntKind.i64 (Go.IntKind.wrap Go.IntKind.i64 (0 - a)))) ∧
 (((Go.Value.int Go.IntKind.i64 (d)) = (Go.Value.int Go.IntKind.i64 (d))) ∧
 ((bcase (Go.IntKind.wrap Go.IntKind.i64 (0 - a) != 0)
 ((Go.Value.int Go.IntKind.i64 (Go.IntKind.wrap Go.IntKind.i64 (Int.tdiv n (Go.IntKind.wrap Go.IntKind.i64 (0 - a))))) = (Go.Value.int Go.IntKind.i64 (Go.IntKind.wrap Go.IntKind.i64 (Int.tdiv n (Go.IntKind.wrap Go.IntKind.i64 (0 - a))))))
 False) ∧
 (((Go.Value.int Go.IntKind.i64 (Go.IntKind.wrap Go.IntKind.i64 (0 - a))) = (Go.Value.int Go.IntKind.i64 (Go.IntKind.wrap Go.IntKind.i64 (0 - a)))) ∧
 (((Go.Value.int Go.IntKind.i64 (n)) = (Go.Value.int Go.IntKind.i64 (n))) ∧
 True))))))) ∧
 (True ∧
 (k [(D.agg [(D.val (Go.Value.int Go.IntKind.i64 (Go.IntKind.wrap Go.IntKind.i64 (Int.tdiv n (Go.IntKind.wrap Go.IntKind.i64 (0 - a)))))), (D.val (Go.Value.int Go.IntKind.i64 (Go.IntKind.wrap Go.IntKind.i64 (Int.tdiv d (Go.IntKind.wrap Go.IntKind.i64 (0 - a))))))])])))
 False)
 False)
 (bcase (a != 0)
 (bcase (a != 0)
 ((((Go.Value.agg [(Go.Value.int Go.IntKind.i64 (Go.IntKind.wrap Go.IntKind.i64 (Int.tdiv n a))), (Go.Value.int Go.IntKind.i64 (Go.IntKind.wrap Go.IntKind.i64 (Int.tdiv d a)))].toArray) = (Go.Value.agg [(Go.Value.int Go.IntKind.i64 (Go.IntKind.wrap Go.IntKind.i64 (Int.tdiv n a))), (Go.Value.int Go.IntKind.i64 (Go.IntKind.wrap Go.IntKind.i64 (Int.tdiv d a)))].toArray)) ∧
 ((bcase (a != 0)
 ((Go.Value.int Go.IntKind.i64 (Go.IntKind.wrap Go.IntKind.i64 (Int.tdiv d a))) = (Go.Value.int Go.IntKind.i64 (Go.IntKind.wrap Go.IntKind.i64 (Int.tdiv d a))))
 False) ∧
 (((Go.Value.int Go.IntKind.i64 (a)) = (Go.Value.int Go.IntKind.i64 (a))) ∧
 (((Go.Value.int Go.IntKind.i64 (d)) = (Go.Value.int Go.IntKind.i64 (d))) ∧
 ((bcase (a != 0)
 ((Go.Value.int Go.IntKind.i64 (Go.IntKind.wrap Go.IntKind.i64 (Int.tdiv n a))) = (Go.Value.int Go.IntKind.i64 (Go.IntKind.wrap Go.IntKind.i64 (Int.tdiv n a))))
 False) ∧
 (((Go.Value.int Go.IntKind.i64 (a)) = (Go.Value.int Go.IntKind.i64 (a))) ∧
 (((Go.Value.int Go.IntKind.i64 (n)) = (Go.Value.int Go.IntKind.i64 (n))) ∧
 True))))))) ∧
 (True ∧
 (k [(D.agg [(D.val (Go.Value.int Go.IntKind.i64 (Go.IntKind.wrap Go.IntKind.i64 (Int.tdiv n a)))), (D.val (Go.Value.int Go.IntKind.i64 (Go.IntKind.wrap Go.IntKind.i64 (Int.tdiv d a))))])])))
 False)
 False))) := by kernel_rfl
end Go.Proofs.G5b

/- Numbers: greatest divisors, quotients rounded down, fractions in lowest terms. -/
namespace Go.Abs
theorem natAbs_tmod (a b : Int) : (a.tmod b).natAbs = a.natAbs % b.natAbs := Int.natAbs_tmod a b
/-- one step of the division of both -/
theorem gcd_step (a b : Int) : (Int.gcd b (a.tmod b) : Int) = Int.gcd a b := by
  have : Int.gcd b (a.tmod b) = Int.gcd a b := by
    show Nat.gcd b.natAbs (a.tmod b).natAbs = Nat.gcd a.natAbs b.natAbs
    rw [natAbs_tmod, Nat.gcd_comm b.natAbs, ← Nat.gcd_rec, Nat.gcd_comm]
  rw [this]
theorem gcd_step_lt {a b : Int} (h : b ≠ 0) : (a.tmod b).natAbs < b.natAbs := by
  rw [natAbs_tmod]; exact Nat.mod_lt _ (by omega)
theorem gcd_end (a : Int) : (Int.gcd a 0 : Int) = if a < 0 then -a else a := by
  have : Int.gcd a 0 = a.natAbs := Nat.gcd_zero_right _
  rw [this]; split <;> omega
theorem gcd_pos {a b : Int} (h : a ≠ 0 ∨ b ≠ 0) : 0 < (Int.gcd a b : Int) := by
  have : Int.gcd a b ≠ 0 := fun e => by
    have := Int.gcd_eq_zero_iff.1 e
    omega
  omega
theorem gcd_dvd1 (a b : Int) : (Int.gcd a b : Int) ∣ a := Int.gcd_dvd_left ..
theorem gcd_dvd2 (a b : Int) : (Int.gcd a b : Int) ∣ b := Int.gcd_dvd_right ..
theorem gcd_le1 {a b : Int} (h : 0 < a) : (Int.gcd a b : Int) ≤ a := Int.le_of_dvd h (gcd_dvd1 a b)
theorem gcd_le2 {a b : Int} (h : 0 < b) : (Int.gcd a b : Int) ≤ b := Int.le_of_dvd h (gcd_dvd2 a b)
/-- rounded down, as it is written -/
theorem floor_eq {n b : Int} (hb : 0 < b) : (if n.tmod b < 0 then n.tdiv b - 1 else n.tdiv b) = n / b := by
  rw [Int.tdiv_eq_ediv, Int.tmod_eq_emod]
  have h0 := Int.emod_nonneg n (show b ≠ 0 by omega)
  have h1 := Int.emod_lt_of_pos n hb
  have hs : b.sign = 1 := Int.sign_eq_one_of_pos hb
  have hn : (b.natAbs : Int) = b := by omega
  split
  · rename_i h
    rw [if_neg (by omega)]; omega
  · rename_i h
    have hne : n % b ≠ 0 := fun e => h (.inr (Int.dvd_of_emod_eq_zero e))
    rw [if_pos (by omega), hs]; omega
theorem tdiv_nn {a b : Int} (h : 0 ≤ a) : a.tdiv b = a / b := Int.tdiv_eq_ediv_of_nonneg h
end Go.Abs

/- Fractions in lowest terms: their parts, and how they compare. -/
namespace Go.Abs
/-- a fraction in lowest terms -/
def low (n d : Int) : Int × Int := if d < 0 then ((0 - n).tdiv (Int.gcd n d), (0 - d).tdiv (Int.gcd n d)) else (n.tdiv (Int.gcd n d), d.tdiv (Int.gcd n d))
theorem gcd_neg2 (n d : Int) : Int.gcd (0 - n) (0 - d) = Int.gcd n d := by
  show Nat.gcd (0 - n).natAbs (0 - d).natAbs = Nat.gcd n.natAbs d.natAbs
  congr 1 <;> omega
theorem tdiv_small {n g : Int} (hn : -4611686018427387904 ≤ n ∧ n ≤ 4611686018427387904) (_ : 0 < g) : -4611686018427387904 ≤ n.tdiv g ∧ n.tdiv g ≤ 4611686018427387904 := by
  have h := Int.natAbs_tdiv_le_natAbs n g
  omega
theorem tdiv_neg' (n g : Int) : n.tdiv (0 - g) = (0 - n).tdiv g := by
  rw [show (0 : Int) - g = -g by omega, show (0 : Int) - n = -n by omega, Int.tdiv_neg, Int.neg_tdiv]
theorem low_parts {n d : Int} (hd : 0 < d) : ∃ g : Int, 0 < g ∧ n = g * (low n d).1 ∧ d = g * (low n d).2 ∧ ((Int.gcd (low n d).1 (low n d).2 : Nat) : Int) = 1 := by
  have hg := gcd_pos (a := n) (b := d) (.inr (by omega))
  obtain ⟨A, hA⟩ := gcd_dvd1 n d
  obtain ⟨B, hB⟩ := gcd_dvd2 n d
  have e1 : (low n d).1 = A := by
    rw [low, if_neg (by omega)]
    show n.tdiv _ = A
    generalize hG : ((Int.gcd n d : Nat) : Int) = G at hA hg ⊢
    rw [hA]
    exact Int.mul_tdiv_cancel_left A (by omega)
  have e2 : (low n d).2 = B := by
    rw [low, if_neg (by omega)]
    show d.tdiv _ = B
    generalize hG : ((Int.gcd n d : Nat) : Int) = G at hB hg ⊢
    rw [hB]
    exact Int.mul_tdiv_cancel_left B (by omega)
  refine ⟨Int.gcd n d, hg, by rw [e1]; exact hA, by rw [e2]; exact hB, ?_⟩
  rw [e1, e2]
  have h3 : Int.gcd n d = Int.gcd n d * Int.gcd A B := by
    have : Int.gcd ((Int.gcd n d : Int) * A) ((Int.gcd n d : Int) * B) = Int.gcd n d * Int.gcd A B := by
      rw [Int.gcd_mul_left]; rfl
    rw [← hA, ← hB] at this
    exact this
  have h4 : Int.gcd A B = 1 := by
    have hp : 0 < Int.gcd n d := by omega
    exact Nat.eq_of_mul_eq_mul_left hp (by omega)
  omega
theorem low_den {n d : Int} (hd : 0 < d) : 0 < (low n d).2 ∧ (low n d).2 ≤ d := by
  obtain ⟨g, hg, h1, h2, _⟩ := low_parts (n := n) hd
  have hp : 0 < (low n d).2 := by
    rw [h2] at hd
    exact Int.pos_of_mul_pos_right hd hg
  refine ⟨hp, ?_⟩
  have := Int.mul_le_mul_of_nonneg_right (show 1 ≤ g by omega) (Int.le_of_lt hp)
  omega
theorem low_num {n d : Int} (hd : 0 < d) : (low n d).1.natAbs ≤ n.natAbs := by
  rw [low, if_neg (by omega)]
  exact Int.natAbs_tdiv_le_natAbs n _
/-- how two of them compare -/
theorem low_le {n d m e : Int} (hd : 0 < d) (he : 0 < e) : (low n d).1 * (low m e).2 ≤ (low m e).1 * (low n d).2 ↔ n * e ≤ m * d := by
  obtain ⟨g, hg, h1, h2, _⟩ := low_parts (n := n) hd
  obtain ⟨k, hk, h3, h4, _⟩ := low_parts (n := m) he
  have e1 : n * e = (g * k) * ((low n d).1 * (low m e).2) := by
    conv => lhs; rw [h1]; rhs; rw [h4]
    simp only [Int.mul_assoc, Int.mul_left_comm]
  have e2 : m * d = (g * k) * ((low m e).1 * (low n d).2) := by
    conv => lhs; rw [h3]; rhs; rw [h2]
    simp only [Int.mul_assoc, Int.mul_left_comm, Int.mul_comm]
  rw [e1, e2]
  have hgk := Int.mul_pos hg hk
  exact ⟨fun h => Int.mul_le_mul_of_nonneg_left h (Int.le_of_lt hgk), fun h => Int.le_of_mul_le_mul_left h hgk⟩
theorem low_lt {n d m e : Int} (hd : 0 < d) (he : 0 < e) : (low n d).1 * (low m e).2 < (low m e).1 * (low n d).2 ↔ n * e < m * d := by
  have := low_le (n := m) (d := e) (m := n) (e := d) he hd
  omega
/-- a fraction that is a whole number -/
theorem low_whole {n d x : Int} (hd : 0 < d) (h : n = x * d) : low n d = (x, 1) := by
  subst h
  have hgd : ((Int.gcd (x * d) d : Nat) : Int) = d := by
    have : Int.gcd (x * d) d = d.natAbs := Int.gcd_mul_left_left ..
    omega
  rw [low, if_neg (by omega), hgd, Int.mul_tdiv_cancel _ (by omega), Int.tdiv_self (by omega)]
/-- ends of a fraction's size -/
theorem low_small {n d B : Int} (hd : 0 < d) (hB : d ≤ B) (hn : -B ≤ n ∧ n ≤ B) : (-B ≤ (low n d).1 ∧ (low n d).1 ≤ B) ∧ 1 ≤ (low n d).2 ∧ (low n d).2 ≤ B := by
  have h1 := low_num (n := n) hd
  have h2 := low_den (n := n) hd
  omega
end Go.Abs

/- Chapter 5: fractions in lowest terms, products of ranges, in data. -/
namespace Go.Proofs.G5b
open Go Go.Abs Go.Proofs Go.Proofs.G5
set_option maxRecDepth 100000
theorem hokZ : HandlerOK Try.prog hZ := handlerX_ok mixed (fun g h he => by cases he) (by decide) 6
/-- the least and the greatest of four products -/
def mn (x y : Int) : Int := if y < x then y else x
def mx (x y : Int) : Int := if y > x then y else x
abbrev W6 (z : Int) : Int := IntKind.wrap .i64 z
def prV (a b c d : Int) : Int × Int := (mn (mn (mn (W6 (a * c)) (W6 (a * d))) (W6 (b * c))) (W6 (b * d)), mx (mx (mx (W6 (a * c)) (W6 (a * d))) (W6 (b * c))) (W6 (b * d)))
theorem at_lit {l : List Value} {k : Nat} {v : Value} (h : k + 1 ≤ l.length) (e : (l.drop k).take 1 = [v]) : At l k 1 [v] := ⟨h, e⟩
theorem conPr (a b c d : Int) : C5 93 [.agg [dI a, dI b], .agg [dI c, dI d]] [.agg [dI (prV a b c d).1, dI (prV a b c d).2]] := by
  refine con_walk hokZ mixed (u := 12) (by decide) Try.func93 rfl (by show 0 ≤ 400; omega) (fun caps => ?_)
  show gPr a b c d _
  rw [gPr_text]
  have e0 : At [vI (W6 (a * c)), vI (W6 (a * d)), vI (W6 (b * c)), vI (W6 (b * d))] 0 1 [vI (W6 (a * c))] := at_lit (by simp) rfl
  have e1 : At [vI (W6 (a * c)), vI (W6 (a * d)), vI (W6 (b * c)), vI (W6 (b * d))] 1 1 [vI (W6 (a * d))] := at_lit (by simp) rfl
  have e2 : At [vI (W6 (a * c)), vI (W6 (a * d)), vI (W6 (b * c)), vI (W6 (b * d))] 2 1 [vI (W6 (b * c))] := at_lit (by simp) rfl
  have e3 : At [vI (W6 (a * c)), vI (W6 (a * d)), vI (W6 (b * c)), vI (W6 (b * d))] 3 1 [vI (W6 (b * d))] := at_lit (by simp) rfl
  exact ⟨_, e0, _, e1, _, e2, _, e3, _, e0, _, e1, _, e2, _, e3, rfl⟩
theorem conLT (n d : Int) (hn : -4611686018427387904 ≤ n ∧ n ≤ 4611686018427387904) (hd : -4611686018427387904 ≤ d ∧ d ≤ 4611686018427387904) (h0 : d ≠ 0) : C5 73 [dI n, dI d] [.agg [dI (low n d).1, dI (low n d).2]] := by
  let inv : Int × Int → Prop := fun x => (-4611686018427387904 ≤ x.1 ∧ x.1 ≤ 4611686018427387904) ∧ (-4611686018427387904 ≤ x.2 ∧ x.2 ≤ 4611686018427387904) ∧ Int.gcd x.1 x.2 = Int.gcd n d
  let st : Int × Int → Slots × Blocks := fun x => (sLT n d x.1 x.2, bLT)
  refine con_of (L := fun _ s b => ∃ x, inv x ∧ st x = (s, b)) hokZ mixed Try.func73 rfl (by show 0 ≤ 400; omega) rfl (ids := [0]) (by kernel_rfl) rfl (fun caps => ?_) (fun id hid => ?_)
  · show gLT (fun _ _ _ => True) _ n d _
    rw [gLT_text]
    exact ⟨(n, d), ⟨hn, hd, rfl⟩, rfl⟩
  · obtain rfl := List.mem_singleton.1 hid
    refine ⟨Int × Int, st, inv, fun x => x.2.natAbs, ⟨fun s b h => h, by kernel_rfl, ?_⟩⟩
    rintro ⟨a, b⟩ ⟨ha, hb, hg⟩
    simp only at ha hb hg
    show rLT (fun _ _ _ => True) _ n d a b _ _ _
    rw [rLT_text]
    refine bc_bne (fun h => ?_) (fun h => ?_)
    · simp only [bc_n h, true_and, and_true]
      have hlt := gcd_step_lt (a := a) h
      have hst := gcd_step a b
      refine ⟨(b, a.tmod b), ⟨hb, ?_, by show Int.gcd b (a.tmod b) = _; omega⟩, hlt, rfl⟩
      show -4611686018427387904 ≤ a.tmod b ∧ a.tmod b ≤ 4611686018427387904
      have : (a.tmod b).natAbs < b.natAbs := hlt
      omega
    · show (if 0 = 0 then _ else _)
      rw [if_pos rfl]
      show nLT (fun _ _ _ => True) _ n d a _
      rw [nLT_text]
      subst h
      have hend := gcd_end a
      rw [hg] at hend
      have hgp := gcd_pos (a := n) (b := d) (.inr h0)
      have b1 := tdiv_small (n := n) (g := Int.gcd n d) hn hgp
      have b2 := tdiv_small (n := d) (g := Int.gcd n d) hd hgp
      have b3 := tdiv_small (n := 0 - n) (g := Int.gcd n d) (by omega) hgp
      have b4 := tdiv_small (n := 0 - d) (g := Int.gcd n d) (by omega) hgp
      have ha0 : a ≠ 0 := by intro h; rw [h] at hend; simp at hend; omega
      rw [w64 (z := 0 - a) (by omega) (by omega)]
      have hna : 0 - a ≠ 0 := by omega
      simp only [bc_n ha0, bc_n hna, true_and, and_true]
      refine bc_dec (fun h1 => bc_dec (fun h2 => ?_) (fun h2 => ?_)) (fun h1 => bc_dec (fun h2 => ?_) (fun h2 => ?_))
      · rw [if_pos h1] at hend
        have ea : a = 0 - ((Int.gcd n d : Nat) : Int) := by omega
        rw [ea, tdiv_neg', tdiv_neg', w64 (by omega) (by omega), w64 (by omega) (by omega)]
        show _ = _
        rw [low, if_pos h2]
      · rw [if_pos h1] at hend
        have ea : 0 - a = ((Int.gcd n d : Nat) : Int) := by omega
        rw [ea, w64 (by omega) (by omega), w64 (by omega) (by omega)]
        show _ = _
        rw [low, if_neg h2]
      · rw [if_neg h1] at hend
        have ea : 0 - a = 0 - ((Int.gcd n d : Nat) : Int) := by omega
        rw [ea, tdiv_neg', tdiv_neg', w64 (by omega) (by omega), w64 (by omega) (by omega)]
        show _ = _
        rw [low, if_pos h2]
      · rw [if_neg h1] at hend
        rw [← hend, w64 (by omega) (by omega), w64 (by omega) (by omega)]
        show _ = _
        rw [low, if_neg h2]
end Go.Proofs.G5b

/- Chapter 5: outputs of monitors, in data. -/
namespace Go.Proofs.G5b
open Go Go.Abs Go.Proofs Go.Proofs.G5
set_option maxRecDepth 100000
def dN : List Int → D
  | [] => .nil
  | x :: r => .sl (x :: r).length 1 (vi (x :: r))
theorem dN_ne {r : List Int} (h : r ≠ []) : dN r = .sl r.length 1 (vi r) := by cases r with | nil => exact absurd rfl h | cons x r => rfl
abbrev Bd (l : List Int) : Prop := ∀ z ∈ l, -100000 ≤ z ∧ z ≤ 100000
theorem getD_at (r : List Int) (j : Nat) (h : j < r.length) : r.getD j 0 = r[j] := by
  rw [List.getD_eq_getElem?_getD, List.getElem?_eq_getElem h]; rfl
theorem outs_step (D : Nat) (f : Int → Int) (r : List Int) (c : Int) (l : List Int) (i : Nat) (hi : i < l.length) (hr : r.length = i) :
    outs D f r c (l.drop i) = if -100000 ≤ l[i] + c ∧ l[i] + c ≤ 100000 then outs D f (r ++ [l[i] + c]) (c - if D ≤ i then f ((r ++ [l[i] + c]).getD (i - D) 0) else 0) (l.drop (i + 1)) else none := by
  rw [List.drop_eq_getElem_cons hi, outs, hr]
/-- what is said of outputs -/
def ouD : Option (List Int) → List D
  | none => [.nil, dI 22]
  | some r => [dN r, dI 0]
theorem vi_at' (r : List Int) (y : Int) (j : Nat) (h : j < r.length + 1) : At (vi (r ++ [y])) (0 + j * 1) 1 [vI ((r ++ [y]).getD j 0)] := by
  have := vi_at (r ++ [y]) j (by simp; omega)
  rwa [getD_at (r ++ [y]) j (by simp; omega)]
theorem getD_last (r : List Int) (y : Int) : (r ++ [y]).getD r.length 0 = y := by simp [List.getD_eq_getElem?_getD]
theorem bd_snoc {r : List Int} {y : Int} (h : Bd r) (hy : -100000 ≤ y ∧ y ≤ 100000) : Bd (r ++ [y]) := by
  intro z hz
  rcases List.mem_append.1 hz with hz | hz
  · exact h z hz
  · rw [List.mem_singleton.1 hz]; exact hy
theorem bd_getD {r : List Int} (h : Bd r) (j : Nat) : -100000 ≤ r.getD j 0 ∧ r.getD j 0 ≤ 100000 := by
  by_cases hj : j < r.length
  · rw [getD_at r j hj]; exact h _ (List.getElem_mem hj)
  · rw [List.getD_eq_getElem?_getD, List.getElem?_eq_none (by omega)]
    show -100000 ≤ (0 : Int) ∧ (0 : Int) ≤ 100000; omega
abbrev ouS (D nu de ba : Int) (n cap : Nat) (l : List Int) : List Int × Int → Slots × Blocks
  | ([], x) => (sOu (.slice none 0 0) x n cap 0, [oM D nu de ba, oL, Q500 (vi l)])
  | (z :: r, x) => (sOu (.slice (some ⟨1002, 0, none⟩) (r.length + 1) (r.length + 1)) x n cap ((r.length + 1 : Nat) : Int), [oM D nu de ba, oL, (1002, .sym (vi (z :: r)) true 1), Q500 (vi l)])
theorem ouS_ne {D nu de ba : Int} {n cap : Nat} {l r : List Int} {x : Int} (h : r ≠ []) : ouS D nu de ba n cap l (r, x) = (sOu (.slice (some ⟨1002, 0, none⟩) r.length r.length) x n cap (r.length : Int), [oM D nu de ba, oL, (1002, .sym (vi r) true 1), Q500 (vi l)]) := by
  cases r with | nil => exact absurd rfl h | cons z r => rfl
theorem conOu (D : Nat) {nu de ba : Int} (hm : VM D nu de ba) (l : List Int) (hlen : l.length < 1000000) (hl : ∀ z ∈ l, -10000 ≤ z ∧ z ≤ 10000) :
    C5 62 [.agg [dI D, dI nu, dI de, dI ba], .sl l.length 1 (vi l)] (ouD (outs D (tk nu de ba) [] 0 l)) := by
  have hD := hm.dl
  let inv : (List Int × Int) × Nat → Prop := fun x => x.1.1.length ≤ l.length ∧ Bd x.1.1 ∧ (-20000000 ≤ x.1.2 ∧ x.1.2 ≤ 20000000) ∧ outs D (tk nu de ba) [] 0 l = outs D (tk nu de ba) x.1.1 x.1.2 (l.drop x.1.1.length)
  let st : (List Int × Int) × Nat → Slots × Blocks := fun x => ouS D nu de ba l.length x.2 l x.1
  refine con_of (L := fun _ s b => ∃ x, inv x ∧ st x = (s, b)) hok mixed Try.func62 rfl (by show 1 ≤ 400; omega) rfl (ids := [0]) (by kernel_rfl) rfl (fun caps => ?_) (fun id hid => ?_)
  · show gOu _ _ D nu de ba l.length (caps 500) (vi l) _
    rw [gOu_text]
    exact ⟨(([], 0), caps 500), ⟨by simp, (by intro z hz; cases hz), by show -20000000 ≤ (0 : Int) ∧ (0 : Int) ≤ 20000000; omega, rfl⟩, rfl⟩
  · obtain rfl := List.mem_singleton.1 hid
    refine ⟨(List Int × Int) × Nat, st, inv, fun x => l.length - x.1.1.length, ⟨fun s b h => h, by kernel_rfl, ?_⟩⟩
    rintro ⟨⟨r, x⟩, cap⟩ ⟨hi, hb, hx, hr⟩
    simp only at hi hb hx hr
    by_cases h : r.length < l.length
    · have hli := hl _ (List.getElem_mem h)
      rw [outs_step D _ r x l r.length h rfl] at hr
      have hy : IntKind.wrap .i64 (l[r.length] + x) = l[r.length] + x := w64 (by omega) (by omega)
      have hlt : ((r.length : Nat) : Int) < (l.length : Int) := by omega
      have h0 : (0 : Int) ≤ (r.length : Int) := by omega
      have hl1 : (r.length : Int) < ((r.length + 1 : Nat) : Int) := by omega
      have hll : (r ++ [l[r.length] + x]).length = r.length + 1 := by simp
      -- the parts that both shapes share
      have kB : ∀ (B : Bx), ((-100000 : Int) ≤ l[r.length] + x ∧ l[r.length] + x ≤ 100000) → (∀ s b, (∃ y, inv y ∧ l.length - y.1.1.length < l.length - r.length ∧ st y = (s, b)) → B s b) → ∀ c', (c' = x - if D ≤ r.length then tk nu de ba ((r ++ [l[r.length] + x]).getD (r.length - D) 0) else 0) → B (sOu (.slice (some ⟨1002, 0, none⟩) (r.length + 1) (r.length + 1)) c' l.length cap ((r.length + 1 : Nat) : Int)) [oM D nu de ba, oL, (1002, .sym (vi (r ++ [l[r.length] + x])) true 1), Q500 (vi l)] := by
        intro B hin hB c' hc'
        have hne : r ++ [l[r.length] + x] ≠ [] := by simp
        refine hB _ _ ⟨((r ++ [l[r.length] + x], c'), cap), ⟨by rw [hll]; omega, bd_snoc hb hin, ?_, ?_⟩, by simp only [hll]; omega, ?_⟩
        · show -20000000 ≤ c' ∧ c' ≤ 20000000
          rw [hc']
          split
          · have := tk_bd hm (bd_getD (bd_snoc hb hin) (r.length - D)); omega
          · omega
        · simp only
          rw [hr, if_pos hin, hll, hc']
        · show ouS D nu de ba l.length cap l (r ++ [l[r.length] + x], c') = _
          rw [ouS_ne hne, hll]
      have hwi : IntKind.wrap .i64 ((r.length : Int) + 1) = ((r.length + 1 : Nat) : Int) := by rw [w64 (by omega) (by omega)]; omega
      have hat := vi_at' r (l[r.length] + x) r.length (by omega)
      rw [getD_last] at hat
      have hwd : D ≤ r.length → IntKind.wrap .i64 ((r.length : Int) - (D : Int)) = ((r.length - D : Nat) : Int) := fun _ => by rw [w64 (by omega) (by omega)]; omega
      have hbad : ¬ ((-100000 : Int) ≤ l[r.length] + x ∧ l[r.length] + x ≤ 100000) → ouD (outs D (tk nu de ba) [] 0 l) = [.nil, dI 22] := fun hn => by rw [hr, if_neg hn]; rfl
      cases r with
      | nil =>
        show rOu0 _ _ D nu de ba x l.length cap (vi l) (0 : Int) _ _ _
        rw [rOu0_text]
        simp only [List.length_nil, Nat.zero_add, List.nil_append] at h hli hr hy hlt h0 hl1 hll kB hwi hat hwd hbad
        have e0 : [vI (l[0] + x)] = vi [l[0] + x] := rfl
        have h1' : (0 : Int) < ((1 : Nat) : Int) := by omega
        have a0 : At (vi l) (0 + Int.toNat 0 * 1) 1 [vI l[0]] := vi_at l 0 h
        have a1 : At [vI (l[0] + x)] (0 + Int.toNat 0 * 1) 1 [vI (l[0] + x)] := hat
        simp only [bc_t (show (0 : Int) < (l.length : Int) by omega), bc_t (show (0 : Int) ≤ 0 by omega), at1 a0, hy, bc_t (show (0 : Int) < 1 by omega), at1 a1, eq_self, true_and, and_true]
        refine ⟨_, wit_rng, ?_⟩
        refine bc_bne (fun hc => ?_) (fun hc => ?_)
        · have hn : ¬ ((-100000 : Int) ≤ l[0] + x ∧ l[0] + x ≤ 100000) := fun hin => hc ((rngE0 (by decide)).2 hin)
          show [Abs.D.nil, dI (rngE (-100000) 100000 22 _)] = _
          rw [hbad hn, rngE_no hn]
        · have hin := (rngE0 (by decide)).1 hc
          refine bc_dec (fun hge => ?_) (fun hge => ?_)
          · have hD0 : D = 0 := by omega
            subst hD0
            have hw0 : IntKind.wrap .i64 ((0 : Int) - ((0 : Nat) : Int)) = 0 := by rw [w64 (by omega) (by omega)]; omega
            simp only [hw0, bc_t (show (0 : Int) ≤ 0 by omega), bc_t (show (0 : Int) < 1 by omega), at1 a1, eq_self, true_and, and_true]
            refine ⟨_, ⟨conTk hm hin⟩, ?_⟩
            have ht := tk_bd hm hin
            have hww : IntKind.wrap .i64 (x - tk nu de ba (l[0] + x)) = x - tk nu de ba (l[0] + x) := w64 (by omega) (by omega)
            rw [hww]
            exact kB _ hin (fun s b hh => hh) (x - tk nu de ba (l[0] + x)) (by rw [if_pos (Nat.le_refl 0)]; rfl)
          · exact kB _ hin (fun s b hh => hh) x (by rw [if_neg (by omega)]; omega)
      | cons z r =>
        generalize hrr : z :: r = R at *
        have hR : R ≠ [] := by rw [← hrr]; simp
        have hst : st ((R, x), cap) = (sOu (.slice (some ⟨1002, 0, none⟩) R.length R.length) x l.length cap (R.length : Int), [oM D nu de ba, oL, (1002, .sym (vi R) true 1), Q500 (vi l)]) := ouS_ne hR
        rw [hst]
        show rOu _ _ D nu de ba x l.length cap (vi l) R.length R.length (vi R) (R.length : Int) _ _ _
        rw [rOu_text]
        simp only [bc_t hlt, bc_t h0, Int.toNat_natCast, at1 (vi_at l R.length h), hy, vi_whole, vi_snoc, bc_t (show R.length < R.length + 1 by omega), bc_t (show (2 * (R.length + 1) + 768) * 8 ≤ 281474976710656 by omega), bc_t (show R.length + 1 ≤ 1099511627776 by omega), bc_t (show 0 + R.length * 1 ≤ (vi R).length by simp), bc_t (show 0 + R.length * 1 = (vi R).length by simp), bc_t hl1, at1 hat, eq_self, true_and, and_true]
        refine ⟨_, wit_rng, ?_⟩
        refine bc_bne (fun hc => ?_) (fun hc => ?_)
        · have hn : ¬ ((-100000 : Int) ≤ l[R.length] + x ∧ l[R.length] + x ≤ 100000) := fun hin => hc ((rngE0 (by decide)).2 hin)
          show [Abs.D.nil, dI (rngE (-100000) 100000 22 _)] = _
          rw [hbad hn, rngE_no hn]
        · have hin := (rngE0 (by decide)).1 hc
          refine bc_dec (fun hge => ?_) (fun hge => ?_)
          · have hDl : D ≤ R.length := by omega
            have hat2 := vi_at' R (l[R.length] + x) (R.length - D) (by omega)
            simp only [hwd hDl, Int.toNat_natCast, bc_t (show (0 : Int) ≤ ((R.length - D : Nat) : Int) by omega), bc_t (show ((R.length - D : Nat) : Int) < ((R.length + 1 : Nat) : Int) by omega), at1 hat2, eq_self, true_and, and_true]
            have hbb := bd_getD (bd_snoc hb hin) (R.length - D)
            refine ⟨_, ⟨conTk hm hbb⟩, ?_⟩
            have ht := tk_bd hm hbb
            rw [w64 (z := x - _) (by omega) (by omega), hwi]
            exact kB _ hin (fun s b hh => hh) _ (by rw [if_pos hDl])
          · rw [hwi]
            exact kB _ hin (fun s b hh => hh) x (by rw [if_neg (by omega)]; omega)
    · have he : r.length = l.length := by omega
      rw [he, List.drop_length, outs] at hr
      cases r with
      | nil =>
        show rOu0 _ _ D nu de ba x l.length cap (vi l) (0 : Int) _ _ _
        rw [rOu0_text]
        rw [bc_f (show ¬ (0 : Int) < (l.length : Int) by simp at he; omega)]
        show (if 0 = 0 then _ else _)
        rw [if_pos rfl]
        show nOu0 _ _ _
        rw [nOu0_text]
        show [Abs.D.nil, dI 0] = ouD _
        rw [hr]; rfl
      | cons z r =>
        generalize hrr : z :: r = R at *
        have hR : R ≠ [] := by rw [← hrr]; simp
        have hst : st ((R, x), cap) = (sOu (.slice (some ⟨1002, 0, none⟩) R.length R.length) x l.length cap (R.length : Int), [oM D nu de ba, oL, (1002, .sym (vi R) true 1), Q500 (vi l)]) := ouS_ne hR
        rw [hst]
        show rOu _ _ D nu de ba x l.length cap (vi l) R.length R.length (vi R) (R.length : Int) _ _ _
        rw [rOu_text, bc_f (show ¬ (R.length : Int) < (l.length : Int) by omega)]
        show (if 0 = 0 then _ else _)
        rw [if_pos rfl]
        show nOu _ _ R.length R.length (vi R) _
        rw [nOu_text]
        refine ⟨⟨rfl, by simp⟩, ?_⟩
        show [Abs.D.sl _ _ _, dI 0] = ouD _
        rw [hr, ouD, dN_ne hR]
end Go.Proofs.G5b

/- Chapter 5: a number repeated, numbers in a range, in data. -/
namespace Go.Proofs.G5b
open Go Go.Abs Go.Proofs Go.Proofs.G5
set_option maxRecDepth 100000
theorem conRe (x : Int) : C5 63 [.sl 1 1 [vI x], dI 501] [.sl 501 1 (vi (List.replicate 501 x))] := by
  refine con_walk hokE mixed (u := 12) (by decide) Try.func63 rfl (by show 1 ≤ 400; omega) (fun caps => ?_)
  show fRe _ (caps 500) x _
  rw [fRe_text]
  simp only [eq_self, true_and, and_true]
  rfl
theorem witE_cases {lo hi e : Int} (l : List Int) : witE lo hi e (vi l) = if ∀ z ∈ l, lo ≤ z ∧ z ≤ hi then 0 else e := by
  induction l with
  | nil => rw [if_pos (by intro z hz; cases hz)]; rfl
  | cons p r ih =>
    show (if p < lo ∨ p > hi then e else witE lo hi e (vi r)) = _
    rw [ih]
    by_cases hp : p < lo ∨ p > hi
    · rw [if_pos hp, if_neg (fun h => by have := h p (List.mem_cons_self ..); omega)]
    · rw [if_neg hp]
      by_cases h : ∀ z ∈ r, lo ≤ z ∧ z ≤ hi
      · rw [if_pos h, if_pos]
        intro z hz
        rcases List.mem_cons.1 hz with rfl | hz
        · omega
        · exact h z hz
      · rw [if_neg h, if_neg (fun hh => h (fun z hz => hh z (List.mem_cons_of_mem _ hz)))]
theorem wit_all {lo hi e : Int} (he : e ≠ 0) {l : List Int} (h : witE lo hi e (vi l) = 0) : ∀ z ∈ l, lo ≤ z ∧ z ≤ hi := by
  have hw := witE_cases (lo := lo) (hi := hi) (e := e) l
  apply Classical.byContradiction
  intro hn
  rw [if_neg hn] at hw
  omega
theorem wit_not {lo hi e : Int} {l : List Int} (h : witE lo hi e (vi l) ≠ 0) : witE lo hi e (vi l) = e := by
  have hw := witE_cases (lo := lo) (hi := hi) (e := e) l
  split at hw
  · exact absurd hw h
  · exact hw
end Go.Proofs.G5b

/- Chapter 5: after how many ticks a monitor rests, in data. -/
namespace Go.Proofs.G5b
open Go Go.Abs Go.Proofs Go.Proofs.G5
set_option maxRecDepth 100000
/-- after how many ticks: what is returned -/
def reP (D nu de ba x : Int) : Int × Int := if ¬ ((-10000 : Int) ≤ x ∧ x ≤ 10000) then (0, 2) else restV D.toNat (tk nu de ba) x
def raP (D nu de ba x : Int) : Int × Int := if mE D nu de ba ≠ 0 then (0, mE D nu de ba) else reP D nu de ba x
theorem outs_bd {D : Nat} {f : Int → Int} : ∀ {l done : List Int} {c : Int} {r : List Int}, Bd done → outs D f done c l = some r → Bd r ∧ r.length = done.length + l.length
  | [], done, c, r, hb, h => by
    simp only [outs, Option.some.injEq] at h; subst h; exact ⟨hb, by simp⟩
  | d :: l, done, c, r, hb, h => by
    rw [outs] at h
    split at h
    · rename_i hin
      obtain ⟨h1, h2⟩ := outs_bd (bd_snoc hb hin) h
      refine ⟨h1, ?_⟩
      simp at h2 ⊢; omega
    · cases h
theorem restGo_drop {D : Int} {f : Int → Int} {q t : Int} {l : List Int} {i : Nat} (h : i < l.length) : restGo D f q t (l.drop i) = if (if f l[i] ≠ 0 then 0 else q + 1) > D then (t, 0) else restGo D f (if f l[i] ≠ 0 then 0 else q + 1) (t + 1) (l.drop (i + 1)) := by
  rw [List.drop_eq_getElem_cons h]; rfl
theorem conRA (D nu de ba x : Int) : C5 31 [.agg [dI D, dI nu, dI de, dI ba], dI x] [dI (raP D nu de ba x).1, dI (raP D nu de ba x).2] := by
  let ok : Prop := VM D nu de ba ∧ ((-10000 : Int) ≤ x ∧ x ≤ 10000)
  let inv : List Int × Nat × Int → Prop := fun y => ok ∧ Bd y.1 ∧ y.1.length < 1000 ∧ y.2.1 ≤ y.1.length ∧ (0 ≤ y.2.2 ∧ y.2.2 ≤ 10 + y.2.1) ∧ raP D nu de ba x = restGo D (tk nu de ba) y.2.2 y.2.1 (y.1.drop y.2.1)
  let st : List Int × Nat × Int → Slots × Blocks := fun y => (sRA D (.slice (some ⟨1002, 0, none⟩) y.1.length y.1.length) y.1.length y.2.2 y.2.1, [oN D nu de ba, (1001, .cells [vI D, vI nu, vI de, vI ba] 112 false 4), (1002, .sym (vi y.1) true 1)])
  refine con_of (L := fun _ s b => ∃ x, inv x ∧ st x = (s, b)) hok mixed Try.func31 rfl (by show 0 ≤ 400; omega) rfl (ids := [0]) (by kernel_rfl) rfl (fun caps => ?_) (fun id hid => ?_)
  · show gRA _ _ D nu de ba x _
    rw [gRA_text]
    simp only [eq_self, true_and, and_true]
    refine ⟨_, ⟨conCM D nu de ba⟩, ?_⟩
    refine bc_bne (fun h => ?_) (fun h => ?_)
    · refine ⟨_, wit_rng, _, ⟨conFE [mE D nu de ba, rngE (-10000) 10000 2 x] (by simp)⟩, ?_⟩
      have e : fst0 [mE D nu de ba, rngE (-10000) 10000 2 x] = mE D nu de ba := by rw [fst0, if_neg h]
      rw [e]
      refine bc_bne (fun _ => ?_) (fun h0 => absurd h0 h)
      show _ = _
      rw [raP, if_pos h]
    · have hm := mE_ok.1 h
      have hD := hm.dl
      refine ⟨_, wit_rng, _, ⟨conFE [0, rngE (-10000) 10000 2 x] (by simp)⟩, ?_⟩
      have e : fst0 [0, rngE (-10000) 10000 2 x] = rngE (-10000) 10000 2 x := by
        rw [fst0, if_pos rfl, fst0]; split
        · rename_i h0; rw [h0]; rfl
        · rfl
      rw [e]
      have hra : raP D nu de ba x = reP D nu de ba x := by rw [raP, if_neg (by omega)]
      refine bc_bne (fun h0 => ?_) (fun h0 => ?_)
      · have hn : ¬ ((-10000 : Int) ≤ x ∧ x ≤ 10000) := fun hin => h0 ((rngE0 (by decide)).2 hin)
        show _ = _
        rw [hra, reP, if_pos hn, rngE_no hn]
      · have hin := (rngE0 (by decide)).1 h0
        rw [reP, if_neg (by omega)] at hra
        refine .inr ⟨501, vi (List.replicate 501 x), ⟨conRe x⟩, bc_yes (by simp) ?_⟩
        obtain ⟨n, rfl⟩ : ∃ n : Nat, D = n := ⟨D.toNat, by omega⟩
        have c := conOu n hm (List.replicate 501 x) (by simp) (fun z hz => by rw [(List.mem_replicate.1 hz).2]; omega)
        have e1 : List.take (501 * 1) (List.drop 0 (vi (List.replicate 501 x))) = vi (List.replicate 501 x) := by
          rw [List.drop_zero, List.take_of_length_le (by simp)]
        rw [e1]
        rw [List.length_replicate] at c
        rw [Int.toNat_natCast, restV] at hra
        cases ho : outs n (tk nu de ba) [] 0 (List.replicate 501 x) with
        | none =>
          rw [ho] at c hra
          refine .inl ⟨22, ⟨c⟩, bc_bne (fun _ => ?_) (fun h0 => absurd h0 (by decide))⟩
          show _ = _
          rw [hra]
        | some r =>
          rw [ho] at c hra
          obtain ⟨hb, hl⟩ := outs_bd (by intro z hz; cases hz) ho
          have hl : r.length = 501 := by simpa using hl
          have hne : r ≠ [] := by intro h0; rw [h0] at hl; simp at hl
          rw [ouD, dN_ne hne] at c
          refine .inr ⟨r.length, vi r, 0, ⟨c⟩, bc_bne (fun h0 => absurd rfl h0) (fun _ => ?_)⟩
          exact ⟨(r, 0, n), ⟨⟨hm, hin⟩, hb, by show r.length < 1000; omega, Nat.zero_le _, by show 0 ≤ (n : Int) ∧ (n : Int) ≤ 10 + ((0 : Nat) : Int); omega, hra⟩, rfl⟩
  · obtain rfl := List.mem_singleton.1 hid
    refine ⟨List Int × Nat × Int, st, inv, fun y => y.1.length - y.2.1, ⟨fun s b h => h, by kernel_rfl, ?_⟩⟩
    rintro ⟨r, i, q⟩ ⟨⟨hm, hin⟩, hb, hlen, hi, hq, hr⟩
    simp only at hb hlen hi hq hr
    have hD := hm.dl
    show rRA _ _ D nu de ba r.length q (i : Int) (vi r) _ _ _
    rw [rRA_text]
    refine bc_dec (fun h => ?_) (fun h => ?_)
    · have h1 : i < r.length := by omega
      rw [restGo_drop h1] at hr
      simp only [bc_t h, bc_t (show (0 : Int) ≤ (i : Int) by omega), Int.toNat_natCast, at1 (vi_at r i h1)]
      refine ⟨_, ⟨conTk hm (hb _ (List.getElem_mem h1))⟩, ?_⟩
      rw [w64 (z := q + 1) (by omega) (by omega), w64 (z := (i : Int) + 1) (by omega) (by omega)]
      refine bc_bne (fun hk => ?_) (fun hk => ?_)
      · have e : (if tk nu de ba r[i] ≠ 0 then 0 else q + 1) = 0 := if_pos hk
        rw [e] at hr
        refine bc_no (by omega) ?_
        rw [if_neg (by omega)] at hr
        exact ⟨(r, i + 1, 0), ⟨⟨hm, hin⟩, hb, hlen, h1, by show 0 ≤ (0 : Int) ∧ (0 : Int) ≤ 10 + ((i + 1 : Nat) : Int); omega, hr⟩, by show r.length - (i + 1) < r.length - i; omega, rfl⟩
      · have e : (if tk nu de ba r[i] ≠ 0 then 0 else q + 1) = q + 1 := if_neg (fun h' => h' hk)
        rw [e] at hr
        refine bc_dec (fun hg => ?_) (fun hg => ?_)
        · rw [if_pos hg] at hr
          show _ = _
          rw [hr]
        · rw [if_neg hg] at hr
          exact ⟨(r, i + 1, q + 1), ⟨⟨hm, hin⟩, hb, hlen, h1, by show 0 ≤ q + 1 ∧ q + 1 ≤ 10 + ((i + 1 : Nat) : Int); omega, hr⟩, by show r.length - (i + 1) < r.length - i; omega, rfl⟩
    · show (if 0 = 0 then _ else _)
      rw [if_pos rfl]
      show nRA _ _ D nu de ba _
      rw [nRA_text]
      have : i = r.length := by omega
      rw [this, List.drop_length] at hr
      show _ = _
      rw [hr]; rfl
end Go.Proofs.G5b

/- slices.Insert at 0, where there is room: the handler is right where the function does so in memory. -/
namespace Go.Abs
open Go.RowKit
variable {P : Program} {w0 : Start} {ρ : Ren} {w : World} {H : Heap}
/-- what the function does in memory -/
def InsWalk (P : Program) (f : FuncId) : Prop :=
  ∀ (b off n c vb voff vc : Nat) (cs : List Value) (x : Value) (w : World), 0 < n → n + 1 ≤ 9223372036854775807 → n + 1 ≤ c → vb ≠ b → cs.length = n →
    (∀ j v, cs[j]? = some v → w.cell? ⟨b, off + j, none⟩ = some v) → (∀ j, j < n + 1 → (w.cell? ⟨b, off + j, none⟩).isSome = true) → (∀ j, j < n + 1 → w.frozen? ⟨b, off + j, none⟩ = false) →
    w.cell? ⟨vb, voff, none⟩ = some x → (∀ v ∈ cs, v.oneCell' = true) → x.oneCell' = true →
    ∀ (tA tB : TypeId) (kA kB : Nat), w.shape? vb = some (tA, kA) → w.shape? b = some (tB, kB) → kB ≠ 0 → w.frozen? ⟨vb, voff, none⟩ = false → w.frozen? ⟨vb, kA, none⟩ = false →
    Calls P f #[.slice (some ⟨b, off, none⟩) n c, .int .i64 0, .slice (some ⟨vb, voff, none⟩) 1 vc] w fun e w' =>
      e = .returned (.slice (some ⟨b, off, none⟩) (n + 1) c) ∧ w' = (w.drew.setCells b (off + 1) cs).setCells b off [x]
theorem cellP_one {v : Value} (h : cellP v = true) : v.oneCell' = true := by
  simp only [cellP, Bool.and_eq_true] at h
  have := h.2
  unfold cellOk at this
  unfold Value.oneCell'
  cases v <;> first | rfl | cases this
theorem LR.cons_inv {v : Value} {l l' : List Value} (h : LR ρ (v :: l) l') : ∃ v' r', l' = v' :: r' ∧ VR ρ v v' ∧ LR ρ l r' := by
  cases h with
  | cons h t => exact ⟨_, _, rfl, h, t⟩
theorem LR.refl_plain : ∀ {l : List Value}, (∀ v ∈ l, cellP v = true) → LR ρ l l
  | [], _ => .nil
  | v :: _, h => .cons (plain_refl ρ 8 v (cellP_plain (h v (List.mem_cons_self ..)))) (LR.refl_plain (fun x hx => h x (List.mem_cons_of_mem _ hx)))
/-- a row of cells written, as the library says it -/
theorem Gam.setCells (P : Program) (g : Gam w0 ρ H w) {i k es : Nat} {m : Meta} {cs vs : List Value} (hm : ρ i = some m) (hg : H.get i = some (.sym cs true es)) (hi : mbase ≤ i) (hle : k + vs.length ≤ cs.length) (hp : ∀ v ∈ vs, cellP v = true) :
    Gam w0 ρ (H.set i (.sym (listSet cs k vs) true es)) (w.setCells m.b (m.o + k) vs) ∧ Ext ρ ρ H (H.set i (.sym (listSet cs k vs) true es)) := by
  have hobj := g.obj i m _ hm hg
  obtain ⟨⟨e1, e2, e3, c, ty, fz, ⟨hb, hfz⟩, hsz, hlr⟩, hps⟩ := hobj
  obtain rfl := hfz rfl
  have g1 : Gam w0 ρ (H.set i (.cells cs 0 true es)) w := g.recast hg rfl (fun m' _ r => obj_cells r)
  have hgetb : (H.set i (.cells cs 0 true es)).get i = some (.cells cs 0 true es) := by rw [Heap.get_set, if_pos rfl]
  have hw : (H.set i (.cells cs 0 true es)).write i k vs = some ((H.set i (.cells cs 0 true es)).set i (.cells (listSet cs k vs) 0 true es)) := by
    unfold Heap.write
    rw [hgetb]
    simp only
    rw [if_pos (by simp [hle, hi, all_cellOk hp])]
  have hlrv : LR ρ vs vs := LR.refl_plain hp
  obtain ⟨w', hst, g2, ext⟩ := g1.write (P := P) hm hlrv hw
  have hmw := m.hw
  have hrun := run_storeCells_cells (P := P) m.b (m.o + k) vs 0 w (fun j hj => by
    have hlt : m.o + k + 0 + j < c.size := by omega
    simp only [World.cell?, hb, Option.isSome_none, Bool.false_eq_true, if_false]
    rw [Array.getElem?_eq_getElem hlt]; rfl) (fun j hj => by simp [World.frozen?, hb]) (fun v hv => cellP_one (hp v hv))
  rw [hst] at hrun
  simp only [Result.ok.injEq, true_and, Nat.add_zero] at hrun
  have hall : ∀ x ∈ listSet cs k vs, cellP x = true := by
    intro x hx
    simp only [listSet, List.mem_append] at hx
    rcases hx with (hx | hx) | hx
    · exact hps x (List.mem_of_mem_take hx)
    · exact hp x hx
    · exact hps x (List.mem_of_mem_drop hx)
  have g3 := g2.recast (i := i) (o := .cells (listSet cs k vs) 0 true es) (o' := .sym (listSet cs k vs) true es) (by rw [Heap.get_set, if_pos rfl]) rfl (fun m' _ r => obj_sym hall r)
  have hget : ∀ j, (H.set i (.sym (listSet cs k vs) true es)).get j = (((H.set i (.cells cs 0 true es)).set i (.cells (listSet cs k vs) 0 true es)).set i (.sym (listSet cs k vs) true es)).get j := by
    intro j
    simp only [Heap.get_set]
    by_cases e : j = i
    · simp [e]
    · simp [e]
  rw [hrun] at g3
  refine ⟨g3.congr hget rfl, ?_⟩
  refine ext_congr ext rfl (fun j hj => ?_) rfl (fun j _ hj => ?_)
  · have : j ≠ i := fun e => by rw [e, hm] at hj; cases hj
    rw [Heap.get_set, if_neg this]
  · have : j ≠ i := fun e => by rw [e, hm] at hj; cases hj
    simp [Heap.get_set, this]
theorem ins_ok {f : FuncId} (hins : InsWalk P f) {args : Array Value} {k : Value → Heap → Prop} (h : wpIns args H k) : CallH P f args H k := by
  intro w0 ρ w args' n0 g ha
  unfold wpIns at h
  split at h
  case h_2 => cases h
  rename_i b n cap z vb vcap hargs
  split at h
  case h_2 => cases h
  rename_i cs x ty es hgb hgv
  split at h
  case isFalse => cases h
  rename_i hc
  obtain ⟨rfl, hib, hne, hn, hroom, hcap, hcl, hx⟩ := hc
  rw [hargs] at ha
  obtain ⟨s', t1, e1, h1, r1⟩ := LR.cons_inv ha
  obtain ⟨z', t2, e2, h2, r2⟩ := LR.cons_inv r1
  obtain ⟨v', t3, e3, h3, r3⟩ := LR.cons_inv r2
  cases r3
  subst e3
  subst e2
  obtain rfl : z' = .int .i64 0 := by cases h2; rfl
  obtain ⟨m, hm, off, capC, rfl, hcc, _, hx2⟩ := slice_inv h1
  obtain ⟨mv, hmv, offv, capv, rfl, _, hv1, _⟩ := slice_inv h3
  obtain ⟨⟨o1, o2, o3, c, ty', fz, ⟨hb, hfz⟩, hsz, hlr⟩, hps⟩ := g.obj b m _ hm hgb
  obtain rfl := hfz rfl
  obtain ⟨q1, q2, q3, c2, ty2, hb2, hsz2, hlr2⟩ := g.obj vb mv _ hmv hgv
  have hopen : m.isOpen 0 cap = true := by simp [Meta.isOpen, o2, o3, o1, hcl]
  have hoff : off = m.o + 0 ∧ off + capC * m.es ≤ m.size := by
    rcases hx2 hopen with h | h
    · exact h
    · omega
  have hoffv : offv = mv.o := by
    have := (hv1 (by simp [Meta.isOpen, q2])).1
    omega
  obtain ⟨rfl, hroomC⟩ := hoff
  subst hoffv
  rw [o3, Nat.mul_one] at hroomC
  have hbne : mv.b ≠ m.b := fun e => hne (g.inj b vb m mv hib ⟨_, hgb, rfl⟩ ⟨_, hgv, rfl⟩ hm hmv e.symm)
  have hvb := mv.hw
  have q1' : mv.known = 1 := q1
  have ecs := hlr.eq_of_plain hps
  have ex := hlr2.eq_of_plain (by intro v hv; rw [List.mem_singleton.1 hv]; exact hx)
  have hcell : ∀ j v, cs[j]? = some v → w.cell? ⟨m.b, m.o + 0 + j, none⟩ = some v := by
    intro j v hj
    have hjl : j < cs.length := (List.getElem?_eq_some_iff.1 hj).1
    rw [← ecs, List.getElem?_take, if_pos hjl, List.getElem?_drop, Array.getElem?_toList] at hj
    simpa [World.cell?, hb] using hj
  have hcellx : w.cell? ⟨mv.b, mv.o, none⟩ = some x := by
    have : ((c2.toList.drop mv.o).take 1)[0]? = some x := by rw [show List.take 1 (List.drop mv.o c2.toList) = [x] from ex]; rfl
    rw [List.getElem?_take, if_pos (by omega), List.getElem?_drop, Array.getElem?_toList] at this
    simpa [World.cell?, hb2] using this
  have harr : args' = #[.slice (some ⟨m.b, m.o + 0, none⟩) n capC, .int .i64 0, .slice (some ⟨mv.b, mv.o, none⟩) 1 capv] := by
    apply Array.ext'
    exact e1
  rw [harr]
  have hpt : ∀ v ∈ cs.take n, cellP v = true := fun v hv => hps v (List.mem_of_mem_take hv)
  refine callsIn_wide.2 ((hins m.b (m.o + 0) n capC mv.b mv.o capv (cs.take n) x w hn (by omega) (by omega) hbne (by rw [List.length_take]; omega)
    (fun j v hj => hcell j v (by rw [List.getElem?_take] at hj; split at hj; exact hj; cases hj))
    (fun j hj => by
      have hlt : m.o + 0 + j < c.size := by omega
      simp only [World.cell?, hb, Option.isSome_none, Bool.false_eq_true, if_false]
      rw [Array.getElem?_eq_getElem hlt]; rfl)
    (fun j hj => by simp [World.frozen?, hb]) hcellx (fun v hv => cellP_one (hpt v hv)) (cellP_one hx) ty2 ty' c2.size c.size (by simp [World.shape?, hb2]) (by simp [World.shape?, hb]) (by omega) (by simp [World.frozen?, hb2]) (by simp [World.frozen?, hb2])).mono ?_)
  rintro e w' ⟨rfl, rfl⟩
  have g0 : Gam w0 ρ H w.drew := g.drawn _
  obtain ⟨g1, x1⟩ := Gam.setCells P g0 (k := 1) (vs := cs.take n) hm hgb hib (by rw [List.length_take]; omega) hpt
  obtain ⟨g2, x2⟩ := Gam.setCells P g1 (k := 0) (vs := [x]) hm (by rw [Heap.get_set, if_pos rfl]) hib (by simp [listSet]; omega) (by intro v hv; rw [List.mem_singleton.1 hv]; exact hx)
  refine ⟨_, _, ρ, _, h, rfl, ?_, ?_, ?_⟩
  · exact .opened b 0 (n + 1) cap capC m hm hopen hcc (by rw [o3]; omega) hroom
  · refine g2.congr (fun j => ?_) rfl
    simp only [Heap.get_set]
    by_cases e : j = b
    · simp [e]
    · simp [e]
  · refine ext_congr (x1.trans x2) rfl (fun j _ => rfl) rfl (fun j _ hj => ?_)
    have : j ≠ b := fun e => by rw [e, hm] at hj; cases hj
    simp [Heap.get_set, this]
end Go.Abs

/- Chapter 5: the state after a tick, in data (two coefficients). -/
namespace Go.Proofs.G5b
open Go Go.Abs Go.Proofs Go.Proofs.G5
set_option maxRecDepth 100000
theorem insOK : InsWalk Try.prog 95 := fun b off n c vb voff vc cs x w h1 h2 h3 h4 h5 h6 h7 h8 h9 h10 h11 tA tB kA kB h12 h13 h14 h15 h16 => insW b off n c vb voff vc cs x w h1 h2 h3 h4 h5 h6 h7 h8 h9 h10 h11 tA tB kA kB h12 h13 h14 h15 h16
theorem preIOK : PreOK Try.prog preI := by
  intro g h he args ats H k hk
  unfold preI at he
  split at he
  · rename_i e
    obtain rfl := Option.some.inj he
    rw [beq_iff_eq] at e
    subst e
    exact ins_ok insOK hk
  · cases he
theorem hokI : HandlerOK Try.prog hI := handlerX_ok mixed preIOK (by decide) 6
theorem conAf (cs0 : List Value) (den a b d c1 c2 x : Int) : C5 88 [.agg [.sl 2 2 cs0, dI den], .agg [.sl 2 1 [vI a, vI b], dI d], .agg [.sl 2 1 [vI c1, vI c2], dI x]]
    [.agg [.sl 2 1 [vI (W6 (W6 (W6 (x * W6 (d * den)) + W6 (c1 * a)) + W6 (c2 * b))), vI (W6 (a * den))], dI (W6 (d * den))]] := by
  refine con_walk hokI mixed (u := 6) (by decide) Try.func88 rfl (by show 3 ≤ 400; omega) (fun caps => ?_)
  show gAf (caps 500) (caps 501) (caps 502) cs0 den a b d c1 c2 x _
  rw [gAf_text]
  have h1 : At [vI a, vI b] 0 1 [vI a] := ⟨by simp, rfl⟩
  have h2 : At [vI c1, vI c2] 0 1 [vI c1] := ⟨by simp, rfl⟩
  have h3 : At [vI a, vI b] 1 1 [vI b] := ⟨by simp, rfl⟩
  have h4 : At [vI c1, vI c2] 1 1 [vI c2] := ⟨by simp, rfl⟩
  exact ⟨a, h1, c1, h2, b, h3, c2, h4, ⟨rfl, rfl⟩, rfl⟩
theorem ra8 : raP 1 1 2 1 8 = (7, 0) := by kernel_rfl
theorem con12 : C5 31 [.agg [dI 1, dI 1, dI 2, dI 1], dI 8] [dI 7, dI 0] := by
  have := conRA 1 1 2 1 8
  rw [ra8] at this
  exact this
def afT : List D → Option (List D) := fun ds => match ds with
  | [.agg [.sl 2 2 _, .val (.int .i64 den)], .agg [.sl 2 1 [.int .i64 a, .int .i64 b], .val (.int .i64 d)], .agg [.sl 2 1 [.int .i64 c1, .int .i64 c2], .val (.int .i64 x)]] => some [.agg [.sl 2 1 [vI (W6 (W6 (W6 (x * W6 (d * den)) + W6 (c1 * a)) + W6 (c2 * b))), vI (W6 (a * den))], dI (W6 (d * den))]]
  | _ => none
def intsOf : List Value → Option (List Int)
  | [] => some []
  | .int .i64 n :: r => (intsOf r).map (n :: ·)
  | _ => none
theorem intsOf_ok : ∀ {cs : List Value} {l : List Int}, intsOf cs = some l → cs = vi l
  | [], l, h => by simp only [intsOf, Option.some.injEq] at h; subst h; rfl
  | v :: r, l, h => by
    unfold intsOf at h
    split at h
    · rename_i e; cases e
    · rename_i n r' e
      obtain ⟨rfl, rfl⟩ := List.cons.inj e
      obtain ⟨l', h1, rfl⟩ := Option.map_eq_some_iff.1 h
      rw [intsOf_ok h1]; rfl
    · cases h
def feT : List D → Option (List D) := fun ds => match ds with
  | [.sl n 1 cs] => (intsOf cs).bind fun l => if n = l.length ∧ n < 1000000 then some [dI (fst0 l)] else none
  | _ => none
def csT : List D → Option (List D) := fun ds => match ds with
  | [.val (.int .i64 a), .sl n 1 cs] => (intsOf cs).bind fun l => if n = l.length ∧ n < 1000000 then some [dI (sameE a l)] else none
  | _ => none
def prT : List D → Option (List D) := fun ds => match ds with
  | [.agg [.val (.int .i64 a), .val (.int .i64 b)], .agg [.val (.int .i64 c), .val (.int .i64 d)]] => some [.agg [dI (prV a b c d).1, dI (prV a b c d).2]]
  | _ => none
def ltT : List D → Option (List D) := fun ds => match ds with
  | [.val (.int .i64 n), .val (.int .i64 d)] => if -4611686018427387904 ≤ n ∧ n ≤ 4611686018427387904 ∧ -4611686018427387904 ≤ d ∧ d ≤ 4611686018427387904 ∧ d ≠ 0 then some [.agg [dI (low n d).1, dI (low n d).2]] else none
  | _ => none
def tab6 : Tab := fun f => if f = 31 then some (tabLook [([.agg [dI 1, dI 1, dI 2, dI 1], dI 8], [dI 7, dI 0])]) else if f = 88 then some afT else if f = 37 then some feT else if f = 38 then some csT else if f = 93 then some prT else if f = 73 then some ltT else none
theorem tab6_ok : TabOK Try.prog tab6 := by
  intro f t ht ds rs h
  unfold tab6 at ht
  split at ht
  · rename_i e
    subst e
    obtain rfl := Option.some.inj ht
    have := tabLook_ok h
    simp only [List.mem_cons, List.not_mem_nil, or_false, Prod.mk.injEq] at this
    obtain ⟨rfl, rfl⟩ := this
    exact con12
  split at ht
  · rename_i e
    subst e
    obtain rfl := Option.some.inj ht
    unfold afT at h
    split at h
    · obtain rfl := Option.some.inj h
      exact conAf _ _ _ _ _ _ _ _
    · cases h
  split at ht
  · rename_i e
    subst e
    obtain rfl := Option.some.inj ht
    unfold feT at h
    split at h
    · obtain ⟨l, h1, h2⟩ := Option.bind_eq_some_iff.1 h
      split at h2
      · rename_i hc
        obtain ⟨rfl, hl⟩ := hc
        obtain rfl := Option.some.inj h2
        rw [intsOf_ok h1]
        exact conFE l (by omega)
      · cases h2
    · cases h
  split at ht
  · rename_i e
    subst e
    obtain rfl := Option.some.inj ht
    unfold csT at h
    split at h
    · obtain ⟨l, h1, h2⟩ := Option.bind_eq_some_iff.1 h
      split at h2
      · rename_i hc
        obtain ⟨rfl, hl⟩ := hc
        obtain rfl := Option.some.inj h2
        rw [intsOf_ok h1]
        exact conCS _ l (by omega)
      · cases h2
    · cases h
  split at ht
  · rename_i e
    subst e
    obtain rfl := Option.some.inj ht
    unfold prT at h
    split at h
    · obtain rfl := Option.some.inj h
      exact conPr _ _ _ _
    · cases h
  split at ht
  · rename_i e
    subst e
    obtain rfl := Option.some.inj ht
    unfold ltT at h
    split at h
    · split at h
      · rename_i hc
        obtain rfl := Option.some.inj h
        exact conLT _ _ ⟨hc.1, hc.2.1⟩ ⟨hc.2.2.1, hc.2.2.2.1⟩ hc.2.2.2.2
      · cases h
    · cases h
  · cases ht
end Go.Proofs.G5b
