/- Functions, the whole evaluator: sound. -/
import Derived.Test.YtiahlinolhpecaaAbsCode
namespace Go.Abs
open Go.RowKit
variable {P : Program} {ρ : Ren} {w0 w : World} {H : Heap} {s : Self}

theorem ofArgs_get : ∀ (vs : List Value) (i : Nat) (t : Tree Value) (m : Nat), (AAct.ofArgs vs i t).get m = if i ≤ m ∧ m < i + vs.length then vs[m - i]? else t.get m
  | [], i, t, m => by
    have : ¬ (i ≤ m ∧ m < i + ([] : List Value).length) := by simp
    rw [if_neg this]; rfl
  | v :: vs, i, t, m => by
    rw [AAct.ofArgs, ofArgs_get vs (i + 1), Tree.get_set _ _ _ _ _ (by omega)]
    by_cases h1 : i + 1 ≤ m ∧ m < i + 1 + vs.length
    · rw [if_pos h1, if_pos (by simp; omega)]
      obtain ⟨k, hk⟩ : ∃ k, m - i = k + 1 := ⟨m - i - 1, by omega⟩
      rw [hk, List.getElem?_cons_succ, show m - (i + 1) = k by omega]
    · rw [if_neg h1]
      by_cases h2 : m = i
      · subst h2
        rw [if_pos rfl, if_pos (by simp)]
        simp
      · rw [if_neg h2, if_neg (by simp at h1 ⊢; omega)]

theorem initial_slot {args args' : Array Value} (ha : LR ρ args.toList args'.toList) (k : Nat) (t : Nat) :
    VR ρ (((AAct.ofArgs args.toList 0 .leaf).get t).getD undef) ((args' ++ Array.replicate (k - args'.size) undef).getD t undef) := by
  have hl : args.size = args'.size := by simpa using ha.length
  rw [ofArgs_get]
  have hgo : (args' ++ Array.replicate (k - args'.size) undef).getD t undef = (args'.toList[t]?).getD undef := by
    rw [Array.getD_eq_getD_getElem?, Array.getElem?_append]
    by_cases ht : t < args'.size
    · rw [if_pos ht]; simp
    · rw [if_neg ht, Array.getElem?_replicate]
      have : args'.toList[t]? = none := by simpa using ht
      rw [this]
      split <;> rfl
  rw [hgo]
  by_cases ht : t < args.size
  · rw [if_pos (by simpa using ht)]
    have h1 : args.toList[t - 0]? = some args[t] := by simp [ht]
    rw [h1]
    obtain ⟨v', h2, h3⟩ := ha.get (by simp : args.toList[t]? = some args[t])
    rw [h2]
    exact h3
  · rw [if_neg (by simpa using ht)]
    have : args'.toList[t]? = none := by simp; omega
    rw [this]
    exact VR.undef _
theorem initial_act {args args' : Array Value} (ha : LR ρ args.toList args'.toList) (k : Nat) :
    ActR ρ { tmps := AAct.ofArgs args.toList 0 .leaf, size := max args.size k, defers := [] } { tmps := args' ++ Array.replicate (k - args'.size) undef, defers := [] } := by
  have hl : args.size = args'.size := by simpa using ha.length
  exact ⟨by simp; omega, fun t => initial_slot ha k t, rfl, fun j D e => by simp at e⟩

theorem leaves_R {F : Fence} {n : Nat} {fn : Func} {tmps : Array Value} {R : Ending → World → Prop} : ∀ (ds : List Nat) (ds' : List Deferred) {H H2 : Heap} {w : World}, takeA ds H = some H2 → Gam w0 ρ H w →
    (ds'.length = ds.length ∧ ∀ (j : Nat) (D : Nat), ds[j]? = some D → ∃ m, ρ D = some m ∧ ds'[j]? = some { target := .collected m.b, args := #[] }) →
    (∀ w2, Gam w0 ρ H2 w2 → Ext ρ ρ H H2 → LeavesIn F n P fn tmps R [] .returning w2) → LeavesInM F n P fn tmps R ds' .returning w := by
  intro ds
  induction ds with
  | nil =>
    intro ds' H H2 w ht g hd K
    have : ds' = [] := List.length_eq_zero_iff.1 (by simpa using hd.1)
    subst this
    simp only [takeA, Option.some.injEq] at ht
    subst ht
    exact K w g (.refl _ _)
  | cons D ds ih =>
    intro ds' H H2 w ht g hd K
    cases ds' with
    | nil => simp at hd
    | cons d ds' =>
      obtain ⟨m, hm, hdm⟩ := hd.2 0 D rfl
      simp only [List.getElem?_cons_zero, Option.some.injEq] at hdm
      subst hdm
      simp only [takeA] at ht
      split at ht
      · cases ht
      rename_i hge
      split at ht
      case h_2 => cases ht
      rename_i ho
      have hobj : w.heap[m.b]? = some (.deferred (some [])) := g.obj D m _ hm ho
      have hlt : m.b < w.heap.size := (g.own D m hm).1
      obtain ⟨g2, ext2⟩ := g.update (o' := .taken) (w' := w.putObj m.b (.deferred none)) hm (by omega) ho rfl (by simp [World.putObj]) (fun k hk => World.putObj_heap_other (by omega)) rfl rfl rfl trivial
      refine ⟨by simp, .inl ⟨m.b, _, rfl, run_takeDeferred hobj, ?_⟩⟩
      refine ih ds' ht g2 ⟨by simpa using hd.1, fun j D' hj => ?_⟩ (fun w2 g3 ext3 => K w2 g3 (ext2.trans ext3))
      obtain ⟨m', h1, h2⟩ := hd.2 (j + 1) D' (by simpa using hj)
      exact ⟨m', h1, by simpa using h2⟩

def resultOf (P : Program) (H : Heap) (A : AAct) : ResultVar → Option Value
  | .tmp t => some (A.slot t)
  | .cell a t => loadA P H t (A.slot a)

theorem loadA_pointer {t : TypeId} {p v : Value} (h : loadA P H t p = some v) : ∃ a, p = .pointer (some a) := by
  unfold loadA at h
  split at h <;> first
    | exact ⟨_, rfl⟩
    | cases h

theorem resultOf_run (g : Gam w0 ρ H w) {A : AAct} {a : Act} (ra : ActR ρ A a) (x : ResultVar) {v : Value} (h : resultOf P H A x = some v) :
    ∃ v', VR ρ v v' ∧ (match x with | .tmp t => (pure (a.tmps.getD t undef) : Sem Value) | .cell b t => do loadVar t (← asAddr (a.tmps.getD b undef))).run P w = .ok v' w := by
  cases x with
  | tmp t =>
    simp only [resultOf, Option.some.injEq] at h
    subst h
    exact ⟨_, ra.slot t, rfl⟩
  | cell b t =>
    simp only [resultOf] at h
    obtain ⟨v', hv, hrun⟩ := loadA_sound (P := P) g (ra.slot b) h
    refine ⟨v', hv, ?_⟩
    obtain ⟨ad, had⟩ := loadA_pointer h
    have hp := ra.slot b
    rw [had] at hp
    obtain ⟨pv, hpv⟩ : ∃ pv, a.tmps.getD b undef = pv := ⟨_, rfl⟩
    rw [hpv] at hp hrun
    simp only [hpv]
    cases hp
    all_goals simpa [Instr.loadAt, asAddr, Instr.sureAddr, Sem.run_bind] using hrun

theorem results_list (g : Gam w0 ρ H w) {A : AAct} {a : Act} (ra : ActR ρ A a) : ∀ (xs : List ResultVar) {vs : List Value}, xs.mapM (resultOf P H A) = some vs →
    ∃ vs', LR ρ vs vs' ∧ (xs.mapM (m := Sem) fun | .tmp t => pure (a.tmps.getD t undef) | .cell b t => do loadVar t (← asAddr (a.tmps.getD b undef))).run P w = .ok vs' w
  | [], vs, h => by
    simp only [List.mapM_nil, Option.pure_def, Option.some.injEq] at h
    subst h
    exact ⟨[], .nil, rfl⟩
  | x :: xs, vs, h => by
    simp only [List.mapM_cons, Option.bind_eq_bind] at h
    obtain ⟨v, hv, h⟩ := Option.bind_eq_some_iff.1 h
    obtain ⟨vs1, hvs, h⟩ := Option.bind_eq_some_iff.1 h
    simp only [Option.pure_def, Option.some.injEq] at h
    subst h
    obtain ⟨v', r1, h1⟩ := resultOf_run g ra x hv
    obtain ⟨vs', r2, h2⟩ := results_list g ra xs hvs
    refine ⟨v' :: vs', .cons r1 r2, ?_⟩
    rw [List.mapM_cons, Sem.run_bind, h1]
    simp only [Result.andThen]
    rw [Sem.run_bind, h2]
    rfl

theorem resultsA_sound (g : Gam w0 ρ H w) {A : AAct} {a : Act} (ra : ActR ρ A a) {fn : Func} {v : Value} (h : resultsA P H fn A = some v) :
    ∃ v', VR ρ v v' ∧ (results fn a.tmps).run P w = .ok v' w := by
  unfold resultsA at h
  obtain ⟨vs, hvs, h⟩ := Option.bind_eq_some_iff.1 h
  have e : (fun x : ResultVar => match x with | .tmp t => some (A.slot t) | .cell b t => loadA P H t (A.slot b)) = resultOf P H A := by funext x; cases x <;> rfl
  have hvs : fn.results.toList.mapM (resultOf P H A) = some vs := by rw [← e]; exact hvs
  obtain ⟨vs', r, hrun⟩ := results_list (P := P) g ra _ hvs
  unfold results
  rw [Array.mapM_eq_mapM_toList, Sem.run_bind, Sem.run_map]
  erw [hrun]
  have hlen := r.length
  simp only [Result.andThen]
  split at h
  · rename_i u
    simp only [Option.some.injEq] at h
    subst h
    match vs', r with
    | [u'], .cons hu .nil => exact ⟨u', hu, rfl⟩
  · rename_i hne
    simp only [Option.some.injEq] at h
    subst h
    have h1 : vs'.toArray.size ≠ 1 := by
      intro e
      have : vs.length = 1 := by simpa [hlen] using e
      obtain ⟨u, rfl⟩ := List.length_eq_one_iff.1 this
      exact hne u rfl
    refine ⟨.tuple vs'.toArray, ?_, by simp only [h1, dite_false]; rfl⟩
    exact VR.tuple' (by simpa using r)

theorem callBody_sound (hs : SelfS P w0 s) (g : Gam w0 ρ H w) {f : FuncId} {args args' : Array Value} {v : Value} {H' : Heap} (n : Nat) (ha : LR ρ args.toList args'.toList) (h : callBody P s f args H = some (v, H')) :
    CallsIn Fence.wide n P f args' w (CallPost w0 ρ H v H') := by
  unfold callBody at h
  split at h
  case h_2 => cases h
  rename_i fn hf
  split at h
  case h_2 => cases h
  rename_i c hb
  obtain ⟨⟨e, A, H1⟩, h1, h⟩ := Option.bind_eq_some_iff.1 h
  refine callsIn_of_wp_marks hf hb trivial ?_
  refine wpIn_mono (hs.code (rC := none) n g .none (initial_act ha fn.ntmps) h1) ?_
  rintro e' a' w' ⟨rfl, ρ1, ra1, g1, ext1⟩
  have fin : ∀ {u : Value} {H2 : Heap}, takeA A.defers H1 = some H2 → resultsA P H2 fn A = some u → LeavesInM Fence.wide n P fn a'.tmps (CallPost w0 ρ H u H2) a'.defers .returning w' := by
    intro u H2 ht hr
    refine leaves_R A.defers a'.defers ht g1 ra1.defers (fun w2 g2 ext2 => ?_)
    obtain ⟨v', hv, hrun⟩ := resultsA_sound g2 ra1 hr
    exact ⟨v', hrun, ρ1, v', rfl, hv, g2, ext1.trans ext2⟩
  cases e' with
  | normal =>
    simp only at h
    obtain ⟨H2, ht, h⟩ := Option.bind_eq_some_iff.1 h
    obtain ⟨u, hu, h⟩ := Option.bind_eq_some_iff.1 h
    simp only [Option.some.injEq, Prod.mk.injEq] at h
    obtain ⟨rfl, rfl⟩ := h
    exact fin ht hu
  | ret =>
    simp only at h
    obtain ⟨H2, ht, h⟩ := Option.bind_eq_some_iff.1 h
    obtain ⟨u, hu, h⟩ := Option.bind_eq_some_iff.1 h
    simp only [Option.some.injEq, Prod.mk.injEq] at h
    obtain ⟨rfl, rfl⟩ := h
    exact fin ht hu
  | _ => cases h

theorem evalN_sound (hmix : P.follows .mixedOrders = true) : ∀ n, SelfS P w0 (evalN P n)
  | 0 => ⟨fun n _ _ h => by simp [evalN] at h, fun n _ _ _ h => by simp [evalN] at h, fun n _ _ _ h => by simp [evalN] at h⟩
  | k + 1 => ⟨fun n g ha h => callBody_sound (evalN_sound hmix k) g n ha h, fun n g rr ra h => codeA_sound (evalN_sound hmix k) hmix n _ g rr ra h,
      fun n g rr ra h => loopIn_once (loop_body (evalN_sound hmix k) n _ (fun g rr ra h => codeA_sound (evalN_sound hmix k) hmix n _ g rr ra h) g rr ra h)⟩

/-- A closed call, whatever the tape. -/
theorem callN_sound (hmix : P.follows .mixedOrders = true) {n : Nat} {f : FuncId} {v : Value} {H' : Heap} (h : callN P n f #[] ⟨.leaf, gbase⟩ = some (v, H')) (w : World) :
    Calls P f #[] w fun e w' => (∃ ρ v', e = .returned v' ∧ VR ρ v v') ∧ Below w.heap.size w w' := by
  have g0 : Gam w (fun _ => none) ⟨.leaf, gbase⟩ w := ⟨Nat.le_refl _, fun _ _ => rfl, .refl _ _, fun _ _ h => by simp at h, fun _ _ h => by simp at h, fun _ _ _ _ _ _ _ h => by simp at h, fun _ _ _ h => by simp at h, fun i _ h => absurd rfl h⟩
  have := (evalN_sound (w0 := w) hmix n).call 0 g0 (args := #[]) (args' := #[]) .nil h
  refine callsIn_wide.1 (this.mono ?_)
  rintro e w' ⟨ρ', v', rfl, hv, g', ext'⟩
  exact ⟨⟨ρ', v', rfl, hv⟩, g'.below⟩

#print axioms callN_sound
end Go.Abs
