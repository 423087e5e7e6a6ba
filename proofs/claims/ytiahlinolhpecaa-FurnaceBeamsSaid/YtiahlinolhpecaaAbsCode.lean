/- Code, functions, the whole evaluator: sound. -/
import Derived.Test.YtiahlinolhpecaaAbsAny
namespace Go.Abs
open Go.RowKit
variable {P : Program} {ρ : Ren} {w0 w : World} {H : Heap} {s : Self}

theorem enterable_run {g : FuncId} (h : enterable P g = true) (args : Array Value) (w : World) : (callFunc g args).run P w = .ok (.enter g args) w := by
  unfold enterable at h
  unfold callFunc
  have hprog : ∀ K : Program → Sem Next, Sem.run P (program >>= K) w = Sem.run P (K P) w := fun K => rfl
  rw [hprog]
  cases hf : P.funcs[g]? with
  | none => simp [hf] at h
  | some fn =>
    simp only [hf, Bool.and_eq_true, Bool.not_eq_true'] at h
    simp only [h.2, Bool.false_eq_true, if_false]
    have : fn.body.isNone = false := by
      cases hb : fn.body with
      | none => simp [hb] at h
      | some c => rfl
    simp only [this, Bool.false_eq_true, if_false]
    rfl

/-- The entry of a range over a function: the record is laid. -/
theorem enterA_sound (g : Gam w0 ρ H w) {r rC : Option Nat} {A : AAct} {a : Act} (rr : RoundR ρ r rC) (ra : ActR ρ A a) (fn : FuncId) (ps : Array Tmp) (assign body : Code) {x : Nat × List Nat × Heap} (h : enterA r H = some x) :
    ∃ (l : Nat) (mark : List Deferred) (w1 : World) (ρ1 : Ren) (m : Meta), (Instr.enterLoop fn a.tmps ps assign body rC).run P w = .ok (l, mark) w1 ∧ m.b = l ∧ ρ1 x.2.2.next = some m ∧
      Gam w0 ρ1 (x.2.2.new (.loop { state := .ready, pending := none, act := A, params := ps, assign, body, defers := x.1 })) w1 ∧ Ext ρ ρ1 H (x.2.2.new (.loop { state := .ready, pending := none, act := A, params := ps, assign, body, defers := x.1 })) ∧
      ActR ρ1 { A with defers := x.2.1 ++ A.defers } { a with defers := mark ++ a.defers } := by
  cases rr with
  | none =>
    simp only [enterA, Option.some.injEq] at h
    subst h
    have hrun := run_enterLoop_outer (P := P) (w := w) fn a.tmps ps assign body
    let mD : Meta := ⟨w.heap.size, 0, 0, false, 0, 0, by omega⟩
    obtain ⟨g1, ext1⟩ := g.new .deferred (.deferred (some [])) mD rfl (alloc_get _ _)
    have hD : (ρ.put H.next mD) H.next = some mD := by simp [Ren.put]
    let mL : Meta := ⟨(w.alloc (.deferred (some []))).heap.size, 0, 0, false, 0, 0, by omega⟩
    have hle2 := g1.le_put mL
    have lr : LoopR ((ρ.put H.next mD).put (H.new .deferred).next mL) { state := .ready, pending := none, act := A, params := ps, assign, body, defers := H.next } { state := .ready, pending := none, fn, tmps := a.tmps, params := ps, assign, body, defers := w.heap.size } :=
      ⟨rfl, rfl, ra.size, fun t => ((ra.slot t).mono ext1.le).mono hle2, rfl, rfl, rfl, mD, hle2 _ _ hD, rfl⟩
    obtain ⟨g2, ext2⟩ := g1.new (.loop { state := .ready, pending := none, act := A, params := ps, assign, body, defers := H.next }) (.loop { state := .ready, pending := none, fn, tmps := a.tmps, params := ps, assign, body, defers := w.heap.size }) mL rfl ⟨_, alloc_get _ _, lr⟩
    refine ⟨_, _, _, _, mL, hrun, by simp [mL], by simp [Ren.put], g2, ext1.trans ext2, ra.size, fun t => ((ra.slot t).mono ext1.le).mono hle2, ?_, ?_⟩
    · simp [ra.defers.1]
    · intro j D hj
      cases j with
      | zero =>
        simp only [List.cons_append, List.nil_append, List.getElem?_cons_zero, Option.some.injEq] at hj
        subst hj
        exact ⟨mD, hle2 _ _ hD, rfl⟩
      | succ j =>
        simp only [List.cons_append, List.nil_append, List.getElem?_cons_succ] at hj
        obtain ⟨m, h1, h2⟩ := ra.defers.2 j D hj
        exact ⟨m, hle2 _ _ (ext1.le _ _ h1), h2⟩
  | @some l0 m0 hm0 =>
    simp only [enterA] at h
    obtain ⟨r0, hr0, h⟩ := Option.bind_eq_some_iff.1 h
    simp only [Option.some.injEq] at h
    subst h
    obtain ⟨L0, hL0, rL0⟩ := g.obj l0 m0 _ hm0 (getLoop_get hr0)
    have hrun := run_enterLoop_inner (P := P) hL0 fn a.tmps ps assign body
    let mL : Meta := ⟨w.heap.size, 0, 0, false, 0, 0, by omega⟩
    have hle2 := g.le_put mL
    obtain ⟨md, hmd, hLd⟩ := rL0.defers
    have lr : LoopR (ρ.put H.next mL) { state := .ready, pending := none, act := A, params := ps, assign, body, defers := r0.defers } { state := .ready, pending := none, fn, tmps := a.tmps, params := ps, assign, body, defers := L0.defers } :=
      ⟨rfl, rfl, ra.size, fun t => (ra.slot t).mono hle2, rfl, rfl, rfl, md, hle2 _ _ hmd, hLd⟩
    obtain ⟨g2, ext2⟩ := g.new (.loop { state := .ready, pending := none, act := A, params := ps, assign, body, defers := r0.defers }) (.loop { state := .ready, pending := none, fn, tmps := a.tmps, params := ps, assign, body, defers := L0.defers }) mL rfl ⟨_, alloc_get _ _, lr⟩
    exact ⟨_, _, _, _, mL, hrun, rfl, by simp [Ren.put], g2, ext2, ra.size, fun t => (ra.slot t).mono hle2, by simpa using ra.defers.1, fun j D hj => by
      obtain ⟨m, h1, h2⟩ := ra.defers.2 j D (by simpa using hj)
      exact ⟨m, hle2 _ _ h1, by simpa using h2⟩⟩

theorem rangeA_sound (hs : SelfS P w0 s) (g : Gam w0 ρ H w) {r rC : Option Nat} {f : Operand} {ps : Array Tmp} {assign body : Code} {A : AAct} {a : Act} {e : Exit} {A' : AAct} {H' : Heap} (n : Nat) (rr : RoundR ρ r rC) (ra : ActR ρ A a)
    (h : rangeA P s r f ps assign body A H = some (e, A', H')) : (Code.rangeFunc f ps assign body).wpIn (Fr rC) n P (CodePost w0 ρ H e A' H') a w := by
  unfold rangeA at h
  obtain ⟨x, hx, h⟩ := Option.bind_eq_some_iff.1 h
  split at h
  case h_2 => cases h
  rename_i gf first captured ef
  split at h
  · cases h
  rename_i hen
  simp only [Bool.not_eq_false] at hen
  obtain ⟨⟨v, H3⟩, hcall, h⟩ := Option.bind_eq_some_iff.1 h
  obtain ⟨r3, hr3, h⟩ := Option.bind_eq_some_iff.1 h
  split at h
  · cases h
  rename_i hbusy
  refine wpIn_rangeFunc fun fn _ => ?_
  obtain ⟨l, mark, w1, ρ1, m, hrun, hml, hm, g1, ext1, ra1⟩ := enterA_sound (P := P) g rr ra fn ps assign body hx
  have hf := ra.eval f
  rw [ef] at hf
  obtain ⟨fv, hfv⟩ : ∃ fv, a.eval f = fv := ⟨_, rfl⟩
  rw [hfv] at hf
  cases hf with
  | func _ _ _ first' captured' ha hb rfa rfb =>
    have hfirst := (LR.of_arr ha rfa).mono ext1.le
    have hcapt := (LR.of_arr hb rfb).mono ext1.le
    have hres : (resolve a.eval (rangeCall f l) 0).run P w1 = .ok { target := .fn (.func gf) captured', args := first' ++ #[.func (.yield l) #[] #[]] } w1 := by
      have hmap : (#[Operand.const (Value.func (.yield l) #[] #[])]).map a.eval = #[Value.func (.yield l) #[] #[]] := by simp [Act.eval]
      simp only [resolve, hfv, Deferred.ofValue, hmap]
      rfl
    have hinv : (invoke (.fn (.func gf) captured') (first' ++ #[.func (.yield l) #[] #[]])).run P w1 = .ok (.enter gf (first' ++ #[.func (.yield l) #[] #[]] ++ captured')) w1 := enterable_run hen _ w1
    refine ⟨l, mark, w1, _, w1, gf, _, w1, by rw [Fr_round]; exact hrun, hres, fun f' _ => Fr_fn _ _, hinv, by rw [Fr_depth]; simp, ?_⟩
    have hargs : LR ρ1 (first ++ #[Value.func (.yield x.2.2.next) #[] #[]] ++ captured).toList (first' ++ #[Value.func (.yield l) #[] #[]] ++ captured').toList := by
      simp only [Array.toList_append]
      refine (hfirst.append (.cons ?_ .nil)).append hcapt
      rw [← hml]
      exact .yield _ m hm
    refine (Fr_calls (hs.call (n - 1) g1 hargs hcall)).mono ?_
    rintro e2 w3 ⟨ρ3, v', rfl, hv, g3, ext3⟩
    have hm3 := ext3.le _ _ hm
    obtain ⟨L3, hL3, rL3⟩ := g3.obj _ m _ hm3 (getLoop_get hr3)
    have hgl := getLoop_own hr3
    obtain ⟨g4, ext4⟩ := g3.putLoop hm3 hgl (getLoop_get hr3) (l' := { r3 with state := .exhausted }) (L' := { L3 with state := .exhausted }) ⟨rfl, rL3.pending, rL3.size, rL3.slot, rL3.params, rL3.assign, rL3.body, rL3.defers⟩
    have hend := run_endLoop (P := P) (hml ▸ hL3) (by rw [rL3.state]; exact hbusy)
    refine ⟨_, _, hend, ?_⟩
    have hpend : L3.pending = r3.pending := rL3.pending
    rw [hml] at g4
    have ra3 := ra1.mono ext3.le
    have extA := (ext1.trans ext3).trans ext4
    cases hp : r3.pending with
    | none =>
      have hpl : L3.pending = none := hpend.trans hp
      simp only [hp, Option.some.injEq, Prod.mk.injEq] at h
      obtain ⟨rfl, rfl, rfl⟩ := h
      simp only [hpl]
      refine ⟨rfl, ρ3, ra3, ?_, ?_⟩
      · simpa only [hp, hpl] using g4
      · simpa only [hp] using extA
    | some c =>
      have hpl : L3.pending = some c := hpend.trans hp
      simp only [hp] at h
      simp only [hpl]
      have g4' := g4
      simp only [hp, hpl] at g4'
      refine wpIn_mono (hs.code n g4' ((rr.mono ext1.le).mono ext3.le) ra3 h) ?_
      rintro e' a' w' ⟨rfl, ρ5, ra5, g5, ext5⟩
      refine ⟨rfl, ρ5, ra5, g5, Ext.trans ?_ ext5⟩
      simpa only [hp] using extA

theorem loopIn_mono {F : Fence} {n : Nat} {Q Q' : Exit → Act → World → Prop} {a : Act} {w : World} {c : Code} (h : LoopIn c F n P Q a w) (hq : ∀ e a w, Q e a w → Q' e a w) : LoopIn c F n P Q' a w :=
  fun b k cs hro hb hr => let ⟨e, a', w', q, r⟩ := h b k cs hro hb hr; ⟨e, a', w', hq _ _ _ q, r⟩
theorem loop_rounds {F : Fence} {n : Nat} {Q : Exit → Act → World → Prop} {a : Act} {w : World} {c : Code} (h : c.wpIn F n P (Exit.then (LoopIn c F n P Q) Q) a w) {b : Frame} {k : List Item} {cs : List Frame} {m : Machine} (hro : b.roundOf = F.round) (hb : F.fn b.fn) (hr : F.room (cs.length + 1 + n))
    (h0 : StepsIn (Machine.fenced P F) P m (lone (b.atR a (.code c :: .inLoop c :: k)) cs w)) : ∃ e a' w', Q e a' w' ∧ ArrivesIn (Machine.fenced P F) P m b k cs e a' w' := by
  obtain ⟨e, a₁, w₁, hq, harr⟩ := h b (.inLoop c :: k) cs hro hb hr
  cases e with
  | normal =>
    obtain ⟨e₂, a₂, w₂, hq₂, harr₂⟩ := hq b k cs hro hb hr
    exact ⟨e₂, a₂, w₂, hq₂, .of_steps (h0.trans harr) harr₂⟩
  | exit id => exact ⟨_, a₁, w₁, hq, .of_steps h0 (.pass (x := .inLoop c) rfl (fun _ _ => .inl (by simp)) harr)⟩
  | goto l => exact ⟨_, a₁, w₁, hq, .of_steps h0 (.pass (x := .inLoop c) rfl (fun _ _ => .inl (by simp)) harr)⟩
  | ret => exact ⟨_, a₁, w₁, hq, .of_steps h0 (.pass (x := .inLoop c) rfl (fun _ _ => .inl (by simp)) harr)⟩
  | panic ch => exact ⟨_, a₁, w₁, hq, .of_steps h0 (.pass (x := .inLoop c) rfl (fun _ _ => .inl (by simp)) harr)⟩
  | outgrown => exact ⟨_, a₁, w₁, hq, .of_steps h0 (.pass (x := .inLoop c) rfl (fun _ _ => .inl (by simp)) harr)⟩
theorem wpIn_loop_once {F : Fence} {n : Nat} {Q : Exit → Act → World → Prop} {a : Act} {w : World} {c : Code} (h : c.wpIn F n P (Exit.then (LoopIn c F n P Q) Q) a w) : (Code.loop c).wpIn F n P Q a w :=
  fun _ _ _ hro hb hr => loop_rounds h hro hb hr (.one (fenced_calm hb hr rfl) stepR_loop)
theorem loopIn_once {F : Fence} {n : Nat} {Q : Exit → Act → World → Prop} {a : Act} {w : World} {c : Code} (h : c.wpIn F n P (Exit.then (LoopIn c F n P Q) Q) a w) : LoopIn c F n P Q a w :=
  fun _ _ _ hro hb hr => loop_rounds h hro hb hr (.one (fenced_calm hb hr rfl) stepR_inLoop)

theorem codePost_trans {ρ' : Ren} {H1 : Heap} {e : Exit} {A' : AAct} {H' : Heap} {e' : Exit} {a' : Act} {w' : World} (ext : Ext ρ ρ' H H1) (h : CodePost w0 ρ' H1 e A' H' e' a' w') : CodePost w0 ρ H e A' H' e' a' w' := by
  obtain ⟨h1, ρ2, h2, h3, h4⟩ := h
  exact ⟨h1, ρ2, h2, h3, ext.trans h4⟩

theorem loop_body (hs : SelfS P w0 s) (n : Nat) {r rC : Option Nat} (body : Code) (ih : ∀ {ρ : Ren} {H : Heap} {w : World} {A : AAct} {a : Act} {e : Exit} {A' : AAct} {H' : Heap}, Gam w0 ρ H w → RoundR ρ r rC → ActR ρ A a →
    codeA P s r body A H = some (e, A', H') → body.wpIn (Fr rC) n P (CodePost w0 ρ H e A' H') a w) {ρ : Ren} {H : Heap} {w : World} {A : AAct} {a : Act} {e : Exit} {A' : AAct} {H' : Heap} (g : Gam w0 ρ H w) (rr : RoundR ρ r rC) (ra : ActR ρ A a)
    (h : codeA P s r (.loop body) A H = some (e, A', H')) : body.wpIn (Fr rC) n P (Exit.then (LoopIn body (Fr rC) n P (CodePost w0 ρ H e A' H')) (CodePost w0 ρ H e A' H')) a w := by
  simp only [codeA] at h
  obtain ⟨⟨e1, A1, H1⟩, h1, h⟩ := Option.bind_eq_some_iff.1 h
  have hb := ih g rr ra h1
  cases e1 with
  | normal =>
    simp only at h
    refine wpIn_mono hb ?_
    rintro e' a' w' ⟨rfl, ρ1, ra1, g1, ext1⟩
    exact loopIn_mono (hs.again n g1 (rr.mono ext1.le) ra1 h) (fun e a w hp => codePost_trans ext1 hp)
  | _ =>
    simp only [Option.some.injEq, Prod.mk.injEq] at h
    obtain ⟨rfl, rfl, rfl⟩ := h
    refine wpIn_mono hb ?_
    rintro e' a' w' ⟨rfl, ρ1, ra1, g1, ext1⟩
    exact ⟨rfl, ρ1, ra1, g1, ext1⟩

theorem codeA_sound (hs : SelfS P w0 s) (hmix : P.follows .mixedOrders = true) (n : Nat) {r rC : Option Nat} : ∀ (c : Code) {ρ : Ren} {H : Heap} {w : World} {A : AAct} {a : Act} {e : Exit} {A' : AAct} {H' : Heap}, Gam w0 ρ H w → RoundR ρ r rC → ActR ρ A a →
    codeA P s r c A H = some (e, A', H') → c.wpIn (Fr rC) n P (CodePost w0 ρ H e A' H') a w := by
  intro c
  induction c with
  | skip =>
    intro ρ H w A a e A' H' g rr ra h
    simp only [codeA, Option.some.injEq, Prod.mk.injEq] at h
    obtain ⟨rfl, rfl, rfl⟩ := h
    exact wpIn_skip ⟨rfl, ρ, ra, g, .refl _ _⟩
  | region id ops draw =>
    intro ρ H w A a e A' H' g rr ra h
    cases draw with
    | false =>
      simp only [codeA] at h
      obtain ⟨⟨A1, H1⟩, h1, h⟩ := Option.bind_eq_some_iff.1 h
      simp only [Option.some.injEq, Prod.mk.injEq] at h
      obtain ⟨rfl, rfl, rfl⟩ := h
      exact wpIn_region (opsA_sound hs _ g ra h1 (fun ρ' a' w' ra' g' ext => ⟨rfl, ρ', ra', g', ext⟩))
    | true =>
      simp only [codeA] at h
      split at h
      · rename_i hgood
        obtain ⟨⟨A1, H1⟩, h1, h⟩ := Option.bind_eq_some_iff.1 h
        simp only [Option.some.injEq, Prod.mk.injEq] at h
        obtain ⟨rfl, rfl, rfl⟩ := h
        exact anyA_sound hs hmix g n ra hgood h1
      · cases h
  | seq x y ihx ihy =>
    intro ρ H w A a e A' H' g rr ra h
    simp only [codeA] at h
    obtain ⟨⟨e1, A1, H1⟩, h1, h⟩ := Option.bind_eq_some_iff.1 h
    refine wpIn_seq (wpIn_mono (ihx g rr ra h1) ?_)
    rintro e' a' w' ⟨rfl, ρ1, ra1, g1, ext1⟩
    cases e' with
    | normal =>
      simp only at h
      exact wpIn_mono (ihy g1 (rr.mono ext1.le) ra1 h) (fun e a w hp => codePost_trans ext1 hp)
    | _ =>
      simp only [Option.some.injEq, Prod.mk.injEq] at h
      obtain ⟨rfl, rfl, rfl⟩ := h
      exact ⟨rfl, ρ1, ra1, g1, ext1⟩
  | cond c x y ihx ihy =>
    intro ρ H w A a e A' H' g rr ra h
    simp only [codeA] at h
    have hc := ra.eval c
    split at h
    · rename_i ec
      rw [ec] at hc
      exact wpIn_cond_true hc.bool_inv (ihx g rr ra h)
    · rename_i ec
      rw [ec] at hc
      exact wpIn_cond_false hc.bool_inv (ihy g rr ra h)
    · cases h
  | block id body ih =>
    intro ρ H w A a e A' H' g rr ra h
    simp only [codeA] at h
    obtain ⟨⟨e1, A1, H1⟩, h1, h⟩ := Option.bind_eq_some_iff.1 h
    refine wpIn_block (wpIn_mono (ih g rr ra h1) ?_)
    rintro e' a' w' ⟨rfl, ρ1, ra1, g1, ext1⟩
    cases e' with
    | exit id' =>
      simp only at h
      split at h
      · rename_i hid
        simp only [Option.some.injEq, Prod.mk.injEq] at h
        obtain ⟨rfl, rfl, rfl⟩ := h
        simp only [Exit.inBlock, hid, if_true]
        exact ⟨rfl, ρ1, ra1, g1, ext1⟩
      · rename_i hid
        simp only [Option.some.injEq, Prod.mk.injEq] at h
        obtain ⟨rfl, rfl, rfl⟩ := h
        simp only [Exit.inBlock, hid, if_false]
        exact ⟨rfl, ρ1, ra1, g1, ext1⟩
    | _ =>
      simp only [Option.some.injEq, Prod.mk.injEq] at h
      obtain ⟨rfl, rfl, rfl⟩ := h
      exact ⟨rfl, ρ1, ra1, g1, ext1⟩
  | loop body ih =>
    intro ρ H w A a e A' H' g rr ra h
    exact wpIn_loop_once (loop_body hs n body (fun g rr ra h => ih g rr ra h) g rr ra h)
  | rangeFunc f ps assign body _ _ =>
    intro ρ H w A a e A' H' g rr ra h
    simp only [codeA] at h
    exact rangeA_sound hs g n rr ra h
  | exit id =>
    intro ρ H w A a e A' H' g rr ra h
    simp only [codeA, Option.some.injEq, Prod.mk.injEq] at h
    obtain ⟨rfl, rfl, rfl⟩ := h
    exact wpIn_exit ⟨rfl, ρ, ra, g, .refl _ _⟩
  | label l =>
    intro ρ H w A a e A' H' g rr ra h
    simp only [codeA, Option.some.injEq, Prod.mk.injEq] at h
    obtain ⟨rfl, rfl, rfl⟩ := h
    exact wpIn_label ⟨rfl, ρ, ra, g, .refl _ _⟩
  | goto l =>
    intro ρ H w A a e A' H' g rr ra h
    simp only [codeA, Option.some.injEq, Prod.mk.injEq] at h
    obtain ⟨rfl, rfl, rfl⟩ := h
    exact wpIn_goto ⟨rfl, ρ, ra, g, .refl _ _⟩
  | ret =>
    intro ρ H w A a e A' H' g rr ra h
    simp only [codeA, Option.some.injEq, Prod.mk.injEq] at h
    obtain ⟨rfl, rfl, rfl⟩ := h
    exact wpIn_ret ⟨rfl, ρ, ra, g, .refl _ _⟩
  | scope body _ => intro ρ H w A a e A' H' g rr ra h; simp [codeA] at h
  | refuse why => intro ρ H w A a e A' H' g rr ra h; simp [codeA] at h

end Go.Abs
