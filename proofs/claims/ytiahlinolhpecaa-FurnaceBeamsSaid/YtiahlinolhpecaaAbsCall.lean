/- Calls of builtins and of functions: the evaluator is sound. -/
import Derived.Test.YtiahlinolhpecaaAbsOps
namespace Go.Abs
open Go.RowKit
variable {P : Program} {ρ : Ren} {w0 w : World} {H : Heap}

theorem map_LR {env env' : Operand → Value} : ∀ (l : List Operand), (∀ y ∈ l, VR ρ (env y) (env' y)) → LR ρ (l.map env) (l.map env')
  | [], _ => .nil
  | y :: l, h => .cons (h y (by simp)) (map_LR l (fun z hz => h z (by simp [hz])))
theorem maps_LR {env env' : Operand → Value} {a : Array Operand} (h : ∀ y ∈ a, VR ρ (env y) (env' y)) : LR ρ (a.map env).toList (a.map env').toList := by
  rw [Array.toList_map, Array.toList_map]
  exact map_LR _ (fun y hy => h y (by simpa using hy))

theorem LR.at {a a' : Array Value} (h : LR ρ a.toList a'.toList) {i : Nat} {v : Value} (e : a[i]? = some v) : ∃ v', a'[i]? = some v' ∧ VR ρ v v' := by
  obtain ⟨v', e', r⟩ := h.get (n := i) (v := v) (by simpa using e)
  exact ⟨v', by simpa using e', r⟩
theorem LR.at_none {a a' : Array Value} (h : LR ρ a.toList a'.toList) {i : Nat} (e : a[i]? = none) : a'[i]? = none := by
  rw [Array.getElem?_eq_none_iff] at e ⊢
  rw [← h.size]; exact e

theorem len_PR {argTypes : Array TypeId} {type : TypeId} {a a' : Array Value} (h : LR ρ a.toList a'.toList) (hk : ∀ r, a[0]? ≠ some (.chan r)) : PR P (VR ρ) (Builtin.len_ argTypes type a) (Builtin.len_ argTypes type a') := by
  unfold Builtin.len_
  cases ht : (argTypes[0]? : Option TypeId) with
  | none => exact .fail rfl
  | some t =>
    cases hx : a[0]? with
    | none => simp only; exact .fail rfl
    | some x =>
      obtain ⟨x', hx', hr⟩ := h.at hx
      simp only [hx']
      refine .same fun d => ?_
      cases d with
      | array n e => exact .ret (.int _ _)
      | pointer arr =>
        refine .same fun d2 => ?_
        cases d2 with
        | array n e => exact .ret (.int _ _)
        | _ => exact .fail rfl
      | string =>
        cases hr with
        | string s => exact .ret (.int _ _)
        | _ => exact .fail rfl
      | slice e =>
        cases hr with
        | nilSlice l c => exact .ret (.int _ _)
        | slice i k len cap m hm ho => exact .ret (.int _ _)
        | opened i k len cap capC m hm ho hc hs => exact .ret (.int _ _)
        | empty i k off m hm ho _ => exact .ret (.int _ _)
        | _ => exact .fail rfl
      | map k e =>
        cases hr with
        | nilMap => exact .ret (.int _ _)
        | _ => exact .fail rfl
      | chan d e =>
        cases hr with
        | unknown r v => exact absurd hx (hk r)
        | _ => exact .fail rfl
      | _ => exact .fail rfl

theorem cap_PR {argTypes : Array TypeId} {type : TypeId} {a a' : Array Value} (h : LR ρ a.toList a'.toList)
    (hk : ∀ r, a[0]? ≠ some (.chan r)) (hn : ∀ i k len cap, a[0]? ≠ some (.slice (some ⟨i, k, none⟩) len cap)) : PR P (VR ρ) (Builtin.cap_ argTypes type a) (Builtin.cap_ argTypes type a') := by
  unfold Builtin.cap_
  cases ht : (argTypes[0]? : Option TypeId) with
  | none => exact .fail rfl
  | some t =>
    cases hx : a[0]? with
    | none => simp only; exact .fail rfl
    | some x =>
      obtain ⟨x', hx', hr⟩ := h.at hx
      simp only [hx']
      refine .same fun d => ?_
      cases d with
      | array n e => exact .ret (.int _ _)
      | pointer arr =>
        refine .same fun d2 => ?_
        cases d2 with
        | array n e => exact .ret (.int _ _)
        | _ => exact .fail rfl
      | slice e =>
        cases hr with
        | nilSlice l c => exact .ret (.int _ _)
        | slice i k len cap m hm ho => exact absurd hx (hn _ _ _ _)
        | opened i k len cap capC m hm ho hc hs => exact absurd hx (hn _ _ _ _)
        | empty i k off m hm ho _ => exact absurd hx (hn _ _ _ _)
        | _ => exact .fail rfl
      | chan d e =>
        cases hr with
        | unknown r v => exact absurd hx (hk r)
        | _ => exact .fail rfl
      | _ => exact .fail rfl

theorem builtin_val {b : Builtin} {argTypes : Array TypeId} {type : TypeId} {consts : Array Bool} {args : Array Value} {e : Sem Value} {v : Value} {w' : World}
    (hb : Go.builtin b argTypes type consts args = (do pure (.value (← e)))) (he : e.run P w = .ok v w') : (invoke (.builtin b argTypes type consts) args).run P w = .ok (.value v) w' := by
  show (Go.builtin b argTypes type consts args).run P w = _
  rw [hb]
  simp only [Sem.run_bind, he, Result.andThen_ok]
  rfl

theorem args_plain {a a' : Array Value} (h : LR ρ a.toList a'.toList) (hp : a.all (plain 8) = true) : a' = a := by
  have := LR.plain_eq (plain_eq 8) h (by simpa using hp)
  exact Array.toList_inj.1 this

theorem callA_sound (g : Gam w0 ρ H w) {env env' : Operand → Value} {c : Call} {type : TypeId} {nx : ANext} {H' : Heap} (hc : ∀ y ∈ c.operands, VR ρ (env y) (env' y)) (h : callA P H env c type = some (nx, H')) :
    OpS P w0 ρ H w nx H' (do let d ← resolve env' c type; invoke d.target d.args) := by
  have hargs : LR ρ (c.args.map env).toList (c.args.map env').toList := maps_LR (fun y hy => hc y (by unfold Call.operands; simp [hy]))
  obtain ⟨callee, cargs, argTypes⟩ := c
  simp only at hargs
  have bt : ∀ (b : Builtin) (v : Value) (H1 : Heap), callee = .builtin b → (∃ ρ' v' w', Gam w0 ρ' H1 w' ∧ Ext ρ ρ' H H1 ∧ VR ρ' v v' ∧ ∃ e : Sem Value, (∀ consts, Go.builtin b argTypes type consts (cargs.map env') = (do pure (.value (← e)))) ∧ e.run P w = .ok v' w') →
      OpS P w0 ρ H w (.value v) H1 (do let d ← resolve env' ⟨callee, cargs, argTypes⟩ type; invoke d.target d.args) := by
    rintro b v H1 rfl ⟨ρ', v', w', g', ext, hv, e, hb, he⟩
    refine ⟨ρ', _, w', g', ext, .value hv, ?_⟩
    simp only [resolve, Sem.run_bind, Sem.run_pure, Result.andThen_ok]
    exact builtin_val (hb _) he
  have btp : ∀ (b : Builtin) (e e' : Sem Value), callee = .builtin b → PR P (VR ρ) e e' → (∀ consts, Go.builtin b argTypes type consts (cargs.map env') = (do pure (.value (← e')))) →
      ((pureRun P e).bind fun x => some (ANext.value x, H)) = some (nx, H') → OpS P w0 ρ H w nx H' (do let d ← resolve env' ⟨callee, cargs, argTypes⟩ type; invoke d.target d.args) := by
    intro b e e' hb hpr hbb h
    obtain ⟨x, hx, h⟩ := Option.bind_eq_some_iff.1 h
    simp only [Option.some.injEq, Prod.mk.injEq] at h
    obtain ⟨rfl, rfl⟩ := h
    obtain ⟨y, hy, hrun⟩ := hpr.sound hx
    exact bt b x H hb ⟨ρ, y, w, g, .refl _ _, hy, e', hbb, hrun w⟩
  have btq : ∀ (b : Builtin) (e : Sem Value), callee = .builtin b → (∀ consts, Go.builtin b argTypes type consts (cargs.map env') = (do pure (.value (← e)))) →
      ((pureRun P e).bind fun x => if plain 8 x = true then some (ANext.value x, H) else none) = some (nx, H') → OpS P w0 ρ H w nx H' (do let d ← resolve env' ⟨callee, cargs, argTypes⟩ type; invoke d.target d.args) := by
    intro b e hb hbb h
    obtain ⟨x, hx, h⟩ := Option.bind_eq_some_iff.1 h
    split at h
    · rename_i hp
      simp only [Option.some.injEq, Prod.mk.injEq] at h
      obtain ⟨rfl, rfl⟩ := h
      obtain ⟨y, rfl, hrun⟩ := (PR.refl (P := P) e).sound hx
      exact bt b x H hb ⟨ρ, x, w, g, .refl _ _, plain_refl ρ 8 _ hp, e, hbb, hrun w⟩
    · cases h
  unfold callA at h
  cases callee with
  | invoke r m => simp at h
  | builtin b =>
    cases b with
    | append =>
      obtain ⟨⟨v, H1⟩, hr, h⟩ := Option.bind_eq_some_iff.1 h
      simp only [Option.some.injEq, Prod.mk.injEq] at h
      obtain ⟨rfl, rfl⟩ := h
      obtain ⟨ρ', v', w', g', ext, hv, hrun⟩ := appendA_sound (type := type) g hargs hr
      exact bt .append v H1 rfl ⟨ρ', v', w', g', ext, hv, _, fun _ => rfl, hrun⟩
    | copy =>
      obtain ⟨⟨v, H1⟩, hr, h⟩ := Option.bind_eq_some_iff.1 h
      simp only [Option.some.injEq, Prod.mk.injEq] at h
      obtain ⟨rfl, rfl⟩ := h
      obtain ⟨v', w', g', ext, hv, hrun⟩ := copyA_sound (type := type) g hargs hr
      exact bt .copy v H1 rfl ⟨ρ, v', w', g', ext, hv, _, fun _ => rfl, hrun⟩
    | clear =>
      obtain ⟨⟨v, H1⟩, hr, h⟩ := Option.bind_eq_some_iff.1 h
      simp only [Option.some.injEq, Prod.mk.injEq] at h
      obtain ⟨rfl, rfl⟩ := h
      obtain ⟨v', w', g', ext, hv, hrun⟩ := clearA_sound (type := type) g hargs hr
      exact bt .clear v H1 rfl ⟨ρ, v', w', g', ext, hv, _, fun _ => rfl, hrun⟩
    | len =>
      simp only at h
      split at h
      · rename_i r ha0
        split at h
        · rename_i kt et ht
          obtain ⟨t, ht0, ht1⟩ := Option.bind_eq_some_iff.1 ht
          obtain ⟨x', hx', hr⟩ := hargs.at (i := 0) ha0
          cases hr with
          | map _ m hm =>
            cases ho : H.get r with
            | none => simp [ho] at h
            | some o =>
              cases o with
              | map es clock =>
                simp only [ho, Option.some.injEq, Prod.mk.injEq] at h
                obtain ⟨rfl, rfl⟩ := h
                obtain ⟨es', hb, her⟩ := g.obj r m _ hm ho
                have hget : (getObj m.b).run P w = .ok (.map es' clock) w := by simp [getObj, Sem.run, hb]
                have hlen : es.length = es'.size := by
                  have : ∀ {a b : List MapEntry}, ER ρ a b → a.length = b.length := by
                    intro a b h
                    induction h with
                    | nil => rfl
                    | cons _ _ _ _ _ ih => simp [ih]
                  simpa using this her
                refine bt .len _ H rfl ⟨ρ, .int .i64 es.length, w, g, .refl _ _, .int _ _, Builtin.len_ argTypes type (cargs.map env'), fun _ => rfl, ?_⟩
                unfold Builtin.len_
                have ht0' : (argTypes[0]? : Option TypeId) = some t := ht0
                simp only [ht0', hx', Sem.run_bind, und_run ht1, Result.andThen_ok, hget]
                rw [hlen]
                rfl
              | _ => simp [ho] at h
        · cases h
      · cases h
      · rename_i n1 n2
        exact btp .len _ _ rfl (len_PR hargs (fun r e => n2 r e)) (fun _ => rfl) h
    | cap =>
      simp only at h
      split at h
      · rename_i i k ln cp ha0
        split at h
        · rename_i et ht
          obtain ⟨t, ht0, ht1⟩ := Option.bind_eq_some_iff.1 ht
          obtain ⟨x', hx', hr⟩ := hargs.at (i := 0) ha0
          split at h
          · cases h
          · rename_i hop
            simp only [Option.some.injEq, Prod.mk.injEq] at h
            obtain ⟨rfl, rfl⟩ := h
            obtain ⟨m, hm, off, capC, rfl, hcap, hx1, hx2⟩ := slice_inv hr
            obtain ⟨_, rfl⟩ := hx1 (isOpen_of g hm k cp (by simpa using hop))
            refine bt .cap _ H rfl ⟨ρ, .int .i64 capC, w, g, .refl _ _, .int _ _, Builtin.cap_ argTypes type (cargs.map env'), fun _ => rfl, ?_⟩
            unfold Builtin.cap_
            have ht0' : (argTypes[0]? : Option TypeId) = some t := ht0
            simp only [ht0', hx', Sem.run_bind, und_run ht1, Result.andThen_ok]
            rfl
        · cases h
      · cases h
      · rename_i n1 n2
        exact btp .cap _ _ rfl (cap_PR hargs (fun r e => n2 r e) (fun i k len cap e => n1 i k len cap e)) (fun _ => rfl) h
    | min =>
      simp only at h
      split at h
      · rename_i hp
        have he := args_plain hargs hp
        rw [← he] at h
        exact btq .min _ rfl (fun _ => rfl) h
      · cases h
    | max =>
      simp only at h
      split at h
      · rename_i hp
        have he := args_plain hargs hp
        rw [← he] at h
        exact btq .max _ rfl (fun _ => rfl) h
      · cases h
    | _ => simp at h
  | value f =>
    have hf := hc f (by simp [Call.operands])
    obtain ⟨fv, hfv⟩ : ∃ fv, env' f = fv := ⟨_, rfl⟩
    rw [hfv] at hf
    simp only at h
    split at h
    · rename_i fn first captured ef
      rw [ef] at hf
      cases hf with
      | func _ _ _ first' captured' ha hb ra rb =>
        have hfirst := LR.of_arr ha ra
        have hcapt := LR.of_arr hb rb
        split at h
        · rename_i fnc hfn
          split at h
          · rename_i hbn
            split at h
            · rename_i hcond
              simp only [Bool.and_eq_true] at hcond
              obtain ⟨⟨hp, h1⟩, h2⟩ := hcond
              have he := args_plain hargs hp
              have e1 : first' = #[] := by
                have : first = #[] := by simpa using h1
                rw [this] at ha
                exact Array.eq_empty_of_size_eq_zero ha.symm
              have e2 : captured' = #[] := by
                have : captured = #[] := by simpa using h2
                rw [this] at hb
                exact Array.eq_empty_of_size_eq_zero hb.symm
              split at h
              · rename_i v hv
                split at h
                · rename_i hpv
                  simp only [Option.some.injEq, Prod.mk.injEq] at h
                  obtain ⟨rfl, rfl⟩ := h
                  obtain ⟨y, rfl, hrun⟩ := (PR.refl (P := P) (callFunc fn (cargs.map env))).sound hv
                  refine .val g (plain_refl ρ 8 _ hpv) ?_
                  simp only [resolve, hfv, Deferred.ofValue, Sem.run_bind, Sem.run_pure, Result.andThen_ok, invoke, e1, e2, Array.empty_append, Array.append_empty, he]
                  exact hrun w
                · cases h
              · cases h
            · cases h
          · rename_i hbn
            split at h
            · cases h
            · rename_i hnm
              simp only [Option.some.injEq, Prod.mk.injEq] at h
              obtain ⟨rfl, rfl⟩ := h
              refine ⟨ρ, .enter fn (first' ++ cargs.map env' ++ captured'), w, g, .refl _ _, .enter ?_, ?_⟩
              · simp only [Array.toList_append]
                exact (hfirst.append hargs).append hcapt
              · simp only [resolve, hfv, Deferred.ofValue, Sem.run_bind, Sem.run_pure, Result.andThen_ok, invoke]
                show Sem.run P (callFunc fn _) w = _
                unfold callFunc
                have hprog : ∀ K : Program → Sem Next, Sem.run P (program >>= K) w = Sem.run P (K P) w := fun K => rfl
                rw [hprog, hfn]
                simp only [hnm, Bool.false_eq_true, if_false, hbn]
                rfl
        · cases h
    · rename_i l first cap ef
      rw [ef] at hf
      split at h
      · rename_i r hr
        split at h
        · rename_i hcond
          simp only [Bool.and_eq_true, beq_iff_eq] at hcond
          obtain ⟨⟨h1, h2⟩, h3⟩ := hcond
          simp only [Option.some.injEq, Prod.mk.injEq] at h
          obtain ⟨rfl, rfl⟩ := h
          cases hf with
          | yield _ m hm =>
            obtain ⟨L, hL, hLR⟩ := g.obj l m _ hm hr
            refine ⟨ρ, _, w, g, .refl _ _, .round hm hL hargs, ?_⟩
            have hget : (getObj m.b).run P w = .ok (.loop L) w := by simp [getObj, Sem.run, hL]
            simp only [resolve, hfv, Deferred.ofValue, Sem.run_bind, Sem.run_pure, Result.andThen_ok, invoke, Instr.yield, Instr.getLoop, hget, Array.empty_append]
            have hsz := hargs.size
            rw [if_neg (by rw [← hsz, h3, hLR.params]; simp)]
            rfl
        · cases h
      · cases h
    · cases h

end Go.Abs
