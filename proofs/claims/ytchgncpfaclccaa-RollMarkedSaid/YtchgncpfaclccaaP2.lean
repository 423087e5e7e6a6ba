/- Texts of the proof, put together: AbsCall, AbsVal, AbsRun, AbsAny, AbsCode, AbsFn, AbsWp, AbsWpA. -/
import Derived.Test.YtchgncpfaclccaaP1
import Derived.Laws.BytesString
import Derived.Laws.StructEq
import Derived.ChangeKeysEq
import Derived.RangeFuncNested
import Derived.RangeFuncCalls
import Derived.OrdersIn
/- Calls of builtins and of functions: the evaluator is sound. -/
namespace Go.Abs
open Go.RowKit
variable {P : Program} {ρ : Ren} {w0 : Start P} {w : World} {H : Heap}

theorem map_LR {env env' : Operand → Value} : ∀ (l : List Operand), (∀ y ∈ l, VR ρ (env y) (env' y)) → LR ρ (l.map env) (l.map env')
  | [], _ => .nil
  | y :: l, h => .cons (h y (by simp)) (map_LR l (fun z hz => h z (by simp [hz])))
theorem maps_LR {env env' : Operand → Value} {a : Array Operand} (h : ∀ y ∈ a, VR ρ (env y) (env' y)) : LR ρ (a.map env).toList (a.map env').toList := by
  rw [Array.toList_map, Array.toList_map]
  exact map_LR _ (fun y hy => h y (by simpa using hy))

theorem LR.at {a a' : Array Value} (h : LR ρ a.toList a'.toList) {i : Nat} {v : Value} (e : a[i]? = some v) : ∃ v', a'[i]? = some v' ∧ VR ρ v v' := by
  obtain ⟨v', e', r⟩ := h.get (n := i) (v := v) (by simpa using e)
  exact ⟨v', by simpa using e', r⟩
theorem len_PR {argTypes : Array TypeId} {type : TypeId} {a a' : Array Value} (h : LR ρ a.toList a'.toList) (hk : ∀ r, a[0]? ≠ some (.chan r)) : PR P (VR ρ) (Builtin.len_ argTypes type a) (Builtin.len_ argTypes type a') := by
  unfold Builtin.len_
  cases ht : (argTypes[0]? : Option TypeId) with
  | none => exact .fail rfl
  | some t =>
    cases hx : a[0]? with
    | none => simp only; exact .fail rfl
    | some x =>
      obtain ⟨x', hx', hr⟩ := h.at hx
      simp only [hx']
      refine .same fun d => ?_
      cases d with
      | array n e => exact .ret (.int _ _)
      | pointer arr =>
        refine .same fun d2 => ?_
        cases d2 with
        | array n e => exact .ret (.int _ _)
        | _ => exact .fail rfl
      | string =>
        cases hr with
        | string s => exact .ret (.int _ _)
        | _ => exact .fail rfl
      | slice e =>
        cases hr with
        | nilSlice l c => exact .ret (.int _ _)
        | slice i k len cap m hm ho hl => exact .ret (.int _ _)
        | opened i k len cap capC m hm ho hc hs hl => exact .ret (.int _ _)
        | empty i k off m hm ho _ => exact .ret (.int _ _)
        | _ => exact .fail rfl
      | map k e =>
        cases hr with
        | nilMap => exact .ret (.int _ _)
        | _ => exact .fail rfl
      | chan d e =>
        cases hr with
        | unknown r v => exact absurd hx (hk r)
        | _ => exact .fail rfl
      | _ => exact .fail rfl

theorem cap_PR {argTypes : Array TypeId} {type : TypeId} {a a' : Array Value} (h : LR ρ a.toList a'.toList)
    (hk : ∀ r, a[0]? ≠ some (.chan r)) (hn : ∀ i k len cap, a[0]? ≠ some (.slice (some ⟨i, k, none⟩) len cap)) : PR P (VR ρ) (Builtin.cap_ argTypes type a) (Builtin.cap_ argTypes type a') := by
  unfold Builtin.cap_
  cases ht : (argTypes[0]? : Option TypeId) with
  | none => exact .fail rfl
  | some t =>
    cases hx : a[0]? with
    | none => simp only; exact .fail rfl
    | some x =>
      obtain ⟨x', hx', hr⟩ := h.at hx
      simp only [hx']
      refine .same fun d => ?_
      cases d with
      | array n e => exact .ret (.int _ _)
      | pointer arr =>
        refine .same fun d2 => ?_
        cases d2 with
        | array n e => exact .ret (.int _ _)
        | _ => exact .fail rfl
      | slice e =>
        cases hr with
        | nilSlice l c => exact .ret (.int _ _)
        | slice i k len cap m hm ho hl => exact absurd hx (hn _ _ _ _)
        | opened i k len cap capC m hm ho hc hs hl => exact absurd hx (hn _ _ _ _)
        | empty i k off m hm ho _ => exact absurd hx (hn _ _ _ _)
        | _ => exact .fail rfl
      | chan d e =>
        cases hr with
        | unknown r v => exact absurd hx (hk r)
        | _ => exact .fail rfl
      | _ => exact .fail rfl

theorem builtin_val {b : Builtin} {argTypes : Array TypeId} {type : TypeId} {consts : Array Bool} {args : Array Value} {e : Sem Value} {v : Value} {w' : World}
    (hb : Go.builtin b argTypes type consts args = (do pure (.value (← e)))) (he : e.run P w = .ok v w') : (invoke (.builtin b argTypes type consts) args).run P w = .ok (.value v) w' := by
  show (Go.builtin b argTypes type consts args).run P w = _
  rw [hb]
  simp only [Sem.run_bind, he, Result.andThen_ok]
  rfl

theorem args_plain {a a' : Array Value} (h : LR ρ a.toList a'.toList) (hp : a.all (plain 8) = true) : a' = a := by
  have := LR.plain_eq (plain_eq 8) h (by simpa using hp)
  exact Array.toList_inj.1 this

theorem callA_sound (g : Gam w0 ρ H w) {env env' : Operand → Value} {c : Call} {type : TypeId} {nx : ANext} {H' : Heap} (hc : ∀ y ∈ c.operands, VR ρ (env y) (env' y)) (h : callA P H env c type = some (nx, H')) :
    OpS P w0 ρ H w nx H' (do let d ← resolve env' c type; invoke d.target d.args) := by
  have hargs : LR ρ (c.args.map env).toList (c.args.map env').toList := maps_LR (fun y hy => hc y (by unfold Call.operands; simp [hy]))
  obtain ⟨callee, cargs, argTypes⟩ := c
  simp only at hargs
  have bt : ∀ (b : Builtin) (v : Value) (H1 : Heap), callee = .builtin b → (∃ ρ' v' w', Gam w0 ρ' H1 w' ∧ Ext ρ ρ' H H1 ∧ VR ρ' v v' ∧ ∃ e : Sem Value, (∀ consts, Go.builtin b argTypes type consts (cargs.map env') = (do pure (.value (← e)))) ∧ e.run P w = .ok v' w') →
      OpS P w0 ρ H w (.value v) H1 (do let d ← resolve env' ⟨callee, cargs, argTypes⟩ type; invoke d.target d.args) := by
    rintro b v H1 rfl ⟨ρ', v', w', g', ext, hv, e, hb, he⟩
    refine ⟨ρ', _, w', g', ext, .value hv, ?_⟩
    simp only [resolve, Sem.run_bind, Sem.run_pure, Result.andThen_ok]
    exact builtin_val (hb _) he
  have btp : ∀ (b : Builtin) (e e' : Sem Value), callee = .builtin b → PR P (VR ρ) e e' → (∀ consts, Go.builtin b argTypes type consts (cargs.map env') = (do pure (.value (← e')))) →
      ((pureRun P e).bind fun x => some (ANext.value x, H)) = some (nx, H') → OpS P w0 ρ H w nx H' (do let d ← resolve env' ⟨callee, cargs, argTypes⟩ type; invoke d.target d.args) := by
    intro b e e' hb hpr hbb h
    obtain ⟨x, hx, h⟩ := Option.bind_eq_some_iff.1 h
    simp only [Option.some.injEq, Prod.mk.injEq] at h
    obtain ⟨rfl, rfl⟩ := h
    obtain ⟨y, hy, hrun⟩ := hpr.sound hx
    exact bt b x H hb ⟨ρ, y, w, g, .refl _ _, hy, e', hbb, hrun w⟩
  have btq : ∀ (b : Builtin) (e : Sem Value), callee = .builtin b → (∀ consts, Go.builtin b argTypes type consts (cargs.map env') = (do pure (.value (← e)))) →
      ((pureRun P e).bind fun x => if plain 8 x = true then some (ANext.value x, H) else none) = some (nx, H') → OpS P w0 ρ H w nx H' (do let d ← resolve env' ⟨callee, cargs, argTypes⟩ type; invoke d.target d.args) := by
    intro b e hb hbb h
    obtain ⟨x, hx, h⟩ := Option.bind_eq_some_iff.1 h
    split at h
    · rename_i hp
      simp only [Option.some.injEq, Prod.mk.injEq] at h
      obtain ⟨rfl, rfl⟩ := h
      obtain ⟨y, rfl, hrun⟩ := (PR.refl (P := P) e).sound hx
      exact bt b x H hb ⟨ρ, x, w, g, .refl _ _, plain_refl ρ 8 _ hp, e, hbb, hrun w⟩
    · cases h
  unfold callA at h
  cases callee with
  | invoke r m => simp at h
  | builtin b =>
    cases b with
    | append =>
      obtain ⟨⟨v, H1⟩, hr, h⟩ := Option.bind_eq_some_iff.1 h
      simp only [Option.some.injEq, Prod.mk.injEq] at h
      obtain ⟨rfl, rfl⟩ := h
      obtain ⟨ρ', v', w', g', ext, hv, hrun⟩ := appendA_sound (type := type) g hargs hr
      exact bt .append v H1 rfl ⟨ρ', v', w', g', ext, hv, _, fun _ => rfl, hrun⟩
    | copy =>
      obtain ⟨⟨v, H1⟩, hr, h⟩ := Option.bind_eq_some_iff.1 h
      simp only [Option.some.injEq, Prod.mk.injEq] at h
      obtain ⟨rfl, rfl⟩ := h
      obtain ⟨v', w', g', ext, hv, hrun⟩ := copyA_sound (type := type) g hargs hr
      exact bt .copy v H1 rfl ⟨ρ, v', w', g', ext, hv, _, fun _ => rfl, hrun⟩
    | clear =>
      obtain ⟨⟨v, H1⟩, hr, h⟩ := Option.bind_eq_some_iff.1 h
      simp only [Option.some.injEq, Prod.mk.injEq] at h
      obtain ⟨rfl, rfl⟩ := h
      obtain ⟨v', w', g', ext, hv, hrun⟩ := clearA_sound (type := type) g hargs hr
      exact bt .clear v H1 rfl ⟨ρ, v', w', g', ext, hv, _, fun _ => rfl, hrun⟩
    | len =>
      simp only at h
      split at h
      · rename_i r ha0
        split at h
        · rename_i kt et ht
          obtain ⟨t, ht0, ht1⟩ := Option.bind_eq_some_iff.1 ht
          obtain ⟨x', hx', hr⟩ := hargs.at (i := 0) ha0
          cases hr with
          | map _ m hm =>
            cases ho : H.get r with
            | none => simp [ho] at h
            | some o =>
              cases o with
              | map es clock =>
                simp only [ho, Option.some.injEq, Prod.mk.injEq] at h
                obtain ⟨rfl, rfl⟩ := h
                obtain ⟨es', hb, her⟩ := g.obj r m _ hm ho
                have hget : (getObj m.b).run P w = .ok (.map es' clock) w := by simp [getObj, Sem.run, hb]
                have hlen : es.length = es'.size := by
                  have : ∀ {a b : List MapEntry}, ER ρ a b → a.length = b.length := by
                    intro a b h
                    induction h with
                    | nil => rfl
                    | cons _ _ _ _ _ ih => simp [ih]
                  simpa using this her
                refine bt .len _ H rfl ⟨ρ, .int .i64 es.length, w, g, .refl _ _, .int _ _, Builtin.len_ argTypes type (cargs.map env'), fun _ => rfl, ?_⟩
                unfold Builtin.len_
                have ht0' : (argTypes[0]? : Option TypeId) = some t := ht0
                simp only [ht0', hx', Sem.run_bind, und_run ht1, Result.andThen_ok, hget]
                rw [hlen]
                rfl
              | _ => simp [ho] at h
        · cases h
      · cases h
      · rename_i n1 n2
        exact btp .len _ _ rfl (len_PR hargs (fun r e => n2 r e)) (fun _ => rfl) h
    | cap =>
      simp only at h
      split at h
      · rename_i i k ln cp ha0
        split at h
        · rename_i et ht
          obtain ⟨t, ht0, ht1⟩ := Option.bind_eq_some_iff.1 ht
          obtain ⟨x', hx', hr⟩ := hargs.at (i := 0) ha0
          split at h
          · cases h
          · rename_i hop
            simp only [Option.some.injEq, Prod.mk.injEq] at h
            obtain ⟨rfl, rfl⟩ := h
            obtain ⟨m, hm, off, capC, rfl, hcap, hx1, hx2⟩ := slice_inv hr
            obtain ⟨_, rfl⟩ := hx1 (isOpen_of g hm k cp (by simpa using hop))
            refine bt .cap _ H rfl ⟨ρ, .int .i64 capC, w, g, .refl _ _, .int _ _, Builtin.cap_ argTypes type (cargs.map env'), fun _ => rfl, ?_⟩
            unfold Builtin.cap_
            have ht0' : (argTypes[0]? : Option TypeId) = some t := ht0
            simp only [ht0', hx', Sem.run_bind, und_run ht1, Result.andThen_ok]
            rfl
        · cases h
      · cases h
      · rename_i n1 n2
        exact btp .cap _ _ rfl (cap_PR hargs (fun r e => n2 r e) (fun i k len cap e => n1 i k len cap e)) (fun _ => rfl) h
    | min =>
      simp only at h
      split at h
      · rename_i hp
        have he := args_plain hargs hp
        rw [← he] at h
        exact btq .min _ rfl (fun _ => rfl) h
      · cases h
    | max =>
      simp only at h
      split at h
      · rename_i hp
        have he := args_plain hargs hp
        rw [← he] at h
        exact btq .max _ rfl (fun _ => rfl) h
      · cases h
    | complex =>
      simp only at h
      split at h
      · rename_i hp
        have he := args_plain hargs hp
        rw [← he] at h
        exact btq .complex _ rfl (fun _ => rfl) h
      · cases h
    | real =>
      simp only at h
      split at h
      · rename_i hp
        have he := args_plain hargs hp
        rw [← he] at h
        exact btq .real _ rfl (fun _ => rfl) h
      · cases h
    | imag =>
      simp only at h
      split at h
      · rename_i hp
        have he := args_plain hargs hp
        rw [← he] at h
        exact btq .imag _ rfl (fun _ => rfl) h
      · cases h
    | _ => simp at h
  | value f =>
    have hf := hc f (by simp [Call.operands])
    obtain ⟨fv, hfv⟩ : ∃ fv, env' f = fv := ⟨_, rfl⟩
    rw [hfv] at hf
    simp only at h
    split at h
    · rename_i fn first captured ef
      rw [ef] at hf
      cases hf with
      | func _ _ _ first' captured' ha hb ra rb =>
        have hfirst := LR.of_arr ha ra
        have hcapt := LR.of_arr hb rb
        split at h
        · rename_i fnc hfn
          split at h
          · rename_i hbn
            split at h
            · rename_i hcond
              simp only [Bool.and_eq_true] at hcond
              obtain ⟨⟨hp, h1⟩, h2⟩ := hcond
              have he := args_plain hargs hp
              have e1 : first' = #[] := by
                have : first = #[] := by simpa using h1
                rw [this] at ha
                exact Array.eq_empty_of_size_eq_zero ha.symm
              have e2 : captured' = #[] := by
                have : captured = #[] := by simpa using h2
                rw [this] at hb
                exact Array.eq_empty_of_size_eq_zero hb.symm
              split at h
              · rename_i v hv
                split at h
                · rename_i hpv
                  simp only [Option.some.injEq, Prod.mk.injEq] at h
                  obtain ⟨rfl, rfl⟩ := h
                  obtain ⟨y, rfl, hrun⟩ := (PR.refl (P := P) (callFunc fn (cargs.map env))).sound hv
                  refine .val g (plain_refl ρ 8 _ hpv) ?_
                  simp only [resolve, hfv, Deferred.ofValue, Sem.run_bind, Sem.run_pure, Result.andThen_ok, invoke, e1, e2, Array.empty_append, Array.append_empty, he]
                  exact hrun w
                · cases h
              · cases h
            · cases h
          · rename_i hbn
            split at h
            · cases h
            · rename_i hnm
              simp only [Option.some.injEq, Prod.mk.injEq] at h
              obtain ⟨rfl, rfl⟩ := h
              refine ⟨ρ, .enter fn (first' ++ cargs.map env' ++ captured'), w, g, .refl _ _, .enter ?_, ?_⟩
              · simp only [Array.toList_append]
                exact (hfirst.append hargs).append hcapt
              · simp only [resolve, hfv, Deferred.ofValue, Sem.run_bind, Sem.run_pure, Result.andThen_ok, invoke]
                show Sem.run P (callFunc fn _) w = _
                unfold callFunc
                have hprog : ∀ K : Program → Sem Next, Sem.run P (program >>= K) w = Sem.run P (K P) w := fun K => rfl
                rw [hprog, hfn]
                simp only [hnm, Bool.false_eq_true, if_false, hbn]
                rfl
        · cases h
    · rename_i l first cap ef
      rw [ef] at hf
      split at h
      · rename_i r hr
        split at h
        · rename_i hcond
          simp only [Bool.and_eq_true, beq_iff_eq] at hcond
          obtain ⟨⟨h1, h2⟩, h3⟩ := hcond
          simp only [Option.some.injEq, Prod.mk.injEq] at h
          obtain ⟨rfl, rfl⟩ := h
          cases hf with
          | yield _ m hm =>
            obtain ⟨L, hL, hLR⟩ := g.obj l m _ hm hr
            refine ⟨ρ, _, w, g, .refl _ _, .round hm hL hargs, ?_⟩
            have hget : (getObj m.b).run P w = .ok (.loop L) w := by simp [getObj, Sem.run, hL]
            simp only [resolve, hfv, Deferred.ofValue, Sem.run_bind, Sem.run_pure, Result.andThen_ok, invoke, Instr.yield, Instr.getLoop, hget, Array.empty_append]
            have hsz := hargs.size
            rw [if_neg (by rw [← hsz, h3, hLR.params]; simp)]
            rfl
        · cases h
      · cases h
    · cases h

end Go.Abs

/- Operations that change nothing: the evaluator is sound. -/
namespace Go.Abs
open Go.RowKit
variable {P : Program} {ρ : Ren} {w0 : Start P} {w : World} {H : Heap}

theorem plainRun_run {e : Sem Value} {v : Value} (h : plainRun P e = some v) (ρ : Ren) (w : World) : VR ρ v v ∧ e.run P w = .ok v w := by
  unfold plainRun at h
  obtain ⟨x, hx, h⟩ := Option.bind_eq_some_iff.1 h
  split at h
  · rename_i hp
    simp only [Option.some.injEq] at h
    subst h
    obtain ⟨y, rfl, hrun⟩ := (PR.refl (P := P) e).sound hx
    exact ⟨plain_refl ρ 8 _ hp, hrun w⟩
  · cases h

def gOk : Value → Value → Bool
  | .nilIface, .nilIface => false
  | .agg _, .agg _ => false
  | _, _ => true
theorem equalIn_nil (n : Nat) {t : TypeId} {a a' b b' : Value} {d : TypeDesc} (hu : P.underlying t = some d) (ha : VR ρ a a') (hb : VR ρ b b') (h : nilCmp d a b = true) (w : World) :
    (Op.equalIn (n + 1) t a' b').run P w = .ok false w ∧ (binOp .eql t a' b' = (do pure (.bool (← Op.equal t a' b')))) ∧ (binOp .neq t a' b' = (do pure (.bool (!(← Op.equal t a' b'))))) ∧
      gOk a' b' = true := by
  unfold nilCmp at h
  split at h
  · cases hb
    cases ha <;> exact ⟨by unfold Op.equalIn; simp only [Sem.run_bind, und_run hu, Result.andThen_ok]; rfl, rfl, rfl, rfl⟩
  · cases hb
    cases ha <;> exact ⟨by unfold Op.equalIn; simp only [Sem.run_bind, und_run hu, Result.andThen_ok]; rfl, rfl, rfl, rfl⟩
  · cases hb
    cases ha <;> exact ⟨by unfold Op.equalIn; simp only [Sem.run_bind, und_run hu, Result.andThen_ok]; rfl, rfl, rfl, rfl⟩
  · cases hb
    cases ha <;> exact ⟨by unfold Op.equalIn; simp only [Sem.run_bind, und_run hu, Result.andThen_ok]; rfl, rfl, rfl, rfl⟩
  · cases h

theorem eqGuard_run {op : BinOp} {t : TypeId} {x y : Operand} {a b : Value} (h : gOk a b = true) (w : World) : (eqGuard op t x y a b).run P w = .ok () w := by
  unfold eqGuard
  cases op <;> simp only [Bool.not_true, Bool.not_false, Bool.false_eq_true, if_false, if_true] <;> first
    | rfl
    | (split <;> first | rfl | (simp [gOk] at h))

theorem partA_run {t : TypeId} {xs : Array Value} {off : Nat} {v : Value} (h : partA P t xs off = some v) (w : World) : (part t xs off).run P w = .ok v w := by
  unfold partA at h
  unfold part
  split at h
  · rename_i ha
    obtain ⟨n, hn, rfl⟩ := Option.map_eq_some_iff.1 h
    simp only [Sem.run_bind, isAgg_run ha w, Result.andThen_ok, if_true, size_run hn]
    rfl
  · rename_i ha
    simp only [Sem.run_bind, isAgg_run ha w, Result.andThen_ok, Bool.false_eq_true, if_false, h]
    rfl
  · cases h
theorem eqAtA_run : ∀ (n : Nat) (d : Nat) {t : TypeId} {x y : Value} {r : Bool}, eqAtA P n t x y = some r → ∀ w, (Op.equalIn (d + n) t x y).run P w = .ok r w
  | 0, _, _, _, _, _, h, _ => by cases h
  | n + 1, d, t, x, y, r, h, w => by
    unfold eqAtA at h
    split at h
    · rename_i q k a k' b hu
      split at h
      · rename_i hk
        subst hk
        simp only [Option.some.injEq] at h
        subst h
        exact run_equalIn_int w _ t k q a b hu
      · cases h
    · rename_i a b hu
      simp only [Option.some.injEq] at h
      subst h
      exact run_equalIn_bool w _ t a b hu
    · rename_i a b hu
      simp only [Option.some.injEq] at h
      subst h
      rw [beq_toListBytes]
      exact run_equalIn_string w _ t a b hu
    · rename_i fs xs ys hu
      split at h
      · cases h
      · rename_i hs
        have hfo : P.fieldsOf t = fs := by simp [Program.fieldsOf, hu]
        have key : ∀ (l : List Field) (r : Bool), eqFieldsA P (eqAtA P n) xs ys l = some r → (Op.eqFields (d + n) xs ys l).run P w = .ok r w := by
          intro l
          induction l with
          | nil => intro r h; simp only [eqFieldsA, Option.some.injEq] at h; subst h; rfl
          | cons f l ih =>
            intro r h
            simp only [eqFieldsA] at h
            split at h
            · cases h
            · rename_i hn
              split at h
              · rename_i a b ha hb
                split at h
                · rename_i r1 s1 h1 h2
                  simp only [Option.some.injEq] at h
                  subst h
                  have e1 := eqAtA_run n d h1 w
                  simp only [Op.eqFields, ne_eq, hn, not_false_eq_true, if_true, Sem.run_bind, partA_run ha w, partA_run hb w, e1, Result.andThen_ok]
                  cases r1
                  · rfl
                  · simpa using ih _ h2
                · cases h
              · cases h
        have := run_equalIn_struct (P := P) w (d + n) t xs ys (by rw [hfo]; exact hu) (by simpa using hs)
        rw [show d + (n + 1) = (d + n) + 1 from rfl, this, hfo]
        exact key _ _ h
    · rename_i len e xs ys hu
      split at h
      · rename_i i hi
        have key : ∀ (l : List Nat) (r : Bool), eqItemsA P (eqAtA P n) e (P.cellsOf e) xs ys l = some r → (Op.eqItems (d + n) e (P.cellsOf e) xs ys l).run P w = .ok r w := by
          intro l
          induction l with
          | nil => intro r h; simp only [eqItemsA, Option.some.injEq] at h; subst h; rfl
          | cons j l ih =>
            intro r h
            simp only [eqItemsA] at h
            split at h
            · rename_i a b ha hb
              split at h
              · rename_i r1 s1 h1 h2
                simp only [Option.some.injEq] at h
                subst h
                have e1 := eqAtA_run n d h1 w
                simp only [Op.eqItems, Sem.run_bind, partA_run ha w, partA_run hb w, e1, Result.andThen_ok]
                cases r1
                · rfl
                · simpa using ih _ h2
              · cases h
            · cases h
        rw [show d + (n + 1) = (d + n) + 1 from rfl, run_equalIn_array w (d + n) xs ys hu hi]
        exact key _ _ h
      · cases h
    · cases h
theorem eqGuard_type {op : BinOp} {t : TypeId} {x y : Operand} {xs ys : Array Value} (h : P.eqGuardType P.depth t = false) (w : World) : (eqGuard op t x y (.agg xs) (.agg ys)).run P w = .ok () w := by
  unfold eqGuard
  cases op <;> first
    | rfl
    | (simp only [Bool.not_true, Bool.false_eq_true, if_false, Sem.run_bind, run_program, Result.andThen_ok, h, Bool.not_false, if_true]; rfl)

theorem binA_sound {op : BinOp} {t : TypeId} {x y : Operand} {a a' b b' v : Value} (ha : VR ρ a a') (hb : VR ρ b b') (h : binA P op t x y a b = some v) (w : World) :
    VR ρ v v ∧ (do eqGuard op t x y a' b'; binOp op t a' b').run P w = .ok v w := by
  unfold binA at h
  split at h
  · rename_i neg xs ys hneg
    split at h
    · rename_i hp
      simp only [Bool.and_eq_true, Bool.not_eq_true'] at hp
      obtain ⟨r, hr, rfl⟩ := Option.map_eq_some_iff.1 h
      rw [plain_eq 8 _ _ hp.1.1 ha, plain_eq 8 _ _ hp.1.2 hb]
      have h1 : (Op.equal t (.agg xs) (.agg ys)).run P w = .ok r w := eqAtA_run 8 9992 hr w
      refine ⟨.bool _, ?_⟩
      have hop : (op = .eql ∧ neg = false) ∨ (op = .neq ∧ neg = true) := by
        cases op <;> simp [isNeq] at hneg <;> first | exact .inl ⟨rfl, hneg.symm ▸ rfl⟩ | exact .inr ⟨rfl, hneg.symm ▸ rfl⟩ | exact .inl ⟨rfl, hneg⟩ | exact .inr ⟨rfl, hneg⟩
      rcases hop with ⟨rfl, rfl⟩ | ⟨rfl, rfl⟩
      · simp only [Sem.run_bind, eqGuard_type hp.2, Result.andThen_ok, binOp, h1]
        rfl
      · simp only [Sem.run_bind, eqGuard_type hp.2, Result.andThen_ok, binOp, h1]
        rfl
    · cases h
  split at h
  · rename_i hp
    simp only [Bool.and_eq_true] at hp
    rw [plain_eq 8 _ _ hp.1 ha, plain_eq 8 _ _ hp.2 hb]
    exact plainRun_run h ρ w
  · obtain ⟨r, hr, h⟩ := Option.bind_eq_some_iff.1 h
    have hop : (op = .eql ∧ r = false) ∨ (op = .neq ∧ r = true) := by
      cases op <;> simp [isNeq] at hr <;> first | exact .inl ⟨rfl, hr.symm ▸ rfl⟩ | exact .inr ⟨rfl, hr.symm ▸ rfl⟩ | exact .inl ⟨rfl, hr⟩ | exact .inr ⟨rfl, hr⟩
    obtain ⟨d, hu, h⟩ := Option.bind_eq_some_iff.1 h
    split at h
    · rename_i hn
      simp only [Option.some.injEq] at h
      subst h
      obtain ⟨h1, h3, h4, h5⟩ := equalIn_nil (P := P) 9999 hu ha hb hn w
      have h1' : (Op.equal t a' b').run P w = .ok false w := h1
      refine ⟨.bool _, ?_⟩
      simp only [Sem.run_bind, eqGuard_run h5, Result.andThen_ok]
      rcases hop with ⟨rfl, rfl⟩ | ⟨rfl, rfl⟩
      · rw [h3]; simp only [Sem.run_bind, h1', Result.andThen_ok]; rfl
      · rw [h4]; simp only [Sem.run_bind, h1', Result.andThen_ok]; rfl
    · cases h

theorem bytesA_spec : ∀ {l l' : List Value}, LR ρ l l' → ∀ {bs : List Int}, bytesA l = some bs → l' = bs.map (Value.int .u8)
  | _, _, .nil, bs, h => by simp only [bytesA, Option.some.injEq] at h; subst h; rfl
  | _, _, .cons (v := v) hv ht, bs, h => by
    simp only [bytesA, Option.bind_eq_bind] at h
    obtain ⟨b, hb, h⟩ := Option.bind_eq_some_iff.1 h
    obtain ⟨bs', hbs, h⟩ := Option.bind_eq_some_iff.1 h
    simp only [Option.some.injEq] at h
    subst h
    have h1 := bytesA_spec ht hbs
    unfold byteA at hb
    split at hb
    · simp only [Option.some.injEq] at hb
      subst hb
      cases hv
      rw [h1]
      rfl
    · cases hb

theorem convA_sound (g : Gam w0 ρ H w) {src dst : TypeId} {a a' v : Value} (ha : VR ρ a a') (h : convA P H src dst a = some v) : VR ρ v v ∧ (convert src dst a').run P w = .ok v w := by
  unfold convA at h
  split at h
  · rename_i i off len cap
    split at h
    · rename_i e hs hd
      split at h
      · rename_i he
        obtain ⟨cs, hcs, h⟩ := Option.bind_eq_some_iff.1 h
        obtain ⟨bs, hbs, h⟩ := Option.bind_eq_some_iff.1 h
        simp only [Option.some.injEq] at h
        subst h
        refine ⟨.string _, ?_⟩
        have hcs' : firstA H 1 len (.slice (some ⟨i, off, none⟩) len cap) = some cs := by simpa [firstA] using hcs
        obtain ⟨cs', hlr, hrun⟩ := firstA_run (P := P) g ha hcs'
        obtain ⟨m, hm, offC, capC, rfl, hcap, hx1, hx2⟩ := slice_inv ha
        rw [run_convert_bytes_string w src dst e (some ⟨m.b, offC, none⟩) len capC hs he hd]
        have hl : (loadCells ⟨m.b, offC, none⟩ len).run P w = .ok (bs.map (Value.int .u8)).toArray w := by
          have := hrun
          simp only [Builtin.firstCells, Nat.mul_one] at this
          rw [this, bytesA_spec hlr hbs]
        exact run_bytesToString w ⟨m.b, offC, none⟩ len capC bs hl
      · cases h
    · cases h
  · split at h
    · rename_i hp
      rw [plain_eq 8 _ _ hp ha]
      exact plainRun_run h ρ w
    · cases h

theorem parts_arr {env env' : Operand → Value} {parts : Array (Nat × Operand)} (h : ∀ p ∈ parts.toList, VR ρ (env p.2) (env' p.2)) (hk : (parts.map fun (p : Nat × Operand) => (p.1, env p.2)).all (fun p => known p.2) = true) :
    PartsR ρ (parts.map fun (p : Nat × Operand) => (p.1, env p.2)).toList (parts.map fun (p : Nat × Operand) => (p.1, env' p.2)).toList := by
  rw [Array.toList_map, Array.toList_map]
  refine parts_R _ h ?_
  rw [Array.all_map] at hk
  simpa using hk

theorem buildA_sound {t : TypeId} {parts parts' : Array (Nat × Value)} {v : Value} (hp : (parts.all fun p => known p.2) = true → PartsR ρ parts.toList parts'.toList) (h : buildA P t parts = some v) (w : World) :
    ∃ v', VR ρ v v' ∧ (Instr.build t parts').run P w = .ok v' w := by
  unfold buildA at h
  split at h
  · rename_i z hz
    split at h
    · rename_i hc
      simp only [Bool.and_eq_true] at hc
      obtain ⟨v', hv, hrun⟩ := (build_PR (P := P) (hp hc.2) hz hc.1).sound h
      exact ⟨v', hv, hrun w⟩
    · cases h
  · cases h

theorem nilA_sound {a a' v : Value} (ha : VR ρ a a') (h : nilA a = some v) (w : World) (o : Oper) (env' : Operand → Value) (x : Operand) (ho : o.op = .nilCheck x) (hx : env' x = a') :
    VR ρ v a' ∧ (execOp env' o).run P w = .ok (.value a') w := by
  have hv : v = a := by
    unfold nilA at h
    split at h <;> first | (simp only [Option.some.injEq] at h; exact h.symm) | cases h
  subst hv
  refine ⟨ha, ?_⟩
  unfold nilA at h
  cases ha <;> first
    | (simp only [execOp, ho, hx]; rfl)
    | simp at h

theorem opt_R {env env' : Operand → Value} {o : Option Operand} (h : ∀ y ∈ o.toArray, VR ρ (env y) (env' y)) : OptR ρ (o.map env) (o.map env') := by
  cases o with
  | none => exact .none
  | some y => exact .some (h y (by simp))

/-- An operation that changes nothing. -/
theorem arrPtrA_sound {t : TypeId} {x x' v : Value} (hx : VR ρ x x') (h : arrPtrA P t x = some v) : ∃ v', VR ρ v v' ∧ (Instr.arrayAt t x').run P w = .ok v' w := by
  unfold arrPtrA at h
  split at h
  · rename_i n e i k len cap hu
    split at h
    · rename_i hn
      obtain rfl := Option.some.inj h
      have run : ∀ (a : Option Addr) (c : Nat), (Instr.arrayAt t (.slice a len c)).run P w = .ok (.pointer a) w := by
        intro a c
        have h1 : pureRun P (Instr.arrayAt t (.slice a len c)) = some (.pointer a) := by
          unfold Instr.arrayAt
          show pureRun P (Sem.bind (underlying t) _) = _
          rw [pureRun_bind]
          have : pureRun P (underlying t) = some (.array (n + 1) e) := by
            have h2 : pureRun P (underlying t) = pureRun P (match P.underlying t with | some d => pure d | none => stuck "no such type") := rfl
            rw [h2, hu]; rfl
          rw [this]
          show pureRun P (if len < n + 1 then _ else _) = _
          rw [if_neg (by omega)]
          rfl
        obtain ⟨b, hb, hr⟩ := (PR.refl (Instr.arrayAt t (.slice a len c))).sound h1
        rw [hb]; exact hr w
      cases hx with
      | slice _ _ _ _ m hm ho hl => exact ⟨_, .ptr _ _ m hm, run _ _⟩
      | opened _ _ _ _ capC m hm ho hc hs hl => exact ⟨_, .ptr _ _ m hm, run _ _⟩
      | empty _ _ _ m hm ho hz => omega
    · cases h
  · cases h
theorem valA_sound (g : Gam w0 ρ H w) {env env' : Operand → Value} {o : Oper} {v : Value} (henv : ∀ y ∈ o.op.operands, VR ρ (env y) (env' y)) (h : valA P H env o = some v) :
    ∃ v', VR ρ v v' ∧ (execOp env' o).run P w = .ok (.value v') w := by
  have lift : ∀ {e : Sem Value} {v' : Value}, (execOp env' o = do pure (.value (← e))) → e.run P w = .ok v' w → (execOp env' o).run P w = .ok (.value v') w := by
    intro e v' he hr
    rw [he]
    simp only [Sem.run_bind, hr, Result.andThen_ok]
    rfl
  have pr : ∀ {e e' : Sem Value}, PR P (VR ρ) e e' → pureRun P e = some v → (execOp env' o = do pure (.value (← e'))) → ∃ v', VR ρ v v' ∧ (execOp env' o).run P w = .ok (.value v') w := by
    intro e e' hpr hp he
    obtain ⟨v', hv, hrun⟩ := hpr.sound hp
    exact ⟨v', hv, lift he (hrun w)⟩
  unfold valA at h
  cases hop : o.op with
  | move x =>
    simp only [hop, Option.some.injEq] at h
    subst h
    exact ⟨_, henv x (by simp [hop, Op.operands]), by simp only [execOp, hop]; rfl⟩
  | assign x =>
    simp only [hop, Option.some.injEq] at h
    subst h
    exact ⟨_, henv x (by simp [hop, Op.operands]), by simp only [execOp, hop]; rfl⟩
  | pick c a b =>
    simp only [hop] at h
    have hc := henv c (by simp [hop, Op.operands])
    have ha := henv a (by simp [hop, Op.operands])
    have hb := henv b (by simp [hop, Op.operands])
    split at h
    · rename_i t et
      rw [et] at hc
      simp only [Option.some.injEq] at h
      subst h
      refine ⟨if t = true then env' a else env' b, by split <;> assumption, ?_⟩
      simp only [execOp, hop, hc.bool_inv, asBool, Sem.run_bind, Sem.run_pure, Result.andThen_ok]
    · cases h
  | build t parts =>
    simp only [hop] at h
    obtain ⟨v', hv, hrun⟩ := buildA_sound (P := P) (ρ := ρ) (parts' := parts.map fun (p : Nat × Operand) => (p.1, env' p.2)) (fun hk => parts_arr (fun p hp => henv p.2 (by
      simp only [hop, Op.operands, List.mem_toArray, List.mem_map]
      exact ⟨p, hp, rfl⟩)) hk) h w
    exact ⟨v', hv, lift (by simp only [execOp, hop]) hrun⟩
  | load t a =>
    simp only [hop] at h
    obtain ⟨v', hv, hrun⟩ := loadA_sound (P := P) g (henv a (by simp [hop, Op.operands])) h
    exact ⟨v', hv, lift (by simp only [execOp, hop]) hrun⟩
  | nilCheck x =>
    simp only [hop] at h
    obtain ⟨h1, h2⟩ := nilA_sound (P := P) (henv x (by simp [hop, Op.operands])) h w o env' x hop rfl
    exact ⟨_, h1, h2⟩
  | binOp op t x y yt =>
    simp only [hop] at h
    obtain ⟨h1, h2⟩ := binA_sound (P := P) (henv x (by simp [hop, Op.operands])) (henv y (by simp [hop, Op.operands])) h w
    exact ⟨v, h1, lift (by simp only [execOp, hop]) h2⟩
  | unOp op t x =>
    simp only [hop] at h
    split at h
    · rename_i hp
      obtain ⟨h1, h2⟩ := plainRun_run h ρ w
      rw [← plain_eq 8 _ _ hp (henv x (by simp [hop, Op.operands]))] at h2
      exact ⟨v, h1, lift (by simp only [execOp, hop]) h2⟩
    · cases h
  | convert src dst x =>
    simp only [hop] at h
    obtain ⟨h1, h2⟩ := convA_sound (P := P) g (henv x (by simp [hop, Op.operands])) h
    exact ⟨v, h1, lift (by simp only [execOp, hop]) h2⟩
  | makeFunc fn first captured =>
    cases fn with
    | func f =>
      simp only [hop, Option.some.injEq] at h
      subst h
      refine ⟨_, VR.func' (maps_LR (env' := env') fun y hy => henv y (by simp [hop, Op.operands, hy])) (maps_LR (env' := env') fun y hy => henv y (by simp [hop, Op.operands, hy])), ?_⟩
      simp only [execOp, hop, Instr.makeFunc]
      rfl
    | _ => simp [hop] at h
  | slice t x lo hi mx =>
    simp only [hop] at h
    obtain ⟨v', hv, hrun⟩ := sliceA_sound (P := P) g (henv x (by simp [hop, Op.operands])) (opt_R (env' := env') fun y hy => henv y (by simp only [hop, Op.operands]; simp [hy]))
      (opt_R (env' := env') fun y hy => henv y (by simp only [hop, Op.operands]; simp [hy])) (opt_R (env' := env') fun y hy => henv y (by simp only [hop, Op.operands]; simp [hy])) h
    exact ⟨v', hv, lift (by simp only [execOp, hop]) hrun⟩
  | fieldAddr s x f =>
    simp only [hop] at h
    exact pr (fieldAt_PR (henv x (by simp [hop, Op.operands])) f) h (by simp only [execOp, hop])
  | field t x f =>
    simp only [hop] at h
    exact pr (field_PR (henv x (by simp [hop, Op.operands])) f) h (by simp only [execOp, hop])
  | indexAddr t x ix =>
    simp only [hop] at h
    exact pr (indexAt_PR (henv x (by simp [hop, Op.operands])) (henv ix (by simp [hop, Op.operands]))) h (by simp only [execOp, hop])
  | index t x ix =>
    simp only [hop] at h
    exact pr (index_PR (henv x (by simp [hop, Op.operands])) (henv ix (by simp [hop, Op.operands]))) h (by simp only [execOp, hop])
  | lookup t x ix ok =>
    simp only [hop] at h
    obtain ⟨v', hv, hrun⟩ := lookupA_sound (P := P) g (henv x (by simp [hop, Op.operands])) (henv ix (by simp [hop, Op.operands])) h
    exact ⟨v', hv, lift (by simp only [execOp, hop]) hrun⟩
  | extract t ix =>
    simp only [hop] at h
    exact pr (extract_PR (henv t (by simp [hop, Op.operands])) ix) h (by simp only [execOp, hop])
  | sliceToArrayPointer t x =>
    simp only [hop] at h
    obtain ⟨v', hv, hrun⟩ := arrPtrA_sound (P := P) (w := w) (henv x (by simp [hop, Op.operands])) h
    exact ⟨v', hv, lift (by simp only [execOp, hop]) hrun⟩
  | _ => simp [hop] at h

/-- **One operation.** -/
theorem opA_sound (g : Gam w0 ρ H w) {env env' : Operand → Value} {o : Oper} {nx : ANext} {H' : Heap} (henv : ∀ y ∈ o.op.operands, VR ρ (env y) (env' y)) (h : opA P H env o = some (nx, H')) :
    OpS P w0 ρ H w nx H' (execOp env' o) := by
  have viaVal : ((valA P H env o).bind fun x => some (ANext.value x, H)) = some (nx, H') → OpS P w0 ρ H w nx H' (execOp env' o) := by
    intro h
    obtain ⟨x, hx, h⟩ := Option.bind_eq_some_iff.1 h
    simp only [Option.some.injEq, Prod.mk.injEq] at h
    obtain ⟨rfl, rfl⟩ := h
    obtain ⟨v', hv, hrun⟩ := valA_sound g henv hx
    exact .val g hv hrun
  have viaAlloc : ((allocOf P env o).bind fun (k, x) => some (ANext.value (k.val H.next), H.new x)) = some (nx, H') → OpS P w0 ρ H w nx H' (execOp env' o) := by
    intro h
    obtain ⟨⟨k, x⟩, hx, h⟩ := Option.bind_eq_some_iff.1 h
    simp only [Option.some.injEq, Prod.mk.injEq] at h
    obtain ⟨rfl, rfl⟩ := h
    obtain ⟨obj, m, hb, hrun, hobj, hval⟩ := (allocOf_sound (P := P) henv hx w).run
    obtain ⟨g', ext⟩ := g.new x obj m hb (hobj _ (g.le_put m))
    exact ⟨_, _, _, g', ext, .value (hval _ _ (by simp [Ren.put])), hrun⟩
  unfold opA at h
  cases hop : o.op with
  | alloc _ => simp only [hop] at h; exact viaAlloc h
  | box _ _ => simp only [hop] at h; exact viaAlloc h
  | buildSlice _ _ _ => simp only [hop] at h; exact viaAlloc h
  | makeMap _ _ => simp only [hop] at h; exact viaAlloc h
  | makeSlice _ _ _ => simp only [hop] at h; exact viaAlloc h
  | store t a x =>
    simp only [hop] at h
    obtain ⟨H1, h1, h⟩ := Option.bind_eq_some_iff.1 h
    simp only [Option.some.injEq, Prod.mk.injEq] at h
    obtain ⟨rfl, rfl⟩ := h
    obtain ⟨w', g', ext, hrun⟩ := storeA_sound (P := P) g (henv a (by simp [hop, Op.operands])) (henv x (by simp [hop, Op.operands])) h1
    refine ⟨ρ, .skip, w', g', ext, .skip, ?_⟩
    simp only [execOp, hop, Sem.run_bind, hrun, Result.andThen_ok]
    rfl
  | mapUpdate t m k x =>
    simp only [hop] at h
    obtain ⟨H1, h1, h⟩ := Option.bind_eq_some_iff.1 h
    simp only [Option.some.injEq, Prod.mk.injEq] at h
    obtain ⟨rfl, rfl⟩ := h
    obtain ⟨w', g', ext, hrun⟩ := updateA_sound (P := P) g (henv m (by simp [hop, Op.operands])) (henv k (by simp [hop, Op.operands])) (henv x (by simp [hop, Op.operands])) h1
    refine ⟨ρ, .skip, w', g', ext, .skip, ?_⟩
    simp only [execOp, hop, Sem.run_bind, hrun, Result.andThen_ok]
    rfl
  | insert t m k x =>
    simp only [hop] at h
    obtain ⟨H1, h1, h⟩ := Option.bind_eq_some_iff.1 h
    simp only [Option.some.injEq, Prod.mk.injEq] at h
    obtain ⟨rfl, rfl⟩ := h
    obtain ⟨w', g', ext, hrun⟩ := updateA_sound (P := P) g (henv m (by simp [hop, Op.operands])) (henv k (by simp [hop, Op.operands])) (henv x (by simp [hop, Op.operands])) h1
    refine ⟨ρ, .skip, w', g', ext, .skip, ?_⟩
    simp only [execOp, hop, Sem.run_bind, hrun, Result.andThen_ok]
    rfl
  | call c =>
    simp only [hop] at h
    have := callA_sound (type := o.type) g (env' := env') (fun y hy => henv y (by simp only [hop, Op.operands]; exact hy)) h
    have he : execOp env' o = (do let d ← resolve env' c o.type; invoke d.target d.args) := by simp only [execOp, hop]
    rw [he]
    exact this
  | _ => simp only [hop] at h; exact viaVal h

end Go.Abs

/- Operations carried out one after the other; calls; rounds: the evaluator is sound. -/
namespace Go.Abs
open Go.RowKit
variable {P : Program} {ρ : Ren} {w0 : Start P} {w : World} {H : Heap}

theorem ActR.put1 {A : AAct} {a : Act} (r : ActR ρ A a) (d : Tmp) {v v' : Value} (h : VR ρ v v') : ActR ρ (A.put1 d v) { a with tmps := a.tmps.setIfInBounds d v' } := by
  unfold AAct.put1
  split
  · rename_i hd
    refine ⟨by simpa using r.size, ?_, r.defers⟩
    intro t
    have hs : ∀ t, (({ A with tmps := A.tmps.set (d + 1) d v } : AAct).slot t) = if t = d then v else A.slot t := by
      intro t
      unfold AAct.slot
      rw [Tree.get_set _ _ _ _ _ (by omega)]
      split <;> rfl
    rw [hs]
    by_cases e : t = d
    · subst e
      have : (a.tmps.setIfInBounds t v').getD t undef = v' := by
        simp [Array.getD_eq_getD_getElem?, r.size, hd]
      rw [if_pos rfl, this]
      exact h
    · have : (a.tmps.setIfInBounds d v').getD t undef = a.tmps.getD t undef := by
        simp only [Array.getD_eq_getD_getElem?, Array.getElem?_setIfInBounds]
        rw [if_neg (fun x => e x.symm)]
      rw [if_neg e, this]
      exact r.slot t
  · rename_i hd
    have : a.tmps.setIfInBounds d v' = a.tmps := by
      apply Array.ext_getElem?
      intro i
      simp only [Array.getElem?_setIfInBounds]
      split
      · rename_i e
        subst e
        rw [if_neg (by rw [r.size]; exact hd)]
        exact (Array.getElem?_eq_none (Nat.le_of_not_lt (by rw [r.size]; exact hd))).symm
      · rfl
    rw [this]
    exact r
theorem ActR.put {A : AAct} {a : Act} (r : ActR ρ A a) (d : Option Tmp) {v v' : Value} (h : VR ρ v v') : ActR ρ (A.put d v) (a.put d v') := by
  cases d with
  | none => exact r
  | some d => exact r.put1 d h
theorem ActR.eval {A : AAct} {a : Act} (r : ActR ρ A a) (y : Operand) : VR ρ (A.eval y) (a.eval y) := by
  cases y with
  | tmp t => exact r.slot t
  | const v =>
    simp only [AAct.eval, Act.eval]
    split
    · rename_i h; exact plain_refl ρ 8 v h
    · exact .unknown _ _
  | global g =>
    simp only [AAct.eval, Act.eval]
    split
    · rename_i h; exact .glob g 0 h
    · exact .unknown _ _
  | func f => exact VR.func' .nil .nil

theorem wanted_L {A : AAct} {a : Act} {ops : Array Oper} {o : Oper} {b : Bool} (r : ∀ t, t ∈ looks ops o → VR ρ (A.slot t) (a.tmps.getD t undef)) (h : wantedA ops A o = some b) : Region.wanted o (yielded ops a.tmps) = b := by
  unfold wantedA at h
  unfold Region.wanted
  split at h
  · rename_i hg
    simp only [Option.some.injEq] at h
    rw [hg, ← h]
  · rename_i j want hg
    rw [hg]
    simp only
    unfold yielded
    cases hd : (ops[j]?).bind (·.dst) with
    | none =>
      simp only [hd, Option.some.injEq] at h
      rw [← h]
      simp
    | some d =>
      simp only [hd] at h
      have hs := r d (List.mem_append_right _ (by simp [hg, hd]))
      simp only [Option.bind_some]
      have hget : a.tmps[d]? = none ∨ a.tmps[d]? = some (a.tmps.getD d undef) := by
        by_cases hlt : d < a.tmps.size
        · right; simp [Array.getD_eq_getD_getElem?, hlt]
        · left; exact Array.getElem?_eq_none (Nat.le_of_not_lt hlt)
      split at h
      · rename_i b' e
        rw [e] at hs
        have hv := hs.bool_inv
        simp only [Option.some.injEq] at h
        rcases hget with e0 | e0
        · have : a.tmps.getD d undef = undef := by rw [Array.getD_eq_getD_getElem?, e0]; rfl
          rw [this] at hv
          cases hv
        · rw [e0, hv]
          simp only
          rw [← h]
          cases b' <;> cases want <;> rfl
      · cases h
      · rename_i n1 n2
        simp only [Option.some.injEq] at h
        rw [← h]
        rcases hget with e0 | e0
        · rw [e0]; simp
        · rw [e0]
          have hnb : ∀ b, a.tmps.getD d undef ≠ .bool b := by
            intro b e
            rw [e] at hs
            generalize A.slot d = x at hs n1 n2
            cases hs with
            | bool b => exact n1 b rfl
            | unknown r v => exact n2 r rfl
          cases hv : a.tmps.getD d undef <;> first
            | (exact absurd hv (hnb _))
            | simp

theorem wanted_R {A : AAct} {a : Act} (r : ActR ρ A a) {ops : Array Oper} {o : Oper} {b : Bool} (h : wantedA ops A o = some b) : Region.wanted o (yielded ops a.tmps) = b :=
  wanted_L (fun t _ => r.slot t) h

/-! ### What is shown of calls and of code -/
inductive RoundR (ρ : Ren) : Option Nat → Option Nat → Prop
  | none : RoundR ρ none none
  | some {l : Nat} {m : Meta} (h : ρ l = some m) : RoundR ρ (some l) (some m.b)
theorem RoundR.mono {ρ' : Ren} (hle : ρ.le ρ') {r r' : Option Nat} (h : RoundR ρ r r') : RoundR ρ' r r' := by
  cases h with
  | none => exact .none
  | some h => exact .some (hle _ _ h)
theorem Fr_fn (r : Option Nat) (f : FuncId) : (Fr r).fn f := by cases r <;> trivial
theorem Fr_depth (r : Option Nat) : (Fr r).depth = none := by cases r <;> rfl
theorem Fr_inRound (r : Option Nat) (l : Nat) : (Fr r).inRound l = Fr (some l) := by cases r <;> rfl
theorem Fr_round (r : Option Nat) : (Fr r).round = r := by cases r <;> rfl
theorem Fr_calls {r : Option Nat} {n : Nat} {f : FuncId} {args : Array Value} {R : Ending → World → Prop} (h : CallsIn Fence.wide n P f args w R) : CallsIn (Fr r) n P f args w R := by
  cases r with
  | none => exact h
  | some l => exact CallsIn.inRound l h

def CallPost (w0 : Start P) (ρ : Ren) (H : Heap) (v : Value) (H' : Heap) (e : Ending) (w' : World) : Prop :=
  ∃ ρ' v', e = .returned v' ∧ VR ρ' v v' ∧ Gam w0 ρ' H' w' ∧ Ext ρ ρ' H H'
def CodePost (w0 : Start P) (ρ : Ren) (H : Heap) (e : Exit) (A' : AAct) (H' : Heap) (e' : Exit) (a' : Act) (w' : World) : Prop :=
  e' = e ∧ ∃ ρ', ActR ρ' A' a' ∧ Gam w0 ρ' H' w' ∧ Ext ρ ρ' H H'
/-- A loop that has been through a round. -/
def LoopIn (c : Code) (F : Fence) (n : Nat) (P : Program) (Q : Exit → Act → World → Prop) (a : Act) (w : World) : Prop :=
  ∀ (b : Frame) (k : List Item) (cs : List Frame), b.roundOf = F.round → F.fn b.fn → F.room (cs.length + 1 + n) →
    ∃ e a' w', Q e a' w' ∧ ArrivesIn (Machine.fenced P F) P (lone (b.atR a (.inLoop c :: k)) cs w) b k cs e a' w'
structure SelfS (P : Program) (w0 : Start P) (s : Self) : Prop where
  call : ∀ {ρ : Ren} {H : Heap} {w : World} {f : FuncId} {args args' : Array Value} {v : Value} {H' : Heap} (n : Nat), Gam w0 ρ H w → LR ρ args.toList args'.toList → s.call f args H = some (v, H') →
    CallsIn Fence.wide n P f args' w (CallPost w0 ρ H v H')
  code : ∀ {ρ : Ren} {H : Heap} {w : World} {r rC : Option Nat} {c : Code} {A : AAct} {a : Act} {e : Exit} {A' : AAct} {H' : Heap} (n : Nat), Gam w0 ρ H w → RoundR ρ r rC → ActR ρ A a → s.code r c A H = some (e, A', H') →
    c.wpIn (Fr rC) n P (CodePost w0 ρ H e A' H') a w
  again : ∀ {ρ : Ren} {H : Heap} {w : World} {r rC : Option Nat} {c : Code} {A : AAct} {a : Act} {e : Exit} {A' : AAct} {H' : Heap} (n : Nat), Gam w0 ρ H w → RoundR ρ r rC → ActR ρ A a → s.code r (.loop c) A H = some (e, A', H') →
    LoopIn c (Fr rC) n P (CodePost w0 ρ H e A' H') a w

variable {s : Self}
theorem no_defer {env : Operand → Value} {o : Oper} {r : ANext × Heap} (h : opA P H env o = some r) : ∀ c, o.op ≠ .defer c := by
  intro c e
  simp [opA, valA, e] at h

theorem getLoop_get {H : Heap} {l : Nat} {r : ALoop} (h : getLoopA H l = some r) : H.get l = some (.loop r) := by
  unfold getLoopA at h
  split at h
  · cases h
  cases ho : H.get l with
  | none => simp [ho] at h
  | some o => cases o <;> simp [ho] at h; rw [h]
theorem getLoop_own {H : Heap} {l : Nat} {r : ALoop} (h : getLoopA H l = some r) : gbase ≤ l := by
  unfold getLoopA at h
  split at h
  · cases h
  omega
theorem Gam.putLoop (g : Gam w0 ρ H w) {l : Nat} {m : Meta} {r l' : ALoop} {L' : Loop} (hm : ρ l = some m) (hi : gbase ≤ l) (ho : H.get l = some (.loop r)) (hr : LoopR ρ l' L') :
    Gam w0 ρ (H.set l (.loop l')) (w.putObj m.b (.loop L')) ∧ Ext ρ ρ H (H.set l (.loop l')) := by
  have hlt : m.b < w.heap.size := (g.own l m hm).1
  refine g.update hm hi ho rfl (by simp [World.putObj]) (fun k hk => World.putObj_heap_other (by omega)) rfl rfl rfl ?_
  exact ⟨L', World.putObj_heap_same hlt, hr⟩
theorem putAll_R : ∀ (ts : List Tmp) {l l' : List Value}, LR ρ l l' → ∀ {A : AAct} {a : Act}, ActR ρ A a →
    ActR ρ (A.putAll (ts.zip l)) { a with tmps := (ts.zip l').foldl (fun tmps (p : Tmp × Value) => tmps.setIfInBounds p.1 p.2) a.tmps }
  | [], _, _, _, A, a, r => by simpa [AAct.putAll] using r
  | t :: ts, _, _, .nil, A, a, r => by simpa [AAct.putAll] using r
  | t :: ts, _, _, .cons hv ht, A, a, r => by
    have := putAll_R ts ht (r.put1 t hv)
    simpa [AAct.putAll] using this
theorem act_round {r : ALoop} {L : Loop} (rL : LoopR ρ r L) {args args' : Array Value} (ha : LR ρ args.toList args'.toList) :
    ActR ρ ({ r.act with defers := [] }.putAll (r.params.toList.zip args.toList)) { tmps := (L.params.zip args').foldl (fun tmps (t, a) => tmps.setIfInBounds t a) L.tmps, defers := [] } := by
  have base : ActR ρ { r.act with defers := [] } { tmps := L.tmps, defers := [] } := ⟨rL.size, rL.slot, rfl, fun j D e => by simp at e⟩
  have := putAll_R r.params.toList ha base
  have e : (L.params.zip args').foldl (fun tmps (t, a) => tmps.setIfInBounds t a) L.tmps = (r.params.toList.zip args'.toList).foldl (fun tmps (p : Tmp × Value) => tmps.setIfInBounds p.1 p.2) L.tmps := by
    rw [← Array.foldl_toList, Array.toList_zip, rL.params]
  rw [e]
  exact this
/-- One round. -/
theorem roundA_sound (hs : SelfS P w0 s) (g : Gam w0 ρ H w) {l : Nat} {m : Meta} {L : Loop} {args args' : Array Value} {v : Value} {H' : Heap} {rC : Option Nat} (n : Nat) (hm : ρ l = some m) (hL : w.heap[m.b]? = some (.loop L))
    (ha : LR ρ args.toList args'.toList) (h : roundA s l args H = some (v, H')) :
    RoundIn (Fr rC) n P m.b L.fn ((L.params.zip args').foldl (fun tmps (t, a) => tmps.setIfInBounds t a) L.tmps) L.assign L.body w (CallPost w0 ρ H v H') := by
  unfold roundA at h
  obtain ⟨r, hr, h⟩ := Option.bind_eq_some_iff.1 h
  split at h
  · cases h
  rename_i hsz
  obtain ⟨⟨e1, A1, H1⟩, hc1, h⟩ := Option.bind_eq_some_iff.1 h
  split at h
  · cases h
  rename_i he1
  simp only [Bool.not_eq_false] at he1
  obtain ⟨r1, hr1, h⟩ := Option.bind_eq_some_iff.1 h
  split at h
  · cases h
  rename_i hst
  simp only [ne_eq, Decidable.not_not] at hst
  obtain ⟨⟨e2, A2, H2⟩, hc2, h⟩ := Option.bind_eq_some_iff.1 h
  obtain ⟨r2, hr2, h⟩ := Option.bind_eq_some_iff.1 h
  obtain ⟨jump, hj, h⟩ := Option.bind_eq_some_iff.1 h
  simp only [Option.some.injEq, Prod.mk.injEq] at h
  obtain ⟨rfl, rfl⟩ := h
  have e1n : e1 = .normal := by cases e1 <;> first | rfl | simp [isNormal] at he1
  subst e1n
  obtain ⟨L', hL', rL⟩ := g.obj l m _ hm (getLoop_get hr)
  rw [hL] at hL'
  cases hL'
  have hgl := getLoop_own hr
  refine roundIn_of_wpIn (Fr_fn _ _) ?_
  rw [Fr_inRound, rL.assign]
  have ra := act_round rL (args := args) ha
  refine wpIn_mono (hs.code n g (.some hm) ra hc1) ?_
  rintro e a1 w1 ⟨rfl, ρ1, ra1, g1, ext1⟩
  have hm1 := ext1.le _ _ hm
  obtain ⟨L1, hL1, rL1⟩ := g1.obj l m _ hm1 (getLoop_get hr1)
  refine ⟨_, run_beginRound hL1 (by rw [rL1.state, hst]), ?_⟩
  rw [rL.body]
  obtain ⟨g2, ext2⟩ := g1.putLoop hm1 hgl (getLoop_get hr1) (l' := { r1 with state := .busy }) (L' := { L1 with state := .busy }) ⟨rfl, rL1.pending, rL1.size, rL1.slot, rL1.params, rL1.assign, rL1.body, rL1.defers⟩
  refine wpIn_mono (hs.code n g2 (.some hm1) ra1 hc2) ?_
  rintro e a2 w2 ⟨rfl, ρ3, ra3, g3, ext3⟩
  have hm3 := ext3.le _ _ hm1
  obtain ⟨L2, hL2, rL2⟩ := g3.obj l m _ hm3 (getLoop_get hr2)
  obtain ⟨g4, ext4⟩ := g3.putLoop hm3 hgl (getLoop_get hr2) (l' := { r2 with state := if jump.isNone then .ready else .done, pending := jump }) (L' := { L2 with state := if jump.isNone then .ready else .done, pending := jump })
    ⟨rfl, rfl, rL2.size, rL2.slot, rL2.params, rL2.assign, rL2.body, rL2.defers⟩
  have hend := run_endRound (P := P) jump hL2
  have hfin : CallPost w0 ρ H (.bool jump.isNone) (H2.set l (.loop { r2 with state := if jump.isNone then .ready else .done, pending := jump })) (.returned (.bool jump.isNone)) _ := ⟨ρ3, _, rfl, .bool _, g4, ((ext1.trans ext2).trans ext3).trans ext4⟩
  cases e with
  | normal => simp only [jumpOf, Option.some.injEq] at hj; subst hj; exact ⟨_, _, hend, hfin⟩
  | ret => simp only [jumpOf, Option.some.injEq] at hj; subst hj; exact ⟨_, _, hend, hfin⟩
  | exit id => simp only [jumpOf, Option.some.injEq] at hj; subst hj; exact ⟨_, _, hend, hfin⟩
  | goto t => simp only [jumpOf, Option.some.injEq] at hj; subst hj; exact ⟨_, _, hend, hfin⟩
  | _ => simp [jumpOf] at hj

theorem stepA_sound (hs : SelfS P w0 s) (g : Gam w0 ρ H w) {o : Oper} {A A' : AAct} {a : Act} {H' : Heap} {rC : Option Nat} {n : Nat} {next : Act → World → Prop} {Q : Exit → Act → World → Prop} (ra : ActR ρ A a)
    (h : stepA P s o A H = some (A', H')) (K : ∀ ρ' a' w', ActR ρ' A' a' → Gam w0 ρ' H' w' → Ext ρ ρ' H H' → next a' w') : o.wpIn (Fr rC) n P a w next Q := by
  unfold stepA at h
  obtain ⟨⟨nx, H1⟩, hop, h⟩ := Option.bind_eq_some_iff.1 h
  obtain ⟨ρ1, nx', w1, g1, ext1, hnx, hrun⟩ := opA_sound g (env' := a.eval) (fun y _ => ra.eval y) hop
  refine ⟨fun f _ => Fr_fn _ f, ?_⟩
  rw [Oper.semAt_eq _ _ _ (no_defer hop), hrun]
  have dep : (Fr rC).depth.isSome = true → 1 ≤ n := by rw [Fr_depth]; simp
  cases hnx with
  | value hv =>
    simp only [Option.some.injEq, Prod.mk.injEq] at h
    obtain ⟨rfl, rfl⟩ := h
    exact K ρ1 _ w1 ((ra.mono ext1.le).put _ hv) g1 ext1
  | skip =>
    simp only [Option.some.injEq, Prod.mk.injEq] at h
    obtain ⟨rfl, rfl⟩ := h
    exact K ρ1 _ w1 ((ra.mono ext1.le).put _ (VR.undef _)) g1 ext1
  | enter ha =>
    simp only at h
    obtain ⟨⟨v, H2⟩, hc, h⟩ := Option.bind_eq_some_iff.1 h
    simp only [Option.some.injEq, Prod.mk.injEq] at h
    obtain ⟨rfl, rfl⟩ := h
    refine ⟨dep, (Fr_calls (hs.call (n - 1) g1 ha hc)).mono ?_⟩
    rintro e w2 ⟨ρ2, v', rfl, hv, g2, ext2⟩
    exact K ρ2 _ w2 (((ra.mono ext1.le).mono ext2.le).put _ hv) g2 (ext1.trans ext2)
  | round hm hL ha =>
    simp only at h
    obtain ⟨⟨v, H2⟩, hc, h⟩ := Option.bind_eq_some_iff.1 h
    simp only [Option.some.injEq, Prod.mk.injEq] at h
    obtain ⟨rfl, rfl⟩ := h
    refine ⟨dep, (roundA_sound hs g1 (n - 1) hm hL ha hc).mono ?_⟩
    rintro e w2 ⟨ρ2, v', rfl, hv, g2, ext2⟩
    exact K ρ2 _ w2 (((ra.mono ext1.le).mono ext2.le).put _ hv) g2 (ext1.trans ext2)

theorem opsA_sound (hs : SelfS P w0 s) {rC : Option Nat} {n : Nat} {ops : Array Oper} {Q : Exit → Act → World → Prop} : ∀ (l : List Nat) {ρ : Ren} {H : Heap} {w : World} {A A' : AAct} {a : Act} {H' : Heap}, Gam w0 ρ H w → ActR ρ A a →
    opsA P s ops l A H = some (A', H') → (∀ ρ' a' w', ActR ρ' A' a' → Gam w0 ρ' H' w' → Ext ρ ρ' H H' → Q .normal a' w') → wpOpsIn (Fr rC) n P ops Q l a w := by
  intro l
  induction l with
  | nil =>
    intro ρ H w A A' a H' g ra h K
    simp only [opsA, Option.some.injEq, Prod.mk.injEq] at h
    obtain ⟨rfl, rfl⟩ := h
    exact K ρ a w ra g (.refl _ _)
  | cons i rest ih =>
    intro ρ H w A A' a H' g ra h K
    simp only [opsA] at h
    simp only [wpOpsIn]
    cases ho : ops[i]? with
    | none =>
      simp only [ho] at h ⊢
      exact ih g ra h K
    | some o =>
      simp only [ho] at h ⊢
      cases hw : wantedA ops A o with
      | none => simp [hw] at h
      | some b =>
        have hwr := wanted_R ra hw
        cases b with
        | true =>
          simp only [hw] at h
          rw [if_pos hwr]
          obtain ⟨⟨A1, H1⟩, h1, h⟩ := Option.bind_eq_some_iff.1 h
          exact stepA_sound hs g ra h1 (fun ρ1 a1 w1 ra1 g1 ext1 => ih g1 ra1 h (fun ρ2 a2 w2 ra2 g2 ext2 => K ρ2 a2 w2 ra2 g2 (ext1.trans ext2)))
        | false =>
          simp only [hw] at h
          rw [if_neg (by rw [hwr]; simp)]
          exact ⟨fun f _ => Fr_fn _ f, ih g (ra.put _ (VR.undef _)) h K⟩

end Go.Abs

/- A region whose order is drawn: sound. -/
namespace Go.Abs
open Go.RowKit
variable {P : Program} {ρ : Ren} {w0 : Start P} {w : World} {H : Heap} {s : Self}

/-! ### Slots -/
theorem aslot_put (A : AAct) (dst : Option Tmp) (v : Value) (t : Nat) : (A.put dst v).slot t = if dst = some t ∧ t < A.size then v else A.slot t := by
  cases dst with
  | none => simp [AAct.put]
  | some d =>
    simp only [AAct.put, AAct.put1, Option.some.injEq]
    by_cases hd : d < A.size
    · rw [if_pos hd]
      unfold AAct.slot
      simp only
      rw [Tree.get_set _ _ _ _ _ (by omega)]
      by_cases e : t = d
      · subst e; simp [hd]
      · rw [if_neg e, if_neg (fun h => e h.1.symm)]
    · rw [if_neg hd]
      rw [if_neg]
      rintro ⟨rfl, h2⟩
      exact hd h2
theorem cslot_put (a : Act) (dst : Option Tmp) (v : Value) (t : Nat) : (a.put dst v).tmps.getD t undef = if dst = some t ∧ t < a.tmps.size then v else a.tmps.getD t undef := by
  cases dst with
  | none => simp [Act.put]
  | some d =>
    simp only [Act.put, Option.some.injEq, Array.getD_eq_getD_getElem?, Array.getElem?_setIfInBounds]
    by_cases e : d = t
    · subst e
      by_cases hd : d < a.tmps.size
      · simp [hd]
      · simp [hd]
    · simp [e]
theorem asize_put (A : AAct) (dst : Option Tmp) (v : Value) : (A.put dst v).size = A.size := by
  cases dst with
  | none => rfl
  | some d => simp only [AAct.put, AAct.put1]; split <;> rfl
theorem adefers_put (A : AAct) (dst : Option Tmp) (v : Value) : (A.put dst v).defers = A.defers := by
  cases dst with
  | none => rfl
  | some d => simp only [AAct.put, AAct.put1]; split <;> rfl
theorem csize_put (a : Act) (dst : Option Tmp) (v : Value) : (a.put dst v).tmps.size = a.tmps.size := by
  cases dst with
  | none => rfl
  | some d => simp [Act.put]
theorem cdefers_put (a : Act) (dst : Option Tmp) (v : Value) : (a.put dst v).defers = a.defers := by cases dst <;> rfl

/-! ### Blocks that are laid ahead -/
theorem Gam.phantom (g : Gam w0 ρ H w) (x : AObj) : Gam w0 ρ (H.new x) w ∧ Ext ρ ρ H (H.new x) := by
  have hne : ∀ i m, ρ i = some m → i ≠ H.next := fun i m h e => by rw [e, g.fresh _ (Nat.le_refl _)] at h; cases h
  refine ⟨⟨Nat.le_trans g.gb (by simp), fun i hi => g.fresh i (by simp at hi; omega), g.below, g.own, g.glob, ?_, ?_, ?_, g.pins, g.vars, g.itok, ?_⟩, ⟨ρ.le_refl, by simp, fun i hi hn => ⟨hn, by rw [Heap.get_new, if_neg (by omega)]⟩⟩⟩
  · rintro i j mi mj hgi ⟨oi, gi, ai⟩ ⟨oj, gj, aj⟩ ei ej hb
    rw [Heap.get_new, if_neg (hne _ _ ei)] at gi
    rw [Heap.get_new, if_neg (hne _ _ ej)] at gj
    exact g.inj i j mi mj hgi ⟨oi, gi, ai⟩ ⟨oj, gj, aj⟩ ei ej hb
  · intro i m o hi ho
    rw [Heap.get_new, if_neg (hne _ _ hi)] at ho
    exact g.obj i m o hi ho
  · intro i hi hn
    rw [Heap.get_new, if_neg (by have := g.gb; unfold gbase abase at *; omega)] at hn
    exact g.gmap i hi hn
  · have hyn : ynum ≠ H.next := by have := g.gb; unfold gbase at this; unfold ynum; omega
    refine g.yld_step (fun own rest h => by rwa [Heap.get_new, if_neg hyn] at h) (fun _ h => h) rfl rfl rfl (Nat.le_refl _) (fun _ _ => .inl rfl) (fun j n hj hl hne' => ?_)
    obtain ⟨o, ho, ha⟩ := hl
    exact .inl ⟨j, n, hj, ⟨o, by rwa [Heap.get_new, if_neg (hne _ _ hj)] at ho, ha⟩, hne', rfl⟩

theorem le_put' {b : Nat} (hb : ρ b = none) (m : Meta) : ρ.le (ρ.put b m) := fun j n h => by
  have : j ≠ b := fun e => by rw [e, hb] at h; cases h
  simp [Ren.put, this, h]

theorem Gam.realize (g : Gam w0 ρ H w) {b : Nat} {x : AObj} {obj : Obj} {m : Meta} (hn : ρ b = none) (hlo : gbase ≤ b) (hhi : b < H.next) (hx : H.get b = some x) (hb : m.b = w.heap.size) (hr : ObjR (ρ.put b m) (w.alloc obj) m x) :
    Gam w0 (ρ.put b m) H (w.alloc obj) := by
  have hle := le_put' hn m
  have hold : ∀ k, k < w.heap.size → (w.alloc obj).heap[k]? = w.heap[k]? := fun k hk => Below.heap_alloc w obj k hk
  refine ⟨g.gb, ?_, g.below.alloc obj, ?_, ?_, ?_, ?_, ?_, ?_, g.vars, g.itok, ?_⟩
  · intro i hi
    have : i ≠ b := by omega
    simp only [Ren.put, this, if_false]
    exact g.fresh i hi
  · intro i n hn
    simp only [Ren.put] at hn
    split at hn
    · cases hn
      exact ⟨by rw [hb]; simp, fun _ => .inl (by rw [hb]; exact g.below.size)⟩
    · have := g.own i n hn
      exact ⟨by simp; omega, this.2⟩
  · intro i n hn hi
    simp only [Ren.put] at hn
    split at hn
    · unfold gbase abase at *; omega
    · exact g.glob i n hn hi
  · intro i j mi mj hgi hi hj ei ej hbb
    simp only [Ren.put] at ei ej
    by_cases e1 : i = b
    · by_cases e2 : j = b
      · rw [e1, e2]
      · simp only [e1, if_true, Option.some.injEq] at ei
        simp only [e2, if_false] at ej
        have := (g.own j mj ej).1
        rw [← ei, hb] at hbb
        omega
    · by_cases e2 : j = b
      · simp only [e2, if_true, Option.some.injEq] at ej
        simp only [e1, if_false] at ei
        have := (g.own i mi ei).1
        rw [← ej, hb] at hbb
        omega
      · simp only [e1, e2, if_false] at ei ej
        exact g.inj i j mi mj hgi hi hj ei ej hbb
  · intro i n o hn' ho
    simp only [Ren.put] at hn'
    by_cases e : i = b
    · subst e
      simp only [if_true, Option.some.injEq] at hn'
      subst hn'
      rw [hx] at ho
      cases ho
      exact hr
    · simp only [e, if_false] at hn'
      exact (g.obj i n o hn' ho).mono hle (fun _ => hold _ (g.own i n hn').1)
  · intro i hi h
    obtain ⟨n, h'⟩ := g.gmap i hi h
    exact ⟨n, hle _ _ h'⟩
  · intro i n ha hi h
    simp only [Ren.put] at h
    split at h
    · omega
    · exact g.pins i n ha hi h
  · refine g.yld_step (fun _ _ h => h) (fun _ h => hle _ _ h) rfl rfl rfl (by simp) (fun k hk => .inl (hold k hk)) (fun j n hj hl hne => ?_)
    simp only [Ren.put] at hj
    split at hj
    · cases hj; exact .inr (by omega)
    · exact .inl ⟨j, n, hj, hl, hne, rfl⟩

/-! ### Values that are one -/
theorem all2_eq {α : Type} {f : α → α → Bool} (hf : ∀ x y, f x y = true → x = y) : ∀ {l l' : List α}, all2 f l l' = true → l = l'
  | [], [], _ => rfl
  | [], _ :: _, h => by simp [all2] at h
  | _ :: _, [], h => by simp [all2] at h
  | x :: l, y :: l', h => by
    simp only [all2, Bool.and_eq_true] at h
    rw [hf _ _ h.1, all2_eq hf h.2]
theorem veq_sound : ∀ (n : Nat) {x y : Value}, veq n x y = true → x = y
  | 0, _, _, h => by simp [veq] at h
  | n + 1, x, y, h => by
    have ih : ∀ {a b : Array Value}, all2 (veq n) a.toList b.toList = true → a = b := fun h => Array.toList_inj.1 (all2_eq (fun x y => veq_sound n) h)
    unfold veq at h
    split at h
    case h_9 =>
      simp only [Bool.and_eq_true, beq_iff_eq] at h
      rw [h.1.1, ih h.1.2, ih h.2]
    case h_3 =>
      rename_i a b
      simp only [beq_iff_eq, Array.toList_inj] at h
      cases a
      cases b
      simp only at h
      rw [h]
    case h_10 => rw [ih h]
    case h_11 => rw [ih h]
    case h_12 =>
      simp only [Bool.and_eq_true, beq_iff_eq] at h
      rw [h.1, veq_sound n h.2]
    all_goals first
      | (cases h; done)
      | rfl
      | simp_all
theorem oeq_sound {x y : AObj} (h : oeq x y = true) : x = y := by
  unfold oeq at h
  split at h
  · simp only [Bool.and_eq_true, beq_iff_eq] at h
    obtain ⟨⟨⟨h1, h2⟩, h3⟩, h4⟩ := h
    rw [all2_eq (fun x y => veq_sound 8) h1, h2, h3, h4]
  · simp only [beq_iff_eq] at h
    rw [h]
  · cases h

/-! ### One operation, its operands alone -/
theorem eval_L {A : AAct} {a : Act} {ops : Array Oper} {o : Oper} (r : ∀ t, t ∈ looks ops o → VR ρ (A.slot t) (a.tmps.getD t undef)) (y : Operand) (hy : y ∈ o.op.operands) : VR ρ (A.eval y) (a.eval y) := by
  cases y with
  | tmp t => exact r t (List.mem_append_left _ (List.mem_filterMap.2 ⟨.tmp t, by simpa using hy, rfl⟩))
  | const v =>
    simp only [AAct.eval, Act.eval]
    split
    · rename_i h; exact plain_refl ρ 8 v h
    · exact .unknown _ _
  | global g =>
    simp only [AAct.eval, Act.eval]
    split
    · rename_i h; exact .glob g 0 h
    · exact .unknown _ _
  | func f => exact VR.func' .nil .nil

theorem stepA_L (hs : SelfS P w0 s) (g : Gam w0 ρ H w) {ops : Array Oper} {o : Oper} {A A' : AAct} {a : Act} {H' : Heap} {rC : Option Nat} {n : Nat} {next : Act → World → Prop} {Q : Exit → Act → World → Prop}
    (ra : ∀ t, t ∈ looks ops o → VR ρ (A.slot t) (a.tmps.getD t undef)) (h : stepA P s o A H = some (A', H'))
    (K : ∀ ρ' v v' w', VR ρ' v v' → A' = A.put o.dst v → Gam w0 ρ' H' w' → Ext ρ ρ' H H' → next (a.put o.dst v') w') : o.wpIn (Fr rC) n P a w next Q := by
  unfold stepA at h
  obtain ⟨⟨nx, H1⟩, hop, h⟩ := Option.bind_eq_some_iff.1 h
  obtain ⟨ρ1, nx', w1, g1, ext1, hnx, hrun⟩ := opA_sound g (env' := a.eval) (fun y hy => eval_L ra y hy) hop
  refine ⟨fun f _ => Fr_fn _ f, ?_⟩
  rw [Oper.semAt_eq _ _ _ (no_defer hop), hrun]
  have dep : (Fr rC).depth.isSome = true → 1 ≤ n := by rw [Fr_depth]; simp
  cases hnx with
  | value hv =>
    simp only [Option.some.injEq, Prod.mk.injEq] at h
    obtain ⟨rfl, rfl⟩ := h
    exact K ρ1 _ _ w1 hv rfl g1 ext1
  | skip =>
    simp only [Option.some.injEq, Prod.mk.injEq] at h
    obtain ⟨rfl, rfl⟩ := h
    exact K ρ1 _ _ w1 (VR.undef _) rfl g1 ext1
  | enter ha =>
    simp only at h
    obtain ⟨⟨v, H2⟩, hc, h⟩ := Option.bind_eq_some_iff.1 h
    simp only [Option.some.injEq, Prod.mk.injEq] at h
    obtain ⟨rfl, rfl⟩ := h
    refine ⟨dep, (Fr_calls (hs.call (n - 1) g1 ha hc)).mono ?_⟩
    rintro e w2 ⟨ρ2, v', rfl, hv, g2, ext2⟩
    exact K ρ2 _ _ w2 hv rfl g2 (ext1.trans ext2)
  | round hm hL ha =>
    simp only at h
    obtain ⟨⟨v, H2⟩, hc, h⟩ := Option.bind_eq_some_iff.1 h
    simp only [Option.some.injEq, Prod.mk.injEq] at h
    obtain ⟨rfl, rfl⟩ := h
    refine ⟨dep, (roundA_sound hs g1 (n - 1) hm hL ha hc).mono ?_⟩
    rintro e w2 ⟨ρ2, v', rfl, hv, g2, ext2⟩
    exact K ρ2 _ _ w2 hv rfl g2 (ext1.trans ext2)

/-- What writes nothing leaves the heap alone. -/
theorem minor_heap {env : Operand → Value} {o : Oper} {v : Value} {H1 : Heap} (hm : isMajor o = false) (ha : isAlloc o = false) (h : opA P H env o = some (.value v, H1)) : H1 = H := by
  unfold opA at h
  cases hop : o.op <;> simp only [isMajor, isAlloc, hop] at hm ha h <;> first
    | (simp at ha; done)
    | (simp at hm; done)
    | (obtain ⟨x, _, h⟩ := Option.bind_eq_some_iff.1 h
       simp only [Option.some.injEq, Prod.mk.injEq] at h
       exact h.2.symm)
    | skip
  rename_i c
  have hcal : c.callee = .builtin .len ∨ c.callee = .builtin .cap ∨ c.callee = .builtin .min ∨ c.callee = .builtin .max ∨ c.callee = .builtin .complex ∨ c.callee = .builtin .real ∨ c.callee = .builtin .imag := by
    split at hm <;> first
      | (cases hm; done)
      | (rename_i e; cases e; done)
      | (rename_i e; injection e with e; rw [e]; simp; done)
      | skip
  unfold callA at h
  rcases hcal with e | e | e | e | e | e | e <;> simp only [e] at h
  all_goals
    repeat' split at h
    all_goals first
      | (cases h; done)
      | (simp only [Option.some.injEq, Prod.mk.injEq] at h; exact h.2.symm)
      | (obtain ⟨x, _, h⟩ := Option.bind_eq_some_iff.1 h
         simp only [Option.some.injEq, Prod.mk.injEq] at h
         exact h.2.symm)
      | (obtain ⟨x, _, h⟩ := Option.bind_eq_some_iff.1 h
         split at h
         · simp only [Option.some.injEq, Prod.mk.injEq] at h
           exact h.2.symm
         · cases h)

/-! ### The walk -/
def Topo (ops : Array Oper) : List Nat → Prop
  | [] => True
  | i :: D => (∃ o, ops[i]? = some o ∧ ∀ p ∈ bAfter o, p ∈ D) ∧ Topo ops D

structure Inv (w0 : Start P) (ρ0 : Ren) (H0 : Heap) (ops : Array Oper) (D shut : List Nat) (listed : Array Bool) (ρ : Ren) (A : AAct) (H : Heap) (a : Act) (w : World) : Prop where
  gam : Gam w0 ρ H w
  ext : Ext ρ0 ρ H0 H
  gb : gbase ≤ H0.next
  size : a.tmps.size = A.size
  defers : a.defers.length = A.defers.length ∧ ∀ (j : Nat) (D : Nat), A.defers[j]? = some D → ∃ m, ρ D = some m ∧ a.defers[j]? = some { target := .collected m.b, args := #[] }
  slot : ∀ t, (∀ j o, j ∈ D → listed.getD j false = false → ops[j]? = some o → o.dst ≠ some t) → VR ρ (A.slot t) (a.tmps.getD t undef)
  lsize : listed.size = ops.size
  sub : ∀ j, listed.getD j false = true → j ∈ D
  maj : ∀ j o, j ∈ D → ops[j]? = some o → isMajor o = true → listed.getD j false = true
  clL : ∀ j o, listed.getD j false = true → ops[j]? = some o → ∀ p ∈ bAfter o, listed.getD p false = true
  topo : Topo ops D
  shutL : ∀ j ∈ shut, listed.getD j false = true
  pend : ∀ j o d b, j ∈ D → listed.getD j false = false → ops[j]? = some o → isAlloc o = true → o.dst = some d → blk (A.slot d) = some b → ρ b = none ∧ H0.next ≤ b ∧ b < H.next

theorem flow_dst {ops : Array Oper} (hf : flowGood ops = true) {p q : Nat} {op oq : Oper} {d : Tmp} (hp : ops[p]? = some op) (hq : ops[q]? = some oq) (hne : p ≠ q) (hd : oq.dst = some d) : op.dst ≠ some d := by
  have h1 := (Array.getElem?_eq_some_iff.1 hp).1
  have h2 := (Array.getElem?_eq_some_iff.1 hq).1
  unfold flowGood at hf
  have := List.all_eq_true.1 (List.all_eq_true.1 hf p (List.mem_range.2 h1)) q (List.mem_range.2 h2)
  simp only [hp, hq, hd, Bool.and_eq_true, Bool.or_eq_true, beq_iff_eq, hne, false_or, bne_iff_ne, ne_eq] at this
  exact this.1
theorem flow_looks {ops : Array Oper} (hf : flowGood ops = true) {p q : Nat} {op oq : Oper} {d : Tmp} (hp : ops[p]? = some op) (hq : ops[q]? = some oq) (hd : oq.dst = some d) (hl : d ∈ looks ops op) : q ∈ bAfter op ∨ isMajor oq = true := by
  have h1 := (Array.getElem?_eq_some_iff.1 hp).1
  have h2 := (Array.getElem?_eq_some_iff.1 hq).1
  unfold flowGood at hf
  have := List.all_eq_true.1 (List.all_eq_true.1 hf p (List.mem_range.2 h1)) q (List.mem_range.2 h2)
  simp only [hp, hq, hd, Bool.and_eq_true, Bool.or_eq_true, Bool.not_eq_true'] at this
  rcases this.2 with (h | h) | h
  · have : (looks ops op).contains d = true := by simpa using hl
    rw [this] at h; cases h
  · exact .inl (by simpa using h)
  · exact .inr h

theorem bAfter_ready {o : Oper} {listed : Array Bool} : (∀ e ∈ o.after, Region.binds .any e = true → listed.getD e.on false = true) ↔ ∀ p ∈ bAfter o, listed.getD p false = true := by
  unfold bAfter
  constructor
  · intro h p hp
    obtain ⟨e, he, rfl⟩ := List.mem_map.1 hp
    obtain ⟨h1, h2⟩ := List.mem_filter.1 he
    exact h e (by simpa using h1) h2
  · intro h e he hb
    exact h _ (List.mem_map.2 ⟨e, List.mem_filter.2 ⟨by simpa using he, hb⟩, rfl⟩)

section walk
variable {ρ0 : Ren} {H0 : Heap} {ops : Array Oper} {D shut : List Nat} {listed : Array Bool} {A : AAct} {a : Act}

/-- The slots that an operation looks at when its turn comes. -/
theorem Inv.looks (iv : Inv w0 ρ0 H0 ops D shut listed ρ A H a w) (hf : flowGood ops = true) {j : Nat} {o : Oper} (hj : ops[j]? = some o) (hr : ∀ p ∈ bAfter o, listed.getD p false = true) (t : Tmp) (ht : t ∈ Abs.looks ops o) :
    VR ρ (A.slot t) (a.tmps.getD t undef) := by
  refine iv.slot t ?_
  intro q oq hq hun hoq hd
  rcases flow_looks hf hj hoq hd ht with h | h
  · rw [hr q h] at hun; cases hun
  · rw [iv.maj q oq hq hoq h] at hun; cases hun

/-- A block of code without its order: what the plan lays ahead. -/
theorem Inv.minor (iv : Inv w0 ρ0 H0 ops D shut listed ρ A H a w) (hf : flowGood ops = true) {i : Nat} {o : Oper} (hi : ops[i]? = some o) (hm : isMajor o = false) (hD : i ∉ D) (hb : ∀ p ∈ bAfter o, p ∈ D) {A' : AAct} {H' : Heap}
    (h : execMinor P ops A H o = some (A', H')) : Inv w0 ρ0 H0 ops (i :: D) shut listed ρ A' H' a w := by
  have hun : listed.getD i false = false := by
    cases hl : listed.getD i false with
    | false => rfl
    | true => exact absurd (iv.sub i hl) hD
  unfold execMinor at h
  split at h
  · cases h
  rename_i hin
  simp only [Bool.not_eq_false] at hin
  -- whatever is put there
  have core : ∀ (v : Value) (H' : Heap), Gam w0 ρ H' w → Ext ρ ρ H H' → (isAlloc o = true → ∀ b, blk v = some b → ρ b = none ∧ H0.next ≤ b ∧ b < H'.next) → Inv w0 ρ0 H0 ops (i :: D) shut listed ρ (A.put o.dst v) H' a w := by
    intro v H' g' ext' hblk
    refine ⟨g', iv.ext.trans ext', iv.gb, by rw [asize_put]; exact iv.size, by rw [adefers_put]; exact iv.defers, ?_, iv.lsize, fun j hj => List.mem_cons_of_mem _ (iv.sub j hj), ?_, iv.clL, ⟨⟨o, hi, hb⟩, iv.topo⟩, iv.shutL, ?_⟩
    · intro t ht
      have hne : o.dst ≠ some t := ht i o (List.mem_cons_self ..) hun hi
      rw [aslot_put, if_neg (fun h => hne h.1)]
      exact iv.slot t (fun j oj hj => ht j oj (List.mem_cons_of_mem _ hj))
    · intro j oj hj hoj hmj
      rcases List.mem_cons.1 hj with rfl | hj
      · rw [hi] at hoj; cases hoj; rw [hm] at hmj; cases hmj
      · exact iv.maj j oj hj hoj hmj
    · intro j oj d b hj hunj hoj hal hd hbk
      rcases List.mem_cons.1 hj with rfl | hj
      · rw [hi] at hoj
        cases hoj
        have hdin : d < A.size := by simpa [inRange, hd] using hin
        rw [aslot_put, if_pos ⟨hd, hdin⟩] at hbk
        exact hblk hal b hbk
      · have hne : j ≠ i := fun e => hD (e ▸ hj)
        have hdne : o.dst ≠ some d := flow_dst hf hi hoj (fun e => hne e.symm) hd
        rw [aslot_put, if_neg (fun h => hdne h.1)] at hbk
        obtain ⟨h1, h2, h3⟩ := iv.pend j oj d b hj hunj hoj hal hd hbk
        exact ⟨h1, h2, Nat.lt_of_lt_of_le h3 ext'.next⟩
  split at h
  · rename_i v _
    split at h
    · cases h
    rename_i hal
    simp only [Option.some.injEq, Prod.mk.injEq] at h
    obtain ⟨rfl, rfl⟩ := h
    exact core v _ iv.gam (.refl _ _) (fun h => absurd h hal)
  · rename_i k x _
    simp only [Option.some.injEq, Prod.mk.injEq] at h
    obtain ⟨rfl, rfl⟩ := h
    obtain ⟨g', ext'⟩ := iv.gam.phantom x
    refine core _ _ g' ext' (fun _ b hbk => ?_)
    have : b = H.next := by cases k <;> simp [Mk.val, blk] at hbk <;> exact hbk.symm
    subst this
    exact ⟨iv.gam.fresh _ (Nat.le_refl _), iv.ext.next, by simp⟩
  · simp only [Option.some.injEq, Prod.mk.injEq] at h
    obtain ⟨rfl, rfl⟩ := h
    exact core undef _ iv.gam (.refl _ _) (fun _ b hbk => by simp [blk, undef] at hbk)
  · cases h

def PItem.stops : PItem → Bool
  | .minor _ => false
  | _ => true

theorem run_minors (hf : flowGood ops = true) {R : AAct × Heap} : ∀ (rest : List PItem) {D : List Nat} {A : AAct} {H : Heap}, planGood ops rest D shut = true → anyA P s ops rest A H = some R → Inv w0 ρ0 H0 ops D shut listed ρ A H a w →
    ∃ x rest' D' A' H', PItem.stops x = true ∧ planGood ops (x :: rest') D' shut = true ∧ anyA P s ops (x :: rest') A' H' = some R ∧ Inv w0 ρ0 H0 ops D' shut listed ρ A' H' a w := by
  intro rest
  induction rest with
  | nil => intro D A H hp; simp [planGood] at hp
  | cons x rest ih =>
    intro D A H hp h iv
    cases x with
    | major i again => exact ⟨_, _, _, _, _, rfl, hp, h, iv⟩
    | last again => exact ⟨_, _, _, _, _, rfl, hp, h, iv⟩
    | minor i =>
      simp only [planGood] at hp
      simp only [anyA] at h
      cases hi : ops[i]? with
      | none => simp [hi] at hp
      | some o =>
        simp only [hi, Bool.and_eq_true, Bool.not_eq_true'] at hp h
        obtain ⟨⟨⟨h1, h2⟩, h3⟩, h4⟩ := hp
        obtain ⟨⟨A1, H1⟩, he, h⟩ := Option.bind_eq_some_iff.1 h
        exact ih h4 h (iv.minor hf hi h1 (by simpa using h2) (fun p hp => by simpa using List.all_eq_true.1 h3 p hp) he)

/-- What was carried out ahead would be carried out likewise now. -/
def StillP (P : Program) (ops : Array Oper) (A : AAct) (H : Heap) (j : Nat) : Prop :=
  ∃ o, ops[j]? = some o ∧
    ((wantedA ops A o = some false ∧ ∀ d, o.dst = some d → d < A.size ∧ A.slot d = undef) ∨
     (wantedA ops A o = some true ∧
       ((∃ k x d b, allocOf P A.eval o = some (k, x) ∧ o.dst = some d ∧ d < A.size ∧ blk (A.slot d) = some b ∧ A.slot d = k.val b ∧ H.get b = some x) ∨
        (allocOf P A.eval o = none ∧ isAlloc o = false ∧ ∃ v H1, opA P H A.eval o = some (.value v, H1) ∧ ∀ d, o.dst = some d → d < A.size ∧ v = A.slot d))))
theorem stillSo_P {P : Program} {A : AAct} {H : Heap} {j : Nat} (hst : stillSo P ops A H j = true) : StillP P ops A H j := by
  unfold stillSo at hst
  cases hj : ops[j]? with
  | none => simp [hj] at hst
  | some o =>
    refine ⟨o, hj, ?_⟩
    simp only [hj] at hst
    unfold minorA at hst
    cases hw : wantedA ops A o with
    | none => simp [hw] at hst
    | some wb =>
      cases wb with
      | false =>
        refine .inl ⟨rfl, fun d hd => ?_⟩
        simp only [hw, hd, Bool.and_eq_true] at hst
        exact ⟨by simpa using hst.1, (veq_sound 8 hst.2).symm⟩
      | true =>
        refine .inr ⟨rfl, ?_⟩
        simp only [hw] at hst
        cases hal : allocOf P A.eval o with
        | some kx =>
          obtain ⟨k, x⟩ := kx
          simp only [hal] at hst
          cases hd : o.dst with
          | none => simp [hd] at hst
          | some d =>
            simp only [hd, Bool.and_eq_true] at hst
            obtain ⟨hdin, hst⟩ := hst
            cases hbk : blk (A.slot d) with
            | none => simp [hbk] at hst
            | some b =>
              simp only [hbk, Bool.and_eq_true] at hst
              obtain ⟨hsl, hst⟩ := hst
              cases hx : H.get b with
              | none => simp [hx] at hst
              | some y =>
                simp only [hx] at hst
                have hxy := oeq_sound hst
                subst hxy
                exact .inl ⟨k, x, d, b, rfl, rfl, by simpa using hdin, hbk, veq_sound 8 hsl, hx⟩
        | none =>
          simp only [hal] at hst
          cases hop : opA P H A.eval o with
          | none => simp [hop] at hst
          | some r =>
            obtain ⟨nx, H1⟩ := r
            cases nx with
            | value v =>
              simp only [hop, Bool.and_eq_true, Bool.not_eq_true'] at hst
              obtain ⟨hia, hst⟩ := hst
              refine .inr ⟨rfl, hia, v, H1, rfl, fun d hd => ?_⟩
              simp only [hd, Bool.and_eq_true] at hst
              exact ⟨by simpa using hst.1, veq_sound 8 hst.2⟩
            | _ => simp [hop] at hst

/-- An operation that was laid ahead is carried out. -/
theorem Inv.pending (iv : Inv w0 ρ0 H0 ops D shut listed ρ A H a w) (hf : flowGood ops = true) {rC : Option Nat} {n : Nat} {Q : Exit → Act → World → Prop} {j : Nat} {o : Oper} (hj : ops[j]? = some o) (hD : j ∈ D) (hun : listed.getD j false = false) (hr : ∀ p ∈ bAfter o, listed.getD p false = true)
    (hst : StillP P ops A H j) (hdist : ∀ j' o' d d' b, j' ∈ D → j' ≠ j → listed.getD j' false = false → ops[j']? = some o' → isAlloc o' = true → isAlloc o = true → o'.dst = some d' → o.dst = some d → blk (A.slot d) = some b → blk (A.slot d') ≠ some b) {K : Act → World → Prop}
    (hK : ∀ ρ' a' w', Inv w0 ρ0 H0 ops D shut (listed.setIfInBounds j true) ρ' A H a' w' → K a' w') : wpOpIn (Fr rC) n P ops Q j K a w := by
  have hm : isMajor o = false := by
    cases hmj : isMajor o with
    | false => rfl
    | true => rw [iv.maj j o hD hj hmj] at hun; cases hun
  have hjlt : j < listed.size := by rw [iv.lsize]; exact (Array.getElem?_eq_some_iff.1 hj).1
  have hset : (listed.setIfInBounds j true).getD j false = true := by simp [Array.getD_eq_getD_getElem?, hjlt]
  have hunl : ∀ i, (listed.setIfInBounds j true).getD i false = false → i ≠ j ∧ listed.getD i false = false := by
    intro i hi
    have hne : j ≠ i := fun e => by subst e; rw [hset] at hi; cases hi
    exact ⟨fun e => hne e.symm, by rw [← getD_set_ne false hne]; exact hi⟩
  have hll := iv.looks hf hj hr
  -- whatever is put there
  have core : ∀ (ρ' : Ren) (v' : Value) (w' : World), ρ.le ρ' → Gam w0 ρ' H w' → Ext ρ0 ρ' H0 H → (∀ d, o.dst = some d → d < A.size ∧ VR ρ' (A.slot d) v') →
      (∀ j' o' d b, j' ∈ D → j' ≠ j → listed.getD j' false = false → ops[j']? = some o' → isAlloc o' = true → o'.dst = some d → blk (A.slot d) = some b → ρ' b = none) → K (a.put o.dst v') w' := by
    intro ρ' v' w' hle g' ext' hv hp
    refine hK ρ' _ w' ⟨g', ext', iv.gb, by rw [csize_put]; exact iv.size, ?_, ?_, by simpa using iv.lsize, ?_, ?_, ?_, iv.topo, fun i hi => getD_set_true (iv.shutL i hi), ?_⟩
    · rw [cdefers_put]
      exact ⟨iv.defers.1, fun i D' e => let ⟨m, h1, h2⟩ := iv.defers.2 i D' e; ⟨m, hle _ _ h1, h2⟩⟩
    · intro t ht
      rw [cslot_put]
      by_cases e : o.dst = some t ∧ t < a.tmps.size
      · rw [if_pos e]; exact (hv t e.1).2
      · rw [if_neg e]
        by_cases ed : o.dst = some t
        · exact absurd ⟨ed, by rw [iv.size]; exact (hv t ed).1⟩ e
        · refine (iv.slot t ?_).mono hle
          intro i oi hi hui hoi hdi
          by_cases hij : i = j
          · subst hij; rw [hj] at hoi; cases hoi; exact ed hdi
          · exact ht i oi hi (by rw [getD_set_ne false (fun e => hij e.symm)]; exact hui) hoi hdi
    · intro i hi
      by_cases hij : j = i
      · exact hij ▸ hD
      · exact iv.sub i (by rw [← getD_set_ne false hij]; exact hi)
    · exact fun i oi hi hoi hmi => getD_set_true (iv.maj i oi hi hoi hmi)
    · intro i oi hi hoi p hp
      by_cases hij : j = i
      · subst hij; rw [hj] at hoi; cases hoi; exact getD_set_true (hr p hp)
      · exact getD_set_true (iv.clL i oi (by rw [← getD_set_ne false hij]; exact hi) hoi p hp)
    · intro i oi d b hi hui hoi hal hd hbk
      obtain ⟨hij, hui⟩ := hunl i hui
      obtain ⟨_, h2, h3⟩ := iv.pend i oi d b hi hui hoi hal hd hbk
      exact ⟨hp i oi d b hi hij hui hoi hal hd hbk, h2, h3⟩
  have same : ∀ j' o' d b, j' ∈ D → j' ≠ j → listed.getD j' false = false → ops[j']? = some o' → isAlloc o' = true → o'.dst = some d → blk (A.slot d) = some b → ρ b = none :=
    fun j' o' d b h1 _ h3 h4 h5 h6 h7 => (iv.pend j' o' d b h1 h3 h4 h5 h6 h7).1
  unfold wpOpIn
  simp only [hj]
  obtain ⟨o', ho', hst⟩ := hst
  rw [hj] at ho'
  cases ho'
  rcases hst with ⟨hw, hst⟩ | ⟨hw, ⟨k, x, d, b, hal, hd, hdin, hbk, hsl, hx⟩ | ⟨hal, hia, v, H1, hop, hst⟩⟩
  · rw [if_neg (by rw [wanted_L hll hw]; simp)]
    refine ⟨fun f _ => Fr_fn _ f, core ρ undef w ρ.le_refl iv.gam iv.ext (fun d hd => ?_) same⟩
    obtain ⟨h1, h2⟩ := hst d hd
    refine ⟨h1, ?_⟩
    rw [h2]
    exact VR.undef _
  · rw [if_pos (wanted_L hll hw)]
    refine ⟨fun f _ => Fr_fn _ f, ?_⟩
    obtain ⟨obj, m, hmb, hrun, hobj, hval⟩ := (allocOf_sound (P := P) (env' := a.eval) (fun y hy => eval_L hll y hy) hal w).run
    have hia : isAlloc o = true := by
      unfold allocOf at hal
      unfold isAlloc
      cases hop : o.op <;> simp only [hop] at hal ⊢ <;> first
        | rfl
        | (cases hal; done)
    obtain ⟨hn, hlo, hhi⟩ := iv.pend j o d b hD hun hj hia hd hbk
    have hle := le_put' hn m
    have g' := iv.gam.realize hn (Nat.le_trans iv.gb hlo) hhi hx hmb (hobj _ hle)
    rw [Oper.semAt_eq _ _ _ (fun c e => by simp [isMajor, e] at hm), hrun]
    have := core (ρ.put b m) (k.val w.heap.size) _ hle g' ⟨fun i m' h => hle _ _ (iv.ext.le i m' h), iv.ext.next, fun i hi hni => ?_⟩ (fun d' hd' => ?_) (fun j' o' d' b' h1 h2 h3 h4 h5 h6 h7 => ?_)
    · exact this
    · have hne : i ≠ b := by omega
      obtain ⟨q1, q2⟩ := iv.ext.keep i hi hni
      exact ⟨by simp [Ren.put, hne, q1], q2⟩
    · rw [hd] at hd'
      cases hd'
      refine ⟨hdin, ?_⟩
      rw [hsl]
      exact hval _ _ (by simp [Ren.put])
    · have hne : b' ≠ b := fun e => hdist j' o' d d' b h1 h2 h3 h4 h5 hia h6 hd hbk (e ▸ h7)
      simp [Ren.put, hne, same j' o' d' b' h1 h2 h3 h4 h5 h6 h7]
  · rw [if_pos (wanted_L hll hw)]
    refine ⟨fun f _ => Fr_fn _ f, ?_⟩
    have e := minor_heap hm hia hop
    subst e
    obtain ⟨ρ1, nx', w1, g1, ext1, hnx, hrun⟩ := opA_sound iv.gam (env' := a.eval) (fun y hy => eval_L hll y hy) hop
    rw [Oper.semAt_eq _ _ _ (no_defer hop), hrun]
    cases hnx with
    | value hv =>
      refine core ρ1 _ w1 ext1.le g1 (iv.ext.trans ext1) (fun d hd => ?_) (fun j' o' d' b' h1 h2 h3 h4 h5 h6 h7 => ?_)
      · obtain ⟨q1, q2⟩ := hst d hd
        refine ⟨q1, ?_⟩
        rw [← q2]
        exact hv
      · obtain ⟨q1, _, q3⟩ := iv.pend j' o' d' b' h1 h3 h4 h5 h6 h7
        exact (ext1.keep b' q3 q1).1

theorem Topo.all {D : List Nat} (ht : Topo ops D) (hlt : listed.size = ops.size) (hnil : Region.ready .any ops listed = []) : ∀ j ∈ D, listed.getD j false = true := by
  induction D with
  | nil => intro j hj; cases hj
  | cons i D ih =>
    obtain ⟨⟨o, hi, hb⟩, ht⟩ := ht
    intro j hj
    rcases List.mem_cons.1 hj with rfl | hj
    · cases hl : listed.getD j false with
      | true => rfl
      | false =>
        have hjlt : j < listed.size := by rw [hlt]; exact (Array.getElem?_eq_some_iff.1 hi).1
        have : j ∈ Region.ready .any ops listed := mem_ready.2 ⟨by rw [← hl]; simp [Array.getD_eq_getD_getElem?, hjlt], o, hi, bAfter_ready.2 (fun p hp => ih ht p (hb p hp))⟩
        rw [hnil] at this
        cases this
    · exact ih ht j hj

def Fin (w0 : Start P) (ρ0 : Ren) (H0 : Heap) (A' : AAct) (H' : Heap) (a : Act) (w : World) : Prop := ∃ ρ', ActR ρ' A' a ∧ Gam w0 ρ' H' w ∧ Ext ρ0 ρ' H0 H'

/-- Nothing is ready: everything has been carried out. -/
theorem Inv.done (iv : Inv w0 ρ0 H0 ops D shut listed ρ A H a w) {x : PItem} {rest : List PItem} {R : AAct × Heap} (hst : x.stops = true) (hp : planGood ops (x :: rest) D shut = true) (h : anyA P s ops (x :: rest) A H = some R) (hnil : Region.ready .any ops listed = []) :
    Fin w0 ρ0 H0 R.1 R.2 a w := by
  have hall := iv.topo.all iv.lsize hnil
  cases x with
  | minor i => cases hst
  | major i again =>
    exfalso
    simp only [planGood] at hp
    cases hi : ops[i]? with
    | none => simp [hi] at hp
    | some o =>
      simp only [hi, Bool.and_eq_true, Bool.not_eq_true'] at hp
      obtain ⟨⟨⟨⟨⟨h1, h2⟩, h3⟩, h4⟩, h5⟩, h6⟩ := hp
      have hjlt : i < listed.size := by rw [iv.lsize]; exact (Array.getElem?_eq_some_iff.1 hi).1
      have hl : listed.getD i false = false := by
        cases hl : listed.getD i false with
        | false => rfl
        | true => have := iv.sub i hl; simp at h2; exact absurd this h2
      have : i ∈ Region.ready .any ops listed := mem_ready.2 ⟨by rw [← hl]; simp [Array.getD_eq_getD_getElem?, hjlt], o, hi, bAfter_ready.2 (fun p hp => hall p (by simpa using List.all_eq_true.1 h3 p hp))⟩
      rw [hnil] at this
      cases this
  | last again =>
    simp only [anyA] at h
    split at h
    · cases h
    simp only [Option.some.injEq] at h
    subst h
    refine ⟨ρ, ⟨iv.size, fun t => iv.slot t (fun j o hj hun => ?_), iv.defers⟩, iv.gam, iv.ext⟩
    rw [hall j hj] at hun
    cases hun

theorem distinct_two : ∀ {l : List Nat} {f : Nat → Option Nat} {i j b : Nat}, distinctOk (l.map f) = true → i ∈ l → j ∈ l → i ≠ j → f i = some b → f j ≠ some b
  | [], _, _, _, _, _, hi, _, _, _ => by cases hi
  | x :: l, f, i, j, b, h, hi, hj, hne, e => by
    have htail : distinctOk (l.map f) = true := by
      simp only [List.map_cons] at h
      cases hx : f x with
      | none => simpa [hx, distinctOk] using h
      | some y => simp only [hx, distinctOk, Bool.and_eq_true] at h; exact h.2
    rcases List.mem_cons.1 hi with rfl | _
    · rcases List.mem_cons.1 hj with rfl | hj
      · exact absurd rfl hne
      · simp only [List.map_cons, e, distinctOk, Bool.and_eq_true, Bool.not_eq_true'] at h
        intro e2
        have : some b ∈ l.map f := List.mem_map.2 ⟨j, hj, e2⟩
        have h1 := h.1
        simp at h1
        exact h1 j hj e2
    · rename_i hi2
      rcases List.mem_cons.1 hj with rfl | hj
      · intro e2
        simp only [List.map_cons, e2, distinctOk, Bool.and_eq_true, Bool.not_eq_true'] at h
        have h1 := h.1
        simp at h1
        exact h1 i hi2 e
      · exact distinct_two htail hi2 hj hne e

/-- The major operation whose turn it is. -/
theorem Inv.turn (iv : Inv w0 ρ0 H0 ops D shut listed ρ A H a w) (hs : SelfS P w0 s) (hf : flowGood ops = true) {rC : Option Nat} {n : Nat} {Q : Exit → Act → World → Prop} {i : Nat} {o : Oper} (hi : ops[i]? = some o) (_hm : isMajor o = true) (hD : i ∉ D) (hr : ∀ p ∈ bAfter o, listed.getD p false = true)
    {A' : AAct} {H' : Heap} (h : (wantedA ops A o = some true ∧ stepA P s o A H = some (A', H')) ∨ (wantedA ops A o = some false ∧ A' = A.put o.dst undef ∧ H' = H)) {K : Act → World → Prop}
    (hK : ∀ ρ' a' w', Inv w0 ρ0 H0 ops (i :: D) (i :: (bAfter o ++ shut)) (listed.setIfInBounds i true) ρ' A' H' a' w' → K a' w') : wpOpIn (Fr rC) n P ops Q i K a w := by
  have hilt : i < listed.size := by rw [iv.lsize]; exact (Array.getElem?_eq_some_iff.1 hi).1
  have hset : (listed.setIfInBounds i true).getD i false = true := by simp [Array.getD_eq_getD_getElem?, hilt]
  have hunl : ∀ j, (listed.setIfInBounds i true).getD j false = false → i ≠ j ∧ listed.getD j false = false := by
    intro j hj
    have hne : i ≠ j := fun e => by subst e; rw [hset] at hj; cases hj
    exact ⟨hne, by rw [← getD_set_ne false hne]; exact hj⟩
  have hll := iv.looks hf hi hr
  have core : ∀ (ρ' : Ren) (v v' : Value) (w' : World) (H' : Heap), VR ρ' v v' → Gam w0 ρ' H' w' → Ext ρ ρ' H H' → (∀ a' w', Inv w0 ρ0 H0 ops (i :: D) (i :: (bAfter o ++ shut)) (listed.setIfInBounds i true) ρ' (A.put o.dst v) H' a' w' → K a' w') → K (a.put o.dst v') w' := by
    intro ρ' v v' w' H' hv g' ext' hK
    refine hK _ w' ⟨g', iv.ext.trans ext', iv.gb, by rw [csize_put, asize_put]; exact iv.size, ?_, ?_, by simpa using iv.lsize, ?_, ?_, ?_, ⟨⟨o, hi, fun p hp => iv.sub p (hr p hp)⟩, iv.topo⟩, ?_, ?_⟩
    · rw [cdefers_put, adefers_put]
      exact ⟨iv.defers.1, fun i D' e => let ⟨m, h1, h2⟩ := iv.defers.2 i D' e; ⟨m, ext'.le _ _ h1, h2⟩⟩
    · intro t ht
      rw [cslot_put, aslot_put, iv.size]
      by_cases e : o.dst = some t ∧ t < A.size
      · rw [if_pos e, if_pos e]; exact hv
      · rw [if_neg e, if_neg e]
        refine (iv.slot t ?_).mono ext'.le
        intro j oj hj huj hoj
        have hne : i ≠ j := fun e => hD (e ▸ hj)
        exact ht j oj (List.mem_cons_of_mem _ hj) (by rw [getD_set_ne false hne]; exact huj) hoj
    · intro j hj
      by_cases hij : i = j
      · exact hij ▸ List.mem_cons_self ..
      · exact List.mem_cons_of_mem _ (iv.sub j (by rw [← getD_set_ne false hij]; exact hj))
    · intro j oj hj hoj hmj
      rcases List.mem_cons.1 hj with rfl | hj
      · exact hset
      · exact getD_set_true (iv.maj j oj hj hoj hmj)
    · intro j oj hj hoj p hp
      by_cases hij : i = j
      · subst hij; rw [hi] at hoj; cases hoj; exact getD_set_true (hr p hp)
      · exact getD_set_true (iv.clL j oj (by rw [← getD_set_ne false hij]; exact hj) hoj p hp)
    · intro j hj
      rcases List.mem_cons.1 hj with rfl | hj
      · exact hset
      · rcases List.mem_append.1 hj with hj | hj
        · exact getD_set_true (hr j hj)
        · exact getD_set_true (iv.shutL j hj)
    · intro j oj d b hj huj hoj hal hd hbk
      obtain ⟨hij, huj⟩ := hunl j huj
      have hjD : j ∈ D := by
        rcases List.mem_cons.1 hj with e | hj
        · exact absurd e.symm hij
        · exact hj
      have hdne : o.dst ≠ some d := flow_dst hf hi hoj hij hd
      rw [aslot_put, if_neg (fun h => hdne h.1)] at hbk
      obtain ⟨h1, h2, h3⟩ := iv.pend j oj d b hjD huj hoj hal hd hbk
      exact ⟨(ext'.keep b h3 h1).1, h2, Nat.lt_of_lt_of_le h3 ext'.next⟩
  unfold wpOpIn
  simp only [hi]
  rcases h with ⟨hw, h⟩ | ⟨hw, rfl, rfl⟩
  · rw [if_pos (wanted_L hll hw)]
    refine stepA_L hs iv.gam hll h ?_
    rintro ρ' v v' w' hv rfl g' ext'
    exact core ρ' v v' w' H' hv g' ext' (fun a' w' => hK ρ' a' w')
  · rw [if_neg (by rw [wanted_L hll hw]; simp)]
    exact ⟨fun f _ => Fr_fn _ f, core ρ undef undef w _ (VR.undef _) iv.gam (.refl _ _) (fun a' w' => hK ρ a' w')⟩

theorem any_walk (hs : SelfS P w0 s) (hf : flowGood ops = true) {rC : Option Nat} {n : Nat} {Q : Exit → Act → World → Prop} {R : AAct × Heap} (hQ : ∀ a w, Fin w0 ρ0 H0 R.1 R.2 a w → Q .normal a w) : ∀ (fuel : Nat) {D shut : List Nat} {listed : Array Bool} {ρ : Ren} {A : AAct} {H : Heap} {a : Act} {w : World} {x : PItem} {rest : List PItem},
    x.stops = true → planGood ops (x :: rest) D shut = true → anyA P s ops (x :: rest) A H = some R → Inv w0 ρ0 H0 ops D shut listed ρ A H a w → listed.toList.count true + fuel = ops.size → wpAnyIn (Fr rC) n P .any ops Q fuel listed a w := by
  intro fuel
  induction fuel with
  | zero =>
    intro D shut listed ρ A H a w x rest hst hp h iv hc
    have hnil : Region.ready .any ops listed = [] := by
      have hall : ∀ b ∈ listed.toList, true = b := List.count_eq_length.1 (by have := iv.lsize; simp at hc ⊢; omega)
      refine List.eq_nil_iff_forall_not_mem.2 fun j hj => ?_
      obtain ⟨h0, o, hj, _⟩ := mem_ready.1 hj
      have hjlt : j < listed.size := by rw [iv.lsize]; exact (Array.getElem?_eq_some_iff.1 hj).1
      have := hall listed[j] (by simp)
      simp [Array.getD_eq_getD_getElem?, hjlt, ← this] at h0
    exact ⟨hnil, hQ _ _ (iv.done hst hp h hnil)⟩
  | succ fuel ih =>
    intro D shut listed ρ A H a w x rest hst hp h iv hc
    refine ⟨fun hnil => hQ _ _ (iv.done hst hp h hnil), fun i hi => ?_⟩
    obtain ⟨h0, o, hi, hr⟩ := mem_ready.1 hi
    have hr := bAfter_ready.1 hr
    have hilt : i < listed.size := by rw [iv.lsize]; exact (Array.getElem?_eq_some_iff.1 hi).1
    have hun : listed.getD i false = false := by simpa [Array.getD_eq_getD_getElem?, hilt] using h0
    have hcount : (listed.setIfInBounds i true).toList.count true + fuel = ops.size := by
      have hg : listed.toList[i]'(by simpa using hilt) = false := by simpa [Array.getD_eq_getD_getElem?, hilt] using h0
      rw [Array.toList_setIfInBounds, List.count_set (by simpa using hilt), hg]
      simp
      simp at hc
      omega
    by_cases hD : i ∈ D
    · -- laid ahead
      have hagain : ∀ again, (allStill P ops A H again = true) → (D.all (fun j => shut.contains j || again.contains j) = true) → ∀ j ∈ D, listed.getD j false = false → j ∈ again := by
        intro again _ hc j hj hu
        have := List.all_eq_true.1 hc j hj
        simp only [Bool.or_eq_true] at this
        rcases this with h | h
        · rw [iv.shutL j (by simpa using h)] at hu; cases hu
        · simpa using h
      have go : ∀ again, allStill P ops A H again = true → D.all (fun j => shut.contains j || again.contains j) = true → wpOpIn (Fr rC) n P ops Q i (wpAnyIn (Fr rC) n P .any ops Q fuel (listed.setIfInBounds i true)) a w := by
        intro again hall hcov
        have hmem := hagain again hall hcov
        simp only [allStill, Bool.and_eq_true] at hall
        refine iv.pending hf hi hD hun hr (stillSo_P (List.all_eq_true.1 hall.1 i (hmem i hD hun))) ?_ (fun ρ' a' w' iv' => ih hst hp h iv' hcount)
        intro j' o' d d' b hj' hne hu' ho' hal' hal hd' hd hbk
        have e1 : laid ops A i = some b := by simp [laid, hi, hal, hd, hbk]
        have := distinct_two (f := laid ops A) hall.2 (hmem i hD hun) (hmem j' hj' hu') (fun e => hne e.symm) e1
        simpa [laid, ho', hal', hd'] using this
      cases x with
      | minor _ => cases hst
      | major k again =>
        simp only [planGood] at hp
        have h' := h
        simp only [anyA] at h
        split at h
        · cases h
        rename_i hall
        cases hk : ops[k]? with
        | none => simp [hk] at hp
        | some ok =>
          simp only [hk, Bool.and_eq_true] at hp
          exact go again (by simpa using hall) hp.1.2
      | last again =>
        simp only [planGood, Bool.and_eq_true] at hp
        simp only [anyA] at h
        split at h
        · cases h
        rename_i hall
        exact go again (by simpa using hall) hp.2
    · cases x with
      | minor _ => cases hst
      | last again =>
        simp only [planGood, Bool.and_eq_true] at hp
        have := List.all_eq_true.1 hp.1 i (List.mem_range.2 (Array.getElem?_eq_some_iff.1 hi).1)
        exact absurd (by simpa using this) hD
      | major k again =>
        simp only [planGood] at hp
        simp only [anyA] at h
        split at h
        · cases h
        cases hk : ops[k]? with
        | none => simp [hk] at hp
        | some ok =>
          simp only [hk, Bool.and_eq_true, Bool.not_eq_true'] at hp h
          obtain ⟨⟨⟨⟨⟨h1, h2⟩, h3⟩, h4⟩, h5⟩, h6⟩ := hp
          have hik : i = k := by
            have := List.all_eq_true.1 h4 i (List.mem_range.2 (Array.getElem?_eq_some_iff.1 hi).1)
            simp only [hi, Option.map_some, Option.getD_some, Bool.or_eq_true, beq_iff_eq, Bool.not_eq_true'] at this
            rcases this with (e | e) | e
            · exact e
            · exact absurd (by simpa using e) hD
            · exfalso
              have : (bAfter o).all D.contains = true := List.all_eq_true.2 (fun p hp => by simpa using iv.sub p (hr p hp))
              rw [this] at e
              cases e
          subst hik
          rw [hi] at hk
          cases hk
          have fin : ∀ {A1 : AAct} {H1 : Heap}, ((wantedA ops A o = some true ∧ stepA P s o A H = some (A1, H1)) ∨ (wantedA ops A o = some false ∧ A1 = A.put o.dst undef ∧ H1 = H)) → anyA P s ops rest A1 H1 = some R → wpOpIn (Fr rC) n P ops Q i (wpAnyIn (Fr rC) n P .any ops Q fuel (listed.setIfInBounds i true)) a w := by
            intro A1 H1 hstep hrest
            refine iv.turn hs hf hi h1 hD hr hstep (fun ρ' a' w' iv' => ?_)
            obtain ⟨x', rest', D', A', H', q1, q2, q3, q4⟩ := run_minors hf rest h6 hrest iv'
            exact ih q1 q2 q3 q4 hcount
          cases hw : wantedA ops A o with
          | none => simp [hw] at h
          | some wb =>
            cases wb with
            | true =>
              simp only [hw] at h
              obtain ⟨⟨A1, H1⟩, e1, h⟩ := Option.bind_eq_some_iff.1 h
              exact fin (.inl ⟨hw, e1⟩) h
            | false =>
              simp only [hw] at h
              exact fin (.inr ⟨hw, rfl, rfl⟩) h

end walk

theorem gam_drew (g : Gam w0 ρ H w) : Gam w0 ρ H { w with drawn := w.drawn + 1 } :=
  ⟨g.gb, g.fresh, g.below.drew, g.own, g.glob, g.inj, fun i m o h1 h2 => (g.obj i m o h1 h2).mono ρ.le_refl (fun _ => rfl), g.gmap, g.pins, g.vars, g.itok,
    fun own rest hy => let ⟨m, F, h1, h2, h3⟩ := g.yld own rest hy; ⟨m, F, h1, g.itok.stable h2 rfl rfl rfl (Nat.le_refl _) (fun _ _ _ => rfl), h3⟩⟩

theorem anyA_sound (hs : SelfS P w0 s) (hmix : P.follows .mixedOrders = true) (g : Gam w0 ρ H w) {rC : Option Nat} {id : Nat} {ops : Array Oper} {A A' : AAct} {a : Act} {H' : Heap} (n : Nat) (ra : ActR ρ A a)
    (hgood : regionGood ops = true) (h : anyA P s ops (plan ops) A H = some (A', H')) : (Code.region id ops true).wpIn (Fr rC) n P (CodePost w0 ρ H .normal A' H') a w := by
  simp only [regionGood, Bool.and_eq_true] at hgood
  have iv : Inv w0 ρ H ops [] [] (Array.replicate ops.size false) ρ A H a { w with drawn := w.drawn + 1 } := by
    have hrep : ∀ j, (Array.replicate ops.size false).getD j false = false := by
      intro j
      simp only [Array.getD_eq_getD_getElem?, Array.getElem?_replicate]
      split <;> rfl
    exact ⟨gam_drew g, .refl _ _, g.gb, ra.size, ra.defers, fun t _ => ra.slot t, by simp, fun j hj => (by rw [hrep] at hj; cases hj), fun j o hj => (by cases hj), fun j o hj => (by rw [hrep] at hj; cases hj), trivial, fun j hj => (by cases hj), fun j o d b hj => (by cases hj)⟩
  obtain ⟨x, rest', D', A1, H1, q1, q2, q3, q4⟩ := run_minors hgood.2 (plan ops) hgood.1 h iv
  exact wpIn_region_any hmix (any_walk hs hgood.2 (R := (A', H')) (fun a w ⟨ρ', r1, r2, r3⟩ => ⟨rfl, ρ', r1, r2, r3⟩) ops.size q1 q2 q3 q4 (by simp [List.count_replicate]))

end Go.Abs

/- Code, functions, the whole evaluator: sound. -/
namespace Go.Abs
open Go.RowKit
variable {P : Program} {ρ : Ren} {w0 : Start P} {w : World} {H : Heap} {s : Self}

theorem enterable_run {g : FuncId} (h : enterable P g = true) (args : Array Value) (w : World) : (callFunc g args).run P w = .ok (.enter g args) w := by
  unfold enterable at h
  unfold callFunc
  have hprog : ∀ K : Program → Sem Next, Sem.run P (program >>= K) w = Sem.run P (K P) w := fun K => rfl
  rw [hprog]
  cases hf : P.funcs[g]? with
  | none => simp [hf] at h
  | some fn =>
    simp only [hf, Bool.and_eq_true, Bool.not_eq_true'] at h
    simp only [h.2, Bool.false_eq_true, if_false]
    have : fn.body.isNone = false := by
      cases hb : fn.body with
      | none => simp [hb] at h
      | some c => rfl
    simp only [this, Bool.false_eq_true, if_false]
    rfl

/-- The entry of a range over a function: the record is laid. -/
theorem enterA_sound (g : Gam w0 ρ H w) {r rC : Option Nat} {A : AAct} {a : Act} (rr : RoundR ρ r rC) (ra : ActR ρ A a) (fn : FuncId) (ps : Array Tmp) (assign body : Code) {x : Nat × List Nat × Heap} (h : enterA r H = some x) :
    ∃ (l : Nat) (mark : List Deferred) (w1 : World) (ρ1 : Ren) (m : Meta), (Instr.enterLoop fn a.tmps ps assign body rC).run P w = .ok (l, mark) w1 ∧ m.b = l ∧ ρ1 x.2.2.next = some m ∧
      Gam w0 ρ1 (x.2.2.new (.loop { state := .ready, pending := none, act := A, params := ps, assign, body, defers := x.1 })) w1 ∧ Ext ρ ρ1 H (x.2.2.new (.loop { state := .ready, pending := none, act := A, params := ps, assign, body, defers := x.1 })) ∧
      ActR ρ1 { A with defers := x.2.1 ++ A.defers } { a with defers := mark ++ a.defers } := by
  cases rr with
  | none =>
    simp only [enterA, Option.some.injEq] at h
    subst h
    have hrun := run_enterLoop_outer (P := P) (w := w) fn a.tmps ps assign body
    let mD : Meta := ⟨w.heap.size, 0, 0, false, 0, 0, by omega⟩
    obtain ⟨g1, ext1⟩ := g.new .deferred (.deferred (some [])) mD rfl (alloc_get _ _)
    have hD : (ρ.put H.next mD) H.next = some mD := by simp [Ren.put]
    let mL : Meta := ⟨(w.alloc (.deferred (some []))).heap.size, 0, 0, false, 0, 0, by omega⟩
    have hle2 := g1.le_put mL
    have lr : LoopR ((ρ.put H.next mD).put (H.new .deferred).next mL) { state := .ready, pending := none, act := A, params := ps, assign, body, defers := H.next } { state := .ready, pending := none, fn, tmps := a.tmps, params := ps, assign, body, defers := w.heap.size } :=
      ⟨rfl, rfl, ra.size, fun t => ((ra.slot t).mono ext1.le).mono hle2, rfl, rfl, rfl, mD, hle2 _ _ hD, rfl⟩
    obtain ⟨g2, ext2⟩ := g1.new (.loop { state := .ready, pending := none, act := A, params := ps, assign, body, defers := H.next }) (.loop { state := .ready, pending := none, fn, tmps := a.tmps, params := ps, assign, body, defers := w.heap.size }) mL rfl ⟨_, alloc_get _ _, lr⟩
    refine ⟨_, _, _, _, mL, hrun, by simp [mL], by simp [Ren.put], g2, ext1.trans ext2, ra.size, fun t => ((ra.slot t).mono ext1.le).mono hle2, ?_, ?_⟩
    · simp [ra.defers.1]
    · intro j D hj
      cases j with
      | zero =>
        simp only [List.cons_append, List.nil_append, List.getElem?_cons_zero, Option.some.injEq] at hj
        subst hj
        exact ⟨mD, hle2 _ _ hD, rfl⟩
      | succ j =>
        simp only [List.cons_append, List.nil_append, List.getElem?_cons_succ] at hj
        obtain ⟨m, h1, h2⟩ := ra.defers.2 j D hj
        exact ⟨m, hle2 _ _ (ext1.le _ _ h1), h2⟩
  | @some l0 m0 hm0 =>
    simp only [enterA] at h
    obtain ⟨r0, hr0, h⟩ := Option.bind_eq_some_iff.1 h
    simp only [Option.some.injEq] at h
    subst h
    obtain ⟨L0, hL0, rL0⟩ := g.obj l0 m0 _ hm0 (getLoop_get hr0)
    have hrun := run_enterLoop_inner (P := P) hL0 fn a.tmps ps assign body
    let mL : Meta := ⟨w.heap.size, 0, 0, false, 0, 0, by omega⟩
    have hle2 := g.le_put mL
    obtain ⟨md, hmd, hLd⟩ := rL0.defers
    have lr : LoopR (ρ.put H.next mL) { state := .ready, pending := none, act := A, params := ps, assign, body, defers := r0.defers } { state := .ready, pending := none, fn, tmps := a.tmps, params := ps, assign, body, defers := L0.defers } :=
      ⟨rfl, rfl, ra.size, fun t => (ra.slot t).mono hle2, rfl, rfl, rfl, md, hle2 _ _ hmd, hLd⟩
    obtain ⟨g2, ext2⟩ := g.new (.loop { state := .ready, pending := none, act := A, params := ps, assign, body, defers := r0.defers }) (.loop { state := .ready, pending := none, fn, tmps := a.tmps, params := ps, assign, body, defers := L0.defers }) mL rfl ⟨_, alloc_get _ _, lr⟩
    exact ⟨_, _, _, _, mL, hrun, rfl, by simp [Ren.put], g2, ext2, ra.size, fun t => (ra.slot t).mono hle2, by simpa using ra.defers.1, fun j D hj => by
      obtain ⟨m, h1, h2⟩ := ra.defers.2 j D (by simpa using hj)
      exact ⟨m, hle2 _ _ h1, by simpa using h2⟩⟩

theorem rangeA_sound (hs : SelfS P w0 s) (g : Gam w0 ρ H w) {r rC : Option Nat} {f : Operand} {ps : Array Tmp} {assign body : Code} {A : AAct} {a : Act} {e : Exit} {A' : AAct} {H' : Heap} (n : Nat) (rr : RoundR ρ r rC) (ra : ActR ρ A a)
    (h : rangeA P s r f ps assign body A H = some (e, A', H')) : (Code.rangeFunc f ps assign body).wpIn (Fr rC) n P (CodePost w0 ρ H e A' H') a w := by
  unfold rangeA at h
  obtain ⟨x, hx, h⟩ := Option.bind_eq_some_iff.1 h
  split at h
  case h_2 => cases h
  rename_i gf first captured ef
  split at h
  · cases h
  rename_i hen
  simp only [Bool.not_eq_false] at hen
  obtain ⟨⟨v, H3⟩, hcall, h⟩ := Option.bind_eq_some_iff.1 h
  obtain ⟨r3, hr3, h⟩ := Option.bind_eq_some_iff.1 h
  split at h
  · cases h
  rename_i hbusy
  refine wpIn_rangeFunc fun fn _ => ?_
  obtain ⟨l, mark, w1, ρ1, m, hrun, hml, hm, g1, ext1, ra1⟩ := enterA_sound (P := P) g rr ra fn ps assign body hx
  have hf := ra.eval f
  rw [ef] at hf
  obtain ⟨fv, hfv⟩ : ∃ fv, a.eval f = fv := ⟨_, rfl⟩
  rw [hfv] at hf
  cases hf with
  | func _ _ _ first' captured' ha hb rfa rfb =>
    have hfirst := (LR.of_arr ha rfa).mono ext1.le
    have hcapt := (LR.of_arr hb rfb).mono ext1.le
    have hres : (resolve a.eval (rangeCall f l) 0).run P w1 = .ok { target := .fn (.func gf) captured', args := first' ++ #[.func (.yield l) #[] #[]] } w1 := by
      have hmap : (#[Operand.const (Value.func (.yield l) #[] #[])]).map a.eval = #[Value.func (.yield l) #[] #[]] := by simp [Act.eval]
      simp only [resolve, hfv, Deferred.ofValue, hmap]
      rfl
    have hinv : (invoke (.fn (.func gf) captured') (first' ++ #[.func (.yield l) #[] #[]])).run P w1 = .ok (.enter gf (first' ++ #[.func (.yield l) #[] #[]] ++ captured')) w1 := enterable_run hen _ w1
    refine ⟨l, mark, w1, _, w1, gf, _, w1, by rw [Fr_round]; exact hrun, hres, fun f' _ => Fr_fn _ _, hinv, by rw [Fr_depth]; simp, ?_⟩
    have hargs : LR ρ1 (first ++ #[Value.func (.yield x.2.2.next) #[] #[]] ++ captured).toList (first' ++ #[Value.func (.yield l) #[] #[]] ++ captured').toList := by
      simp only [Array.toList_append]
      refine (hfirst.append (.cons ?_ .nil)).append hcapt
      rw [← hml]
      exact .yield _ m hm
    refine (Fr_calls (hs.call (n - 1) g1 hargs hcall)).mono ?_
    rintro e2 w3 ⟨ρ3, v', rfl, hv, g3, ext3⟩
    have hm3 := ext3.le _ _ hm
    obtain ⟨L3, hL3, rL3⟩ := g3.obj _ m _ hm3 (getLoop_get hr3)
    have hgl := getLoop_own hr3
    obtain ⟨g4, ext4⟩ := g3.putLoop hm3 hgl (getLoop_get hr3) (l' := { r3 with state := .exhausted }) (L' := { L3 with state := .exhausted }) ⟨rfl, rL3.pending, rL3.size, rL3.slot, rL3.params, rL3.assign, rL3.body, rL3.defers⟩
    have hend := run_endLoop (P := P) (hml ▸ hL3) (by rw [rL3.state]; exact hbusy)
    refine ⟨_, _, hend, ?_⟩
    have hpend : L3.pending = r3.pending := rL3.pending
    rw [hml] at g4
    have ra3 := ra1.mono ext3.le
    have extA := (ext1.trans ext3).trans ext4
    cases hp : r3.pending with
    | none =>
      have hpl : L3.pending = none := hpend.trans hp
      simp only [hp, Option.some.injEq, Prod.mk.injEq] at h
      obtain ⟨rfl, rfl, rfl⟩ := h
      simp only [hpl]
      refine ⟨rfl, ρ3, ra3, ?_, ?_⟩
      · simpa only [hp, hpl] using g4
      · simpa only [hp] using extA
    | some c =>
      have hpl : L3.pending = some c := hpend.trans hp
      simp only [hp] at h
      simp only [hpl]
      have g4' := g4
      simp only [hp, hpl] at g4'
      refine wpIn_mono (hs.code n g4' ((rr.mono ext1.le).mono ext3.le) ra3 h) ?_
      rintro e' a' w' ⟨rfl, ρ5, ra5, g5, ext5⟩
      refine ⟨rfl, ρ5, ra5, g5, Ext.trans ?_ ext5⟩
      simpa only [hp] using extA

theorem loopIn_mono {F : Fence} {n : Nat} {Q Q' : Exit → Act → World → Prop} {a : Act} {w : World} {c : Code} (h : LoopIn c F n P Q a w) (hq : ∀ e a w, Q e a w → Q' e a w) : LoopIn c F n P Q' a w :=
  fun b k cs hro hb hr => let ⟨e, a', w', q, r⟩ := h b k cs hro hb hr; ⟨e, a', w', hq _ _ _ q, r⟩
theorem loop_rounds {F : Fence} {n : Nat} {Q : Exit → Act → World → Prop} {a : Act} {w : World} {c : Code} (h : c.wpIn F n P (Exit.then (LoopIn c F n P Q) Q) a w) {b : Frame} {k : List Item} {cs : List Frame} {m : Machine} (hro : b.roundOf = F.round) (hb : F.fn b.fn) (hr : F.room (cs.length + 1 + n))
    (h0 : StepsIn (Machine.fenced P F) P m (lone (b.atR a (.code c :: .inLoop c :: k)) cs w)) : ∃ e a' w', Q e a' w' ∧ ArrivesIn (Machine.fenced P F) P m b k cs e a' w' := by
  obtain ⟨e, a₁, w₁, hq, harr⟩ := h b (.inLoop c :: k) cs hro hb hr
  cases e with
  | normal =>
    obtain ⟨e₂, a₂, w₂, hq₂, harr₂⟩ := hq b k cs hro hb hr
    exact ⟨e₂, a₂, w₂, hq₂, .of_steps (h0.trans harr) harr₂⟩
  | exit id => exact ⟨_, a₁, w₁, hq, .of_steps h0 (.pass (x := .inLoop c) rfl (fun _ _ => .inl (by simp)) harr)⟩
  | goto l => exact ⟨_, a₁, w₁, hq, .of_steps h0 (.pass (x := .inLoop c) rfl (fun _ _ => .inl (by simp)) harr)⟩
  | ret => exact ⟨_, a₁, w₁, hq, .of_steps h0 (.pass (x := .inLoop c) rfl (fun _ _ => .inl (by simp)) harr)⟩
  | panic ch => exact ⟨_, a₁, w₁, hq, .of_steps h0 (.pass (x := .inLoop c) rfl (fun _ _ => .inl (by simp)) harr)⟩
  | outgrown => exact ⟨_, a₁, w₁, hq, .of_steps h0 (.pass (x := .inLoop c) rfl (fun _ _ => .inl (by simp)) harr)⟩
theorem wpIn_loop_once {F : Fence} {n : Nat} {Q : Exit → Act → World → Prop} {a : Act} {w : World} {c : Code} (h : c.wpIn F n P (Exit.then (LoopIn c F n P Q) Q) a w) : (Code.loop c).wpIn F n P Q a w :=
  fun _ _ _ hro hb hr => loop_rounds h hro hb hr (.one (fenced_calm hb hr rfl) stepR_loop)
theorem loopIn_once {F : Fence} {n : Nat} {Q : Exit → Act → World → Prop} {a : Act} {w : World} {c : Code} (h : c.wpIn F n P (Exit.then (LoopIn c F n P Q) Q) a w) : LoopIn c F n P Q a w :=
  fun _ _ _ hro hb hr => loop_rounds h hro hb hr (.one (fenced_calm hb hr rfl) stepR_inLoop)

theorem codePost_trans {ρ' : Ren} {H1 : Heap} {e : Exit} {A' : AAct} {H' : Heap} {e' : Exit} {a' : Act} {w' : World} (ext : Ext ρ ρ' H H1) (h : CodePost w0 ρ' H1 e A' H' e' a' w') : CodePost w0 ρ H e A' H' e' a' w' := by
  obtain ⟨h1, ρ2, h2, h3, h4⟩ := h
  exact ⟨h1, ρ2, h2, h3, ext.trans h4⟩

theorem loop_body (hs : SelfS P w0 s) (n : Nat) {r rC : Option Nat} (body : Code) (ih : ∀ {ρ : Ren} {H : Heap} {w : World} {A : AAct} {a : Act} {e : Exit} {A' : AAct} {H' : Heap}, Gam w0 ρ H w → RoundR ρ r rC → ActR ρ A a →
    codeA P s r body A H = some (e, A', H') → body.wpIn (Fr rC) n P (CodePost w0 ρ H e A' H') a w) {ρ : Ren} {H : Heap} {w : World} {A : AAct} {a : Act} {e : Exit} {A' : AAct} {H' : Heap} (g : Gam w0 ρ H w) (rr : RoundR ρ r rC) (ra : ActR ρ A a)
    (h : codeA P s r (.loop body) A H = some (e, A', H')) : body.wpIn (Fr rC) n P (Exit.then (LoopIn body (Fr rC) n P (CodePost w0 ρ H e A' H')) (CodePost w0 ρ H e A' H')) a w := by
  simp only [codeA] at h
  obtain ⟨⟨e1, A1, H1⟩, h1, h⟩ := Option.bind_eq_some_iff.1 h
  have hb := ih g rr ra h1
  cases e1 with
  | normal =>
    simp only at h
    refine wpIn_mono hb ?_
    rintro e' a' w' ⟨rfl, ρ1, ra1, g1, ext1⟩
    exact loopIn_mono (hs.again n g1 (rr.mono ext1.le) ra1 h) (fun e a w hp => codePost_trans ext1 hp)
  | _ =>
    simp only [Option.some.injEq, Prod.mk.injEq] at h
    obtain ⟨rfl, rfl, rfl⟩ := h
    refine wpIn_mono hb ?_
    rintro e' a' w' ⟨rfl, ρ1, ra1, g1, ext1⟩
    exact ⟨rfl, ρ1, ra1, g1, ext1⟩

theorem codeA_sound (hs : SelfS P w0 s) (hmix : P.follows .mixedOrders = true) (n : Nat) {r rC : Option Nat} : ∀ (c : Code) {ρ : Ren} {H : Heap} {w : World} {A : AAct} {a : Act} {e : Exit} {A' : AAct} {H' : Heap}, Gam w0 ρ H w → RoundR ρ r rC → ActR ρ A a →
    codeA P s r c A H = some (e, A', H') → c.wpIn (Fr rC) n P (CodePost w0 ρ H e A' H') a w := by
  intro c
  induction c with
  | skip =>
    intro ρ H w A a e A' H' g rr ra h
    simp only [codeA, Option.some.injEq, Prod.mk.injEq] at h
    obtain ⟨rfl, rfl, rfl⟩ := h
    exact wpIn_skip ⟨rfl, ρ, ra, g, .refl _ _⟩
  | region id ops draw =>
    intro ρ H w A a e A' H' g rr ra h
    cases draw with
    | false =>
      simp only [codeA] at h
      obtain ⟨⟨A1, H1⟩, h1, h⟩ := Option.bind_eq_some_iff.1 h
      simp only [Option.some.injEq, Prod.mk.injEq] at h
      obtain ⟨rfl, rfl, rfl⟩ := h
      exact wpIn_region (opsA_sound hs _ g ra h1 (fun ρ' a' w' ra' g' ext => ⟨rfl, ρ', ra', g', ext⟩))
    | true =>
      simp only [codeA] at h
      split at h
      · rename_i hgood
        obtain ⟨⟨A1, H1⟩, h1, h⟩ := Option.bind_eq_some_iff.1 h
        simp only [Option.some.injEq, Prod.mk.injEq] at h
        obtain ⟨rfl, rfl, rfl⟩ := h
        exact anyA_sound hs hmix g n ra hgood h1
      · cases h
  | seq x y ihx ihy =>
    intro ρ H w A a e A' H' g rr ra h
    simp only [codeA] at h
    obtain ⟨⟨e1, A1, H1⟩, h1, h⟩ := Option.bind_eq_some_iff.1 h
    refine wpIn_seq (wpIn_mono (ihx g rr ra h1) ?_)
    rintro e' a' w' ⟨rfl, ρ1, ra1, g1, ext1⟩
    cases e' with
    | normal =>
      simp only at h
      exact wpIn_mono (ihy g1 (rr.mono ext1.le) ra1 h) (fun e a w hp => codePost_trans ext1 hp)
    | _ =>
      simp only [Option.some.injEq, Prod.mk.injEq] at h
      obtain ⟨rfl, rfl, rfl⟩ := h
      exact ⟨rfl, ρ1, ra1, g1, ext1⟩
  | cond c x y ihx ihy =>
    intro ρ H w A a e A' H' g rr ra h
    simp only [codeA] at h
    have hc := ra.eval c
    split at h
    · rename_i ec
      rw [ec] at hc
      exact wpIn_cond_true hc.bool_inv (ihx g rr ra h)
    · rename_i ec
      rw [ec] at hc
      exact wpIn_cond_false hc.bool_inv (ihy g rr ra h)
    · cases h
  | block id body ih =>
    intro ρ H w A a e A' H' g rr ra h
    simp only [codeA] at h
    obtain ⟨⟨e1, A1, H1⟩, h1, h⟩ := Option.bind_eq_some_iff.1 h
    refine wpIn_block (wpIn_mono (ih g rr ra h1) ?_)
    rintro e' a' w' ⟨rfl, ρ1, ra1, g1, ext1⟩
    cases e' with
    | exit id' =>
      simp only at h
      split at h
      · rename_i hid
        simp only [Option.some.injEq, Prod.mk.injEq] at h
        obtain ⟨rfl, rfl, rfl⟩ := h
        simp only [Exit.inBlock, hid, if_true]
        exact ⟨rfl, ρ1, ra1, g1, ext1⟩
      · rename_i hid
        simp only [Option.some.injEq, Prod.mk.injEq] at h
        obtain ⟨rfl, rfl, rfl⟩ := h
        simp only [Exit.inBlock, hid, if_false]
        exact ⟨rfl, ρ1, ra1, g1, ext1⟩
    | _ =>
      simp only [Option.some.injEq, Prod.mk.injEq] at h
      obtain ⟨rfl, rfl, rfl⟩ := h
      exact ⟨rfl, ρ1, ra1, g1, ext1⟩
  | loop body ih =>
    intro ρ H w A a e A' H' g rr ra h
    exact wpIn_loop_once (loop_body hs n body (fun g rr ra h => ih g rr ra h) g rr ra h)
  | rangeFunc f ps assign body _ _ =>
    intro ρ H w A a e A' H' g rr ra h
    simp only [codeA] at h
    exact rangeA_sound hs g n rr ra h
  | exit id =>
    intro ρ H w A a e A' H' g rr ra h
    simp only [codeA, Option.some.injEq, Prod.mk.injEq] at h
    obtain ⟨rfl, rfl, rfl⟩ := h
    exact wpIn_exit ⟨rfl, ρ, ra, g, .refl _ _⟩
  | label l =>
    intro ρ H w A a e A' H' g rr ra h
    simp only [codeA, Option.some.injEq, Prod.mk.injEq] at h
    obtain ⟨rfl, rfl, rfl⟩ := h
    exact wpIn_label ⟨rfl, ρ, ra, g, .refl _ _⟩
  | goto l =>
    intro ρ H w A a e A' H' g rr ra h
    simp only [codeA, Option.some.injEq, Prod.mk.injEq] at h
    obtain ⟨rfl, rfl, rfl⟩ := h
    exact wpIn_goto ⟨rfl, ρ, ra, g, .refl _ _⟩
  | ret =>
    intro ρ H w A a e A' H' g rr ra h
    simp only [codeA, Option.some.injEq, Prod.mk.injEq] at h
    obtain ⟨rfl, rfl, rfl⟩ := h
    exact wpIn_ret ⟨rfl, ρ, ra, g, .refl _ _⟩
  | scope body _ => intro ρ H w A a e A' H' g rr ra h; simp [codeA] at h
  | refuse why => intro ρ H w A a e A' H' g rr ra h; simp [codeA] at h

end Go.Abs

/- Functions, the whole evaluator: sound. -/
namespace Go.Abs
open Go.RowKit
variable {P : Program} {ρ : Ren} {w0 : Start P} {w : World} {H : Heap} {s : Self}

theorem ofArgs_get : ∀ (vs : List Value) (i : Nat) (t : Tree Value) (m : Nat), (AAct.ofArgs vs i t).get m = if i ≤ m ∧ m < i + vs.length then vs[m - i]? else t.get m
  | [], i, t, m => by
    have : ¬ (i ≤ m ∧ m < i + ([] : List Value).length) := by simp
    rw [if_neg this]; rfl
  | v :: vs, i, t, m => by
    rw [AAct.ofArgs, ofArgs_get vs (i + 1), Tree.get_set _ _ _ _ _ (by omega)]
    by_cases h1 : i + 1 ≤ m ∧ m < i + 1 + vs.length
    · rw [if_pos h1, if_pos (by simp; omega)]
      obtain ⟨k, hk⟩ : ∃ k, m - i = k + 1 := ⟨m - i - 1, by omega⟩
      rw [hk, List.getElem?_cons_succ, show m - (i + 1) = k by omega]
    · rw [if_neg h1]
      by_cases h2 : m = i
      · subst h2
        rw [if_pos rfl, if_pos (by simp)]
        simp
      · rw [if_neg h2, if_neg (by simp at h1 ⊢; omega)]

theorem initial_slot {args args' : Array Value} (ha : LR ρ args.toList args'.toList) (k : Nat) (t : Nat) :
    VR ρ (((AAct.ofArgs args.toList 0 .leaf).get t).getD undef) ((args' ++ Array.replicate (k - args'.size) undef).getD t undef) := by
  have hl : args.size = args'.size := by simpa using ha.length
  rw [ofArgs_get]
  have hgo : (args' ++ Array.replicate (k - args'.size) undef).getD t undef = (args'.toList[t]?).getD undef := by
    rw [Array.getD_eq_getD_getElem?, Array.getElem?_append]
    by_cases ht : t < args'.size
    · rw [if_pos ht]; simp
    · rw [if_neg ht, Array.getElem?_replicate]
      have : args'.toList[t]? = none := by simpa using ht
      rw [this]
      split <;> rfl
  rw [hgo]
  by_cases ht : t < args.size
  · rw [if_pos (by simpa using ht)]
    have h1 : args.toList[t - 0]? = some args[t] := by simp [ht]
    rw [h1]
    obtain ⟨v', h2, h3⟩ := ha.get (by simp : args.toList[t]? = some args[t])
    rw [h2]
    exact h3
  · rw [if_neg (by simpa using ht)]
    have : args'.toList[t]? = none := by simp; omega
    rw [this]
    exact VR.undef _
theorem initial_act {args args' : Array Value} (ha : LR ρ args.toList args'.toList) (k : Nat) :
    ActR ρ { tmps := AAct.ofArgs args.toList 0 .leaf, size := max args.size k, defers := [] } { tmps := args' ++ Array.replicate (k - args'.size) undef, defers := [] } := by
  have hl : args.size = args'.size := by simpa using ha.length
  exact ⟨by simp; omega, fun t => initial_slot ha k t, rfl, fun j D e => by simp at e⟩

theorem leaves_R {F : Fence} {n : Nat} {fn : Func} {tmps : Array Value} {R : Ending → World → Prop} : ∀ (ds : List Nat) (ds' : List Deferred) {H H2 : Heap} {w : World}, takeA ds H = some H2 → Gam w0 ρ H w →
    (ds'.length = ds.length ∧ ∀ (j : Nat) (D : Nat), ds[j]? = some D → ∃ m, ρ D = some m ∧ ds'[j]? = some { target := .collected m.b, args := #[] }) →
    (∀ w2, Gam w0 ρ H2 w2 → Ext ρ ρ H H2 → LeavesIn F n P fn tmps R [] .returning w2) → LeavesInM F n P fn tmps R ds' .returning w := by
  intro ds
  induction ds with
  | nil =>
    intro ds' H H2 w ht g hd K
    have : ds' = [] := List.length_eq_zero_iff.1 (by simpa using hd.1)
    subst this
    simp only [takeA, Option.some.injEq] at ht
    subst ht
    exact K w g (.refl _ _)
  | cons D ds ih =>
    intro ds' H H2 w ht g hd K
    cases ds' with
    | nil => simp at hd
    | cons d ds' =>
      obtain ⟨m, hm, hdm⟩ := hd.2 0 D rfl
      simp only [List.getElem?_cons_zero, Option.some.injEq] at hdm
      subst hdm
      simp only [takeA] at ht
      split at ht
      · cases ht
      rename_i hge
      split at ht
      case h_2 => cases ht
      rename_i ho
      have hobj : w.heap[m.b]? = some (.deferred (some [])) := g.obj D m _ hm ho
      have hlt : m.b < w.heap.size := (g.own D m hm).1
      obtain ⟨g2, ext2⟩ := g.update (o' := .taken) (w' := w.putObj m.b (.deferred none)) hm (by omega) ho rfl (by simp [World.putObj]) (fun k hk => World.putObj_heap_other (by omega)) rfl rfl rfl trivial
      refine ⟨by simp, .inl ⟨m.b, _, rfl, run_takeDeferred hobj, ?_⟩⟩
      refine ih ds' ht g2 ⟨by simpa using hd.1, fun j D' hj => ?_⟩ (fun w2 g3 ext3 => K w2 g3 (ext2.trans ext3))
      obtain ⟨m', h1, h2⟩ := hd.2 (j + 1) D' (by simpa using hj)
      exact ⟨m', h1, by simpa using h2⟩

def resultOf (P : Program) (H : Heap) (A : AAct) : ResultVar → Option Value
  | .tmp t => some (A.slot t)
  | .cell a t => loadA P H t (A.slot a)

theorem loadA_pointer {t : TypeId} {p v : Value} (h : loadA P H t p = some v) : ∃ a, p = .pointer (some a) := by
  unfold loadA at h
  split at h <;> first
    | exact ⟨_, rfl⟩
    | cases h

theorem resultOf_run (g : Gam w0 ρ H w) {A : AAct} {a : Act} (ra : ActR ρ A a) (x : ResultVar) {v : Value} (h : resultOf P H A x = some v) :
    ∃ v', VR ρ v v' ∧ (match x with | .tmp t => (pure (a.tmps.getD t undef) : Sem Value) | .cell b t => do loadVar t (← asAddr (a.tmps.getD b undef))).run P w = .ok v' w := by
  cases x with
  | tmp t =>
    simp only [resultOf, Option.some.injEq] at h
    subst h
    exact ⟨_, ra.slot t, rfl⟩
  | cell b t =>
    simp only [resultOf] at h
    obtain ⟨v', hv, hrun⟩ := loadA_sound (P := P) g (ra.slot b) h
    refine ⟨v', hv, ?_⟩
    obtain ⟨ad, had⟩ := loadA_pointer h
    have hp := ra.slot b
    rw [had] at hp
    obtain ⟨pv, hpv⟩ : ∃ pv, a.tmps.getD b undef = pv := ⟨_, rfl⟩
    rw [hpv] at hp hrun
    simp only [hpv]
    cases hp
    all_goals simpa [Instr.loadAt, asAddr, Instr.sureAddr, Sem.run_bind] using hrun

theorem results_list (g : Gam w0 ρ H w) {A : AAct} {a : Act} (ra : ActR ρ A a) : ∀ (xs : List ResultVar) {vs : List Value}, xs.mapM (resultOf P H A) = some vs →
    ∃ vs', LR ρ vs vs' ∧ (xs.mapM (m := Sem) fun | .tmp t => pure (a.tmps.getD t undef) | .cell b t => do loadVar t (← asAddr (a.tmps.getD b undef))).run P w = .ok vs' w
  | [], vs, h => by
    simp only [List.mapM_nil, Option.pure_def, Option.some.injEq] at h
    subst h
    exact ⟨[], .nil, rfl⟩
  | x :: xs, vs, h => by
    simp only [List.mapM_cons, Option.bind_eq_bind] at h
    obtain ⟨v, hv, h⟩ := Option.bind_eq_some_iff.1 h
    obtain ⟨vs1, hvs, h⟩ := Option.bind_eq_some_iff.1 h
    simp only [Option.pure_def, Option.some.injEq] at h
    subst h
    obtain ⟨v', r1, h1⟩ := resultOf_run g ra x hv
    obtain ⟨vs', r2, h2⟩ := results_list g ra xs hvs
    refine ⟨v' :: vs', .cons r1 r2, ?_⟩
    rw [List.mapM_cons, Sem.run_bind, h1]
    simp only [Result.andThen]
    rw [Sem.run_bind, h2]
    rfl

theorem resultsA_sound (g : Gam w0 ρ H w) {A : AAct} {a : Act} (ra : ActR ρ A a) {fn : Func} {v : Value} (h : resultsA P H fn A = some v) :
    ∃ v', VR ρ v v' ∧ (results fn a.tmps).run P w = .ok v' w := by
  unfold resultsA at h
  obtain ⟨vs, hvs, h⟩ := Option.bind_eq_some_iff.1 h
  have e : (fun x : ResultVar => match x with | .tmp t => some (A.slot t) | .cell b t => loadA P H t (A.slot b)) = resultOf P H A := by funext x; cases x <;> rfl
  have hvs : fn.results.toList.mapM (resultOf P H A) = some vs := by rw [← e]; exact hvs
  obtain ⟨vs', r, hrun⟩ := results_list (P := P) g ra _ hvs
  unfold results
  rw [Array.mapM_eq_mapM_toList, Sem.run_bind, Sem.run_map]
  erw [hrun]
  have hlen := r.length
  simp only [Result.andThen]
  split at h
  · rename_i u
    simp only [Option.some.injEq] at h
    subst h
    match vs', r with
    | [u'], .cons hu .nil => exact ⟨u', hu, rfl⟩
  · rename_i hne
    simp only [Option.some.injEq] at h
    subst h
    have h1 : vs'.toArray.size ≠ 1 := by
      intro e
      have : vs.length = 1 := by simpa [hlen] using e
      obtain ⟨u, rfl⟩ := List.length_eq_one_iff.1 this
      exact hne u rfl
    refine ⟨.tuple vs'.toArray, ?_, by simp only [h1, dite_false]; rfl⟩
    exact VR.tuple' (by simpa using r)

theorem callBody_sound (hs : SelfS P w0 s) (g : Gam w0 ρ H w) {f : FuncId} {args args' : Array Value} {v : Value} {H' : Heap} (n : Nat) (ha : LR ρ args.toList args'.toList) (h : callBody P s f args H = some (v, H')) :
    CallsIn Fence.wide n P f args' w (CallPost w0 ρ H v H') := by
  unfold callBody at h
  split at h
  case h_2 => cases h
  rename_i fn hf
  split at h
  case h_2 => cases h
  rename_i c hb
  obtain ⟨⟨e, A, H1⟩, h1, h⟩ := Option.bind_eq_some_iff.1 h
  refine callsIn_of_wp_marks hf hb trivial ?_
  refine wpIn_mono (hs.code (rC := none) n g .none (initial_act ha fn.ntmps) h1) ?_
  rintro e' a' w' ⟨rfl, ρ1, ra1, g1, ext1⟩
  have fin : ∀ {u : Value} {H2 : Heap}, takeA A.defers H1 = some H2 → resultsA P H2 fn A = some u → LeavesInM Fence.wide n P fn a'.tmps (CallPost w0 ρ H u H2) a'.defers .returning w' := by
    intro u H2 ht hr
    refine leaves_R A.defers a'.defers ht g1 ra1.defers (fun w2 g2 ext2 => ?_)
    obtain ⟨v', hv, hrun⟩ := resultsA_sound g2 ra1 hr
    exact ⟨v', hrun, ρ1, v', rfl, hv, g2, ext1.trans ext2⟩
  cases e' with
  | normal =>
    simp only at h
    obtain ⟨H2, ht, h⟩ := Option.bind_eq_some_iff.1 h
    obtain ⟨u, hu, h⟩ := Option.bind_eq_some_iff.1 h
    simp only [Option.some.injEq, Prod.mk.injEq] at h
    obtain ⟨rfl, rfl⟩ := h
    exact fin ht hu
  | ret =>
    simp only at h
    obtain ⟨H2, ht, h⟩ := Option.bind_eq_some_iff.1 h
    obtain ⟨u, hu, h⟩ := Option.bind_eq_some_iff.1 h
    simp only [Option.some.injEq, Prod.mk.injEq] at h
    obtain ⟨rfl, rfl⟩ := h
    exact fin ht hu
  | _ => cases h

theorem evalN_sound (hmix : P.follows .mixedOrders = true) : ∀ n, SelfS P w0 (evalN P n)
  | 0 => ⟨fun n _ _ h => by simp [evalN] at h, fun n _ _ _ h => by simp [evalN] at h, fun n _ _ _ h => by simp [evalN] at h⟩
  | k + 1 => ⟨fun n g ha h => callBody_sound (evalN_sound hmix k) g n ha h, fun n g rr ra h => codeA_sound (evalN_sound hmix k) hmix n _ g rr ra h,
      fun n g rr ra h => loopIn_once (loop_body (evalN_sound hmix k) n _ (fun g rr ra h => codeA_sound (evalN_sound hmix k) hmix n _ g rr ra h) g rr ra h)⟩

/-- A closed call, whatever the tape. -/
theorem callN_sound (hmix : P.follows .mixedOrders = true) {n : Nat} {f : FuncId} {v : Value} {H' : Heap} (h : callN P n f #[] ⟨.leaf, gbase⟩ = some (v, H')) (w : World) (hgood : GoodW P w) :
    Calls P f #[] w fun e w' => (∃ ρ v', e = .returned v' ∧ VR ρ v v') ∧ Below w.heap.size w w' := by
  have g0 : Gam (.of P w fun _ => none) (fun _ => none) ⟨.leaf, gbase⟩ w := ⟨Nat.le_refl _, fun _ _ => rfl, .refl _, fun _ _ h => by simp at h, fun _ _ h => by simp at h, fun _ _ _ _ _ _ _ h => by simp at h, fun _ _ _ h => by simp at h, fun i _ h => absurd rfl h, fun _ _ _ _ h => h, vars_still hgood (still_of fun _ _ _ => rfl), Start.quiet.ok (quiet_of _ _), fun _ _ h => by cases h⟩
  have := (evalN_sound (w0 := .of P w fun _ => none) hmix n).call 0 g0 (args := #[]) (args' := #[]) .nil h
  refine callsIn_wide.1 (this.mono ?_)
  rintro e w' ⟨ρ', v', rfl, hv, g', ext'⟩
  exact ⟨⟨ρ', v', rfl, hv⟩, g'.below.below (still_of fun _ _ _ => rfl)⟩

#print axioms callN_sound
end Go.Abs

/- What is left to show of code that is walked with the evaluator's states: definitions. -/
namespace Go.Abs

/-- A choice by a bool of which nothing need be known. -/
def bcase (b : Bool) (x y : Prop) : Prop := match b with | true => x | false => y
theorem bcase_intro {b : Bool} {x y : Prop} (h1 : b = true → x) (h2 : b = false → y) : bcase b x y := by cases b <;> simp_all [bcase]

/-- The scalar parts of a type, in their order. -/
inductive Sc where
  | int (k : IntKind)
  | bool
  | str
  | sl (es : Nat)

def scal (P : Program) : Nat → TypeId → Option (List Sc)
  | 0, _ => none
  | n + 1, t =>
    match P.underlying t with
    | some (.int k) => some [.int k]
    | some .bool => some [.bool]
    | some .string => some [.str]
    | some (.slice e) => (sizeP P e).map fun s => [.sl s]
    | some (.struct fs) => (fs.toList.mapM fun f => scal P n f.type).map List.flatten
    | some (.array k e) => (scal P n e).map fun l => (List.replicate k l).flatten
    | _ => none

/-- Some values of these kinds, with their data, laid in the heap. -/
def someScal : List Sc → Heap → (List D → List Value → Heap → Prop) → Prop
  | [], H, k => k [] [] H
  | .int kd :: r, H, k => ∃ n : Int, someScal r H fun ds vs H' => k (.val (.int kd n) :: ds) (.int kd n :: vs) H'
  | .bool :: r, H, k => (someScal r H fun ds vs H' => k (.val (.bool true) :: ds) (.bool true :: vs) H') ∨ (someScal r H fun ds vs H' => k (.val (.bool false) :: ds) (.bool false :: vs) H')
  | .str :: r, H, k => ∃ s : ByteArray, someScal r H fun ds vs H' => k (.val (.string s) :: ds) (.string s :: vs) H'
  | .sl es :: r, H, k => (someScal r H fun ds vs H' => k (.nil :: ds) (.slice none 0 0 :: vs) H') ∨
      (∃ (n : Nat) (cs : List Value), someScal r (H.new (.sym cs true es)) fun ds vs H' => k (.sl n es cs :: ds) (.slice (some ⟨H.next, 0, none⟩) n n :: vs) H')
/-- The same, with open bools (for the parts of structs and arrays). -/
def someScalB : List Sc → Heap → (List D → List Value → Heap → Prop) → Prop
  | [], H, k => k [] [] H
  | .int kd :: r, H, k => ∃ n : Int, someScalB r H fun ds vs H' => k (.val (.int kd n) :: ds) (.int kd n :: vs) H'
  | .bool :: r, H, k => ∃ b : Bool, someScalB r H fun ds vs H' => k (.val (.bool b) :: ds) (.bool b :: vs) H'
  | .str :: r, H, k => ∃ s : ByteArray, someScalB r H fun ds vs H' => k (.val (.string s) :: ds) (.string s :: vs) H'
  | .sl es :: r, H, k => (someScalB r H fun ds vs H' => k (.nil :: ds) (.slice none 0 0 :: vs) H') ∨
      (∃ (n : Nat) (cs : List Value), someScalB r (H.new (.sym cs true es)) fun ds vs H' => k (.sl n es cs :: ds) (.slice (some ⟨H.next, 0, none⟩) n n :: vs) H')
def someVal (P : Program) (t : TypeId) (H : Heap) (k : D → Value → Heap → Prop) : Prop :=
  match scal P 8 t with
  | none => False
  | some l =>
    match isAggP P t with
    | some true => someScalB l H fun ds vs H' => k (.agg ds) (.agg vs.toArray) H'
    | _ => someScal l H fun ds vs H' => match ds, vs with | [d], [v] => k d v H' | _, _ => False
def someVals (P : Program) : List TypeId → Heap → (List D → List Value → Heap → Prop) → Prop
  | [], H, k => k [] [] H
  | t :: r, H, k => someVal P t H fun d v H' => someVals P r H' fun ds vs H'' => k (d :: ds) (v :: vs) H''
def tupleOf : List Value → Value
  | [v] => v
  | vs => .tuple vs.toArray

/-- The data of values that hold no struct. -/
def readCells (H : Heap) : List Value → (List D → Prop) → Prop
  | [], k => k []
  | v :: r, k =>
    match v with
    | .slice none 0 0 => readCells H r fun ds => k (.nil :: ds)
    | .slice (some ⟨i, o, none⟩) len _ =>
      match H.get i with
      | some (.sym cs _ es) => bcase (decide (o + len * es ≤ cs.length)) (readCells H r fun ds => k (.sl len es ((cs.drop o).take (len * es)) :: ds)) False
      | some (.cells cs _ _ es) => bcase (decide (o + len * es ≤ cs.length)) (bcase (((cs.drop o).take (len * es)).all cellP) (readCells H r fun ds => k (.sl len es ((cs.drop o).take (len * es)) :: ds)) False) False
      | _ => False
    | v => if plain 8 v then readCells H r fun ds => k (.val v :: ds) else False
/-- The data of values. -/
def readVals (H : Heap) : List Value → (List D → Prop) → Prop
  | [], k => k []
  | .agg cs :: r, k => readCells H cs.toList fun ds => readVals H r fun rs => k (.agg ds :: rs)
  | v :: r, k => readCells H [v] fun ds => readVals H r fun rs => k (ds ++ rs)

/-- Data are laid in the blocks that a call is handed. -/
def layCells (caps : Nat → Nat) : Nat → List D → List Value × List (Nat × AObj)
  | _, [] => ([], [])
  | i, .sl n es cs :: r => (.slice (some ⟨i, 0, none⟩) n (caps i) :: (layCells caps (i + 1) r).1, (i, .sym cs false es) :: (layCells caps (i + 1) r).2)
  | i, .nil :: r => (.slice none 0 0 :: (layCells caps i r).1, (layCells caps i r).2)
  | i, .val v :: r => (v :: (layCells caps i r).1, (layCells caps i r).2)
  | i, .agg _ :: r => (unknown :: (layCells caps i r).1, (layCells caps i r).2)
def countC : List D → Nat
  | [] => 0
  | .sl _ _ _ :: r => countC r + 1
  | _ :: r => countC r
def layVals (caps : Nat → Nat) : Nat → List D → List Value × List (Nat × AObj)
  | _, [] => ([], [])
  | i, .agg ds :: r => (.agg (layCells caps i ds).1.toArray :: (layVals caps (i + countC ds) r).1, (layCells caps i ds).2 ++ (layVals caps (i + countC ds) r).2)
  | i, d :: r => ((layCells caps i [d]).1 ++ (layVals caps (i + countC [d]) r).1, (layCells caps i [d]).2 ++ (layVals caps (i + countC [d]) r).2)
def countV : List D → Nat
  | [] => 0
  | .agg ds :: r => countC ds + countV r
  | d :: r => countC [d] + countV r

/-! ### What is kept at a loop -/
def blocksV : Nat → Value → List Nat
  | 0, _ => []
  | n + 1, v =>
    match v with
    | .pointer (some ⟨i, _, _⟩) | .slice (some ⟨i, _, _⟩) _ _ | .map (some i) => [i]
    | .agg cs | .tuple cs => cs.toList.flatMap (blocksV n)
    | .func (.yield l) _ _ => [l]
    | .func _ a b => a.toList.flatMap (blocksV n) ++ b.toList.flatMap (blocksV n)
    | .iface _ x => blocksV n x
    | _ => []
def blocksO : AObj → List Nat
  | .cells cs _ _ _ => cs.flatMap (blocksV 8)
  | .map es _ => es.flatMap fun e => blocksV 8 e.val
  | _ => []
abbrev Mu := List (Nat × Nat)
def Mu.find : Mu → Nat → Option Nat
  | [], _ => none
  | (a, b) :: r, i => if a = i then some b else Mu.find r i
def mapV (μ : Mu) : Nat → Value → Value
  | 0, _ => unknown
  | n + 1, v =>
    match v with
    | .pointer (some ⟨i, k, none⟩) => match μ.find i with | some j => .pointer (some ⟨j, k, none⟩) | none => unknown
    | .slice (some ⟨i, k, none⟩) l c => match μ.find i with | some j => .slice (some ⟨j, k, none⟩) l c | none => unknown
    | .map (some i) => match μ.find i with | some j => .map (some j) | none => unknown
    | .agg cs => .agg (cs.toList.map (mapV μ n)).toArray
    | .tuple cs => .tuple (cs.toList.map (mapV μ n)).toArray
    | .func (.func f) a b => .func (.func f) (a.toList.map (mapV μ n)).toArray (b.toList.map (mapV μ n)).toArray
    | .func (.yield l) _ _ => match μ.find l with | some j => .func (.yield j) #[] #[] | none => unknown
    | .iface t x => .iface t (mapV μ n x)
    | .bool _ | .int _ _ | .float _ _ | .complex _ _ _ | .string _ | .nilFunc | .nilIface | .pointer none | .slice none _ _ | .map none => v
    | _ => unknown
def mapO (μ : Mu) : AObj → Option AObj
  | .cells cs ty o es => some (.cells (cs.map (mapV μ 8)) ty o es)
  | .sym cs o es => some (.sym cs o es)
  | .map es c => if es.all (fun e => plain 1 e.key) then some (.map (es.map fun e => { e with val := mapV μ 8 e.val }) c) else none
  | .deferred => some .deferred
  | .taken => some .taken
  | .yld own r => some (.yld own r)
  | _ => none
/-- The blocks that are reached, each with its new number. -/
def reach (H : Heap) : Nat → List Nat → Mu → Nat → Mu
  | 0, _, μ, _ => μ
  | _, [], μ, _ => μ
  | f + 1, i :: work, μ, next =>
    match μ.find i with
    | some _ => reach H f work μ next
    | none =>
      match H.get i with
      | none => reach H f work μ next
      | some o => if i < gbase then reach H f (work ++ blocksO o) (μ ++ [(i, i)]) next else reach H f (work ++ blocksO o) (μ ++ [(i, next)]) (next + 1)
abbrev Slots := List (Tmp × Value)
abbrev Blocks := List (Nat × AObj)
def blank (sz : Nat) : Tree Value := (List.range sz).foldl (fun t k => t.set (k + 1) k unknown) .leaf
/-- From here on a slot's number stands for a mark of deferred calls. -/
def dbase : Nat := 1000000
def markOf (p : Tmp × Value) : Option Nat := if p.1 < dbase then none else match p.2 with | .map (some D) => some D | _ => none
def defOf (l : Slots) : List Nat := l.filterMap markOf
def actOf (sz : Nat) (l : Slots) : AAct := { tmps := l.foldl (fun t (p : Tmp × Value) => if p.1 < dbase then t.set (p.1 + 1) p.1 p.2 else t) (blank sz), size := sz, defers := defOf l }
def heapOf (bs : Blocks) : Heap := { tree := bs.foldl (fun t (p : Nat × AObj) => t.set (p.1 + 1) p.1 p.2) .leaf, next := gbase + (bs.filter fun p => gbase ≤ p.1).length }
def gcS (μ : Mu) (keep : List Tmp) (A : AAct) : Slots := (keep.map fun k => (k, mapV μ 8 (A.slot k))) ++ A.defers.map fun D => (dbase, mapV μ 8 (.map (some D)))
def gcB (H : Heap) : Mu → Mu → Blocks
  | _, [] => []
  | μ, p :: r => match (H.get p.1).bind (mapO μ) with | some o => (p.2, o) :: gcB H μ r | none => gcB H μ r
def nodupB : List Nat → Bool
  | [] => true
  | x :: l => !l.contains x && nodupB l
/-- The numbers are changed one to one, and those of what was handed stay. -/
def gcGood (μ : Mu) (b : Blocks) : Bool :=
  nodupB (μ.map (·.1)) && nodupB (μ.map (·.2)) && μ.all fun p => if p.1 < gbase then p.2 == p.1 else decide (gbase ≤ p.2) && decide (p.2 < (heapOf b).next)
/-- Marks have their places. -/
def gcDef (μ : Mu) (keep : List Tmp) (A : AAct) : Bool := keep.all (fun k => decide (k < dbase)) && A.defers.all fun D => (μ.find D).isSome
def gcAll (μ : Mu) (keep : List Tmp) (A : AAct) (b : Blocks) : Bool := gcGood μ b && gcDef μ keep A
/-- The blocks that were handed to be written stay. -/
def mroots (H : Heap) : List Nat := ((List.range 16).map (mbase + ·)).filter fun i => (H.get i).isSome
def gcMu (keep : List Tmp) (A : AAct) (H : Heap) : Mu := reach H 1000 ((keep.flatMap fun k => blocksV 8 (A.slot k)) ++ mroots H ++ A.defers) [] gbase

/-! ### Which slots are read later -/
def uni (a b : List Tmp) : List Tmp := a.filter (fun x => !b.contains x) ++ b
def insert1 (x : Tmp) : List Tmp → List Tmp
  | [] => [x]
  | y :: l => if x < y then x :: y :: l else if x = y then y :: l else y :: insert1 x l
def sortT (l : List Tmp) : List Tmp := l.foldr insert1 []
def tmpsOf (l : List Operand) : List Tmp := l.filterMap fun | .tmp t => some t | _ => none
def liveOp (ops : Array Oper) (o : Oper) (out : List Tmp) : List Tmp :=
  uni (looks ops o) (match o.dst with | some d => out.filter (· != d) | none => out)
structure Lv where
  normal : List Tmp
  ret : List Tmp
  exits : List (Nat × List Tmp)
def findX : List (Nat × List Tmp) → Nat → List Tmp
  | [], _ => []
  | (a, b) :: r, i => if a = i then b else findX r i
def Lv.exit (l : Lv) (id : Nat) : List Tmp := findX l.exits id
def liveIn : Code → Lv → List Tmp
  | .skip, L => L.normal
  | .region _ ops _, L => ops.toList.foldr (liveOp ops) L.normal
  | .seq x y, L => liveIn x { L with normal := liveIn y L }
  | .cond c x y, L => uni (tmpsOf [c]) (uni (liveIn x L) (liveIn y L))
  | .block id b, L => liveIn b { L with exits := (id, L.normal) :: L.exits }
  | .loop b, L =>
    let l1 := liveIn b { L with normal := [] }
    let l2 := liveIn b { L with normal := l1 }
    uni l1 l2
  | .rangeFunc f ps a b, L => uni (tmpsOf [f]) (uni L.normal (uni ((liveIn a { L with normal := liveIn b L }).filter fun t => !ps.contains t) L.ret))
  | .exit id, L => L.exit id
  | .ret, L => L.ret
  | _, L => L.normal

/-! ### What is left to show -/
/-- Calls that are met: what must be shown of one. -/
abbrev Handler := FuncId → Array Value → Array TypeId → Heap → (Value → Heap → Prop) → Prop
/-- Loops that are met: what must be shown at the head. -/
abbrev AtLoop := Nat → Slots → Blocks → Prop
/-- (the data of a contract; a wrapper that is not unfolded) -/
structure Says (C : FuncId → List D → List D → Prop) (g : FuncId) (ds rs : List D) : Prop where
  out : C g ds rs

def wpVal (v : Value) (k : Value → Prop) : Prop :=
  match v with
  | .bool b => bcase b (k (.bool true)) (k (.bool false))
  | .int j n => k (.int j n)
  | .string s => k (.string s)
  | .agg cs => k (.agg cs)
  | .tuple cs => k (.tuple cs)
  | .pointer a => k (.pointer a)
  | .slice a l c => k (.slice a l c)
  | .func f a b => k (.func f a b)
  | .map r => k (.map r)
  | v => k v

/-- Cells of a list, from a place on. -/
structure At (cs : List Value) (k n : Nat) (row : List Value) : Prop where
  len : k + n ≤ cs.length
  eq : (cs.drop k).take n = row
/-- Values of kinds, whatever they are, that a list has from a place on. -/
def rowOf : List Sc → (List Value → Prop) → Prop
  | [], k => k []
  | .int kd :: r, k => ∃ n : Int, rowOf r fun vs => k (.int kd n :: vs)
  | .bool :: r, k => (rowOf r fun vs => k (.bool true :: vs)) ∨ (rowOf r fun vs => k (.bool false :: vs))
  | .str :: r, k => ∃ s : ByteArray, rowOf r fun vs => k (.string s :: vs)
  | .sl _ :: _, _ => False
def wpLoad (P : Program) (H : Heap) (t : TypeId) (p : Value) (k : Value → Prop) : Prop :=
  match p with
  | .pointer (some ⟨i, off, none⟩) =>
    match H.get i with
    | some (.sym cs _ _) =>
      match scal P 8 t, isAggP P t with
      | some l, some true => if sizeP P t = some l.length then rowOf l fun vs => At cs off l.length vs ∧ k (.agg vs.toArray) else False
      | some [s], some false => rowOf [s] fun vs => At cs off 1 vs ∧ k (vs.headD undef)
      | _, _ => False
    | some (.cells _ _ _ _) => match loadA P H t p with | some v => wpVal v k | none => False
    | _ => False
  | _ => False
def wpIndexAddr (P : Program) (t : TypeId) (x ix : Value) (k : Value → Prop) : Prop :=
  match x, ix with
  | .slice (some ⟨i, o, none⟩) len _, .int _ n =>
    match P.underlying t with
    | some (.slice e) => match sizeP P e with | some es => bcase (decide (0 ≤ n)) (bcase (decide (n < len)) (k (.pointer (some ⟨i, o + n.toNat * es, none⟩))) False) False | none => False
    | _ => False
  | .pointer _, .int _ _ => match pureRun P (Instr.indexAt t x ix) with | some v => k v | none => False
  | _, _ => False
/-- A byte of a string. -/
structure ByteAt (s : ByteArray) (i : Nat) (b : UInt8) : Prop where
  out : s[i]? = some b
def wpIndex (P : Program) (t : TypeId) (x ix : Value) (k : Value → Prop) : Prop :=
  match x, ix with
  | .string s, .int _ n => match P.underlying t with | some .string => bcase (decide (0 ≤ n)) (∃ b : UInt8, ByteAt s n.toNat b ∧ k (.int .u8 b.toNat)) False | _ => False
  | x, ix => match pureRun P (Instr.index t x ix) with | some v => wpVal v k | none => False
def wpBin (P : Program) (op : BinOp) (t : TypeId) (x y : Operand) (a b : Value) (k : Value → Prop) : Prop :=
  match op, a, b with
  | .quo, .int j m, .int j' n => if j = j' then bcase (n != 0) (k (.int j (j.wrap (m.tdiv n)))) False else False
  | .rem, .int j m, .int j' n => if j = j' then bcase (n != 0) (k (.int j (m.tmod n))) False else False
  | .shl, .int j m, .int _ n => bcase (decide (0 ≤ n)) (k (.int j (j.wrap (m * 2 ^ min n.toNat j.bits)))) False
  | .shr, .int j m, .int _ n => bcase (decide (0 ≤ n)) (k (.int j (m.fdiv (2 ^ min n.toNat j.bits)))) False
  | .add, .string m, .string n => bcase (decide (m.size + n.size ≤ 9223372036854775807)) (k (.string (m ++ n))) False
  | op, a, b => match binA P op t x y a b with | some v => wpVal v k | none => False

/-- Calls of functions that are known by what they do (sig: their results' types), the others are entered, so many deep. -/
def wpSaid (P : Program) (C : FuncId → List D → List D → Prop) (g : FuncId) (res : List TypeId) (args : Array Value) (H : Heap) (k : Value → Heap → Prop) : Prop :=
  readVals H args.toList fun ds => someVals P res H fun rs vs H' => Says C g ds rs ∧ k (tupleOf vs) H'

/-- Is it a type whose values hold no address? -/
def plainTy (P : Program) (t : TypeId) : Bool :=
  match scal P 8 t with
  | some l => l.all fun s => match s with | .sl _ => false | _ => true
  | none => false
/-- The cells of a slice that is appended. -/
def srcK (H : Heap) (es n : Nat) (x : Value) (k : List Value → Prop) : Prop :=
  match x with
  | .slice (some ⟨i, o, none⟩) _ _ =>
    match H.get i with
    | some (.sym cs _ _) => bcase (decide (o + n * es ≤ cs.length)) (k ((cs.drop o).take (n * es))) False
    | some (.cells cs _ _ _) => bcase (decide (o + n * es ≤ cs.length)) (bcase (((cs.drop o).take (n * es)).all cellP) (k ((cs.drop o).take (n * es))) False) False
    | _ => False
  | .slice none _ _ => bcase (n == 0) (k []) False
  | _ => False
def arrOf : AObj → Option (List Value × Bool × Nat × Bool)
  | .sym cs o es => some (cs, o, es, true)
  | .cells cs _ o es => some (cs, o, es, false)
  | _ => none
def growK (H : Heap) (es : Nat) (base : Option Addr) (sLen sCap n : Nat) (new : List Value) (k : Value → Heap → Prop) : Prop :=
  match base with
  | none => bcase (sLen == 0) (k (.slice (some ⟨H.next, 0, none⟩) (sLen + n) (sLen + n)) (H.new (.sym new true es))) False
  | some ⟨b, off, none⟩ =>
    match (H.get b).bind arrOf with
    | some (cs, o, es', sy) =>
      if es' = es ∧ gbase ≤ b then
        bcase (decide (off + sLen * es ≤ cs.length)) (bcase (sy || ((cs.drop off).take (sLen * es)).all cellP)
          (if o then bcase (decide (off + sCap * es = cs.length)) (k (.slice (some ⟨H.next, 0, none⟩) (sLen + n) (sLen + n)) ((H.set b (.dead cs.length o es)).new (.sym ((cs.drop off).take (sLen * es) ++ new) true es))) False
           else if sy then False else k (.slice (some ⟨H.next, 0, none⟩) (sLen + n) (sLen + n)) (H.new (.sym ((cs.drop off).take (sLen * es) ++ new) true es))) False) False
      else False
    | none => False
  | _ => False
def keepK (H : Heap) (es : Nat) (base : Option Addr) (sLen sCap : Nat) (k : Value → Heap → Prop) : Prop :=
  match base with
  | none => k (.slice none sLen sCap) H
  | some ⟨b, off, none⟩ =>
    match (H.get b).bind arrOf with
    | some (cs, o, es', sy) =>
      if sy = false ∧ o = false ∧ off = 0 ∧ es' = es ∧ gbase ≤ b ∧ sLen = sCap ∧ sCap * es = cs.length ∧ cs.all cellP = true then
        k (.slice (some ⟨H.next, 0, none⟩) sLen sCap) ((H.set b (.dead cs.length o es)).new (.sym cs true es))
      else if es' = es ∧ gbase ≤ b ∧ (sy = true → o = true) then bcase (decide (off + sLen * es ≤ cs.length)) (k (.slice (some ⟨b, off, none⟩) sLen sCap) H) False else False
    | none => False
  | _ => False
def wpAppend (P : Program) (H : Heap) (argTypes : Array TypeId) (args : Array Value) (k : Value → Heap → Prop) : Prop :=
  match tAt argTypes 0, vAt args 0, vAt args 1 with
  | some sType, some (.slice base sLen sCap), some x =>
    match P.underlying sType with
    | some (.slice elem) =>
      match P.info? elem, zerosP P argTypes, lenA x with
      | some i, some false, some n =>
        if plainTy P elem = true ∧ (i.zero.map fun z => z.cells.size) = some i.size then
          srcK H i.size n x fun new =>
            bcase (n == 0) (bcase (decide (sLen ≤ sCap)) (keepK H i.size base sLen sCap k) False)
              (bcase (decide (sCap < sLen + n)) (bcase (decide ((2 * (sLen + n) + 768) * i.bytes ≤ 281474976710656)) (bcase (decide (sLen + n ≤ 1099511627776)) (growK H i.size base sLen sCap n new k) False) False) False)
        else match appendA P H argTypes args with | some (v, H') => k v H' | none => False
      | _, _, _ => False
    | _ => False
  | _, _, _ => False

/-- A slice of a slice, or of a string: its bounds are met. -/
def hiK (hi : Option Value) (len cap : Nat) (k : Nat → Prop) : Prop :=
  match hi with
  | none => k len
  | some (.int _ n) => bcase (decide (0 ≤ n)) (bcase (decide (n ≤ (cap : Int))) (k n.toNat) False) False
  | _ => False
def loK (lo : Option Value) (h : Nat) (k : Nat → Prop) : Prop :=
  match lo with
  | none => k 0
  | some (.int _ n) => bcase (decide (0 ≤ n)) (bcase (decide (n ≤ (h : Int))) (k n.toNat) False) False
  | _ => False
def opnOf : AObj → Bool
  | .cells _ _ o _ | .sym _ o _ | .dead _ o _ => o
  | _ => true
def wpSlice (P : Program) (H : Heap) (t : TypeId) (x : Value) (lo hi mx : Option Value) (k : Value → Prop) : Prop :=
  match x, mx with
  | .slice (some ⟨i, o, none⟩) len cap, none =>
    match P.underlying t with
    | some (.slice e) =>
      match sizeP P e, H.get i with
      | some size, some ob =>
        if ob.es? = some size then
          hiK hi len cap fun h => loK lo h fun l =>
            match opnOf ob, lo with
            | false, none => k (.slice (some ⟨i, o, none⟩) (h - l) (cap - l))
            | false, some _ => bcase (cap == l) (k (.slice (some ⟨i, o, none⟩) (h - l) (cap - l))) (k (.slice (some ⟨i, o + l * size, none⟩) (h - l) (cap - l)))
            | true, _ => bcase (decide (h ≤ cap)) (bcase (ob.isOpen o cap) (k (.slice (some ⟨i, o + l * size, none⟩) (h - l) (cap - l))) False) False
        else False
      | _, _ => False
    | _ => False
  | .string s, none =>
    match P.underlying t with
    | some .string => hiK hi s.size s.size fun h => loK lo h fun l => k (.string (s.extract l h))
    | _ => False
  | x, mx => match sliceA P H t x lo hi mx with | some v => wpVal v k | none => False

/-- A slice as an array: its length is met. -/
def wpArr (P : Program) (t : TypeId) (x : Value) (k : Value → Prop) : Prop :=
  match P.underlying t, x with
  | some (.array (n + 1) _), .slice (some ⟨i, o, none⟩) len _ => bcase (decide (n + 1 ≤ len)) (k (.pointer (some ⟨i, o, none⟩))) False
  | _, _ => False
/-- An operation that yields a value and makes no call. -/
def wpVop (P : Program) (H : Heap) (env : Operand → Value) (o : Oper) (k : Value → Heap → Prop) : Prop :=
  match o.op with
  | .load t a => wpLoad P H t (env a) fun v => k v H
  | .indexAddr t x ix => wpIndexAddr P t (env x) (env ix) fun v => k v H
  | .index t x ix => wpIndex P t (env x) (env ix) fun v => k v H
  | .binOp op t x y _ => wpBin P op t x y (env x) (env y) fun v => k v H
  | .slice t x lo hi mx => wpSlice P H t (env x) (lo.map env) (hi.map env) (mx.map env) fun v => k v H
  | .sliceToArrayPointer t x => wpArr P t (env x) fun v => k v H
  | _ => match opA P H env o with | some (.value v, H') => wpVal v fun v => k v H' | _ => False
/-- Cells, seen one by one, with their number. -/
def seenK (v : Value) (k : Value → Prop) : Prop :=
  match v with
  | .bool b => k (.bool b)
  | .int j n => k (.int j n)
  | .string s => k (.string s)
  | .pointer a => k (.pointer a)
  | .slice a l c => k (.slice a l c)
  | v => k v
def cellsK : List Value → (List Value → Nat → Prop) → Prop
  | [], k => k [] 0
  | v :: r, k => seenK v fun v => cellsK r fun vs n => k (v :: vs) (n + 1)
/-- A store; into cells that hold no address, too. -/
def wpStore (P : Program) (H : Heap) (t : TypeId) (p v : Value) (k : Heap → Prop) : Prop :=
  match p with
  | .pointer (some ⟨i, off, none⟩) =>
    match H.get i with
    | some (.sym cs true es) =>
      if sizeP P t = some v.cells.size ∧ known v = true ∧ v.cells.toList.all cellP = true ∧ mbase ≤ i then
        cellsK v.cells.toList fun vs n => bcase (decide (off + n ≤ cs.length)) (k (H.set i (.sym (listSet cs off vs) true es))) False
      else False
    | _ => match storeA P H t p v with | some H' => k H' | none => False
  | _ => False
def isStore (o : Oper) : Bool :=
  match o.op with
  | .store _ _ _ => true
  | _ => false
def storeOf (o : Oper) : TypeId × Operand × Operand :=
  match o.op with
  | .store t a x => (t, a, x)
  | _ => (0, .const undef, .const undef)
def isSkip (o : Oper) : Bool :=
  match o.op with
  | .store _ _ _ | .mapUpdate _ _ _ _ | .insert _ _ _ _ => true
  | _ => false
def isCall (o : Oper) : Bool :=
  match o.op with
  | .call { callee := .value _, .. } => true
  | _ => false
def isAppend (o : Oper) : Bool :=
  match o.op with
  | .call { callee := .builtin .append, .. } => true
  | _ => false
def argsOf (o : Oper) : Array Operand :=
  match o.op with
  | .call c => c.args
  | _ => #[]
def argTypesOf (o : Oper) : Array TypeId :=
  match o.op with
  | .call c => c.argTypes
  | _ => #[]
def isMake (o : Oper) : Bool :=
  match o.op with
  | .makeSlice _ (.tmp _) _ => true
  | _ => false
def makeOf (o : Oper) : TypeId × Operand × Operand :=
  match o.op with
  | .makeSlice t l c => (t, l, c)
  | _ => (0, .const undef, .const undef)
/-- The cells are written at a number that is not open (whole numbers, in a program that repeats lists of them). -/
def openMake (P : Program) (o : Oper) : Bool :=
  match P.underlying (makeOf o).1 with
  | some (.slice elem) => match P.info? elem with
    | some i => match i.zero with
      | some (.int .i64 _) => (P.funcNamed "slices.Repeat[[]int,int]").isNone
      | _ => true
    | none => true
  | _ => true
/-- A new slice with a number of cells that may be open (each cell one value without an address). -/
def wpMake (P : Program) (H : Heap) (t : TypeId) (l c : Value) (k : Value → Heap → Prop) : Prop :=
  match l, c with
  | .int .i64 l, .int .i64 c =>
    match P.underlying t with
    | some (.slice elem) =>
      match P.info? elem with
      | some i =>
        match i.zero with
        | some z =>
          match z.cells.toList with
          | [v0] =>
            if i.size = 1 ∧ cellP v0 = true ∧ plain 8 z = true then
              bcase (l == c) (bcase (decide (0 ≤ c)) (bcase (decide (i.bytes * c ≤ 2 ^ 40)) (bcase (decide (c ≤ 2 ^ 40)) (k (.slice (some ⟨H.next, 0, none⟩) c.toNat c.toNat) (H.new (.sym (List.replicate c.toNat v0) true 1))) False) False) False) False
            else False
          | _ => False
        | none => False
      | none => False
    | _ => False
  | _, _ => False
/-- A call of what hands on to the caller's rounds. -/
def yieldOf (A : AAct) (o : Oper) : Bool :=
  match o.op with
  | .call { callee := .value f, .. } => (match A.eval f with | .func (.yield l) _ _ => l == ynum | _ => false)
  | _ => false
/-- (a wrapper that is not unfolded) -/
structure NextIs (rest : List (List D)) (ds : List D) (rest' : List (List D)) : Prop where
  out : rest = ds :: rest'
def wpYield (H : Heap) (args : List Value) (k : Value → Heap → Prop) : Prop :=
  match H.get ynum with
  | some (.yld false (some rest)) => readVals H args fun ds => ∃ rest', NextIs rest ds rest' ∧ k (.bool true) (H.set ynum (.yld false (some rest'))) ∧ k (.bool false) (H.set ynum (.yld false none))
  | _ => False
def wpOp (P : Program) (h : Handler) (o : Oper) (A : AAct) (H : Heap) (k : AAct → Heap → Prop) : Prop :=
  if isStore o then wpStore P H (storeOf o).1 (A.eval (storeOf o).2.1) (A.eval (storeOf o).2.2) fun H' => k (A.put o.dst undef) H'
  else if isSkip o then match opA P H A.eval o with | some (.skip, H') => k (A.put o.dst undef) H' | _ => False
  else if isCall o then
    if yieldOf A o then wpYield H ((argsOf o).map A.eval).toList fun v H' => k (A.put o.dst v) H' else
    match opA P H A.eval o with
    | some (.value v, H') => wpVal v fun v => k (A.put o.dst v) H'
    | some (.enter g args, H') => h g args (argTypesOf o) H' fun v H'' => k (A.put o.dst v) H''
    | _ => False
  else if isAppend o then wpAppend P H (argTypesOf o) ((argsOf o).map A.eval) fun v H' => k (A.put o.dst v) H'
  else if isMake o = true ∧ openMake P o = true then wpMake P H (makeOf o).1 (A.eval (makeOf o).2.1) (A.eval (makeOf o).2.2) fun v H' => k (A.put o.dst v) H'
  else wpVop P H A.eval o fun v H' => k (A.put o.dst v) H'

def wpOps (P : Program) (h : Handler) (ops : Array Oper) : List Nat → AAct → Heap → (AAct → Heap → Prop) → Prop
  | [], A, H, k => k A H
  | i :: rest, A, H, k =>
    match ops[i]? with
    | none => wpOps P h ops rest A H k
    | some o =>
      match wantedA ops A o with
      | some true => wpOp P h o A H fun A' H' => wpOps P h ops rest A' H' k
      | some false => wpOps P h ops rest (A.put o.dst undef) H k
      | none => False

/-! ### A region whose order is drawn -/
/-- What was carried out ahead would be carried out likewise now. -/
def stillK (P : Program) (ops : Array Oper) (A : AAct) (H : Heap) (j : Nat) : Prop :=
  match ops[j]? with
  | some o =>
    match wantedA ops A o with
    | some false => (match o.dst with | none => True | some d => if d < A.size then A.slot d = undef else False)
    | some true =>
      match allocOf P A.eval o with
      | some (m, x) =>
        match o.dst with
        | none => False
        | some d => if d < A.size then (match blk (A.slot d) with | some i => A.slot d = m.val i ∧ H.get i = some x | none => False) else False
      | none => if isAlloc o then False else wpVop P H A.eval o fun v _ => match o.dst with | none => True | some d => if d < A.size then v = A.slot d else False
    | none => False
  | none => False
def allK (P : Program) (ops : Array Oper) (A : AAct) (H : Heap) (again : List Nat) : List Nat → Prop
  | [] => bcase (distinctOk (again.map (laid ops A))) True False
  | j :: r => stillK P ops A H j ∧ allK P ops A H again r
def wpMinor (P : Program) (ops : Array Oper) (A : AAct) (H : Heap) (o : Oper) (k : AAct → Heap → Prop) : Prop :=
  if inRange A o.dst = false then False else
  match wantedA ops A o with
  | some false => k (A.put o.dst undef) H
  | some true =>
    match allocOf P A.eval o with
    | some (m, x) => k (A.put o.dst (m.val H.next)) (H.new x)
    | none => if isAlloc o then False else wpVop P H A.eval o fun v _ => k (A.put o.dst v) H
  | none => False
def wpAny (P : Program) (h : Handler) (ops : Array Oper) : List PItem → AAct → Heap → (AAct → Heap → Prop) → Prop
  | [], _, _, _ => False
  | .minor i :: rest, A, H, k =>
    match ops[i]? with
    | some o => wpMinor P ops A H o fun A' H' => wpAny P h ops rest A' H' k
    | none => False
  | .major i again :: rest, A, H, k =>
    allK P ops A H again again ∧
    match ops[i]? with
    | some o =>
      match wantedA ops A o with
      | some true => wpOp P h o A H fun A' H' => wpAny P h ops rest A' H' k
      | some false => wpAny P h ops rest (A.put o.dst undef) H k
      | none => False
    | none => False
  | .last again :: _, A, H, k => allK P ops A H again again ∧ k A H

/-- The number of a range over a function. -/
def firstReg : Code → Nat
  | .region id _ _ => id
  | .seq x y => if firstReg x = 0 then firstReg y else firstReg x
  | .cond _ x y => if firstReg x = 0 then firstReg y else firstReg x
  | .block _ b => firstReg b
  | .loop b => firstReg b
  | .rangeFunc _ _ a b => if firstReg a = 0 then firstReg b else firstReg a
  | _ => 0
def rbase : Nat := 50000
def rngId (a b : Code) : Nat := rbase + (if firstReg a = 0 then firstReg b else firstReg a)
def isRange : Code → Bool
  | .rangeFunc _ _ _ _ => true
  | _ => false
def isLoop : Code → Bool
  | .loop _ => true
  | _ => false
/-- A loop whose rounds are walked one by one, so many at the most. -/
def wpLoop (step : AAct → Heap → (Exit → AAct → Heap → Prop) → Prop) : Nat → AAct → Heap → (Exit → AAct → Heap → Prop) → Prop
  | 0, _, _, _ => False
  | n + 1, A, H, k => step A H fun e A' H' => match e with | .normal => wpLoop step n A' H' k | e => k e A' H'
def seqK (f : AAct → Heap → Prop) (k : Exit → AAct → Heap → Prop) : Exit → AAct → Heap → Prop := fun e A' H' =>
  match e with
  | .normal => f A' H'
  | e => k e A' H'
def blockK (id : Nat) (k : Exit → AAct → Heap → Prop) : Exit → AAct → Heap → Prop := fun e A' H' =>
  match e with
  | .exit id' => if id' = id then k .normal A' H' else k (.exit id') A' H'
  | e => k e A' H'
/-- (u = 0: a loop is met at its head; else its rounds are walked) -/
def wpT (P : Program) (h : Handler) (L : AtLoop) (u : Nat) : Code → Lv → AAct → Heap → (Exit → AAct → Heap → Prop) → Prop
  | .skip, _, A, H, k => k .normal A H
  | .region _ ops false, _, A, H, k => wpOps P h ops (List.range ops.size) A H (k .normal)
  | .region _ ops true, _, A, H, k => if regionGood ops then wpAny P h ops (plan ops) A H (k .normal) else False
  | .seq x y, l, A, H, k => wpT P h L u x { l with normal := liveIn y l } A H (seqK (fun A' H' => wpT P h L u y l A' H' k) k)
  | .cond c x y, l, A, H, k =>
    match A.eval c with
    | .bool true => wpT P h L u x l A H k
    | .bool false => wpT P h L u y l A H k
    | _ => False
  | .block id body, l, A, H, k =>
    if u = 0 ∧ isLoop body = true then
      let keep := sortT (liveIn body { l with exits := (id, l.normal) :: l.exits })
      let μ := gcMu keep A H
      bcase (decide (id < rbase) && gcAll μ keep A (gcB H μ μ)) (L id (gcS μ keep A) (gcB H μ μ)) False
    else wpT P h L u body { l with exits := (id, l.normal) :: l.exits } A H (blockK id k)
  | .loop body, l, A, H, k => wpLoop (fun A H k => wpT P h L u body l A H k) u A H k
  | .exit id, _, A, H, k => k (.exit id) A H
  | .ret, _, A, H, k => k .ret A H
  | .rangeFunc f ps x y, l, A, H, _ =>
    if u = 0 then
      let keep := sortT (liveIn (.rangeFunc f ps x y) l)
      let μ := gcMu keep A H
      bcase (gcAll μ keep A (gcB H μ μ)) (L (rngId x y) (gcS μ keep A) (gcB H μ μ)) False
    else False
  | _, _, _, _, _ => False

/-- The end of a call. -/
def fnK (P : Program) (fn : Func) (k : Value → Heap → Prop) : Exit → AAct → Heap → Prop := fun e A H =>
  match e with
  | .normal | .ret =>
    match takeA A.defers H with
    | some H2 => match resultsA P H2 fn A with | some v => k v H2 | none => False
    | none => False
  | _ => False
/-- The data of values that are the call's own, none of them shared. -/
def giveCells (H : Heap) : List Nat → List Value → (List Nat → List D → Prop) → Prop
  | used, [], k => k used []
  | used, v :: r, k =>
    match v with
    | .slice none 0 0 => giveCells H used r fun u ds => k u (.nil :: ds)
    | .slice (some ⟨i, 0, none⟩) len cap =>
      if gbase ≤ i ∧ used.contains i = false then
        match H.get i with
        | some (.sym cs true es) => (len = cap ∧ cs.length = len * es) ∧ giveCells H (i :: used) r fun u ds => k u (.sl len es cs :: ds)
        | some (.cells cs _ _ es) => (len = cap ∧ cs.length = len * es) ∧ bcase (cs.all cellP) (giveCells H (i :: used) r fun u ds => k u (.sl len es cs :: ds)) False
        | _ => False
      else False
    | v => if plain 8 v then giveCells H used r fun u ds => k u (.val v :: ds) else False
def giveVals (H : Heap) : List Nat → List Value → (List D → Prop) → Prop
  | _, [], k => k []
  | used, .agg cs :: r, k => giveCells H used cs.toList fun u ds => giveVals H u r fun rs => k (.agg ds :: rs)
  | used, v :: r, k => giveCells H used [v] fun u ds => giveVals H u r fun rs => k (ds ++ rs)
/-- The end of a call that is known by its data. -/
def dataK (k : List D → Prop) : Value → Heap → Prop := fun v H =>
  match v with
  | .tuple vs => if vs.size = 1 then False else giveVals H [] vs.toList k
  | v => giveVals H [] [v] k
def fnLv (fn : Func) : Lv :=
  let r := fn.results.toList.map fun | .tmp t => t | .cell a _ => a
  { normal := r, ret := r, exits := [] }
def fnSize (fn : Func) : Nat := max fn.params.size fn.ntmps
def act0 (fn : Func) (args : Array Value) : AAct := { tmps := AAct.ofArgs args.toList 0 .leaf, size := max args.size fn.ntmps, defers := [] }
/-- A call that is entered. -/
def wpFn (P : Program) (h : Handler) (L : AtLoop) (u : Nat) (f : FuncId) (args : Array Value) (H : Heap) (k : Value → Heap → Prop) : Prop :=
  match P.funcs[f]? with
  | some fn =>
    match fn.body with
    | some c => wpT P h L u c (fnLv fn) (act0 fn args) H (fnK P fn k)
    | none => False
  | none => False
/-! ### A loop of a piece of code: its body, and what follows it -/
/-- The loop that is met at a block of that number, and what is read where. -/
def findLoop : Code → Lv → Nat → Option (Code × Lv)
  | .seq x y, l, id => (findLoop x { l with normal := liveIn y l } id).or (findLoop y l id)
  | .cond _ x y, l, id => (findLoop x l id).or (findLoop y l id)
  | .block i b, l, id =>
    if isLoop b then (if i = id then (match b with | .loop c => some (c, { l with normal := liveIn b { l with exits := (i, l.normal) :: l.exits }, exits := (i, l.normal) :: l.exits }) | _ => none) else none)
    else findLoop b { l with exits := (i, l.normal) :: l.exits } id
  | .rangeFunc f ps a b, l, id => if rngId a b = id then some (.rangeFunc f ps a b, l) else none
  | _, _, _ => none
/-- The numbers of the loops that are met. -/
def loopIds : Code → List Nat
  | .seq x y => loopIds x ++ loopIds y
  | .cond _ x y => loopIds x ++ loopIds y
  | .block i b => if isLoop b then [i] else loopIds b
  | .rangeFunc _ _ a b => [rngId a b]
  | _ => []
/-- What must be shown where the code goes on behind that block. -/
def wpAfter (P : Program) (h : Handler) (L : AtLoop) : Code → Lv → Nat → Exit → AAct → Heap → (Exit → AAct → Heap → Prop) → Prop
  | .seq x y, l, id, e, A, H, k =>
    if (findLoop x { l with normal := liveIn y l } id).isSome then
      wpAfter P h L x { l with normal := liveIn y l } id e A H (seqK (fun A' H' => wpT P h L 0 y l A' H' k) k)
    else wpAfter P h L y l id e A H k
  | .cond _ x y, l, id, e, A, H, k => if (findLoop x l id).isSome then wpAfter P h L x l id e A H k else wpAfter P h L y l id e A H k
  | .block i b, l, id, e, A, H, k =>
    if isLoop b then (if i = id then k e A H else False)
    else wpAfter P h L b { l with exits := (i, l.normal) :: l.exits } id e A H (blockK i k)
  | .rangeFunc _ _ a b, _, id, e, A, H, k => if rngId a b = id then k e A H else False
  | _, _, _, _, _, _, _ => False
/-- The end of a round. B: the head again, X: an exit. -/
def roundK (body : Code) (l : Lv) (B : Slots → Blocks → Prop) (X : Nat → Slots → Blocks → Prop) (R : Exit → AAct → Heap → Prop) : Exit → AAct → Heap → Prop := fun e A H =>
  match e with
  | .normal => let keep := sortT (liveIn (.loop body) l); let μ := gcMu keep A H; bcase (gcAll μ keep A (gcB H μ μ)) (B (gcS μ keep A) (gcB H μ μ)) False
  | .exit i => let keep := sortT (l.exit i); let μ := gcMu keep A H; bcase (gcAll μ keep A (gcB H μ μ)) (X i (gcS μ keep A) (gcB H μ μ)) False
  | e => R e A H
/-- The body of a loop of the function. -/
def wpRound (P : Program) (h : Handler) (L : AtLoop) (f : FuncId) (id : Nat) (s : Slots) (b : Blocks) (B : Slots → Blocks → Prop) (X : Nat → Slots → Blocks → Prop) (k : Value → Heap → Prop) : Prop :=
  match P.funcs[f]? with
  | some fn =>
    match fn.body with
    | some c =>
      match findLoop c (fnLv fn) id with
      | some (body, l) => wpT P h L 0 body l (actOf (fnSize fn) s) (heapOf b) (roundK body l B X (fnK P fn k))
      | none => False
    | none => False
  | none => False
/-- What follows a loop of the function. -/
def wpNext (P : Program) (h : Handler) (L : AtLoop) (f : FuncId) (id : Nat) (e : Exit) (s : Slots) (b : Blocks) (k : Value → Heap → Prop) : Prop :=
  match P.funcs[f]? with
  | some fn => match fn.body with | some c => wpAfter P h L c (fnLv fn) id e (actOf (fnSize fn) s) (heapOf b) (fnK P fn k) | none => False
  | none => False
end Go.Abs

/- What is left to show of one operation, against the evaluator. -/
namespace Go.Abs
variable {P : Program} {H : Heap}

theorem wpVal_out {v : Value} {k : Value → Prop} (h : wpVal v k) : k v := by
  cases v with
  | bool b => cases b <;> simpa [wpVal, bcase] using h
  | _ => exact h

theorem rowOf_out : ∀ (l : List Sc) {k : List Value → Prop}, rowOf l k → ∃ vs, vs.length = l.length ∧ k vs
  | [], k, h => ⟨[], rfl, h⟩
  | .int kd :: r, k, h => by
    obtain ⟨n, h⟩ := h
    obtain ⟨vs, h1, h2⟩ := rowOf_out r h
    exact ⟨_ :: vs, by simp [h1], h2⟩
  | .bool :: r, k, h => by
    rcases h with h | h
    all_goals
      obtain ⟨vs, h1, h2⟩ := rowOf_out r h
      exact ⟨_ :: vs, by simp [h1], h2⟩
  | .str :: r, k, h => by
    obtain ⟨n, h⟩ := h
    obtain ⟨vs, h1, h2⟩ := rowOf_out r h
    exact ⟨_ :: vs, by simp [h1], h2⟩
  | .sl _ :: _, k, h => by cases h

theorem wpLoad_out {t : TypeId} {p : Value} {k : Value → Prop} (h : wpLoad P H t p k) : ∃ v, loadA P H t p = some v ∧ k v := by
  unfold wpLoad at h
  split at h
  case h_2 => cases h
  rename_i i off
  split at h
  · rename_i cs o es hg
    split at h
    · rename_i l hs ha
      split at h
      · rename_i hz
        obtain ⟨vs, h1, h2, h3⟩ := rowOf_out _ h
        refine ⟨_, ?_, h3⟩
        have hc : H.cellsAt i off l.length = some vs := by
          unfold Heap.cellsAt
          rw [hg]
          simp only
          rw [if_pos h2.len, h2.eq]
        simp [loadA, ha, hz, hc]
      · cases h
    · rename_i s hs ha
      obtain ⟨vs, h1, h2, h3⟩ := rowOf_out _ h
      refine ⟨_, ?_, h3⟩
      have hc : H.cellsAt i off 1 = some vs := by
        unfold Heap.cellsAt
        rw [hg]
        simp only
        rw [if_pos h2.len, h2.eq]
      match vs, h1 with
      | [v], _ => simp [loadA, ha, hc]
    · cases h
  · split at h
    · rename_i v hv
      exact ⟨v, hv, wpVal_out h⟩
    · cases h
  · cases h

theorem pureRun_und {t : TypeId} {d : TypeDesc} (h : P.underlying t = some d) : pureRun P (underlying t) = some d := by
  have : pureRun P (underlying t) = pureRun P (match P.underlying t with | some d => pure d | none => stuck "no such type") := rfl
  rw [this, h]
  rfl
theorem pureRun_size {t : TypeId} {n : Nat} (h : sizeP P t = some n) : pureRun P (sizeOf t) = some n := by
  unfold sizeP at h
  cases hi : P.info? t with
  | none => simp [hi] at h
  | some i =>
    simp only [hi, Option.map_some, Option.some.injEq] at h
    have : pureRun P (sizeOf t) = pureRun P ((match P.info? t with | some i => pure i | none => stuck "no such type" : Sem TypeInfo).bind fun i => pure i.size) := rfl
    rw [this, hi]
    simp only [pureRun_bind]
    show some i.size = some n
    rw [h]

theorem bcase_out {b : Bool} {x : Prop} (h : bcase b x False) : b = true ∧ x := by cases b <;> simp_all [bcase]

theorem wpIndexAddr_out {t : TypeId} {x ix : Value} {k : Value → Prop} (h : wpIndexAddr P t x ix k) : ∃ v, pureRun P (Instr.indexAt t x ix) = some v ∧ k v := by
  unfold wpIndexAddr at h
  split at h
  · rename_i i o len cap kd n
    split at h
    · rename_i e hu
      split at h
      · rename_i es hz
        obtain ⟨h1, h⟩ := bcase_out h
        obtain ⟨h2, h⟩ := bcase_out h
        simp only [decide_eq_true_eq] at h1 h2
        refine ⟨_, ?_, h⟩
        have key : ∀ {α : Type} (f : TypeDesc → Sem α), pureRun P (underlying t >>= f) = pureRun P (f (.slice e)) := by
          intro α f
          show pureRun P (Sem.bind (underlying t) f) = _
          rw [pureRun_bind, pureRun_und hu]
          rfl
        have keyS : ∀ {α : Type} (f : Nat → Sem α), pureRun P (sizeOf e >>= f) = pureRun P (f es) := by
          intro α f
          show pureRun P (Sem.bind (sizeOf e) f) = _
          rw [pureRun_bind, pureRun_size hz]
          rfl
        unfold Instr.indexAt
        show pureRun P (underlying t >>= _) = _
        rw [key]
        show pureRun P (underlying t >>= _) = _
        rw [key]
        simp only
        rw [if_pos ⟨h1, h2⟩, keyS, addr_add]
        rfl
      · cases h
    · cases h
  · split at h
    · rename_i v hv; exact ⟨v, hv, h⟩
    · cases h
  · cases h

theorem wpIndex_out {t : TypeId} {x ix : Value} {k : Value → Prop} (h : wpIndex P t x ix k) : ∃ v, pureRun P (Instr.index t x ix) = some v ∧ k v := by
  unfold wpIndex at h
  split at h
  · rename_i s kd n
    split at h
    · rename_i hu
      obtain ⟨h1, h⟩ := bcase_out h
      obtain ⟨b, hb, h⟩ := h
      simp only [decide_eq_true_eq] at h1
      refine ⟨_, ?_, h⟩
      have key : ∀ {α : Type} (f : TypeDesc → Sem α), pureRun P (underlying t >>= f) = pureRun P (f .string) := by
        intro α f
        show pureRun P (Sem.bind (underlying t) f) = _
        rw [pureRun_bind, pureRun_und hu]
        rfl
      unfold Instr.index
      show pureRun P (underlying t >>= _) = _
      rw [key]
      simp only
      rw [if_pos h1, hb.out]
      rfl
    · cases h
  · split at h
    · rename_i v hv; exact ⟨v, hv, wpVal_out h⟩
    · cases h

theorem binA_ints {op : BinOp} {t : TypeId} {x y : Operand} {j j' : IntKind} {m n : Int} : binA P op t x y (.int j m) (.int j' n) = plainRun P (do eqGuard op t x y (.int j m) (.int j' n); binOp op t (.int j m) (.int j' n)) := by
  unfold binA
  split
  · rename_i h _; cases h
  · rw [if_pos (by rfl)]
theorem wpBin_out {op : BinOp} {t : TypeId} {x y : Operand} {a b : Value} {k : Value → Prop} (h : wpBin P op t x y a b k) : ∃ v, binA P op t x y a b = some v ∧ k v := by
  unfold wpBin at h
  split at h
  · rename_i j m j' n
    split at h
    · rename_i hj
      subst hj
      obtain ⟨h1, h⟩ := bcase_out h
      have hn : n ≠ 0 := by simpa using h1
      refine ⟨_, ?_, h⟩
      have : pureRun P (do eqGuard .quo t x y (.int j m) (.int j n); binOp .quo t (.int j m) (.int j n)) = pureRun P (Op.intDiv .quo j m n) := by
        simp only [eqGuard, binOp]
        simp
      simp only [binA_ints, plainRun]
      rw [this]
      unfold Op.intDiv
      rw [if_neg hn]
      rfl
    · cases h
  · rename_i j m j' n
    split at h
    · rename_i hj
      subst hj
      obtain ⟨h1, h⟩ := bcase_out h
      have hn : n ≠ 0 := by simpa using h1
      refine ⟨_, ?_, h⟩
      have : pureRun P (do eqGuard .rem t x y (.int j m) (.int j n); binOp .rem t (.int j m) (.int j n)) = pureRun P (Op.intDiv .rem j m n) := by
        simp only [eqGuard, binOp]
        simp
      simp only [binA_ints, plainRun]
      rw [this]
      unfold Op.intDiv
      rw [if_neg hn]
      rfl
    · cases h
  · rename_i j m j' n
    obtain ⟨h1, h⟩ := bcase_out h
    have hn : ¬ n < 0 := by have := of_decide_eq_true h1; omega
    refine ⟨_, ?_, h⟩
    have : pureRun P (do eqGuard .shl t x y (.int j m) (.int j' n); binOp .shl t (.int j m) (.int j' n)) = pureRun P (Op.shift .shl j m j' n) := by
      simp only [eqGuard, binOp]
      simp
    simp only [binA_ints, plainRun]
    rw [this]
    unfold Op.shift
    rw [if_neg hn]
    rfl
  · rename_i j m j' n
    obtain ⟨h1, h⟩ := bcase_out h
    have hn : ¬ n < 0 := by have := of_decide_eq_true h1; omega
    refine ⟨_, ?_, h⟩
    have : pureRun P (do eqGuard .shr t x y (.int j m) (.int j' n); binOp .shr t (.int j m) (.int j' n)) = pureRun P (Op.shift .shr j m j' n) := by
      simp only [eqGuard, binOp]
      simp
    simp only [binA_ints, plainRun]
    rw [this]
    unfold Op.shift
    rw [if_neg hn]
    rfl
  · rename_i m n
    obtain ⟨h1, h⟩ := bcase_out h
    have hn : ¬ ((m.size + n.size : Nat) : Int) > IntKind.i64.max := by
      have := of_decide_eq_true h1
      have e : IntKind.i64.max = 9223372036854775807 := rfl
      omega
    refine ⟨_, ?_, h⟩
    have h0 : pureRun P (do eqGuard .add t x y (.string m) (.string n); binOp .add t (.string m) (.string n)) = pureRun P (Op.stringOp .add m n) := by
      simp only [eqGuard, binOp]
      simp
    have h2 : binA P .add t x y (.string m) (.string n) = plainRun P (do eqGuard .add t x y (.string m) (.string n); binOp .add t (.string m) (.string n)) := by
      unfold binA
      split
      · rename_i h _; cases h
      · rw [if_pos (by rfl)]
    rw [h2]
    simp only [plainRun]
    rw [h0]
    unfold Op.stringOp
    simp only
    rw [if_neg hn]
    rfl
  · split at h
    · rename_i v hv; exact ⟨v, hv, wpVal_out h⟩
    · cases h

theorem bound_run {kd : IntKind} {n : Int} {y : Nat} {c : BoundsCode} (h : 0 ≤ n ∧ n ≤ (y : Int)) : pureRun P (Instr.sliceBound (.int kd n) y c) = some n.toNat := by
  unfold Instr.sliceBound
  show pureRun P (if 0 ≤ n ∧ n ≤ (y : Int) then pure n.toNat else _) = _
  rw [if_pos h]; rfl
theorem loK_out {lo : Option Value} {h : Nat} {k : Nat → Prop} (hl : loK lo h k) : (lo = none ∧ k 0) ∨ ∃ kd n, lo = some (.int kd n) ∧ (0 ≤ n ∧ n ≤ (h : Int)) ∧ k n.toNat := by
  unfold loK at hl
  split at hl
  · exact .inl ⟨rfl, hl⟩
  · rename_i kd n
    obtain ⟨h1, hl⟩ := bcase_out hl
    obtain ⟨h2, hl⟩ := bcase_out hl
    simp only [decide_eq_true_eq] at h1 h2
    exact .inr ⟨kd, n, rfl, ⟨h1, h2⟩, hl⟩
  · cases hl
theorem hiK_out {hi : Option Value} {len cap : Nat} {k : Nat → Prop} (hl : hiK hi len cap k) : (hi = none ∧ k len) ∨ ∃ kd n, hi = some (.int kd n) ∧ (0 ≤ n ∧ n ≤ (cap : Int)) ∧ k n.toNat := by
  unfold hiK at hl
  split at hl
  · exact .inl ⟨rfl, hl⟩
  · rename_i kd n
    obtain ⟨h1, hl⟩ := bcase_out hl
    obtain ⟨h2, hl⟩ := bcase_out hl
    simp only [decide_eq_true_eq] at h1 h2
    exact .inr ⟨kd, n, rfl, ⟨h1, h2⟩, hl⟩
  · cases hl
theorem bounds_run {isS : Bool} {len cap : Nat} {lo hi : Option Value} {k : Nat → Nat → Prop} (h0 : hiK hi len cap fun h => loK lo h fun l => k l h) : ∃ l h, pureRun P (Instr.sliceBounds isS len cap lo hi none) = some (l, h, cap) ∧ (lo = none → l = 0) ∧ k l h := by
  rcases hiK_out h0 with ⟨rfl, h1⟩ | ⟨kd, n, rfl, hn, h1⟩
  · rcases loK_out h1 with ⟨rfl, h⟩ | ⟨kd, n, rfl, hn, h⟩
    · exact ⟨0, len, rfl, fun _ => rfl, h⟩
    · refine ⟨n.toNat, len, ?_, (fun e => by cases e), h⟩
      show pureRun P (Sem.bind (Instr.sliceBound (.int kd n) len _) _) = _
      rw [pureRun_bind, bound_run hn]; rfl
  · rcases loK_out h1 with ⟨rfl, h⟩ | ⟨kd', n', rfl, hn', h⟩
    · refine ⟨0, n.toNat, ?_, fun _ => rfl, h⟩
      show pureRun P (Sem.bind (Instr.sliceBound (.int kd n) cap _) _) = _
      rw [pureRun_bind, bound_run hn]; rfl
    · refine ⟨n'.toNat, n.toNat, ?_, (fun e => by cases e), h⟩
      show pureRun P (Sem.bind (Instr.sliceBound (.int kd n) cap _) _) = _
      rw [pureRun_bind, bound_run hn]
      show pureRun P (Sem.bind (Instr.sliceBound (.int kd' n') n.toNat _) _) = _
      rw [pureRun_bind, bound_run hn']; rfl
theorem wpSlice_out {t : TypeId} {x : Value} {lo hi mx : Option Value} {k : Value → Prop} (h : wpSlice P H t x lo hi mx k) : ∃ v, sliceA P H t x lo hi mx = some v ∧ k v := by
  have key : ∀ {d : TypeDesc} {α : Type} (f : TypeDesc → Sem α), P.underlying t = some d → pureRun P (underlying t >>= f) = pureRun P (f d) := by
    intro d α f hu
    show pureRun P (Sem.bind (underlying t) f) = _
    rw [pureRun_bind, pureRun_und hu]
    rfl
  unfold wpSlice at h
  split at h
  · rename_i i o len cap
    split at h
    case h_2 => cases h
    rename_i e hu
    split at h
    case h_2 => cases h
    rename_i size ob hz hob
    split at h
    case isFalse => cases h
    rename_i hes
    obtain ⟨l, hh, hb, hl0, h⟩ := bounds_run (P := P) (isS := true) (k := fun l q => match (generalizing := false) opnOf ob, lo with
      | false, none => k (.slice (some ⟨i, o, none⟩) (q - l) (cap - l))
      | false, some _ => bcase (cap == l) (k (.slice (some ⟨i, o, none⟩) (q - l) (cap - l))) (k (.slice (some ⟨i, o + l * size, none⟩) (q - l) (cap - l)))
      | true, _ => bcase (decide (q ≤ cap)) (bcase (ob.isOpen o cap) (k (.slice (some ⟨i, o + l * size, none⟩) (q - l) (cap - l))) False) False) h
    -- what the machine's own slicing yields
    have plainS : pureRun P (Instr.sliceAt t (.slice (some ⟨i, o, none⟩) len cap) lo hi none) = some (.slice (if cap = l then some ⟨i, o, none⟩ else (some (⟨i, o, none⟩ : Addr)).map (·.add (l * size))) (hh - l) (cap - l)) := by
      unfold Instr.sliceAt
      rw [key _ hu]
      show pureRun P (Instr.slice t _ lo hi none) = _
      unfold Instr.slice
      rw [key _ hu]
      show pureRun P (Sem.bind (Instr.sliceBounds true len cap lo hi none) _) = _
      rw [pureRun_bind, hb]
      show pureRun P (Sem.bind (sizeOf e) _) = _
      rw [pureRun_bind, pureRun_size hz]
      rfl
    cases hop : H.isOpen i o cap with
    | true =>
      have ho : opnOf ob = true := by
        unfold Heap.isOpen at hop
        rw [hob] at hop
        simp only [Option.map_some, Option.getD_some] at hop
        cases ob <;> simp_all [AObj.isOpen, opnOf]
      rw [ho] at h
      obtain ⟨hle, h⟩ := bcase_out h
      simp only [decide_eq_true_eq] at hle
      refine ⟨.slice (some ⟨i, o + l * size, none⟩) (hh - l) (cap - l), ?_, ?_⟩
      · unfold sliceA
        simp only [hop, Option.isNone_none, Bool.and_self, if_true, hu, hz, hob, hes, Option.bind_eq_bind, Option.bind_some, hb]
        rw [if_pos hle]
      · have hio : ob.isOpen o cap = true := by
          unfold Heap.isOpen at hop
          rw [hob] at hop
          simpa using hop
        rw [hio] at h; exact h
    | false =>
      have hio : ob.isOpen o cap = false := by
        unfold Heap.isOpen at hop
        rw [hob] at hop
        simpa using hop
      have hsA : sliceA P H t (.slice (some ⟨i, o, none⟩) len cap) lo hi none = some (.slice (if cap = l then some ⟨i, o, none⟩ else (some (⟨i, o, none⟩ : Addr)).map (·.add (l * size))) (hh - l) (cap - l)) := by
        unfold sliceA
        simp only [hop, Bool.false_and, Bool.false_eq_true, if_false]
        exact plainS
      refine ⟨_, hsA, ?_⟩
      have addr : (some (⟨i, o, none⟩ : Addr)).map (·.add (l * size)) = some ⟨i, o + l * size, none⟩ := by
        simp only [Option.map_some, addr_add]
      rw [addr]
      by_cases hcl : cap = l
      · rw [if_pos hcl]
        have hcl' : (cap == l) = true := by simpa using hcl
        cases ho : opnOf ob with
        | true => rw [ho] at h; obtain ⟨_, h⟩ := bcase_out h; rw [hio] at h; exact h.elim
        | false =>
          rw [ho] at h
          cases lo with
          | none => exact h
          | some v => simp only [hcl'] at h; exact h
      · rw [if_neg hcl]
        have hcl' : (cap == l) = false := by simpa using hcl
        cases ho : opnOf ob with
        | true => rw [ho] at h; obtain ⟨_, h⟩ := bcase_out h; rw [hio] at h; exact h.elim
        | false =>
          rw [ho] at h
          cases lo with
          | none =>
            have := hl0 rfl
            subst this
            simp only [Nat.zero_mul, Nat.add_zero]
            exact h
          | some v => simp only [hcl'] at h; exact h
  · rename_i s
    split at h
    · rename_i hu
      obtain ⟨l, hh, hb, _, h⟩ := bounds_run (P := P) (isS := false) (k := fun l h => k (.string (s.extract l h))) h
      refine ⟨_, ?_, h⟩
      unfold sliceA
      show pureRun P (Instr.sliceAt t (.string s) lo hi none) = _
      unfold Instr.sliceAt
      rw [key _ hu]
      show pureRun P (Instr.slice t _ lo hi none) = _
      unfold Instr.slice
      rw [key _ hu]
      show pureRun P (Sem.bind (Instr.sliceBounds false s.size s.size lo hi none) _) = _
      rw [pureRun_bind, hb]
      rfl
    · cases h
  · split at h
    · rename_i v hv; exact ⟨v, hv, wpVal_out h⟩
    · cases h

theorem wpArr_out {t : TypeId} {x : Value} {k : Value → Prop} (h : wpArr P t x k) : ∃ v, arrPtrA P t x = some v ∧ k v := by
  unfold wpArr at h
  split at h
  · rename_i n e i o len cap hu
    obtain ⟨hd, hk⟩ := bcase_out h
    refine ⟨_, ?_, hk⟩
    unfold arrPtrA
    rw [hu]
    show (if n + 1 ≤ len then _ else _) = _
    rw [if_pos (of_decide_eq_true hd)]
  · cases h
theorem wpVop_out {env : Operand → Value} {o : Oper} {k : Value → Heap → Prop} (h : wpVop P H env o k) : ∃ v H', opA P H env o = some (.value v, H') ∧ k v H' := by
  unfold wpVop at h
  split at h
  · rename_i t a hop
    obtain ⟨v, h1, h2⟩ := wpLoad_out h
    exact ⟨v, H, by simp [opA, hop, valA, h1], h2⟩
  · rename_i t x ix hop
    obtain ⟨v, h1, h2⟩ := wpIndexAddr_out h
    exact ⟨v, H, by simp [opA, hop, valA, h1], h2⟩
  · rename_i t x ix hop
    obtain ⟨v, h1, h2⟩ := wpIndex_out h
    exact ⟨v, H, by simp [opA, hop, valA, h1], h2⟩
  · rename_i op t x y t' hop
    obtain ⟨v, h1, h2⟩ := wpBin_out h
    exact ⟨v, H, by simp [opA, hop, valA, h1], h2⟩
  · rename_i t x lo hi mx hop
    obtain ⟨v, h1, h2⟩ := wpSlice_out h
    exact ⟨v, H, by simp [opA, hop, valA, h1], h2⟩
  · rename_i t x hop
    obtain ⟨v, h1, h2⟩ := wpArr_out h
    exact ⟨v, H, by simp [opA, hop, valA, h1], h2⟩
  · split at h
    · rename_i v H' hv
      exact ⟨v, H', hv, wpVal_out (k := fun v => k v H') h⟩
    · cases h

end Go.Abs
