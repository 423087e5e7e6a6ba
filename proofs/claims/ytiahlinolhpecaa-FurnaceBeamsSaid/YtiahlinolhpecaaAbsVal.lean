/- Operations that change nothing: the evaluator is sound. -/
import Derived.Test.YtiahlinolhpecaaAbsCall
import Derived.Laws.BytesString
import Derived.Laws.StructEq
namespace Go.Abs
open Go.RowKit
variable {P : Program} {ρ : Ren} {w0 w : World} {H : Heap}

theorem plainRun_run {e : Sem Value} {v : Value} (h : plainRun P e = some v) (ρ : Ren) (w : World) : VR ρ v v ∧ e.run P w = .ok v w := by
  unfold plainRun at h
  obtain ⟨x, hx, h⟩ := Option.bind_eq_some_iff.1 h
  split at h
  · rename_i hp
    simp only [Option.some.injEq] at h
    subst h
    obtain ⟨y, rfl, hrun⟩ := (PR.refl (P := P) e).sound hx
    exact ⟨plain_refl ρ 8 _ hp, hrun w⟩
  · cases h

def gOk : Value → Value → Bool
  | .nilIface, .nilIface => false
  | .agg _, .agg _ => false
  | _, _ => true
theorem equalIn_nil (n : Nat) {t : TypeId} {a a' b b' : Value} {d : TypeDesc} (hu : P.underlying t = some d) (ha : VR ρ a a') (hb : VR ρ b b') (h : nilCmp d a b = true) (w : World) :
    (Op.equalIn (n + 1) t a' b').run P w = .ok false w ∧ (binOp .eql t a' b' = (do pure (.bool (← Op.equal t a' b')))) ∧ (binOp .neq t a' b' = (do pure (.bool (!(← Op.equal t a' b'))))) ∧
      gOk a' b' = true := by
  unfold nilCmp at h
  split at h
  · cases hb
    cases ha <;> exact ⟨by unfold Op.equalIn; simp only [Sem.run_bind, und_run hu, Result.andThen_ok]; rfl, rfl, rfl, rfl⟩
  · cases hb
    cases ha <;> exact ⟨by unfold Op.equalIn; simp only [Sem.run_bind, und_run hu, Result.andThen_ok]; rfl, rfl, rfl, rfl⟩
  · cases hb
    cases ha <;> exact ⟨by unfold Op.equalIn; simp only [Sem.run_bind, und_run hu, Result.andThen_ok]; rfl, rfl, rfl, rfl⟩
  · cases hb
    cases ha <;> exact ⟨by unfold Op.equalIn; simp only [Sem.run_bind, und_run hu, Result.andThen_ok]; rfl, rfl, rfl, rfl⟩
  · cases h

theorem eqGuard_run {op : BinOp} {t : TypeId} {x y : Operand} {a b : Value} (h : gOk a b = true) (w : World) : (eqGuard op t x y a b).run P w = .ok () w := by
  unfold eqGuard
  cases op <;> simp only [Bool.not_true, Bool.not_false, Bool.false_eq_true, if_false, if_true] <;> first
    | rfl
    | (split <;> first | rfl | (simp [gOk] at h))

theorem partA_run {t : TypeId} {xs : Array Value} {off : Nat} {v : Value} (h : partA P t xs off = some v) (w : World) : (part t xs off).run P w = .ok v w := by
  unfold partA at h
  unfold part
  split at h
  · rename_i ha
    obtain ⟨n, hn, rfl⟩ := Option.map_eq_some_iff.1 h
    simp only [Sem.run_bind, isAgg_run ha w, Result.andThen_ok, if_true, size_run hn]
    rfl
  · rename_i ha
    simp only [Sem.run_bind, isAgg_run ha w, Result.andThen_ok, Bool.false_eq_true, if_false, h]
    rfl
  · cases h
theorem eqAtA_run : ∀ (n : Nat) (d : Nat) {t : TypeId} {x y : Value} {r : Bool}, eqAtA P n t x y = some r → ∀ w, (Op.equalIn (d + n) t x y).run P w = .ok r w
  | 0, _, _, _, _, _, h, _ => by cases h
  | n + 1, d, t, x, y, r, h, w => by
    unfold eqAtA at h
    split at h
    · rename_i q k a k' b hu
      split at h
      · rename_i hk
        subst hk
        simp only [Option.some.injEq] at h
        subst h
        exact run_equalIn_int w _ t k q a b hu
      · cases h
    · rename_i a b hu
      simp only [Option.some.injEq] at h
      subst h
      exact run_equalIn_bool w _ t a b hu
    · rename_i a b hu
      simp only [Option.some.injEq] at h
      subst h
      rw [beq_toListBytes]
      exact run_equalIn_string w _ t a b hu
    · rename_i fs xs ys hu
      split at h
      · cases h
      · rename_i hs
        have hfo : P.fieldsOf t = fs := by simp [Program.fieldsOf, hu]
        have key : ∀ (l : List Field) (r : Bool), eqFieldsA P (eqAtA P n) xs ys l = some r → (Op.eqFields (d + n) xs ys l).run P w = .ok r w := by
          intro l
          induction l with
          | nil => intro r h; simp only [eqFieldsA, Option.some.injEq] at h; subst h; rfl
          | cons f l ih =>
            intro r h
            simp only [eqFieldsA] at h
            split at h
            · cases h
            · rename_i hn
              split at h
              · rename_i a b ha hb
                split at h
                · rename_i r1 s1 h1 h2
                  simp only [Option.some.injEq] at h
                  subst h
                  have e1 := eqAtA_run n d h1 w
                  simp only [Op.eqFields, ne_eq, hn, not_false_eq_true, if_true, Sem.run_bind, partA_run ha w, partA_run hb w, e1, Result.andThen_ok]
                  cases r1
                  · rfl
                  · simpa using ih _ h2
                · cases h
              · cases h
        have := run_equalIn_struct (P := P) w (d + n) t xs ys (by rw [hfo]; exact hu) (by simpa using hs)
        rw [show d + (n + 1) = (d + n) + 1 from rfl, this, hfo]
        exact key _ _ h
    · cases h
theorem eqGuard_type {op : BinOp} {t : TypeId} {x y : Operand} {xs ys : Array Value} (h : P.eqGuardType P.depth t = false) (w : World) : (eqGuard op t x y (.agg xs) (.agg ys)).run P w = .ok () w := by
  unfold eqGuard
  cases op <;> first
    | rfl
    | (simp only [Bool.not_true, Bool.false_eq_true, if_false, Sem.run_bind, run_program, Result.andThen_ok, h, Bool.not_false, if_true]; rfl)

theorem binA_sound {op : BinOp} {t : TypeId} {x y : Operand} {a a' b b' v : Value} (ha : VR ρ a a') (hb : VR ρ b b') (h : binA P op t x y a b = some v) (w : World) :
    VR ρ v v ∧ (do eqGuard op t x y a' b'; binOp op t a' b').run P w = .ok v w := by
  unfold binA at h
  split at h
  · rename_i neg xs ys hneg
    split at h
    · rename_i hp
      simp only [Bool.and_eq_true, Bool.not_eq_true'] at hp
      obtain ⟨r, hr, rfl⟩ := Option.map_eq_some_iff.1 h
      rw [plain_eq 8 _ _ hp.1.1 ha, plain_eq 8 _ _ hp.1.2 hb]
      have h1 : (Op.equal t (.agg xs) (.agg ys)).run P w = .ok r w := eqAtA_run 8 9992 hr w
      refine ⟨.bool _, ?_⟩
      have hop : (op = .eql ∧ neg = false) ∨ (op = .neq ∧ neg = true) := by
        cases op <;> simp [isNeq] at hneg <;> first | exact .inl ⟨rfl, hneg.symm ▸ rfl⟩ | exact .inr ⟨rfl, hneg.symm ▸ rfl⟩ | exact .inl ⟨rfl, hneg⟩ | exact .inr ⟨rfl, hneg⟩
      rcases hop with ⟨rfl, rfl⟩ | ⟨rfl, rfl⟩
      · simp only [Sem.run_bind, eqGuard_type hp.2, Result.andThen_ok, binOp, h1]
        rfl
      · simp only [Sem.run_bind, eqGuard_type hp.2, Result.andThen_ok, binOp, h1]
        rfl
    · cases h
  split at h
  · rename_i hp
    simp only [Bool.and_eq_true] at hp
    rw [plain_eq 8 _ _ hp.1 ha, plain_eq 8 _ _ hp.2 hb]
    exact plainRun_run h ρ w
  · obtain ⟨r, hr, h⟩ := Option.bind_eq_some_iff.1 h
    have hop : (op = .eql ∧ r = false) ∨ (op = .neq ∧ r = true) := by
      cases op <;> simp [isNeq] at hr <;> first | exact .inl ⟨rfl, hr.symm ▸ rfl⟩ | exact .inr ⟨rfl, hr.symm ▸ rfl⟩ | exact .inl ⟨rfl, hr⟩ | exact .inr ⟨rfl, hr⟩
    obtain ⟨d, hu, h⟩ := Option.bind_eq_some_iff.1 h
    split at h
    · rename_i hn
      simp only [Option.some.injEq] at h
      subst h
      obtain ⟨h1, h3, h4, h5⟩ := equalIn_nil (P := P) 9999 hu ha hb hn w
      have h1' : (Op.equal t a' b').run P w = .ok false w := h1
      refine ⟨.bool _, ?_⟩
      simp only [Sem.run_bind, eqGuard_run h5, Result.andThen_ok]
      rcases hop with ⟨rfl, rfl⟩ | ⟨rfl, rfl⟩
      · rw [h3]; simp only [Sem.run_bind, h1', Result.andThen_ok]; rfl
      · rw [h4]; simp only [Sem.run_bind, h1', Result.andThen_ok]; rfl
    · cases h

theorem bytesA_spec : ∀ {l l' : List Value}, LR ρ l l' → ∀ {bs : List Int}, bytesA l = some bs → l' = bs.map (Value.int .u8)
  | _, _, .nil, bs, h => by simp only [bytesA, Option.some.injEq] at h; subst h; rfl
  | _, _, .cons (v := v) hv ht, bs, h => by
    simp only [bytesA, Option.bind_eq_bind] at h
    obtain ⟨b, hb, h⟩ := Option.bind_eq_some_iff.1 h
    obtain ⟨bs', hbs, h⟩ := Option.bind_eq_some_iff.1 h
    simp only [Option.some.injEq] at h
    subst h
    have h1 := bytesA_spec ht hbs
    unfold byteA at hb
    split at hb
    · simp only [Option.some.injEq] at hb
      subst hb
      cases hv
      rw [h1]
      rfl
    · cases hb

theorem convA_sound (g : Gam w0 ρ H w) {src dst : TypeId} {a a' v : Value} (ha : VR ρ a a') (h : convA P H src dst a = some v) : VR ρ v v ∧ (convert src dst a').run P w = .ok v w := by
  unfold convA at h
  split at h
  · rename_i i off len cap
    split at h
    · rename_i e hs hd
      split at h
      · rename_i he
        obtain ⟨cs, hcs, h⟩ := Option.bind_eq_some_iff.1 h
        obtain ⟨bs, hbs, h⟩ := Option.bind_eq_some_iff.1 h
        simp only [Option.some.injEq] at h
        subst h
        refine ⟨.string _, ?_⟩
        have hcs' : firstA H 1 len (.slice (some ⟨i, off, none⟩) len cap) = some cs := by simpa [firstA] using hcs
        obtain ⟨cs', hlr, hrun⟩ := firstA_run (P := P) g ha hcs'
        obtain ⟨m, hm, offC, capC, rfl, hcap, hx1, hx2⟩ := slice_inv ha
        rw [run_convert_bytes_string w src dst e (some ⟨m.b, offC, none⟩) len capC hs he hd]
        have hl : (loadCells ⟨m.b, offC, none⟩ len).run P w = .ok (bs.map (Value.int .u8)).toArray w := by
          have := hrun
          simp only [Builtin.firstCells, Nat.mul_one] at this
          rw [this, bytesA_spec hlr hbs]
        exact run_bytesToString w ⟨m.b, offC, none⟩ len capC bs hl
      · cases h
    · cases h
  · split at h
    · rename_i hp
      rw [plain_eq 8 _ _ hp ha]
      exact plainRun_run h ρ w
    · cases h

theorem parts_arr {env env' : Operand → Value} {parts : Array (Nat × Operand)} (h : ∀ p ∈ parts.toList, VR ρ (env p.2) (env' p.2)) (hk : (parts.map fun (p : Nat × Operand) => (p.1, env p.2)).all (fun p => known p.2) = true) :
    PartsR ρ (parts.map fun (p : Nat × Operand) => (p.1, env p.2)).toList (parts.map fun (p : Nat × Operand) => (p.1, env' p.2)).toList := by
  rw [Array.toList_map, Array.toList_map]
  refine parts_R _ h ?_
  rw [Array.all_map] at hk
  simpa using hk

theorem buildA_sound {t : TypeId} {parts parts' : Array (Nat × Value)} {v : Value} (hp : (parts.all fun p => known p.2) = true → PartsR ρ parts.toList parts'.toList) (h : buildA P t parts = some v) (w : World) :
    ∃ v', VR ρ v v' ∧ (Instr.build t parts').run P w = .ok v' w := by
  unfold buildA at h
  split at h
  · rename_i z hz
    split at h
    · rename_i hc
      simp only [Bool.and_eq_true] at hc
      obtain ⟨v', hv, hrun⟩ := (build_PR (P := P) (hp hc.2) hz hc.1).sound h
      exact ⟨v', hv, hrun w⟩
    · cases h
  · cases h

theorem nilA_sound {a a' v : Value} (ha : VR ρ a a') (h : nilA a = some v) (w : World) (o : Oper) (env' : Operand → Value) (x : Operand) (ho : o.op = .nilCheck x) (hx : env' x = a') :
    VR ρ v a' ∧ (execOp env' o).run P w = .ok (.value a') w := by
  have hv : v = a := by
    unfold nilA at h
    split at h <;> first | (simp only [Option.some.injEq] at h; exact h.symm) | cases h
  subst hv
  refine ⟨ha, ?_⟩
  unfold nilA at h
  cases ha <;> first
    | (simp only [execOp, ho, hx]; rfl)
    | simp at h

theorem opt_R {env env' : Operand → Value} {o : Option Operand} (h : ∀ y ∈ o.toArray, VR ρ (env y) (env' y)) : OptR ρ (o.map env) (o.map env') := by
  cases o with
  | none => exact .none
  | some y => exact .some (h y (by simp))

/-- An operation that changes nothing. -/
theorem valA_sound (g : Gam w0 ρ H w) {env env' : Operand → Value} {o : Oper} {v : Value} (henv : ∀ y ∈ o.op.operands, VR ρ (env y) (env' y)) (h : valA P H env o = some v) :
    ∃ v', VR ρ v v' ∧ (execOp env' o).run P w = .ok (.value v') w := by
  have lift : ∀ {e : Sem Value} {v' : Value}, (execOp env' o = do pure (.value (← e))) → e.run P w = .ok v' w → (execOp env' o).run P w = .ok (.value v') w := by
    intro e v' he hr
    rw [he]
    simp only [Sem.run_bind, hr, Result.andThen_ok]
    rfl
  have pr : ∀ {e e' : Sem Value}, PR P (VR ρ) e e' → pureRun P e = some v → (execOp env' o = do pure (.value (← e'))) → ∃ v', VR ρ v v' ∧ (execOp env' o).run P w = .ok (.value v') w := by
    intro e e' hpr hp he
    obtain ⟨v', hv, hrun⟩ := hpr.sound hp
    exact ⟨v', hv, lift he (hrun w)⟩
  unfold valA at h
  cases hop : o.op with
  | move x =>
    simp only [hop, Option.some.injEq] at h
    subst h
    exact ⟨_, henv x (by simp [hop, Op.operands]), by simp only [execOp, hop]; rfl⟩
  | assign x =>
    simp only [hop, Option.some.injEq] at h
    subst h
    exact ⟨_, henv x (by simp [hop, Op.operands]), by simp only [execOp, hop]; rfl⟩
  | pick c a b =>
    simp only [hop] at h
    have hc := henv c (by simp [hop, Op.operands])
    have ha := henv a (by simp [hop, Op.operands])
    have hb := henv b (by simp [hop, Op.operands])
    split at h
    · rename_i t et
      rw [et] at hc
      simp only [Option.some.injEq] at h
      subst h
      refine ⟨if t = true then env' a else env' b, by split <;> assumption, ?_⟩
      simp only [execOp, hop, hc.bool_inv, asBool, Sem.run_bind, Sem.run_pure, Result.andThen_ok]
    · cases h
  | build t parts =>
    simp only [hop] at h
    obtain ⟨v', hv, hrun⟩ := buildA_sound (P := P) (ρ := ρ) (parts' := parts.map fun (p : Nat × Operand) => (p.1, env' p.2)) (fun hk => parts_arr (fun p hp => henv p.2 (by
      simp only [hop, Op.operands, List.mem_toArray, List.mem_map]
      exact ⟨p, hp, rfl⟩)) hk) h w
    exact ⟨v', hv, lift (by simp only [execOp, hop]) hrun⟩
  | load t a =>
    simp only [hop] at h
    obtain ⟨v', hv, hrun⟩ := loadA_sound (P := P) g (henv a (by simp [hop, Op.operands])) h
    exact ⟨v', hv, lift (by simp only [execOp, hop]) hrun⟩
  | nilCheck x =>
    simp only [hop] at h
    obtain ⟨h1, h2⟩ := nilA_sound (P := P) (henv x (by simp [hop, Op.operands])) h w o env' x hop rfl
    exact ⟨_, h1, h2⟩
  | binOp op t x y yt =>
    simp only [hop] at h
    obtain ⟨h1, h2⟩ := binA_sound (P := P) (henv x (by simp [hop, Op.operands])) (henv y (by simp [hop, Op.operands])) h w
    exact ⟨v, h1, lift (by simp only [execOp, hop]) h2⟩
  | unOp op t x =>
    simp only [hop] at h
    split at h
    · rename_i hp
      obtain ⟨h1, h2⟩ := plainRun_run h ρ w
      rw [← plain_eq 8 _ _ hp (henv x (by simp [hop, Op.operands]))] at h2
      exact ⟨v, h1, lift (by simp only [execOp, hop]) h2⟩
    · cases h
  | convert src dst x =>
    simp only [hop] at h
    obtain ⟨h1, h2⟩ := convA_sound (P := P) g (henv x (by simp [hop, Op.operands])) h
    exact ⟨v, h1, lift (by simp only [execOp, hop]) h2⟩
  | makeFunc fn first captured =>
    cases fn with
    | func f =>
      simp only [hop, Option.some.injEq] at h
      subst h
      refine ⟨_, VR.func' (maps_LR (env' := env') fun y hy => henv y (by simp [hop, Op.operands, hy])) (maps_LR (env' := env') fun y hy => henv y (by simp [hop, Op.operands, hy])), ?_⟩
      simp only [execOp, hop, Instr.makeFunc]
      rfl
    | _ => simp [hop] at h
  | slice t x lo hi mx =>
    simp only [hop] at h
    obtain ⟨v', hv, hrun⟩ := sliceA_sound (P := P) g (henv x (by simp [hop, Op.operands])) (opt_R (env' := env') fun y hy => henv y (by simp only [hop, Op.operands]; simp [hy]))
      (opt_R (env' := env') fun y hy => henv y (by simp only [hop, Op.operands]; simp [hy])) (opt_R (env' := env') fun y hy => henv y (by simp only [hop, Op.operands]; simp [hy])) h
    exact ⟨v', hv, lift (by simp only [execOp, hop]) hrun⟩
  | fieldAddr s x f =>
    simp only [hop] at h
    exact pr (fieldAt_PR (henv x (by simp [hop, Op.operands])) f) h (by simp only [execOp, hop])
  | field t x f =>
    simp only [hop] at h
    exact pr (field_PR (henv x (by simp [hop, Op.operands])) f) h (by simp only [execOp, hop])
  | indexAddr t x ix =>
    simp only [hop] at h
    exact pr (indexAt_PR (henv x (by simp [hop, Op.operands])) (henv ix (by simp [hop, Op.operands]))) h (by simp only [execOp, hop])
  | index t x ix =>
    simp only [hop] at h
    exact pr (index_PR (henv x (by simp [hop, Op.operands])) (henv ix (by simp [hop, Op.operands]))) h (by simp only [execOp, hop])
  | lookup t x ix ok =>
    simp only [hop] at h
    obtain ⟨v', hv, hrun⟩ := lookupA_sound (P := P) g (henv x (by simp [hop, Op.operands])) (henv ix (by simp [hop, Op.operands])) h
    exact ⟨v', hv, lift (by simp only [execOp, hop]) hrun⟩
  | extract t ix =>
    simp only [hop] at h
    exact pr (extract_PR (henv t (by simp [hop, Op.operands])) ix) h (by simp only [execOp, hop])
  | _ => simp [hop] at h

/-- **One operation.** -/
theorem opA_sound (g : Gam w0 ρ H w) {env env' : Operand → Value} {o : Oper} {nx : ANext} {H' : Heap} (henv : ∀ y ∈ o.op.operands, VR ρ (env y) (env' y)) (h : opA P H env o = some (nx, H')) :
    OpS P w0 ρ H w nx H' (execOp env' o) := by
  have viaVal : ((valA P H env o).bind fun x => some (ANext.value x, H)) = some (nx, H') → OpS P w0 ρ H w nx H' (execOp env' o) := by
    intro h
    obtain ⟨x, hx, h⟩ := Option.bind_eq_some_iff.1 h
    simp only [Option.some.injEq, Prod.mk.injEq] at h
    obtain ⟨rfl, rfl⟩ := h
    obtain ⟨v', hv, hrun⟩ := valA_sound g henv hx
    exact .val g hv hrun
  have viaAlloc : ((allocOf P env o).bind fun (k, x) => some (ANext.value (k.val H.next), H.new x)) = some (nx, H') → OpS P w0 ρ H w nx H' (execOp env' o) := by
    intro h
    obtain ⟨⟨k, x⟩, hx, h⟩ := Option.bind_eq_some_iff.1 h
    simp only [Option.some.injEq, Prod.mk.injEq] at h
    obtain ⟨rfl, rfl⟩ := h
    obtain ⟨obj, m, hb, hrun, hobj, hval⟩ := (allocOf_sound (P := P) henv hx w).run
    obtain ⟨g', ext⟩ := g.new x obj m hb (hobj _ (g.le_put m))
    exact ⟨_, _, _, g', ext, .value (hval _ _ (by simp [Ren.put])), hrun⟩
  unfold opA at h
  cases hop : o.op with
  | alloc _ => simp only [hop] at h; exact viaAlloc h
  | box _ _ => simp only [hop] at h; exact viaAlloc h
  | buildSlice _ _ _ => simp only [hop] at h; exact viaAlloc h
  | makeMap _ _ => simp only [hop] at h; exact viaAlloc h
  | makeSlice _ _ _ => simp only [hop] at h; exact viaAlloc h
  | store t a x =>
    simp only [hop] at h
    obtain ⟨H1, h1, h⟩ := Option.bind_eq_some_iff.1 h
    simp only [Option.some.injEq, Prod.mk.injEq] at h
    obtain ⟨rfl, rfl⟩ := h
    obtain ⟨w', g', ext, hrun⟩ := storeA_sound (P := P) g (henv a (by simp [hop, Op.operands])) (henv x (by simp [hop, Op.operands])) h1
    refine ⟨ρ, .skip, w', g', ext, .skip, ?_⟩
    simp only [execOp, hop, Sem.run_bind, hrun, Result.andThen_ok]
    rfl
  | mapUpdate t m k x =>
    simp only [hop] at h
    obtain ⟨H1, h1, h⟩ := Option.bind_eq_some_iff.1 h
    simp only [Option.some.injEq, Prod.mk.injEq] at h
    obtain ⟨rfl, rfl⟩ := h
    obtain ⟨w', g', ext, hrun⟩ := updateA_sound (P := P) g (henv m (by simp [hop, Op.operands])) (henv k (by simp [hop, Op.operands])) (henv x (by simp [hop, Op.operands])) h1
    refine ⟨ρ, .skip, w', g', ext, .skip, ?_⟩
    simp only [execOp, hop, Sem.run_bind, hrun, Result.andThen_ok]
    rfl
  | insert t m k x =>
    simp only [hop] at h
    obtain ⟨H1, h1, h⟩ := Option.bind_eq_some_iff.1 h
    simp only [Option.some.injEq, Prod.mk.injEq] at h
    obtain ⟨rfl, rfl⟩ := h
    obtain ⟨w', g', ext, hrun⟩ := updateA_sound (P := P) g (henv m (by simp [hop, Op.operands])) (henv k (by simp [hop, Op.operands])) (henv x (by simp [hop, Op.operands])) h1
    refine ⟨ρ, .skip, w', g', ext, .skip, ?_⟩
    simp only [execOp, hop, Sem.run_bind, hrun, Result.andThen_ok]
    rfl
  | call c =>
    simp only [hop] at h
    have := callA_sound (type := o.type) g (env' := env') (fun y hy => henv y (by simp only [hop, Op.operands]; exact hy)) h
    have he : execOp env' o = (do let d ← resolve env' c o.type; invoke d.target d.args) := by simp only [execOp, hop]
    rw [he]
    exact this
  | _ => simp only [hop] at h; exact viaVal h

end Go.Abs
