/- copy, clear, maps: the evaluator is sound. -/
import Derived.Test.YtiahlinolhpecaaAbsAppend2
namespace Go.Abs
open Go.RowKit
variable {P : Program} {ρ : Ren} {w0 w : World} {H : Heap}

theorem firstA_len (g : Gam w0 ρ H w) {x x' : Value} (hx : VR ρ x x') {size : Nat} {cs : List Value} (h : firstA H size 0 x = some cs) : cs = [] := by
  cases hx with
  | string s => simp only [firstA, List.take_zero, List.map_nil, Option.some.injEq] at h; exact h.symm
  | nilSlice l c => simp only [firstA, Option.some.injEq] at h; exact h.symm
  | slice i k len cap m hm ho => exact List.length_eq_zero_iff.1 (by have := (g.cellsAt hm (show H.cellsAt i k (0 * size) = some cs from h)).1; omega)
  | opened i k len cap capC m hm ho hc hs => exact List.length_eq_zero_iff.1 (by have := (g.cellsAt hm (show H.cellsAt i k (0 * size) = some cs from h)).1; omega)
  | empty i k off m hm ho _ => exact List.length_eq_zero_iff.1 (by have := (g.cellsAt hm (show H.cellsAt i k (0 * size) = some cs from h)).1; omega)
  | _ => simp [firstA] at h

theorem copyA_sound (g : Gam w0 ρ H w) {argTypes : Array TypeId} {type : TypeId} {args args' : Array Value} {v : Value} {H' : Heap} (ha : LR ρ args.toList args'.toList) (h : copyA P H argTypes args = some (v, H')) :
    ∃ v' w', Gam w0 ρ H' w' ∧ Ext ρ ρ H H' ∧ VR ρ v v' ∧ (Builtin.copy_ argTypes type args').run P w = .ok v' w' := by
  unfold copyA at h
  split at h
  case h_2 => cases h
  rename_i o1 o2 o3 sType base dLen dCap x h0 h1 h2
  have h0' : argTypes[0]? = some sType := h0
  obtain ⟨s', e1, hs⟩ := ha.get (n := 0) (v := .slice base dLen dCap) (by simpa [vAt] using h1)
  obtain ⟨x', e2, hx⟩ := ha.get (n := 1) (v := x) (by simpa [vAt] using h2)
  have e1' : args'[0]? = some s' := by simpa using e1
  have e2' : args'[1]? = some x' := by simpa using e2
  cases hu : P.underlying sType with
  | none => simp [hu] at h
  | some d =>
    cases d with
    | slice elem =>
      simp only [hu, Option.bind_eq_bind, Option.bind_some] at h
      obtain ⟨size, hsz, h⟩ := Option.bind_eq_some_iff.1 h
      obtain ⟨n, hn, h⟩ := Option.bind_eq_some_iff.1 h
      obtain ⟨cs, hcs, h⟩ := Option.bind_eq_some_iff.1 h
      have hlr := lenA_run (P := P) hx hn w
      obtain ⟨cs', hclr, hcrun⟩ := firstA_run (P := P) g hx hcs
      cases base with
      | none =>
        simp only at h
        split at h
        · rename_i hz
          simp only [Option.some.injEq, Prod.mk.injEq] at h
          obtain ⟨rfl, rfl⟩ := h
          have hs' : s' = .slice none dLen dCap := by cases hs; rfl
          rw [hs'] at e1'
          refine ⟨_, w, g, .refl _ _, .int _ _, ?_⟩
          unfold Builtin.copy_
          simp only [h0', e1', e2', Sem.run_bind, und_run hu, Result.andThen_ok, hlr, size_run hsz, hcrun]
          rfl
        · cases h
      | some a =>
        obtain ⟨b, off, sp⟩ := a
        cases sp with
        | some q => simp at h
        | none =>
          simp only at h
          obtain ⟨H1, hw1, h⟩ := Option.bind_eq_some_iff.1 h
          simp only [Option.some.injEq, Prod.mk.injEq] at h
          obtain ⟨rfl, rfl⟩ := h
          obtain ⟨m, hm, offC, capC, es', hcap, hx1, hx2⟩ := slice_inv hs
          rw [es'] at e1'
          have fin : ∀ w', (storeCells ⟨m.b, offC, none⟩ cs').run P w = .ok () w' → (Builtin.copy_ argTypes type args').run P w = .ok (.int .i64 (Nat.min n dLen)) w' := by
            intro w' hst
            unfold Builtin.copy_
            simp only [h0', e1', e2', Sem.run_bind, und_run hu, Result.andThen_ok, hlr, size_run hsz, hcrun, hst]
            rfl
          by_cases hoff : offC = m.o + off
          · obtain ⟨w', hst, g', ext⟩ := g.write (P := P) hm hclr hw1
            exact ⟨_, w', g', ext, .int _ _, fin w' (by rw [hoff]; exact hst)⟩
          · have h0c : dLen = 0 := by
              by_cases ho : m.isOpen off dCap = true
              · rcases hx2 ho with h | h
                · exact absurd h.1 hoff
                · exact h.1
              · exact absurd (hx1 (by simpa using ho)).1 hoff
            have hnil : cs = [] := firstA_len g hx (size := size) (by rw [← hcs, h0c]; simp)
            subst hnil
            cases hclr
            obtain ⟨g', ext⟩ := write_empty g hm hw1
            exact ⟨_, w, g', ext, .int _ _, fin w rfl⟩
    | _ => simp [hu] at h

theorem clearA_sound (g : Gam w0 ρ H w) {argTypes : Array TypeId} {type : TypeId} {args args' : Array Value} {v : Value} {H' : Heap} (ha : LR ρ args.toList args'.toList) (h : clearA P H argTypes args = some (v, H')) :
    ∃ v' w', Gam w0 ρ H' w' ∧ Ext ρ ρ H H' ∧ VR ρ v v' ∧ (Builtin.clear_ argTypes type args').run P w = .ok v' w' := by
  have vt : VR ρ (.tuple #[]) (.tuple #[]) := VR.tuple' .nil
  unfold clearA at h
  split at h
  case h_2 => cases h
  rename_i o1 o2 t base n cap h0 h1
  have h0' : argTypes[0]? = some t := h0
  obtain ⟨s', e1, hs⟩ := ha.get (n := 0) (v := .slice base n cap) (by simpa [vAt] using h1)
  have e1' : args'[0]? = some s' := by simpa using e1
  cases hu : P.underlying t with
  | none =>
    simp only [hu] at h
    cases base with
    | none => simp at h
    | some a =>
      obtain ⟨b, off, sp⟩ := a
      cases sp with
      | some q => simp at h
      | none => simp at h
  | some d =>
    simp only [hu, Option.isSome_some, if_true, Option.bind_eq_bind, Option.bind_some] at h
    cases base with
    | none =>
      simp only [Option.some.injEq, Prod.mk.injEq] at h
      obtain ⟨rfl, rfl⟩ := h
      have hs' : s' = .slice none n cap := by cases hs; rfl
      rw [hs'] at e1'
      refine ⟨_, w, g, .refl _ _, vt, ?_⟩
      unfold Builtin.clear_
      simp only [h0', e1', Sem.run_bind, und_run hu, Result.andThen_ok]
      cases d <;> rfl
    | some a =>
      obtain ⟨b, off, sp⟩ := a
      cases sp with
      | some q => simp at h
      | none =>
        simp only at h
        obtain ⟨m, hm, offC, capC, es', hcap, hx1, hx2⟩ := slice_inv hs
        rw [es'] at e1'
        split at h
        · rename_i hn
          subst hn
          simp only [Option.some.injEq, Prod.mk.injEq] at h
          obtain ⟨rfl, rfl⟩ := h
          refine ⟨_, w, g, .refl _ _, vt, ?_⟩
          unfold Builtin.clear_
          simp only [h0', e1', Sem.run_bind, und_run hu, Result.andThen_ok]
          cases d <;> rfl
        · rename_i hn
          cases d with
          | slice elem =>
            simp only at h
            obtain ⟨i, hi, h⟩ := Option.bind_eq_some_iff.1 h
            obtain ⟨z, hz, h⟩ := Option.bind_eq_some_iff.1 h
            split at h
            · cases h
            · rename_i hp
              simp only [Bool.not_eq_true', Bool.not_eq_false] at hp
              obtain ⟨H1, hw1, h⟩ := Option.bind_eq_some_iff.1 h
              simp only [Option.some.injEq, Prod.mk.injEq] at h
              obtain ⟨rfl, rfl⟩ := h
              have hoff : offC = m.o + off := by
                by_cases ho : m.isOpen off cap = true
                · rcases hx2 ho with h | h
                  · exact h.1
                  · exact absurd h.1 hn
                · exact (hx1 (by simpa using ho)).1
              obtain ⟨w', hst, g', ext⟩ := g.write (P := P) hm (zeroCells_LR (ρ := ρ) (n := 0) hp n) hw1
              refine ⟨_, w', g', ext, vt, ?_⟩
              unfold Builtin.clear_
              simp only [h0', e1', Sem.run_bind, und_run hu, Result.andThen_ok, zero_run hi hz, hoff, hst]
              rfl
          | _ => simp at h

/-! ### Maps -/
theorem beqB {x y : ByteArray} (h : (x == y) = true) : x = y := by
  cases x with
  | mk a =>
    cases y with
    | mk b =>
      have h2 : (a == b) = true := h
      rw [eq_of_beq h2]
theorem sameNow_spec {d : TypeDesc} {a b : Value} {r : Bool} (h : Instr.sameNow d a b = some r) : r = true → a = b ∧ Instr.sameBits 10000 b a = true := by
  unfold Instr.sameNow at h
  split at h
  · rename_i k0 k x k' y
    split at h
    · rename_i e
      subst e
      simp only [Option.some.injEq] at h
      intro hr
      rw [hr] at h
      have e2 : x = y := by simpa using h
      subst e2
      exact ⟨rfl, by simp [Instr.sameBits]⟩
    · cases h
  · rename_i x y
    simp only [Option.some.injEq] at h
    intro hr
    rw [hr] at h
    have e2 : x = y := beqB h
    subst e2
    exact ⟨rfl, by simp only [Instr.sameBits]; exact h⟩
  · rename_i x y
    simp only [Option.some.injEq] at h
    intro hr
    rw [hr] at h
    have e2 : x = y := by simpa using h
    subst e2
    exact ⟨rfl, by simp [Instr.sameBits]⟩
  · cases h

theorem findNow_R {d : TypeDesc} {k : Value} : ∀ {es es' : List MapEntry}, ER ρ es es' → ∀ {i : Nat} {r : Option (Nat × Value)}, Instr.findNow d k es i = some r →
    (r = none ∧ Instr.findNow d k es' i = some none) ∨
    (∃ j v v' e', r = some (i + j, v) ∧ VR ρ v v' ∧ Instr.findNow d k es' i = some (some (i + j, v')) ∧ es'[j]? = some e' ∧ e'.key = k ∧ Instr.sameBits 10000 e'.key k = true) := by
  intro es es' h
  induction h with
  | nil => intro i r e; simp only [Instr.findNow, Option.some.injEq] at e; exact .inl ⟨e.symm, rfl⟩
  | @cons e e' l l' hk kk hv hb _ ih =>
    intro i r he
    have ek : e'.key = e.key := plain_eq 1 _ _ kk hk
    simp only [Instr.findNow] at he ⊢
    rw [ek]
    cases hsn : Instr.sameNow d k e.key with
    | none => simp [hsn] at he
    | some b =>
      cases b with
      | true =>
        simp only [hsn, Option.some.injEq] at he
        obtain ⟨h1, h2⟩ := sameNow_spec hsn rfl
        refine .inr ⟨0, e.val, e'.val, e', by rw [← he]; rfl, hv, rfl, rfl, ?_, ?_⟩
        · rw [ek, h1]
        · rw [ek]; exact h2
      | false =>
        simp only [hsn] at he
        rcases ih he with ⟨h1, h2⟩ | ⟨j, v, v', e2, h1, h2, h3, h4, h5⟩
        · exact .inl ⟨h1, h2⟩
        · refine .inr ⟨j + 1, v, v', e2, ?_, h2, ?_, h4, h5⟩
          · rw [h1, show i + 1 + j = i + (j + 1) by omega]
          · rw [h3, show i + 1 + j = i + (j + 1) by omega]

theorem checkKey_run {key : TypeId} {kd : TypeDesc} (hu : P.underlying key = some kd) (hs : simpleKey kd = true) (b : Bool) (k : Value) (w : World) : (Instr.checkKey b 10000 key k).run P w = .ok () w := by
  unfold Instr.checkKey
  simp only [Sem.run_bind, und_run hu, Result.andThen_ok]
  cases kd <;> first | rfl | simp [simpleKey] at hs

theorem findKey_run {key : TypeId} {kd : TypeDesc} (hu : P.underlying key = some kd) {k : Value} {es : List MapEntry} {r : Option (Nat × Value)} (h : Instr.findNow kd k es 0 = some r) (w : World) : (Instr.findKey key k es).run P w = .ok r w := by
  unfold Instr.findKey
  simp only [Sem.run_bind, und_run hu, Result.andThen_ok, h]
  rfl

theorem lookupA_sound (g : Gam w0 ρ H w) {t : TypeId} {m m' k k' v : Value} {ok : Bool} (hm : VR ρ m m') (hk : VR ρ k k') (h : lookupA P H t m k ok = some v) :
    ∃ v', VR ρ v v' ∧ (Instr.lookup t m' k' ok).run P w = .ok v' w := by
  unfold lookupA at h
  cases hu : P.underlying t with
  | none => simp [hu] at h
  | some d =>
    cases d with
    | map key elem =>
      simp only [hu, Option.bind_eq_bind, Option.bind_some] at h
      obtain ⟨kd, hkd, h⟩ := Option.bind_eq_some_iff.1 h
      split at h
      · cases h
      · rename_i hc
        simp only [Bool.or_eq_true, Bool.not_eq_true', not_or, Bool.not_eq_false] at hc
        obtain ⟨hsk, hpk⟩ := hc
        have ekk : k' = k := plain_eq 1 _ _ hpk hk
        subst ekk
        obtain ⟨es, hes, h⟩ := Option.bind_eq_some_iff.1 h
        obtain ⟨i, hi, h⟩ := Option.bind_eq_some_iff.1 h
        obtain ⟨z, hz, h⟩ := Option.bind_eq_some_iff.1 h
        split at h
        · cases h
        · rename_i hpz
          simp only [Bool.not_eq_true', Bool.not_eq_false] at hpz
          obtain ⟨r, hr, h⟩ := Option.bind_eq_some_iff.1 h
          have fin : ∀ es' : Array MapEntry, ER ρ es es'.toList → ∃ v', VR ρ v v' ∧ ∀ E : Sem Value, (E.run P w = Sem.run P (do
              Instr.checkKey es'.isEmpty 10000 key k'
              match ← Instr.findKey key k' es'.toList with
              | some (_, v) => pure (if ok then .tuple #[v, .bool true] else v)
              | none => (do let z ← zeroValue elem; pure (if ok then .tuple #[z, .bool false] else z))) w) → E.run P w = .ok v' w := by
            intro es' her
            rcases findNow_R her hr with ⟨rfl, h2⟩ | ⟨j, u, u', e', rfl, h2, h3, _⟩
            · simp only [Option.some.injEq] at h
              subst h
              refine ⟨if ok = true then Value.tuple #[z, Value.bool false] else z, ?_, ?_⟩
              · have hzr := plain_refl ρ 8 z hpz
                cases ok
                · exact hzr
                · exact VR.tuple' (.cons hzr (.cons (.bool _) .nil))
              · intro E hE
                rw [hE]
                simp only [Sem.run_bind, checkKey_run hkd hsk, Result.andThen_ok, findKey_run hkd h2, zero_run hi hz]
                rfl
            · simp only [Option.some.injEq] at h
              subst h
              refine ⟨if ok = true then Value.tuple #[u', Value.bool true] else u', ?_, ?_⟩
              · cases ok
                · exact h2
                · exact VR.tuple' (.cons h2 (.cons (.bool _) .nil))
              · intro E hE
                rw [hE]
                simp only [Sem.run_bind, checkKey_run hkd hsk, Result.andThen_ok, findKey_run hkd h3]
                rfl
          cases hm with
          | nilMap =>
            simp only [entriesA, Option.some.injEq] at hes
            subst hes
            obtain ⟨v', hv, hE⟩ := fin #[] .nil
            refine ⟨v', hv, hE _ ?_⟩
            unfold Instr.lookup
            simp only [Sem.run_bind, und_run hu, Result.andThen_ok, Sem.run_pure]
            rcases findNow_R (ρ := ρ) (.nil : ER ρ [] []) hr with ⟨rfl, h2⟩ | ⟨j, u, u', e', rfl, h2, h3, h4, _⟩
            · simp only [checkKey_run hkd hsk, Result.andThen_ok, findKey_run hkd (show Instr.findNow kd k' [] 0 = some none from rfl), Sem.run_bind, zero_run hi hz, Sem.run_pure]
            · simp at h4
          | map j mm hmm =>
            simp only [entriesA] at hes
            cases ho : H.get j with
            | none => simp [ho] at hes
            | some o =>
              cases o with
              | map es0 clock =>
                simp only [ho, Option.some.injEq] at hes
                subst hes
                obtain ⟨es', hb, her⟩ := g.obj j mm _ hmm ho
                have hget : (getObj mm.b).run P w = .ok (.map es' clock) w := by simp [getObj, Sem.run, hb]
                obtain ⟨v', hv, hE⟩ := fin es' her
                refine ⟨v', hv, hE _ ?_⟩
                unfold Instr.lookup
                simp only [Sem.run_bind, und_run hu, Result.andThen_ok, Sem.run_pure, hget]
                rcases findNow_R her hr with ⟨rfl, h2⟩ | ⟨j, u, u', e', rfl, h2, h3, _⟩
                · simp only [checkKey_run hkd hsk, Result.andThen_ok, findKey_run hkd h2, Sem.run_bind, zero_run hi hz, Sem.run_pure]
                · simp only [checkKey_run hkd hsk, Result.andThen_ok, findKey_run hkd h3, Sem.run_bind, Sem.run_pure]
              | _ => simp [ho] at hes
          | _ => simp [entriesA] at hes
    | _ => simp [hu] at h

theorem ER.append {l l' : List MapEntry} (h : ER ρ l l') {e e' : MapEntry} (k : VR ρ e.key e'.key) (kk : plain 1 e.key = true) (v : VR ρ e.val e'.val) (b : e.born = e'.born) : ER ρ (l ++ [e]) (l' ++ [e']) := by
  induction h with
  | nil => exact .cons k kk v b .nil
  | cons h1 h2 h3 h4 _ ih => exact .cons h1 h2 h3 h4 ih
theorem ER.setVal {l l' : List MapEntry} (h : ER ρ l l') {v v' : Value} (hv : VR ρ v v') : ∀ (i : Nat) (k : Value) (e : MapEntry), l'[i]? = some e → e.key = k → ER ρ (setVal v l i) (l'.modify i fun e => { e with key := k, val := v' }) := by
  induction h with
  | nil => intro i k e he; simp at he
  | cons h1 h2 h3 h4 t ih =>
    intro i k e he hk
    cases i with
    | zero =>
      simp only [List.getElem?_cons_zero, Option.some.injEq] at he
      subst he hk
      exact .cons h1 h2 hv h4 t
    | succ i =>
      simp only [List.getElem?_cons_succ] at he
      exact .cons h1 h2 h3 h4 (ih i k e he hk)

theorem updateA_sound (g : Gam w0 ρ H w) {t : TypeId} {m m' k k' v v' : Value} {H' : Heap} (hm : VR ρ m m') (hk : VR ρ k k') (hv : VR ρ v v') (h : updateA P H t m k v = some H') :
    ∃ w', Gam w0 ρ H' w' ∧ Ext ρ ρ H H' ∧ (Instr.mapUpdate t m' k' v').run P w = .ok () w' := by
  unfold updateA at h
  cases hu : P.underlying t with
  | none => simp [hu] at h
  | some d =>
    cases d with
    | map key elem =>
      simp only [hu, Option.bind_eq_bind, Option.bind_some] at h
      obtain ⟨kd, hkd, h⟩ := Option.bind_eq_some_iff.1 h
      split at h
      · cases h
      · rename_i hc
        simp only [Bool.or_eq_true, Bool.not_eq_true', not_or, Bool.not_eq_false] at hc
        obtain ⟨hsk, hpk⟩ := hc
        have ekk : k' = k := plain_eq 1 _ _ hpk hk
        subst ekk
        cases hm with
        | map j mm hmm =>
          simp only at h
          split at h
          · cases h
          rename_i hjb
          have hgb : gbase ≤ j := by omega
          cases ho : H.get j with
          | none => simp [ho] at h
          | some o =>
            cases o with
            | map es clock =>
              simp only [ho] at h
              obtain ⟨r, hr, h⟩ := Option.bind_eq_some_iff.1 h
              obtain ⟨es', hb, her⟩ := g.obj j mm _ hmm ho
              have hget : (getObj mm.b).run P w = .ok (.map es' clock) w := by simp [getObj, Sem.run, hb]
              have hlt : mm.b < w.heap.size := (g.own j mm hmm).1
              have hset : ∀ x : Obj, (setObj mm.b x).run P w = .ok () { w with heap := w.heap.setIfInBounds mm.b x } := fun x => by simp [setObj, Sem.run, hb]
              have upd : ∀ (y : AObj) (x : Obj), ObjR ρ { w with heap := w.heap.setIfInBounds mm.b x } mm y → Gam w0 ρ (H.set j y) { w with heap := w.heap.setIfInBounds mm.b x } ∧ Ext ρ ρ H (H.set j y) := by
                intro y x hx
                refine g.update hmm hgb ho rfl (by simp) (fun k hk => ?_) rfl rfl rfl hx
                simp only [Array.getElem?_setIfInBounds]
                rw [if_neg (fun e => hk e.symm)]
              have newget : ∀ x : Obj, (w.heap.setIfInBounds mm.b x)[mm.b]? = some x := fun x => by simp [hlt]
              rcases findNow_R her hr with ⟨rfl, h2⟩ | ⟨i, u, u', e', rfl, h2, h3, h4, h5, h6⟩
              · simp only [Option.some.injEq] at h
                subst h
                obtain ⟨g', ext⟩ := upd (.map (es ++ [{ key := k', val := v, born := clock }]) (clock + 1)) (.map (es'.push { key := k', val := v', born := clock }) (clock + 1))
                  ⟨_, newget _, by simpa using her.append (e := { key := k', val := v, born := clock }) (e' := { key := k', val := v', born := clock }) hk hpk hv rfl⟩
                refine ⟨_, g', ext, ?_⟩
                unfold Instr.mapUpdate
                simp only [Sem.run_bind, und_run hu, Result.andThen_ok, hget, checkKey_run hkd hsk, findKey_run hkd h2, hset]
              · simp only [Option.some.injEq, Nat.zero_add] at h
                subst h
                have hi : es'.toList[i]? = some e' := h4
                have hi' : es'[i]? = some e' := by simpa using hi
                have hsv := her.setVal hv i k' e' hi h5
                obtain ⟨g', ext⟩ := upd (.map (setVal v es i) clock) (.map (es'.modify i fun e => { e with key := k', val := v' }) clock) ⟨_, newget _, by simpa using hsv⟩
                refine ⟨_, g', ext, ?_⟩
                unfold Instr.mapUpdate
                simp only [Nat.zero_add] at h3
                simp only [Sem.run_bind, und_run hu, Result.andThen_ok, hget, checkKey_run hkd hsk, findKey_run hkd h3, Instr.keyThatStays, hi', Option.map_some, Option.getD_some, h6, if_true, Sem.run_pure, hset]
            | _ => simp [ho] at h
        | _ => simp at h
    | _ => simp [hu] at h

end Go.Abs
