/- Operations that lay a new block. -/
import Derived.Test.YtiahlinolhpecaaAbsHeap
import Derived.IntWalk
namespace Go.Abs
open Go.RowKit
variable {P : Program} {ρ : Ren} {w0 w : World} {H : Heap}

theorem info_run {t : TypeId} {i : TypeInfo} (h : P.info? t = some i) (w : World) : (typeInfo t).run P w = .ok i w := by
  show Sem.run P (match P.info? t with | some i => Pure.pure i | none => Go.stuck "no such type") w = _
  rw [h]; rfl
theorem zero_run {t : TypeId} {i : TypeInfo} {z : Value} (h : P.info? t = some i) (hz : i.zero = some z) (w : World) : (zeroValue t).run P w = .ok z w := by
  unfold zeroValue
  simp only [Sem.run_bind, info_run h, Result.andThen_ok, hz]
  rfl
theorem sizeOf_run {t : TypeId} {i : TypeInfo} (h : P.info? t = some i) (w : World) : (sizeOf t).run P w = .ok i.size w := size_run (by simp [sizeP, h]) w
theorem known_of_plain {n : Nat} {v : Value} (h : plain n v = true) : known v = true := by
  cases n with
  | zero => simp [plain] at h
  | succ n => cases v <;> first | rfl | (simp [plain] at h)
theorem plain_cells {n : Nat} {z : Value} (h : plain n z = true) : LR ρ z.cells.toList z.cells.toList := cells_LR (plain_refl ρ n z h) (known_of_plain h)

/-- The new block laid by an operation. -/
structure Laid (P : Program) (ρ : Ren) (e : Sem Next) (k : Mk) (x : AObj) (w : World) : Prop where
  run : ∃ (obj : Obj) (m : Meta), m.b = w.heap.size ∧ e.run P w = .ok (.value (k.val w.heap.size)) (w.alloc obj) ∧
    (∀ ρ' : Ren, ρ.le ρ' → ObjR ρ' (w.alloc obj) m x) ∧ ∀ (ρ' : Ren) (i : Nat), ρ' i = some m → VR ρ' (k.val i) (k.val w.heap.size)

theorem alloc_get (w : World) (o : Obj) : (w.alloc o).heap[w.heap.size]? = some o := by
  show (w.heap.push o)[w.heap.size]? = some o
  simp

theorem Laid.cells {e : Sem Next} {k : Mk} {cs : List Value} {ty : TypeId} {es : Nat} {c : Array Value} (hk : k ≠ .map) (hrun : e.run P w = .ok (.value (k.val w.heap.size)) (w.alloc (.cells c ty))) (h : LR ρ cs c.toList) :
    Laid P ρ e k (.cells cs ty false es) w := by
  refine ⟨⟨.cells c ty, ⟨w.heap.size, 0, cs.length, false, es, c.size, by have := h.length; simp at this; omega⟩, rfl, hrun, ?_, ?_⟩⟩
  · intro ρ' hle
    refine ⟨rfl, rfl, rfl, c, ty, alloc_get _ _, rfl, ?_⟩
    simp only [List.drop_zero]
    rw [List.take_of_length_le (by have := h.length; omega)]
    exact h.mono hle
  · intro ρ' i hi
    cases k with
    | ptr => have := VR.ptr (ρ := ρ') i 0 _ hi; simpa [Mk.val] using this
    | slice l c' => have := mkSlice (ρ := ρ') hi 0 l c'; simpa [Mk.val] using this
    | map => exact absurd rfl hk
theorem Laid.map {e : Sem Next} (hrun : e.run P w = .ok (.value (.map (some w.heap.size))) (w.alloc (.map #[] 0))) : Laid P ρ e .map (.map [] 0) w :=
  ⟨⟨.map #[] 0, ⟨w.heap.size, 0, 0, false, 0, 0, by omega⟩, rfl, hrun, fun ρ' _ => ⟨#[], alloc_get _ _, .nil⟩, fun ρ' i hi => VR.map (ρ := ρ') i _ hi⟩⟩

theorem parts_R {env env' : Operand → Value} : ∀ (l : List (Nat × Operand)), (∀ p ∈ l, VR ρ (env p.2) (env' p.2)) → (l.all fun p => known (env p.2)) = true →
    PartsR ρ (l.map fun (p : Nat × Operand) => (p.1, env p.2)) (l.map fun (p : Nat × Operand) => (p.1, env' p.2))
  | [], _, _ => .nil
  | p :: l, h, hk => by
    simp only [List.all_cons, Bool.and_eq_true] at hk
    exact .cons (h p (by simp)) hk.1 (parts_R l (fun q hq => h q (by simp [hq])) hk.2)

theorem zeroCells_LR {z : Value} {n : Nat} (h : plain 8 z = true) (k : Nat) : LR ρ (Builtin.zeroCells z.cells k).toList (Builtin.zeroCells z.cells k).toList := by
  have hz := plain_cells (ρ := ρ) h
  have : n = n := rfl
  clear this n
  apply LR.of_get rfl
  intro j hj
  simp only [Builtin.zeroCells, Array.toList_map, List.length_map, Array.length_toList, Array.size_range] at hj
  have hpos : 0 < z.cells.size := by
    rcases Nat.eq_zero_or_pos z.cells.size with h0 | h0
    · rw [h0] at hj; simp at hj
    · exact h0
  have hlt : j % z.cells.size < z.cells.size := Nat.mod_lt _ hpos
  obtain ⟨v', hv', hr⟩ := hz.get (n := j % z.cells.size) (v := z.cells[j % z.cells.size]) (by simp [hlt])
  have e : v' = z.cells[j % z.cells.size] := by simp [hlt] at hv'; exact hv'.symm
  subst e
  have hget : (Builtin.zeroCells z.cells k).toList.getD j undef = z.cells[j % z.cells.size] := by
    simp only [Builtin.zeroCells, Array.toList_map, List.getD_eq_getElem?_getD, List.getElem?_map, Array.getElem?_toList]
    rw [Array.getElem?_range]
    simp only [hj, if_true, Option.map_some, Option.getD_some]
    simp [hlt]
  rw [hget]
  exact hr

theorem wrap_small {n : Int} (h0 : 0 ≤ n) (h : n ≤ 2 ^ 40) : IntKind.i64.wrap n = n := by
  exact IntWalk.i64_in _ (by omega)
theorem askRoom_run (n : Nat) (w : World) : (askRoom n).run P w = .ok () w := by
  unfold askRoom
  split <;> rfl

theorem VR.int_inv {k : IntKind} {n : Int} {v : Value} (h : VR ρ (.int k n) v) : v = .int k n := by cases h; rfl
theorem VR.bool_inv {b : Bool} {v : Value} (h : VR ρ (.bool b) v) : v = .bool b := by cases h; rfl
theorem allocOf_sound {env env' : Operand → Value} {o : Oper} {k : Mk} {x : AObj} (henv : ∀ y ∈ o.op.operands, VR ρ (env y) (env' y)) (h : allocOf P env o = some (k, x)) (w : World) :
    Laid P ρ (execOp env' o) k x w := by
  unfold allocOf at h
  cases hop : o.op with
  | alloc elem =>
    simp only [hop] at h
    cases hi : P.info? elem with
    | none => simp [hi] at h
    | some i =>
      simp only [hi, Option.bind_eq_bind, Option.bind_some] at h
      cases hz : i.zero with
      | none => simp [hz] at h
      | some z =>
        simp only [hz, Option.bind_some] at h
        split at h
        · rename_i hp
          simp only [Option.some.injEq, Prod.mk.injEq] at h
          obtain ⟨rfl, rfl⟩ := h
          refine Laid.cells (c := z.cells) (by simp) ?_ (plain_cells hp)
          simp only [execOp, hop, Instr.alloc, Sem.run_bind, zero_run hi hz, Result.andThen_ok, newVar, newRow]
          rfl
        · cases h
  | box elem y =>
    simp only [hop] at h
    split at h
    · rename_i hk
      simp only [Option.some.injEq, Prod.mk.injEq] at h
      obtain ⟨rfl, rfl⟩ := h
      have hv := henv y (by simp [hop, Op.operands])
      refine Laid.cells (c := (env' y).cells) (by simp) ?_ (cells_LR hv hk)
      simp only [execOp, hop, Instr.box, newVar, newRow]
      rfl
    · cases h
  | buildSlice t len parts =>
    simp only [hop] at h
    cases hu : P.underlying t with
    | none => simp [hu] at h
    | some d =>
      cases d with
      | slice elem =>
        simp only [hu, Option.bind_eq_bind, Option.bind_some] at h
        cases hi : P.info? elem with
        | none => simp [hi] at h
        | some i =>
          simp only [hi, Option.bind_some] at h
          cases hz : i.zero with
          | none => simp [hz] at h
          | some z =>
            simp only [hz, Option.bind_some] at h
            split at h
            · cases h
            · rename_i hc
              simp only [Bool.or_eq_true, decide_eq_true_eq, Bool.not_eq_true', bne_iff_ne, ne_eq, not_or, Bool.not_eq_false, Nat.not_lt, Decidable.not_not] at hc
              obtain ⟨⟨⟨h1, hp⟩, hs⟩, hk⟩ := hc
              cases hf : Instr.fill (fun j => some (j * i.size, i.size)) (Builtin.zeroCells z.cells len) (parts.toList.map fun (x : Nat × Operand) => (x.1, env x.2)) with
              | none => simp [hf] at h
              | some cs =>
                simp only [hf, Option.bind_some, Option.some.injEq, Prod.mk.injEq] at h
                obtain ⟨rfl, rfl⟩ := h
                have hparts : PartsR ρ (parts.toList.map fun (p : Nat × Operand) => (p.1, env p.2)) (parts.toList.map fun (p : Nat × Operand) => (p.1, env' p.2)) := by
                  refine parts_R _ (fun p hpm => henv p.2 ?_) (by simpa using hk)
                  simp only [hop, Op.operands]
                  simp only [List.mem_toArray, List.mem_map]
                  exact ⟨p, hpm, rfl⟩
                obtain ⟨r', hf', hr⟩ := fill_LR _ hparts (zeroCells_LR (ρ := ρ) (n := 0) hp len) hf
                refine Laid.cells (c := r') (by simp) ?_ hr
                simp only [execOp, hop, Instr.buildSlice, Sem.run_bind, und_run hu, sizeOf_run hi, Result.andThen_ok]
                rw [if_neg (by omega)]
                by_cases h0 : len * i.size = 0
                · simp only [h0, if_true, Sem.run_bind, Sem.run_pure, Result.andThen_ok]
                  have e1 : (Array.map (fun x => (#[] : Array Value)[x % (#[] : Array Value).size]!) (Array.range 0)) = Builtin.zeroCells z.cells len := by
                    simp [Builtin.zeroCells, hs, h0]
                  rw [e1, Array.toList_map, hf']
                  rfl
                · simp only [h0, if_false, Sem.run_bind, Sem.run_pure, Result.andThen_ok, zero_run hi hz]
                  have e1 : (Array.map (fun x => z.cells[x % z.cells.size]!) (Array.range (len * i.size))) = Builtin.zeroCells z.cells len := by
                    simp [Builtin.zeroCells, hs]
                  rw [e1, Array.toList_map, hf']
                  rfl
      | _ => simp [hu] at h
  | makeSlice t l c =>
    simp only [hop] at h
    have hl := henv l (by simp [hop, Op.operands])
    have hc := henv c (by simp [hop, Op.operands])
    split at h
    · rename_i l0 c0 el ec
      rw [el] at hl
      rw [ec] at hc
      have hl' : env' l = .int .i64 l0 := hl.int_inv
      have hc' : env' c = .int .i64 c0 := hc.int_inv
      cases hu : P.underlying t with
      | none => simp [hu] at h
      | some d =>
        cases d with
        | slice elem =>
          simp only [hu, Option.bind_eq_bind, Option.bind_some] at h
          cases hi : P.info? elem with
          | none => simp [hi] at h
          | some i =>
            simp only [hi, Option.bind_some] at h
            cases hz : i.zero with
            | none => simp [hz] at h
            | some z =>
              simp only [hz, Option.bind_some] at h
              split at h
              · rename_i hcond
                obtain ⟨c1, c2, c3, c4, hp, hs⟩ := hcond
                simp only [Option.some.injEq, Prod.mk.injEq] at h
                obtain ⟨rfl, rfl⟩ := h
                refine Laid.cells (c := Builtin.zeroCells z.cells c0.toNat) (by simp) ?_ (zeroCells_LR (n := 0) hp _)
                have w1 := wrap_small c1 (by omega)
                have w2 := wrap_small (n := c0) (by omega) c4
                simp only [execOp, hop, hl', hc', Instr.makeSlice, asInt, asIntOf, Sem.run_bind, Sem.run_pure, und_run hu, info_run hi, Result.andThen_ok, w1, w2]
                have hb : (0 : Int) ≤ i.bytes := Int.natCast_nonneg _
                have hm : (i.bytes : Int) * c0 ≤ 2 ^ 48 := by omega
                have cond : (decide (c0 < 0) || decide ((i.bytes : Int) * c0 > 2 ^ 48) || decide (l0 < 0) || decide (l0 > c0)) = false := by
                  simp only [Bool.or_eq_false_iff, decide_eq_false_iff_not]
                  exact ⟨⟨⟨by omega, by omega⟩, by omega⟩, by omega⟩
                rw [cond]
                simp only [Bool.false_eq_true, if_false, Sem.run_bind, askRoom_run, Result.andThen_ok, sizeOf_run hi]
                by_cases h0 : c0.toNat * i.size = 0
                · have e1 : (Array.map (fun x => (#[] : Array Value)[x % (#[] : Array Value).size]!) (Array.range 0)) = Builtin.zeroCells z.cells c0.toNat := by
                    simp [Builtin.zeroCells, hs, h0]
                  simp only [h0, if_true, Sem.run_bind, Sem.run_pure, Result.andThen_ok, e1]
                  rfl
                · have e1 : (Array.map (fun x => z.cells[x % z.cells.size]!) (Array.range (c0.toNat * i.size))) = Builtin.zeroCells z.cells c0.toNat := by
                    simp [Builtin.zeroCells, hs]
                  simp only [h0, if_false, Sem.run_bind, Sem.run_pure, Result.andThen_ok, zero_run hi hz, e1]
                  rfl
              · cases h
        | _ => simp [hu] at h
    · cases h
  | makeMap t r =>
    cases r with
    | none =>
      simp only [hop] at h
      cases hu : P.underlying t with
      | none => simp [hu] at h
      | some d =>
        cases d with
        | map a b =>
          simp only [hu, Option.bind_eq_bind, Option.bind_some, Option.some.injEq, Prod.mk.injEq] at h
          obtain ⟨rfl, rfl⟩ := h
          refine Laid.map ?_
          simp only [execOp, hop, Instr.makeMap, Option.map_none]
          rfl
        | _ => simp [hu] at h
    | some y =>
      simp only [hop] at h
      have hy := henv y (by simp [hop, Op.operands])
      split at h
      · rename_i a n e
        rw [e] at hy
        have hy' : env' y = .int a n := hy.int_inv
        cases hu : P.underlying t with
        | none => simp [hu] at h
        | some d =>
          cases d with
          | map a b =>
            simp only [hu, Option.bind_eq_bind, Option.bind_some, Option.some.injEq, Prod.mk.injEq] at h
            obtain ⟨rfl, rfl⟩ := h
            refine Laid.map ?_
            simp only [execOp, hop, Instr.makeMap, Option.map_some, hy', Sem.run_bind, und_run hu, Result.andThen_ok]
            rfl
          | _ => simp [hu] at h
      · cases h
  | _ => simp [hop] at h

end Go.Abs
