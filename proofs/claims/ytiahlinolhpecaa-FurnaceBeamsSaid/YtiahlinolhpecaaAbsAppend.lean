/- append: the evaluator against the machine. -/
import Derived.Test.YtiahlinolhpecaaAbsAlloc
namespace Go.Abs
open Go.RowKit
variable {P : Program} {ρ : Ren} {w0 w : World} {H : Heap}

theorem lenA_run {x x' : Value} (hx : VR ρ x x') {n : Nat} (h : lenA x = some n) (w : World) : (Builtin.lenOf x').run P w = .ok n w := by
  cases hx with
  | string s => simp only [lenA, Option.some.injEq] at h; subst h; rfl
  | nilSlice l c => simp only [lenA, Option.some.injEq] at h; subst h; rfl
  | slice i k len cap m hm ho => simp only [lenA, Option.some.injEq] at h; subst h; rfl
  | opened i k len cap capC m hm ho hc hs => simp only [lenA, Option.some.injEq] at h; subst h; rfl
  | empty i k off m hm ho _ => simp only [lenA, Option.some.injEq] at h; subst h; rfl
  | _ => simp [lenA] at h

theorem addr_add (b o j : Nat) : (⟨b, o, none⟩ : Addr).add j = ⟨b, o + j, none⟩ := by
  unfold Addr.add; split <;> simp_all

theorem cellsAt_run (g : Gam w0 ρ H w) {i k n : Nat} {m : Meta} {cs : List Value} (hm : ρ i = some m) (h : H.cellsAt i k n = some cs) :
    ∃ cs', LR ρ cs cs' ∧ (loadCells ⟨m.b, m.o + k, none⟩ n).run P w = .ok cs'.toArray w := by
  obtain ⟨hlen, cs', hlr, hcell⟩ := g.cellsAt hm h
  refine ⟨cs', hlr, ?_⟩
  have := run_loadCells_list (P := P) w ⟨m.b, m.o + k, none⟩ cs' (fun j u hu => by rw [addr_add]; exact hcell j u hu)
  rwa [← hlr.length, hlen] at this

theorem bytes_LR : ∀ l : List UInt8, LR ρ (l.map fun b => Value.int .u8 b.toNat) (l.map fun b => Value.int .u8 b.toNat)
  | [] => .nil
  | _ :: l => .cons (.int _ _) (bytes_LR l)

theorem cellsAt_known {i k n : Nat} {cs : List Value} {m : Meta} (g : Gam w0 ρ H w) (hm : ρ i = some m) (h : H.cellsAt i k n = some cs) : k + n ≤ m.known := by
  unfold Heap.cellsAt at h
  cases ho : H.get i with
  | none => simp [ho] at h
  | some o =>
    cases o with
    | cells l ty opn es =>
      simp only [ho] at h
      split at h
      · have := (g.obj i m _ hm ho).1
        omega
      · cases h
    | sym l opn es =>
      simp only [ho] at h
      split at h
      · have := (g.obj i m _ hm ho).1.1
        omega
      · cases h
    | _ => simp [ho] at h

theorem firstA_run (g : Gam w0 ρ H w) {x x' : Value} (hx : VR ρ x x') {size n : Nat} {cs : List Value} (h : firstA H size n x = some cs) :
    ∃ cs', LR ρ cs cs' ∧ (Builtin.firstCells size n x').run P w = .ok cs'.toArray w := by
  cases hx with
  | string s =>
    simp only [firstA, Option.some.injEq] at h
    subst h
    refine ⟨_, bytes_LR _, ?_⟩
    simp only [Builtin.firstCells, Sem.run_pure]
    congr 1
    apply Array.toList_inj.1
    simp [List.extract_eq_take_drop]
  | nilSlice l c =>
    simp only [firstA, Option.some.injEq] at h
    subst h
    exact ⟨[], .nil, rfl⟩
  | slice i k len cap m hm ho => exact cellsAt_run g hm h
  | opened i k len cap capC m hm ho hc hs => exact cellsAt_run g hm h
  | empty i k off m hm ho _ =>
    have h' : H.cellsAt i k (n * size) = some cs := h
    have hk := cellsAt_known g hm h'
    simp only [Meta.isOpen, Bool.and_eq_true, beq_iff_eq] at ho
    have h0 : n * size = 0 := by omega
    obtain ⟨hlen, _⟩ := g.cellsAt hm h'
    rw [h0] at hlen
    have : cs = [] := List.length_eq_zero_iff.1 hlen
    subst this
    refine ⟨[], .nil, ?_⟩
    simp only [Builtin.firstCells, h0]
    rfl
  | _ => simp [firstA] at h

theorem growBy_le (n : Nat) : ∀ (r c : Nat), c ≤ 2 * n + 768 → Builtin.growBy n r c ≤ 2 * n + 768
  | 0, c, h => h
  | r + 1, c, h => by
    unfold Builtin.growBy
    split
    · exact h
    · exact growBy_le n r _ (by omega)
theorem nextcap_le {n c : Nat} (h : c < n) : Builtin.nextslicecap n c ≤ 2 * n + 768 := by
  unfold Builtin.nextslicecap
  split
  · omega
  · split
    · omega
    · exact growBy_le n 4 c (by omega)

/-- Growing: a new array, however much larger. -/
theorem append_grows {argTypes : Array TypeId} {type : TypeId} {args : Array Value} {sType elem : TypeId} {base : Option Addr} {sLen sCap n : Nat} {x : Value} {i : TypeInfo} {z : Value} {old new : List Value}
    (h0 : argTypes[0]? = some sType) (h1 : args[0]? = some (.slice base sLen sCap)) (h2 : args[1]? = some x) (hu : P.underlying sType = some (.slice elem)) (hi : P.info? elem = some i) (hz : i.zero = some z)
    (hzero : ∀ xType, argTypes[1]? = some xType → ∃ d, P.underlying xType = some d ∧ (match d with | .int _ => true | _ => false) = false)
    (hlen : (Builtin.lenOf x).run P w = .ok n w) (hgt : ¬ sLen + n ≤ sCap) (hb : (2 * (sLen + n) + 768) * i.bytes ≤ 2 ^ 48) (hs : sLen + n ≤ 2 ^ 40)
    (hold : (Builtin.firstCells i.size sLen (.slice base sLen sCap)).run P { w with drawn := w.drawn + 1 } = .ok old.toArray { w with drawn := w.drawn + 1 })
    (hnew : (Builtin.firstCells i.size n x).run P { w with drawn := w.drawn + 1 } = .ok new.toArray { w with drawn := w.drawn + 1 }) :
    ∃ newCap, sLen + n ≤ newCap ∧ (Builtin.append_ argTypes type args).run P w = .ok (.slice (some ⟨w.heap.size, 0, none⟩) (sLen + n) newCap)
      (World.alloc { w with drawn := w.drawn + 1 } (.cells (old.toArray ++ new.toArray ++ Builtin.zeroCells z.cells (newCap - (sLen + n))) elem)) := by
  refine ⟨(Question.appendCap (sLen + n) sCap elem).cut (w.tape w.drawn (Question.appendCap (sLen + n) sCap elem)), by simp [Question.cut], ?_⟩
  have hn : Builtin.nextslicecap (sLen + n) sCap * i.bytes ≤ 2 ^ 48 := Nat.le_trans (Nat.mul_le_mul_right _ (nextcap_le (by omega))) hb
  have hmax : ¬ ((((sLen + n : Nat) : Int) > IntKind.i64.max) ∧ (False ∨ i.bytes = 0)) := by
    rintro ⟨h, _⟩
    simp [IntKind.max, IntKind.bits, IntKind.signed] at h
    omega
  have hch : Sem.run P (choose (Question.appendCap (sLen + n) sCap elem)) w =
      .ok ((Question.appendCap (sLen + n) sCap elem).cut (w.tape w.drawn (Question.appendCap (sLen + n) sCap elem))) { w with drawn := w.drawn + 1 } := rfl
  unfold Builtin.append_
  simp only [h0, h1, h2, Sem.run_bind, und_run hu, Result.andThen_ok, sizeOf_run hi]
  cases h4 : (argTypes[1]? : Option TypeId) with
  | none =>
    simp only [Sem.run_bind, Sem.run_pure, Result.andThen_ok, Bool.false_eq_true, if_false, hlen, hgt, info_run hi, hmax, gt_iff_lt, Nat.not_lt.2 hn, Bool.not_false, if_true]
    simp only [hch, Result.andThen_ok, askRoom_run, hold, hnew, zero_run hi hz]
    rfl
  | some xType =>
    obtain ⟨d, hd, hd2⟩ := hzero xType h4
    cases d with
    | int k => simp at hd2
    | _ =>
      simp only [Sem.run_bind, Sem.run_pure, Result.andThen_ok, und_run hd, Bool.false_eq_true, if_false, hlen, hgt, info_run hi, hmax, gt_iff_lt, Nat.not_lt.2 hn, Bool.not_false, if_true]
      simp only [hch, Result.andThen_ok, askRoom_run, hold, hnew, zero_run hi hz]
      rfl

/-- There is room: the elements are laid behind the last one. -/
theorem append_fits {argTypes : Array TypeId} {type : TypeId} {args : Array Value} {sType elem : TypeId} {base : Option Addr} {sLen sCap n : Nat} {x : Value} {i : TypeInfo} {new : List Value} {w' : World}
    (h0 : argTypes[0]? = some sType) (h1 : args[0]? = some (.slice base sLen sCap)) (h2 : args[1]? = some x) (hu : P.underlying sType = some (.slice elem)) (hi : P.info? elem = some i)
    (hzero : ∀ xType, argTypes[1]? = some xType → ∃ d, P.underlying xType = some d ∧ (match d with | .int _ => true | _ => false) = false)
    (hlen : (Builtin.lenOf x).run P w = .ok n w) (hle : sLen + n ≤ sCap)
    (hnew : (Builtin.firstCells i.size n x).run P w = .ok new.toArray w)
    (hst : (match base with | some a => storeCells (a.add (sLen * i.size)) new | none => pure ()).run P w = .ok () w') :
    (Builtin.append_ argTypes type args).run P w = .ok (.slice base (sLen + n) sCap) w' := by
  have fin : ∀ e : Sem Value, (e = match base with | some a => (do storeCells (a.add (sLen * i.size)) new; pure (Value.slice base (sLen + n) sCap)) | _ => pure (Value.slice base (sLen + n) sCap)) → Sem.run P e w = .ok (.slice base (sLen + n) sCap) w' := by
    intro e he
    rw [he]
    cases base with
    | none =>
      have hst' : (Result.ok () w : Result Unit) = .ok () w' := hst
      cases hst'
      rfl
    | some a =>
      simp only [Sem.run_bind, hst, Result.andThen_ok]
      rfl
  unfold Builtin.append_
  simp only [h0, h1, h2, Sem.run_bind, und_run hu, Result.andThen_ok, sizeOf_run hi]
  cases h4 : (argTypes[1]? : Option TypeId) with
  | none =>
    simp only [Sem.run_bind, Sem.run_pure, Result.andThen_ok, Bool.false_eq_true, if_false, hlen, hle, Bool.not_false, if_true, hnew]
    exact fin _ (by cases base <;> rfl)
  | some xType =>
    obtain ⟨d, hd, hd2⟩ := hzero xType h4
    cases d with
    | int k => simp at hd2
    | _ =>
      simp only [Sem.run_bind, Sem.run_pure, Result.andThen_ok, und_run hd, Bool.false_eq_true, if_false, hlen, hle, Bool.not_false, if_true, hnew]
      exact fin _ (by cases base <;> rfl)
end Go.Abs
