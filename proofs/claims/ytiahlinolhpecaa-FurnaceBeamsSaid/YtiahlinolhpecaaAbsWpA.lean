/- What is left to show of one operation, against the evaluator. -/
import Derived.Test.YtiahlinolhpecaaAbsWp
namespace Go.Abs
variable {P : Program} {H : Heap}

theorem wpVal_out {v : Value} {k : Value → Prop} (h : wpVal v k) : k v := by
  cases v with
  | bool b => cases b <;> simpa [wpVal, bcase] using h
  | _ => exact h

theorem rowOf_out : ∀ (l : List Sc) {k : List Value → Prop}, rowOf l k → ∃ vs, vs.length = l.length ∧ k vs
  | [], k, h => ⟨[], rfl, h⟩
  | .int kd :: r, k, h => by
    obtain ⟨n, h⟩ := h
    obtain ⟨vs, h1, h2⟩ := rowOf_out r h
    exact ⟨_ :: vs, by simp [h1], h2⟩
  | .bool :: r, k, h => by
    rcases h with h | h
    all_goals
      obtain ⟨vs, h1, h2⟩ := rowOf_out r h
      exact ⟨_ :: vs, by simp [h1], h2⟩
  | .str :: r, k, h => by
    obtain ⟨n, h⟩ := h
    obtain ⟨vs, h1, h2⟩ := rowOf_out r h
    exact ⟨_ :: vs, by simp [h1], h2⟩
  | .sl _ :: _, k, h => by cases h

theorem wpLoad_out {t : TypeId} {p : Value} {k : Value → Prop} (h : wpLoad P H t p k) : ∃ v, loadA P H t p = some v ∧ k v := by
  unfold wpLoad at h
  split at h
  case h_2 => cases h
  rename_i i off
  split at h
  · rename_i cs o es hg
    split at h
    · rename_i l hs ha
      split at h
      · rename_i hz
        obtain ⟨vs, h1, h2, h3⟩ := rowOf_out _ h
        refine ⟨_, ?_, h3⟩
        have hc : H.cellsAt i off l.length = some vs := by
          unfold Heap.cellsAt
          rw [hg]
          simp only
          rw [if_pos h2.len, h2.eq]
        simp [loadA, ha, hz, hc]
      · cases h
    · rename_i s hs ha
      obtain ⟨vs, h1, h2, h3⟩ := rowOf_out _ h
      refine ⟨_, ?_, h3⟩
      have hc : H.cellsAt i off 1 = some vs := by
        unfold Heap.cellsAt
        rw [hg]
        simp only
        rw [if_pos h2.len, h2.eq]
      match vs, h1 with
      | [v], _ => simp [loadA, ha, hc]
    · cases h
  · split at h
    · rename_i v hv
      exact ⟨v, hv, wpVal_out h⟩
    · cases h
  · cases h

theorem pureRun_und {t : TypeId} {d : TypeDesc} (h : P.underlying t = some d) : pureRun P (underlying t) = some d := by
  have : pureRun P (underlying t) = pureRun P (match P.underlying t with | some d => pure d | none => stuck "no such type") := rfl
  rw [this, h]
  rfl
theorem pureRun_size {t : TypeId} {n : Nat} (h : sizeP P t = some n) : pureRun P (sizeOf t) = some n := by
  unfold sizeP at h
  cases hi : P.info? t with
  | none => simp [hi] at h
  | some i =>
    simp only [hi, Option.map_some, Option.some.injEq] at h
    have : pureRun P (sizeOf t) = pureRun P ((match P.info? t with | some i => pure i | none => stuck "no such type" : Sem TypeInfo).bind fun i => pure i.size) := rfl
    rw [this, hi]
    simp only [pureRun_bind]
    show some i.size = some n
    rw [h]

theorem bcase_out {b : Bool} {x : Prop} (h : bcase b x False) : b = true ∧ x := by cases b <;> simp_all [bcase]

theorem wpIndexAddr_out {t : TypeId} {x ix : Value} {k : Value → Prop} (h : wpIndexAddr P t x ix k) : ∃ v, pureRun P (Instr.indexAt t x ix) = some v ∧ k v := by
  unfold wpIndexAddr at h
  split at h
  · rename_i i o len cap kd n
    split at h
    · rename_i e hu
      split at h
      · rename_i es hz
        obtain ⟨h1, h⟩ := bcase_out h
        obtain ⟨h2, h⟩ := bcase_out h
        simp only [decide_eq_true_eq] at h1 h2
        refine ⟨_, ?_, h⟩
        have key : ∀ {α : Type} (f : TypeDesc → Sem α), pureRun P (underlying t >>= f) = pureRun P (f (.slice e)) := by
          intro α f
          show pureRun P (Sem.bind (underlying t) f) = _
          rw [pureRun_bind, pureRun_und hu]
          rfl
        have keyS : ∀ {α : Type} (f : Nat → Sem α), pureRun P (sizeOf e >>= f) = pureRun P (f es) := by
          intro α f
          show pureRun P (Sem.bind (sizeOf e) f) = _
          rw [pureRun_bind, pureRun_size hz]
          rfl
        unfold Instr.indexAt
        show pureRun P (underlying t >>= _) = _
        rw [key]
        show pureRun P (underlying t >>= _) = _
        rw [key]
        simp only
        rw [if_pos ⟨h1, h2⟩, keyS, addr_add]
        rfl
      · cases h
    · cases h
  · split at h
    · rename_i v hv; exact ⟨v, hv, h⟩
    · cases h
  · cases h

theorem wpIndex_out {t : TypeId} {x ix : Value} {k : Value → Prop} (h : wpIndex P t x ix k) : ∃ v, pureRun P (Instr.index t x ix) = some v ∧ k v := by
  unfold wpIndex at h
  split at h
  · rename_i s kd n
    split at h
    · rename_i hu
      obtain ⟨h1, h⟩ := bcase_out h
      obtain ⟨b, hb, h⟩ := h
      simp only [decide_eq_true_eq] at h1
      refine ⟨_, ?_, h⟩
      have key : ∀ {α : Type} (f : TypeDesc → Sem α), pureRun P (underlying t >>= f) = pureRun P (f .string) := by
        intro α f
        show pureRun P (Sem.bind (underlying t) f) = _
        rw [pureRun_bind, pureRun_und hu]
        rfl
      unfold Instr.index
      show pureRun P (underlying t >>= _) = _
      rw [key]
      simp only
      rw [if_pos h1, hb.out]
      rfl
    · cases h
  · split at h
    · rename_i v hv; exact ⟨v, hv, wpVal_out h⟩
    · cases h

theorem binA_ints {op : BinOp} {t : TypeId} {x y : Operand} {j j' : IntKind} {m n : Int} : binA P op t x y (.int j m) (.int j' n) = plainRun P (do eqGuard op t x y (.int j m) (.int j' n); binOp op t (.int j m) (.int j' n)) := by
  unfold binA
  split
  · rename_i h _; cases h
  · rw [if_pos (by rfl)]
theorem wpBin_out {op : BinOp} {t : TypeId} {x y : Operand} {a b : Value} {k : Value → Prop} (h : wpBin P op t x y a b k) : ∃ v, binA P op t x y a b = some v ∧ k v := by
  unfold wpBin at h
  split at h
  · rename_i j m j' n
    split at h
    · rename_i hj
      subst hj
      obtain ⟨h1, h⟩ := bcase_out h
      have hn : n ≠ 0 := by simpa using h1
      refine ⟨_, ?_, h⟩
      have : pureRun P (do eqGuard .quo t x y (.int j m) (.int j n); binOp .quo t (.int j m) (.int j n)) = pureRun P (Op.intDiv .quo j m n) := by
        simp only [eqGuard, binOp]
        simp
      simp only [binA_ints, plainRun]
      rw [this]
      unfold Op.intDiv
      rw [if_neg hn]
      rfl
    · cases h
  · rename_i j m j' n
    split at h
    · rename_i hj
      subst hj
      obtain ⟨h1, h⟩ := bcase_out h
      have hn : n ≠ 0 := by simpa using h1
      refine ⟨_, ?_, h⟩
      have : pureRun P (do eqGuard .rem t x y (.int j m) (.int j n); binOp .rem t (.int j m) (.int j n)) = pureRun P (Op.intDiv .rem j m n) := by
        simp only [eqGuard, binOp]
        simp
      simp only [binA_ints, plainRun]
      rw [this]
      unfold Op.intDiv
      rw [if_neg hn]
      rfl
    · cases h
  · split at h
    · rename_i v hv; exact ⟨v, hv, wpVal_out h⟩
    · cases h

theorem wpVop_out {env : Operand → Value} {o : Oper} {k : Value → Heap → Prop} (h : wpVop P H env o k) : ∃ v H', opA P H env o = some (.value v, H') ∧ k v H' := by
  unfold wpVop at h
  split at h
  · rename_i t a hop
    obtain ⟨v, h1, h2⟩ := wpLoad_out h
    exact ⟨v, H, by simp [opA, hop, valA, h1], h2⟩
  · rename_i t x ix hop
    obtain ⟨v, h1, h2⟩ := wpIndexAddr_out h
    exact ⟨v, H, by simp [opA, hop, valA, h1], h2⟩
  · rename_i t x ix hop
    obtain ⟨v, h1, h2⟩ := wpIndex_out h
    exact ⟨v, H, by simp [opA, hop, valA, h1], h2⟩
  · rename_i op t x y t' hop
    obtain ⟨v, h1, h2⟩ := wpBin_out h
    exact ⟨v, H, by simp [opA, hop, valA, h1], h2⟩
  · split at h
    · rename_i v H' hv
      exact ⟨v, H', hv, wpVal_out (k := fun v => k v H') h⟩
    · cases h

end Go.Abs
