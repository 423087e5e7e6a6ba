/- Computations that touch no memory: the evaluator's result against the machine's. -/
import Derived.Test.YtiahlinolhpecaaAbsRel
import Derived.Laws.Sem
namespace Go.Abs
open Go.RowKit

inductive PR (P : Program) {α β : Type} (R : α → β → Prop) : Sem α → Sem β → Prop
  | pure {a : α} {b : β} (h : R a b) : PR P R (.pure a) (.pure b)
  | program {k : Program → Sem α} {k' : Program → Sem β} (h : PR P R (k P) (k' P)) : PR P R (.program k) (.program k')
  | mark {m m' : Mark} {k : Sem α} {k' : Sem β} (h : PR P R k k') : PR P R (.mark m k) (.mark m' k')
  | fail {e : Sem α} {e' : Sem β} (h : pureRun P e = none) : PR P R e e'

theorem pureRun_bind {α β : Type} (P : Program) (e : Sem α) (f : α → Sem β) : pureRun P (e.bind f) = (pureRun P e).bind fun a => pureRun P (f a) := by
  induction e <;> simp_all [Sem.bind, pureRun]

namespace PR
variable {P : Program} {α β γ δ : Type} {R : α → β → Prop} {S : γ → δ → Prop}
theorem sound {e : Sem α} {e' : Sem β} (h : PR P R e e') {a : α} (hp : pureRun P e = some a) : ∃ b, R a b ∧ ∀ w, e'.run P w = .ok b w := by
  induction h with
  | pure h => simp [pureRun] at hp; subst hp; exact ⟨_, h, fun w => rfl⟩
  | program _ ih => exact ih hp
  | mark _ ih => exact ih hp
  | fail h => rw [h] at hp; cases hp
theorem bind {e : Sem α} {e' : Sem β} {f : α → Sem γ} {f' : β → Sem δ} (h : PR P R e e') (hf : ∀ a b, R a b → PR P S (f a) (f' b)) : PR P S (e >>= f) (e' >>= f') := by
  show PR P S (e.bind f) (e'.bind f')
  induction h with
  | pure h => exact hf _ _ h
  | program _ ih => exact .program ih
  | mark _ ih => exact .mark ih
  | fail h => exact .fail (by rw [pureRun_bind, h]; rfl)
theorem refl : ∀ e : Sem α, PR P Eq e e
  | .pure _ => .pure rfl
  | .program k => .program (refl (k P))
  | .mark _ k => .mark (refl k)
  | .load _ _ _ => .fail rfl
  | .store _ _ _ _ => .fail rfl
  | .new _ _ => .fail rfl
  | .shape _ _ => .fail rfl
  | .freeze _ _ _ => .fail rfl
  | .frozen _ _ => .fail rfl
  | .getObj _ _ => .fail rfl
  | .setObj _ _ _ => .fail rfl
  | .choose _ _ => .fail rfl
  | .sys _ _ => .fail rfl
  | .halt _ => .fail rfl
theorem imp {R' : α → β → Prop} (hi : ∀ a b, R a b → R' a b) {e : Sem α} {e' : Sem β} (h : PR P R e e') : PR P R' e e' := by
  induction h with
  | pure h => exact .pure (hi _ _ h)
  | program _ ih => exact .program ih
  | mark _ ih => exact .mark ih
  | fail h => exact .fail h
/-- A step that is the same on both sides. -/
theorem same {e : Sem α} {f : α → Sem γ} {f' : α → Sem δ} (hf : ∀ a, PR P S (f a) (f' a)) : PR P S (e >>= f) (e >>= f') :=
  bind (refl e) (fun a b h => by subst h; exact hf a)
theorem stuck {s : String} {e' : Sem β} : PR P R (Go.stuck s) e' := .fail rfl
theorem ret {a : α} {b : β} (h : R a b) : PR P R (Pure.pure a) (Pure.pure b) := .pure h
end PR

variable {P : Program} {ρ : Ren}

theorem asInt_PR {v v' : Value} (h : VR ρ v v') : PR P Eq (asIntOf v) (asIntOf v') := by
  cases h <;> first | exact .refl _ | exact .fail rfl
theorem asAgg_PR {v v' : Value} (h : VR ρ v v') : PR P (fun a b => LR ρ a.toList b.toList) (asAgg v) (asAgg v') := by
  cases h with
  | agg a a' ha ra => exact .pure (.of_arr ha ra)
  | _ => exact .fail rfl
theorem LR.extract {a b : Array Value} (h : LR ρ a.toList b.toList) (i j : Nat) : LR ρ (a.extract i j).toList (b.extract i j).toList := by
  simp only [Array.toList_extract, List.extract_eq_take_drop]
  exact (h.drop i).take _
theorem part_PR {t : TypeId} {a b : Array Value} (h : LR ρ a.toList b.toList) (off : Nat) : PR P (VR ρ) (part t a off) (part t b off) := by
  unfold part
  refine .same fun g => ?_
  split
  · exact .same fun n => .ret (VR.agg' (h.extract _ _))
  · cases hv : a[off]? with
    | none => exact .stuck
    | some v =>
      obtain ⟨v', e, r⟩ := h.get (n := off) (v := v) (by simpa using hv)
      have e' : b[off]? = some v' := by simpa using e
      simp only [e']
      exact .ret r

theorem field_PR {t : TypeId} {v v' : Value} (h : VR ρ v v') (f : Nat) : PR P (VR ρ) (Instr.field t v f) (Instr.field t v' f) := by
  unfold Instr.field
  refine .same fun d => ?_
  cases d with
  | struct fields =>
    simp only
    cases fields[f]? with
    | none => exact .stuck
    | some g => exact .bind (asAgg_PR h) fun a b r => part_PR r _
  | _ => exact .stuck

theorem extract_PR {v v' : Value} (h : VR ρ v v') (i : Nat) : PR P (VR ρ) (Instr.extract v i) (Instr.extract v' i) := by
  cases h with
  | tuple a a' ha ra =>
    have hl := LR.of_arr ha ra
    unfold Instr.extract
    cases hv : a[i]? with
    | none => simp only [hv]; exact .fail rfl
    | some v =>
      obtain ⟨v', e, r⟩ := hl.get (n := i) (v := v) (by simpa using hv)
      have e' : a'[i]? = some v' := by simpa using e
      simp only [hv, e']
      exact .pure r
  | _ => exact .fail rfl

/-! ### Addresses -/
/-- Where an abstract place lies. -/
inductive AdR (ρ : Ren) : Addr → Addr → Prop
  | glob (g k : Nat) (h : g < abase) : AdR ρ ⟨g, k, none⟩ ⟨g, k, none⟩
  | own (i k : Nat) (m : Meta) (h : ρ i = some m) : AdR ρ ⟨i, k, none⟩ ⟨m.b, m.o + k, none⟩
theorem AdR.add {a a' : Addr} (h : AdR ρ a a') (n : Nat) : AdR ρ (a.add n) (a'.add n) := by
  by_cases hn : n = 0
  · simpa [Addr.add, hn] using h
  · cases h with
    | glob g k hg => simpa [Addr.add, hn] using AdR.glob (ρ := ρ) g (k + n) hg
    | own i k m hm => have := AdR.own (ρ := ρ) i (k + n) m hm; simpa [Addr.add, hn, Nat.add_assoc] using this
theorem AdR.ptr {a a' : Addr} (h : AdR ρ a a') : VR ρ (.pointer (some a)) (.pointer (some a')) := by
  cases h with
  | glob g k hg => exact .glob g k hg
  | own i k m hm => exact .ptr i k m hm
theorem sureAddr_PR {v v' : Value} (h : VR ρ v v') : PR P (AdR ρ) (Instr.sureAddr v) (Instr.sureAddr v') := by
  cases h with
  | glob g k hg => exact .pure (.glob g k hg)
  | ptr i k m hm => exact .pure (.own i k m hm)
  | _ => exact .fail rfl
theorem pureRun_ite {α : Type} {c : Prop} [Decidable c] {a b : Sem α} (ha : pureRun P a = none) (hb : pureRun P b = none) : pureRun P (if c then a else b) = none := by
  split <;> assumption
theorem runtimePanic_none {α : Type} (e : RuntimeError) : pureRun P (runtimePanic (α := α) e) = none := by
  unfold runtimePanic
  show pureRun P (Sem.bind program _) = none
  rw [pureRun_bind]
  show pureRun P _ = none
  cases e with
  | typeAssertion i c a m =>
    show pureRun P (Sem.bind _ _) = none
    rw [pureRun_bind, Option.bind_eq_none_iff]
    intro a _
    rfl
  | panicNil =>
    show pureRun P (Sem.bind _ _) = none
    rw [pureRun_bind, Option.bind_eq_none_iff]
    intro a _
    rfl
  | _ => rfl
theorem boundsPanic_none {α : Type} (k : IntKind) (x y : Int) (c : BoundsCode) : pureRun P (boundsPanic (α := α) k x y c) = none := by
  unfold boundsPanic
  dsimp only
  split
  · rfl
  · exact runtimePanic_none (P := P) (α := α) (.bounds (IntKind.i64.wrap x) y (k != IntKind.u64) c)
theorem mkSlice {i : Nat} {m : Meta} (h : ρ i = some m) (k len cap : Nat) : VR ρ (.slice (some ⟨i, k, none⟩) len cap) (.slice (some ⟨m.b, m.o + k, none⟩) len cap) := by
  by_cases ho : m.isOpen k cap = true
  · refine .opened i k len cap cap m h ho (Nat.le_refl _) ?_
    simp only [Meta.isOpen, Bool.and_eq_true, beq_iff_eq] at ho
    have := m.hw
    omega
  · exact .slice i k len cap m h (by simpa using ho)

theorem fieldAt_PR {t : TypeId} {v v' : Value} (h : VR ρ v v') (f : Nat) : PR P (VR ρ) (Instr.fieldAt t v f) (Instr.fieldAt t v' f) := by
  unfold Instr.fieldAt
  refine .same fun d => ?_
  cases d with
  | struct fields =>
    simp only
    cases fields[f]? with
    | none => exact .stuck
    | some g =>
      refine .bind (sureAddr_PR h) fun a b r => ?_
      unfold fieldPlace
      refine .bind (R := AdR ρ) (.same fun n => ?_) fun x y hxy => .ret hxy.ptr
      split
      · refine .fail ?_
        unfold partAt
        show pureRun P (Sem.bind (byteOf a) _) = none
        have hb : pureRun P (byteOf a) = none := by cases r <;> rfl
        rw [pureRun_bind, hb]
        rfl
      · exact .ret (r.add _)
  | _ => exact .stuck


def IxR (ρ : Ren) (p q : Option Addr × Nat × TypeId) : Prop :=
  p.2 = q.2 ∧ (0 < p.2.1 → match p.1, q.1 with | some a, some b => AdR ρ a b | none, none => True | _, _ => False)
theorem indexAt_PR {t : TypeId} {v v' x x' : Value} (h : VR ρ v v') (hx : VR ρ x x') : PR P (VR ρ) (Instr.indexAt t v x) (Instr.indexAt t v' x') := by
  unfold Instr.indexAt
  refine .bind (asInt_PR hx) ?_
  rintro ⟨k, i⟩ _ rfl
  dsimp only
  refine .same fun d => ?_
  cases d with
  | array len elem =>
    refine .bind (sureAddr_PR h) fun a b r => .bind (R := IxR ρ) (.ret ⟨rfl, fun _ => r⟩) ?_
    rintro ⟨p1, len, elem⟩ ⟨q1, len', elem'⟩ ⟨he, hr⟩
    simp only [Prod.mk.injEq] at he hr
    obtain ⟨rfl, rfl⟩ := he
    dsimp only
    refine .same fun d => ?_
    cases p1 with
    | none => exact .fail (boundsPanic_none _ _ _ _)
    | some a =>
      dsimp only
      by_cases hi : 0 ≤ i ∧ i < (len : Int)
      · have hlen : 0 < len := by omega
        have hr' := hr hlen
        cases q1 with
        | none => exact hr'.elim
        | some b =>
          simp only [hi, and_self, if_true]
          exact .same fun n => .ret (AdR.add hr' _).ptr
      · simp only [hi, if_false]
        exact .fail (pureRun_ite rfl (boundsPanic_none _ _ _ _))
  | slice elem =>
    cases h with
    | nilSlice l c =>
      refine .bind (R := IxR ρ) (.ret ⟨rfl, fun _ => trivial⟩) ?_
      rintro ⟨p1, len, elem⟩ ⟨q1, len', elem'⟩ ⟨he, hr⟩
      simp only [Prod.mk.injEq] at he hr
      obtain ⟨rfl, rfl⟩ := he
      dsimp only
      refine .same fun d => ?_
      cases p1 with
      | none => exact .fail (boundsPanic_none _ _ _ _)
      | some a =>
        dsimp only
        by_cases hi : 0 ≤ i ∧ i < (len : Int)
        · have hlen : 0 < len := by omega
          have hr' := hr hlen
          cases q1 with
          | none => exact hr'.elim
          | some b =>
            simp only [hi, and_self, if_true]
            exact .same fun n => .ret (AdR.add hr' _).ptr
        · simp only [hi, if_false]
          exact .fail (pureRun_ite rfl (boundsPanic_none _ _ _ _))
    | slice i' k' len cap m hm ho =>
      refine .bind (R := IxR ρ) (.ret ⟨rfl, fun _ => .own i' k' m hm⟩) ?_
      rintro ⟨p1, len, elem⟩ ⟨q1, len', elem'⟩ ⟨he, hr⟩
      simp only [Prod.mk.injEq] at he hr
      obtain ⟨rfl, rfl⟩ := he
      dsimp only
      refine .same fun d => ?_
      cases p1 with
      | none => exact .fail (boundsPanic_none _ _ _ _)
      | some a =>
        dsimp only
        by_cases hi : 0 ≤ i ∧ i < (len : Int)
        · have hlen : 0 < len := by omega
          have hr' := hr hlen
          cases q1 with
          | none => exact hr'.elim
          | some b =>
            simp only [hi, and_self, if_true]
            exact .same fun n => .ret (AdR.add hr' _).ptr
        · simp only [hi, if_false]
          exact .fail (pureRun_ite rfl (boundsPanic_none _ _ _ _))
    | opened i' k' len cap capC m hm ho hc hs =>
      refine .bind (R := IxR ρ) (.ret ⟨rfl, fun _ => .own i' k' m hm⟩) ?_
      rintro ⟨p1, len, elem⟩ ⟨q1, len', elem'⟩ ⟨he, hr⟩
      simp only [Prod.mk.injEq] at he hr
      obtain ⟨rfl, rfl⟩ := he
      dsimp only
      refine .same fun d => ?_
      cases p1 with
      | none => exact .fail (boundsPanic_none _ _ _ _)
      | some a =>
        dsimp only
        by_cases hi : 0 ≤ i ∧ i < (len : Int)
        · have hlen : 0 < len := by omega
          have hr' := hr hlen
          cases q1 with
          | none => exact hr'.elim
          | some b =>
            simp only [hi, and_self, if_true]
            exact .same fun n => .ret (AdR.add hr' _).ptr
        · simp only [hi, if_false]
          exact .fail (pureRun_ite rfl (boundsPanic_none _ _ _ _))
    | empty i' k' off m hm ho _ =>
      refine .bind (R := IxR ρ) (.ret ⟨rfl, fun h => absurd h (by simp)⟩) ?_
      rintro ⟨p1, len, elem⟩ ⟨q1, len', elem'⟩ ⟨he, hr⟩
      simp only [Prod.mk.injEq] at he hr
      obtain ⟨rfl, rfl⟩ := he
      dsimp only
      refine .same fun d => ?_
      cases p1 with
      | none => exact .fail (boundsPanic_none _ _ _ _)
      | some a =>
        dsimp only
        by_cases hi : 0 ≤ i ∧ i < (len : Int)
        · have hlen : 0 < len := by omega
          have hr' := hr hlen
          cases q1 with
          | none => exact hr'.elim
          | some b =>
            simp only [hi, and_self, if_true]
            exact .same fun n => .ret (AdR.add hr' _).ptr
        · simp only [hi, if_false]
          exact .fail (pureRun_ite rfl (boundsPanic_none _ _ _ _))
    | _ => exact .fail rfl
  | _ => exact .fail rfl

theorem index_PR {t : TypeId} {v v' x x' : Value} (h : VR ρ v v') (hx : VR ρ x x') : PR P (VR ρ) (Instr.index t v x) (Instr.index t v' x') := by
  unfold Instr.index
  refine .bind (asInt_PR hx) ?_
  rintro ⟨k, i⟩ _ rfl
  refine .same fun d => ?_
  cases d with
  | array len elem =>
    cases h with
    | agg a a' ha ra =>
      simp only
      split
      · exact .same fun n => part_PR (LR.of_arr ha ra) _
      · exact .fail (boundsPanic_none _ _ _ _)
    | _ => exact .fail rfl
  | string =>
    cases h with
    | string s =>
      simp only
      split
      · exact .ret (.int _ _)
      · exact .fail (boundsPanic_none _ _ _ _)
    | _ => exact .fail rfl
  | _ => exact .fail rfl

/-! ### Cells -/
theorem cells_LR {v v' : Value} (h : VR ρ v v') (hk : known v = true) : LR ρ v.cells.toList v'.cells.toList := by
  cases h with
  | agg a a' ha ra => exact .of_arr ha ra
  | unknown r v => simp [known] at hk
  | func f a b a' b' ha hb ra rb => exact .cons (.func f a b a' b' ha hb ra rb) .nil
  | tuple a a' ha ra => exact .cons (.tuple a a' ha ra) .nil
  | iface t v v' h => exact .cons (.iface t v v' h) .nil
  | yield l m h => exact .cons (.yield l m h) .nil
  | bool b => exact .cons (.bool b) .nil
  | int k n => exact .cons (.int k n) .nil
  | float k n => exact .cons (.float k n) .nil
  | complex k n m => exact .cons (.complex k n m) .nil
  | string s => exact .cons (.string s) .nil
  | nilFunc => exact .cons .nilFunc .nil
  | nilIface => exact .cons .nilIface .nil
  | nilPtr => exact .cons .nilPtr .nil
  | nilSlice l c => exact .cons (.nilSlice l c) .nil
  | nilMap => exact .cons .nilMap .nil
  | glob g k h => exact .cons (.glob g k h) .nil
  | ptr i k m h => exact .cons (.ptr i k m h) .nil
  | map i m h => exact .cons (.map i m h) .nil
  | slice i k len cap m h ho => exact .cons (.slice i k len cap m h ho) .nil
  | opened i k len cap capC m h ho hc hs => exact .cons (.opened i k len cap capC m h ho hc hs) .nil
  | empty i k off m h ho hz => exact .cons (.empty i k off m h ho hz) .nil
theorem LR.set {l l' : List Value} (h : LR ρ l l') {v v' : Value} (hv : VR ρ v v') : ∀ i, LR ρ (l.set i v) (l'.set i v') := by
  induction h with
  | nil => intro i; exact .nil
  | cons h t ih => intro i; cases i with
    | zero => exact .cons hv t
    | succ i => exact .cons h (ih i)
theorem foldSet (off : Nat) : ∀ {l l' : List Value}, LR ρ l l' → ∀ (k : Nat) {c c' : Array Value}, LR ρ c.toList c'.toList →
    LR ρ ((l.zipIdx k).foldl (fun (cs : Array Value) (p : Value × Nat) => cs.setIfInBounds (off + p.2) p.1) c).toList ((l'.zipIdx k).foldl (fun (cs : Array Value) (p : Value × Nat) => cs.setIfInBounds (off + p.2) p.1) c').toList := by
  intro l l' h
  induction h with
  | nil => intro k c c' hc; exact hc
  | cons hv _ ih =>
    intro k c c' hc
    simp only [List.zipIdx_cons, List.foldl_cons]
    refine ih (k + 1) ?_
    simp only [Array.toList_setIfInBounds]
    exact hc.set hv _
/-- Parts: the same places, related values. -/
inductive PartsR (ρ : Ren) : List (Nat × Value) → List (Nat × Value) → Prop
  | nil : PartsR ρ [] []
  | cons {i : Nat} {v v' : Value} {l l' : List (Nat × Value)} (h : VR ρ v v') (hk : known v = true) (t : PartsR ρ l l') : PartsR ρ ((i, v) :: l) ((i, v') :: l')
theorem fill_LR (place : Nat → Option (Nat × Nat)) : ∀ {l l' : List (Nat × Value)}, PartsR ρ l l' → ∀ {c c' r : Array Value}, LR ρ c.toList c'.toList → Instr.fill place c l = some r →
    ∃ r', Instr.fill place c' l' = some r' ∧ LR ρ r.toList r'.toList := by
  intro l l' h
  induction h with
  | nil => intro c c' r hc e; simp only [Instr.fill, Option.some.injEq] at e; subst e; exact ⟨c', rfl, hc⟩
  | @cons i v v' l l' hv hk _ ih =>
    intro c c' r hc e
    have hcl := cells_LR hv hk
    have hs := hcl.size
    have hs2 := hc.size
    simp only [Instr.fill] at e ⊢
    cases hp : place i with
    | none => simp [hp] at e
    | some q =>
      obtain ⟨off, size⟩ := q
      simp only [hp] at e ⊢
      rw [hs, hs2] at e
      split at e
      · cases e
      · rename_i hn
        rw [if_neg hn]
        refine ih ?_ e
        have key : ∀ (a c0 : Array Value), Array.foldl (fun (cs : Array Value) (x : Value × Nat) => cs.setIfInBounds (off + x.2) x.1) c0 a.zipIdx =
            (a.toList.zipIdx).foldl (fun (cs : Array Value) (x : Value × Nat) => cs.setIfInBounds (off + x.2) x.1) c0 := by
          intro a c0
          rw [← Array.foldl_toList, Array.toList_zipIdx]
        have h3 := foldSet (ρ := ρ) off hcl 0 hc
        rw [← key, ← key] at h3
        exact h3
theorem zeroValue_PR {t : TypeId} {z : Value} (hz : (P.info? t).bind (·.zero) = some z) : PR P (fun a b => a = z ∧ b = z) (zeroValue t) (zeroValue t) := by
  cases hi : P.info? t with
  | none => simp [hi] at hz
  | some i =>
    have hz' : i.zero = some z := by simpa [hi] using hz
    unfold zeroValue typeInfo
    refine .bind (R := fun a b => a = i ∧ b = i) (.program ?_) ?_
    · show PR P _ (match P.info? t with | some i => Pure.pure i | none => Go.stuck "no such type") (match P.info? t with | some i => Pure.pure i | none => Go.stuck "no such type")
      rw [hi]
      exact .pure ⟨rfl, rfl⟩
    · rintro _ _ ⟨rfl, rfl⟩
      rw [hz']
      exact .pure ⟨rfl, rfl⟩
theorem build_PR {t : TypeId} {l l' : Array (Nat × Value)} (h : PartsR ρ l.toList l'.toList) {z : Value} (hz : (P.info? t).bind (·.zero) = some z) (hp : plain 8 z = true) :
    PR P (VR ρ) (Instr.build t l) (Instr.build t l') := by
  unfold Instr.build
  refine .bind (zeroValue_PR hz) ?_
  rintro a b ⟨ha, hb⟩
  rw [ha, hb]
  have hzc : LR ρ z.cells.toList z.cells.toList := by
    have hv := plain_refl ρ 8 z hp
    refine cells_LR hv ?_
    cases z <;> first | rfl | (simp [plain] at hp)
  refine PR.same (P := P) (e := underlying t) fun d => ?_
  cases d with
  | struct fields =>
    refine .same fun places => ?_
    cases e : Instr.fill (places[·]?) z.cells l.toList with
    | none => exact .fail rfl
    | some r =>
      obtain ⟨r', e', hr⟩ := fill_LR _ h hzc e
      simp only [e']
      exact .ret (VR.agg' hr)
  | array n elem =>
    refine .same fun size => ?_
    cases e : Instr.fill (fun i => some (i * size, size)) z.cells l.toList with
    | none => exact .fail rfl
    | some r =>
      obtain ⟨r', e', hr⟩ := fill_LR _ h hzc e
      simp only [e']
      exact .ret (VR.agg' hr)
  | _ => exact .fail rfl

end Go.Abs
