/- Slices, lengths, comparisons with nil: the evaluator against the machine. -/
import Derived.Test.YtiahlinolhpecaaAbsPure
namespace Go.Abs
open Go.RowKit
variable {P : Program} {ρ : Ren}

inductive OptR (ρ : Ren) : Option Value → Option Value → Prop
  | none : OptR ρ none none
  | some {v v' : Value} (h : VR ρ v v') : OptR ρ (some v) (some v')

theorem sliceBound_PR {v v' : Value} (h : VR ρ v v') {y y' : Nat} (hy : y ≤ y') (c : BoundsCode) : PR P (fun a b => a = b ∧ a ≤ y) (Instr.sliceBound v y c) (Instr.sliceBound v' y' c) := by
  unfold Instr.sliceBound
  refine .bind (asInt_PR h) ?_
  rintro ⟨k, i⟩ _ rfl
  dsimp only
  by_cases hi : 0 ≤ i ∧ i ≤ (y : Int)
  · have hi' : 0 ≤ i ∧ i ≤ (y' : Int) := ⟨hi.1, by omega⟩
    simp only [hi, hi', and_self, if_true]
    exact .ret ⟨rfl, by omega⟩
  · simp only [hi, if_false]
    exact .fail (boundsPanic_none _ _ _ _)

def BdR (mx : Option Value) (cap capC : Nat) (a b : Nat × Nat × Nat) : Prop :=
  a.1 = b.1 ∧ a.2.1 = b.2.1 ∧ (mx = none → a.2.2 = cap ∧ b.2.2 = capC) ∧ (mx ≠ none → a.2.2 = b.2.2 ∧ a.2.2 ≤ cap) ∧ a.1 ≤ a.2.1 ∧ (mx ≠ none → a.2.1 ≤ a.2.2)
theorem low_PR {lo lo' mx : Option Value} {cap capC : Nat} (hlo : OptR ρ lo lo') (m m' : Nat) (h : Nat) (c : BoundsCode) (hm : (mx = none → m = cap ∧ m' = capC) ∧ (mx ≠ none → m = m' ∧ m ≤ cap)) (hh : mx ≠ none → h ≤ m) :
    PR P (BdR mx cap capC) (match (generalizing := false) lo with | some v => (do let l ← Instr.sliceBound v h c; Pure.pure (l, h, m)) | none => (do let l ← Pure.pure 0; Pure.pure (l, h, m)))
      (match (generalizing := false) lo' with | some v => (do let l ← Instr.sliceBound v h c; Pure.pure (l, h, m')) | none => (do let l ← Pure.pure 0; Pure.pure (l, h, m'))) := by
  cases hlo with
  | none => exact .bind (R := fun a b => a = 0 ∧ b = 0) (.ret ⟨rfl, rfl⟩) fun a b e => by obtain ⟨rfl, rfl⟩ := e; exact .ret ⟨rfl, rfl, hm.1, hm.2, Nat.zero_le _, hh⟩
  | some hv => exact .bind (sliceBound_PR hv (Nat.le_refl h) c) fun a b e => by obtain ⟨rfl, hl⟩ := e; exact .ret ⟨rfl, rfl, hm.1, hm.2, hl, hh⟩
theorem sliceBounds_PR {lo lo' hi hi' mx mx' : Option Value} (hlo : OptR ρ lo lo') (hhi : OptR ρ hi hi') (hmx : OptR ρ mx mx') (b : Bool) (len : Nat) {cap capC : Nat} (hc : cap ≤ capC) :
    PR P (BdR mx cap capC) (Instr.sliceBounds b len cap lo hi mx) (Instr.sliceBounds b len capC lo' hi' mx') := by
  unfold Instr.sliceBounds
  cases hmx with
  | none =>
    refine .bind (R := fun a b => a = cap ∧ b = capC) (.ret ⟨rfl, rfl⟩) ?_
    rintro a b ⟨ha, hb⟩
    cases hhi with
    | none =>
      refine .bind (R := fun a b => a = b) (.ret rfl) ?_
      rintro h _ rfl
      exact low_PR hlo _ _ h _ ⟨fun _ => ⟨ha, hb⟩, fun h => absurd rfl h⟩ (fun h => absurd rfl h)
    | some hh =>
      refine .bind (sliceBound_PR hh (by rw [ha, hb]; exact hc) _) ?_
      rintro h _ ⟨rfl, _⟩
      exact low_PR hlo _ _ h _ ⟨fun _ => ⟨ha, hb⟩, fun h => absurd rfl h⟩ (fun h => absurd rfl h)
  | some hm =>
    refine .bind (sliceBound_PR hm hc _) ?_
    rintro m _ ⟨rfl, hmc⟩
    cases hhi with
    | none => exact .fail rfl
    | some hh =>
      refine .bind (sliceBound_PR hh (Nat.le_refl m) _) ?_
      rintro h _ ⟨rfl, hhm⟩
      exact low_PR hlo _ _ h _ ⟨fun h => by simp at h, fun _ => ⟨rfl, hmc⟩⟩ (fun _ => hhm)

theorem size_run {t : TypeId} {n : Nat} (h : sizeP P t = some n) (w : World) : (sizeOf t).run P w = .ok n w := by
  unfold sizeP at h
  cases hi : P.info? t with
  | none => simp [hi] at h
  | some i =>
    simp only [hi, Option.map_some, Option.some.injEq] at h
    subst h
    have : (typeInfo t).run P w = .ok i w := by
      show Sem.run P (match P.info? t with | some i => Pure.pure i | none => Go.stuck "no such type") w = _
      rw [hi]; rfl
    simp [sizeOf, this]
theorem und_run {t : TypeId} {d : TypeDesc} (h : P.underlying t = some d) (w : World) : (underlying t).run P w = .ok d w := by
  show Sem.run P (match P.underlying t with | some d => Pure.pure d | none => Go.stuck "no such type") w = _
  rw [h]; rfl

/-- Slicing where the room behind the end is known, or bounded by a third index. -/
theorem sliceAt_PR {t : TypeId} {x x' : Value} (h : VR ρ x x') {lo lo' hi hi' mx mx' : Option Value} (hlo : OptR ρ lo lo') (hhi : OptR ρ hi hi') (hmx : OptR ρ mx mx')
    (hopen : ∀ i k len cap m, x = .slice (some ⟨i, k, none⟩) len cap → ρ i = some m → m.isOpen k cap = true → mx ≠ none)
    (hglob : ∀ a, x = .pointer (some a) → gbase ≤ a.block) :
    PR P (VR ρ) (Instr.sliceAt t x lo hi mx) (Instr.sliceAt t x' lo' hi' mx') := by
  unfold Instr.sliceAt
  refine .same fun d => ?_
  have tail : ∀ (i k : Nat) (mm : Meta) (_ : ρ i = some mm) (n : Nat) (elem : TypeId),
      PR P (VR ρ) (do let (l, h, m) ← Instr.sliceBounds false n n lo hi mx; let size ← sizeOf elem; Pure.pure (.slice (some (if m = l then (⟨i, k, none⟩ : Addr) else (⟨i, k, none⟩ : Addr).add (l * size))) (h - l) (m - l)))
        (do let (l, h, m) ← Instr.sliceBounds false n n lo' hi' mx'; let size ← sizeOf elem; Pure.pure (.slice (some (if m = l then (⟨mm.b, mm.o + k, none⟩ : Addr) else (⟨mm.b, mm.o + k, none⟩ : Addr).add (l * size))) (h - l) (m - l))) := by
    intro i k mm hm n elem
    refine .bind (sliceBounds_PR hlo hhi hmx false n (Nat.le_refl n)) ?_
    rintro ⟨l, h, m⟩ ⟨l', h', m'⟩ ⟨e1, e2, e3, e4, e8, e9⟩
    simp only at e1 e2 e3 e4
    have e5 : m = m' := by
      by_cases hn : mx = none
      · rw [(e3 hn).1, (e3 hn).2]
      · exact (e4 hn).1
    subst e1 e2 e5
    refine .same fun size => .ret ?_
    split
    · exact mkSlice hm _ _ _
    · simp only [Addr.add]
      split
      · exact mkSlice hm _ _ _
      · rw [Nat.add_assoc]; exact mkSlice hm _ _ _
  have rest : PR P (VR ρ) (Instr.slice t x lo hi mx) (Instr.slice t x' lo' hi' mx') := by
    unfold Instr.slice
    refine .same fun d => ?_
    cases d with
    | string =>
      cases h with
      | string s =>
        dsimp only
        cases hmx with
        | none =>
          refine .bind (sliceBounds_PR hlo hhi .none false s.size (Nat.le_refl s.size)) ?_
          rintro ⟨l, h, m⟩ ⟨l', h', m'⟩ ⟨e1, e2, _⟩
          simp only at e1 e2
          subst e1 e2
          exact .ret (.string _)
        | some hm => exact .fail rfl
      | _ => exact .fail rfl
    | slice elem =>
      cases h with
      | nilSlice len cap =>
        refine .bind (sliceBounds_PR hlo hhi hmx true len (Nat.le_refl cap)) ?_
        rintro ⟨l, h, m⟩ ⟨l', h', m'⟩ ⟨e1, e2, e3, e4, e8, e9⟩
        simp only at e1 e2 e3 e4
        have e5 : m = m' := by
          by_cases hn : mx = none
          · rw [(e3 hn).1, (e3 hn).2]
          · exact (e4 hn).1
        subst e1 e2 e5
        refine .same fun size => .ret ?_
        split <;> exact .nilSlice _ _
      | slice i k len cap m hm ho =>
        refine .bind (sliceBounds_PR hlo hhi hmx true len (Nat.le_refl cap)) ?_
        rintro ⟨l, h, mm⟩ ⟨l', h', m'⟩ ⟨e1, e2, e3, e4, e8, e9⟩
        simp only at e1 e2 e3 e4
        have e5 : mm = m' := by
          by_cases hn : mx = none
          · rw [(e3 hn).1, (e3 hn).2]
          · exact (e4 hn).1
        subst e1 e2 e5
        refine .same fun size => .ret ?_
        split
        · exact mkSlice hm _ _ _
        · have := AdR.add (AdR.own (ρ := ρ) i k m hm) (l * size)
          simp only [Option.map_some, Addr.add]
          split
          · exact mkSlice hm _ _ _
          · rw [Nat.add_assoc]; exact mkSlice hm _ _ _
      | opened i k len cap capC m hm ho hc hs =>
        have hn := hopen i k len cap m rfl hm ho
        refine .bind (sliceBounds_PR hlo hhi hmx true len hc) ?_
        rintro ⟨l, h, mm⟩ ⟨l', h', m'⟩ ⟨e1, e2, e3, e4, e8, e9⟩
        simp only at e1 e2 e3 e4
        have e5 := (e4 hn).1
        subst e1 e2 e5
        refine .same fun size => .ret ?_
        split
        · exact mkSlice hm _ _ _
        · simp only [Option.map_some, Addr.add]
          split
          · exact mkSlice hm _ _ _
          · rw [Nat.add_assoc]; exact mkSlice hm _ _ _
      | empty i k off m hm ho hz =>
        have hn := hopen i k 0 0 m rfl hm ho
        refine .bind (sliceBounds_PR hlo hhi hmx true 0 (Nat.le_refl 0)) ?_
        rintro ⟨l, h, mm⟩ ⟨l', h', m'⟩ ⟨e1, e2, e3, e4, e8, e9⟩
        simp only at e1 e2 e3 e4 e8 e9
        obtain ⟨e5, e6⟩ := e4 hn
        have e10 := e9 hn
        subst e1 e2 e5
        obtain rfl : mm = 0 := by omega
        obtain rfl : h = 0 := by omega
        obtain rfl : l = 0 := by omega
        refine .same fun size => .ret ?_
        simp only [if_true]
        exact .empty i k off m hm ho hz
      | _ => exact .fail rfl
    | pointer arr =>
      cases h with
      | glob g k hg => have := hglob _ rfl; simp at this; unfold gbase abase at *; omega
      | ptr i k m hm =>
        refine .bind (R := fun a b => a = ⟨i, k, none⟩ ∧ b = ⟨m.b, m.o + k, none⟩) (.pure ⟨rfl, rfl⟩) ?_
        rintro a b ⟨ha, hb⟩
        refine .same fun d => ?_
        cases d with
        | array n elem => rw [ha, hb]; exact tail i k m hm n elem
        | _ => exact .fail rfl
      | nilPtr => exact .fail (by show pureRun P (Sem.bind (runtimePanic .nilDeref) _) = none; rw [pureRun_bind, runtimePanic_none]; rfl)
      | _ => exact .fail rfl
    | _ => exact .fail rfl
  cases d with
  | array n elem =>
    cases h with
    | glob g k hg => have := hglob _ rfl; simp at this; unfold gbase abase at *; omega
    | ptr i k m hm =>
      refine .bind (R := fun a b => a = ⟨i, k, none⟩ ∧ b = ⟨m.b, m.o + k, none⟩) (.pure ⟨rfl, rfl⟩) ?_
      rintro a b ⟨ha, hb⟩
      rw [ha, hb]
      exact tail i k m hm n elem
    | _ => exact .fail rfl
  | _ => exact rest

end Go.Abs
