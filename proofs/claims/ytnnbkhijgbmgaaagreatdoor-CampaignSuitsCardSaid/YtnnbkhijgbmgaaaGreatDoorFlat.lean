/- Arguments that hold no address (numbers, bools, strings, structs and arrays of these): they read alike in whatever world, and their cells are what their type says. -/
import Derived.ChangeSame
import Derived.ChangeArms
import Derived.RowKit
namespace Go.Flat
variable {H : Type} {enc : TypeId × Value → H} {P : Program}

inductive Leaf where
  | bool
  | int (k : IntKind)
  | str
  deriving DecidableEq

def Leaf.ok : Leaf → Value → Prop
  | .bool, v => ∃ b, v = .bool b
  | .int k, v => ∃ n, v = .int k n ∧ (Lit.int k n).wf = true
  | .str, v => ∃ s : ByteArray, v = .string s ∧ s.size ≤ maxLen

/-- The leaves of a type that holds no address; none: it may hold one, or its cells don't lie one behind the other. -/
def leaves (P : Program) : Nat → TypeId → Option (List Leaf)
  | 0, _ => none
  | n + 1, t =>
    match P.underlying t with
    | some .bool => some [.bool]
    | some (.int k) => some [.int k]
    | some .string => some [.str]
    | some (.struct fs) =>
      fs.toList.foldl (init := some []) fun acc f =>
        match acc, leaves P n f.type with
        | some l, some m => if f.offset = l.length ∧ P.cellsOf f.type = m.length then some (l ++ m) else none
        | _, _ => none
    | _ => none

theorem fold_none (n : Nat) (fs : List Field) : fs.foldl (init := (none : Option (List Leaf))) (fun acc f => match acc, leaves P n f.type with | some l, some m => if f.offset = l.length ∧ P.cellsOf f.type = m.length then some (l ++ m) else none | _, _ => none) = none := by
  induction fs with
  | nil => rfl
  | cons f fs ih => simpa using ih

theorem fold_mem (n : Nat) : ∀ (fs : List Field) (l0 l : List Leaf), fs.foldl (init := some l0) (fun acc f => match acc, leaves P n f.type with | some l, some m => if f.offset = l.length ∧ P.cellsOf f.type = m.length then some (l ++ m) else none | _, _ => none) = some l →
    ∀ f ∈ fs, ∃ m, leaves P n f.type = some m ∧ P.cellsOf f.type = m.length
  | [], _, _, _, f, hf => by cases hf
  | g :: fs, l0, l, h, f, hf => by
    simp only [List.foldl_cons] at h
    cases hg : leaves P n g.type with
    | none => simp only [hg] at h; rw [fold_none] at h; cases h
    | some m =>
      simp only [hg] at h
      split at h
      · rename_i hc
        rcases List.mem_cons.1 hf with rfl | hf
        · exact ⟨m, hg, hc.2⟩
        · exact fold_mem n fs _ _ h f hf
      · rw [fold_none] at h; cases h

theorem mapM_same {α β : Type} {f g : α → Option β} : ∀ (l : List α), (∀ x ∈ l, f x = g x) → l.mapM f = l.mapM g
  | [], _ => rfl
  | x :: l, h => by
    simp only [List.mapM_cons]
    rw [h x (List.mem_cons_self ..), mapM_same l (fun y hy => h y (List.mem_cons_of_mem _ hy))]

/-- The reading does not depend on the world. -/
theorem trod_same (w w' : World) (base base' : Nat) (sp sp' : Nat → Bool) (held held' : Bool) : ∀ (n : Nat) (t : TypeId) {l : List Leaf}, leaves P n t = some l → ∀ (fuel : Nat) (cs : List Value),
    DataW.trod enc P w base sp held fuel t cs = DataW.trod enc P w' base' sp' held' fuel t cs
  | 0, t, l, h => by simp [leaves] at h
  | n + 1, t, l, h => by
    intro fuel cs
    cases fuel with
    | zero => rfl
    | succ fuel =>
      unfold leaves at h
      unfold DataW.trod
      cases hu : P.underlying t with
      | none => simp [hu] at h
      | some u =>
        cases u with
        | struct fs =>
          simp only [hu] at h
          have hm := fold_mem n _ _ _ h
          have e : (fs.toList.mapM fun f => DataW.trod enc P w base sp held fuel f.type ((cs.drop f.offset).take (P.cellsOf f.type))) = fs.toList.mapM fun f => DataW.trod enc P w' base' sp' held' fuel f.type ((cs.drop f.offset).take (P.cellsOf f.type)) :=
            mapM_same _ (fun f hf => let ⟨m, h, _⟩ := hm f hf; trod_same w w' base base' sp sp' held held' n f.type h fuel _)
          simp only [e]
        | bool => rcases cs with _ | ⟨c, _ | ⟨c2, cs⟩⟩ <;> (try cases c) <;> rfl
        | int k => rcases cs with _ | ⟨c, _ | ⟨c2, cs⟩⟩ <;> (try cases c) <;> rfl
        | string => rcases cs with _ | ⟨c, _ | ⟨c2, cs⟩⟩ <;> (try cases c) <;> rfl
        | _ => simp [hu] at h

theorem mapM_snd {α : Type} {f : α → Option (DataW H × List MemPlace)} : ∀ (l : List α) {xs : List (DataW H × List MemPlace)}, (∀ x ∈ l, ∀ y, f x = some y → y.2 = []) → l.mapM f = some xs → xs.flatMap (·.2) = []
  | [], xs, _, h => by simp at h; subst h; rfl
  | x :: l, xs, hf, h => by
    simp only [List.mapM_cons, Option.bind_eq_bind] at h
    obtain ⟨y, hy, h⟩ := Option.bind_eq_some_iff.1 h
    obtain ⟨ys, hys, h⟩ := Option.bind_eq_some_iff.1 h
    simp only [Option.pure_def, Option.some.injEq] at h
    subst h
    simp only [List.flatMap_cons, hf x (List.mem_cons_self ..) y hy, List.nil_append]
    exact mapM_snd l (fun z hz => hf z (List.mem_cons_of_mem _ hz)) hys

/-- It names no place. -/
theorem trod_places {w : World} {base : Nat} {sp : Nat → Bool} {held : Bool} : ∀ (n : Nat) (t : TypeId) {l : List Leaf}, leaves P n t = some l → ∀ (fuel : Nat) (cs : List Value) {x : DataW H × List MemPlace},
    DataW.trod enc P w base sp held fuel t cs = some x → x.2 = []
  | 0, t, l, h => by simp [leaves] at h
  | n + 1, t, l, h => by
    intro fuel cs x hx
    cases fuel with
    | zero => simp [DataW.trod] at hx
    | succ fuel =>
      unfold leaves at h
      have hx0 := hx
      unfold DataW.trod at hx
      cases hu : P.underlying t with
      | none => simp [hu] at h
      | some u =>
        cases u with
        | struct fs =>
          simp only [hu] at h
          have hm := fold_mem n _ _ _ h
          obtain ⟨xs, m, _, rfl, _, hl, hall⟩ := DataW.trod_struct hu hx0
          simp only [List.flatMap_eq_nil_iff]
          intro y hy
          obtain ⟨i, hi, rfl⟩ := List.mem_iff_getElem.1 hy
          have hf : fs[i]? = some fs[i] := by simp
          have := hall i _ hf
          obtain ⟨l', hl', _⟩ := hm fs[i] (by simp)
          exact trod_places n fs[i].type hl' _ _ (this.trans (by simp [hi]))
        | bool => simp only [hu] at hx; split at hx <;> simp_all <;> (subst hx; rfl)
        | int k => simp only [hu] at hx; split at hx <;> simp_all <;> (obtain ⟨_, rfl⟩ := hx; rfl)
        | string => simp only [hu] at hx; split at hx <;> simp_all <;> (obtain ⟨_, rfl⟩ := hx; rfl)
        | _ => simp [hu] at h

theorem Trod.keep {w : World} {base : Nat} {sp : Nat → Bool} {held : Bool} {n : Nat} {t : TypeId} {l : List Leaf} {v : Value} {d : DataW H} {p : List MemPlace} (h : leaves P n t = some l) (r : DataW.Trod enc P w base sp held t v d p) :
    p = [] ∧ ∀ (w' : World) (base' : Nat) (sp' : Nat → Bool) (held' : Bool), DataW.Trod enc P w' base' sp' held' t v d [] := by
  obtain ⟨fuel, hr⟩ := r
  have hp : p = [] := trod_places n t h fuel _ hr
  subst hp
  exact ⟨rfl, fun w' base' sp' held' => ⟨fuel, by rw [← trod_same w w' base base' sp sp' held held' n t h]; exact hr⟩⟩

inductive Oks : List Leaf → List Value → Prop
  | nil : Oks [] []
  | cons {l : Leaf} {v : Value} {ls : List Leaf} {vs : List Value} (h : l.ok v) (t : Oks ls vs) : Oks (l :: ls) (v :: vs)
theorem Oks.append {a b : List Leaf} {x y : List Value} (h : Oks a x) (k : Oks b y) : Oks (a ++ b) (x ++ y) := by
  induction h with
  | nil => exact k
  | cons h _ ih => exact .cons h ih
theorem Oks.length {a : List Leaf} {x : List Value} (h : Oks a x) : a.length = x.length := by induction h <;> simp_all

theorem fold_ok (n : Nat) (cs : List Value) : ∀ (fs : List Field) (l0 l : List Leaf), fs.foldl (init := some l0) (fun acc f => match acc, leaves P n f.type with | some l, some m => if f.offset = l.length ∧ P.cellsOf f.type = m.length then some (l ++ m) else none | _, _ => none) = some l →
    (∀ f ∈ fs, ∀ m, leaves P n f.type = some m → Oks m ((cs.drop f.offset).take (P.cellsOf f.type))) → Oks l0 (cs.take l0.length) → Oks l (cs.take l.length)
  | [], l0, l, h, _, h0 => by simp at h; subst h; exact h0
  | f :: fs, l0, l, h, hf, h0 => by
    simp only [List.foldl_cons] at h
    cases hg : leaves P n f.type with
    | none => simp only [hg] at h; rw [fold_none] at h; cases h
    | some m =>
      simp only [hg] at h
      split at h
      · rename_i hc
        have hm := hf f (List.mem_cons_self ..) m hg
        rw [hc.1, hc.2] at hm
        refine fold_ok n cs fs _ _ h (fun g hg' => hf g (List.mem_cons_of_mem _ hg')) ?_
        rw [List.length_append, List.take_add]
        exact h0.append hm
      · rw [fold_none] at h; cases h

/-- Each cell is what its type says. -/
theorem trod_oks {w : World} {base : Nat} {sp : Nat → Bool} {held : Bool} : ∀ (n : Nat) (t : TypeId) {l : List Leaf}, leaves P n t = some l → ∀ (fuel : Nat) (cs : List Value) {x : DataW H × List MemPlace},
    DataW.trod enc P w base sp held fuel t cs = some x → Oks l (cs.take l.length)
  | 0, t, l, h => by simp [leaves] at h
  | n + 1, t, l, h => by
    intro fuel cs x hx
    cases fuel with
    | zero => simp [DataW.trod] at hx
    | succ fuel =>
      unfold leaves at h
      have hx0 := hx
      unfold DataW.trod at hx
      cases hu : P.underlying t with
      | none => simp [hu] at h
      | some u =>
        cases u with
        | struct fs =>
          simp only [hu] at h
          obtain ⟨xs, m, _, rfl, _, hl, hall⟩ := DataW.trod_struct hu hx0
          refine fold_ok n cs fs.toList [] l h ?_ .nil
          intro f hf lm hm
          obtain ⟨i, hi, rfl⟩ := List.mem_iff_getElem.1 hf
          have hi' : i < fs.size := by simpa using hi
          have := hall i fs[i] (by simp [hi'])
          have hxi : i < xs.length := by omega
          have hok := trod_oks n _ hm _ _ (this.trans (by simp [hxi]) : _ = some xs[i])
          obtain ⟨m', hm', hc⟩ := fold_mem n _ _ _ h fs[i] (by simp)
          have hmm : leaves P n fs[i].type = some lm := by simpa using hm
          rw [hmm] at hm'
          cases hm'
          simp only [Array.getElem_toList, hc]
          simpa [hc, List.take_take] using hok
        | bool =>
          simp only [hu, Option.some.injEq] at h hx
          subst h
          rcases cs with _ | ⟨c, _ | ⟨c2, cs⟩⟩ <;> (try cases c) <;> simp_all
          exact .cons ⟨_, rfl⟩ .nil
        | int k =>
          simp only [hu, Option.some.injEq] at h hx
          subst h
          rcases cs with _ | ⟨c, _ | ⟨c2, cs⟩⟩ <;> (try cases c) <;> simp_all
          obtain ⟨⟨rfl, hw⟩, _⟩ := hx
          exact .cons ⟨_, rfl, hw⟩ .nil
        | string =>
          simp only [hu, Option.some.injEq] at h hx
          subst h
          rcases cs with _ | ⟨c, _ | ⟨c2, cs⟩⟩ <;> (try cases c) <;> simp_all
          exact .cons ⟨_, rfl, hx.1⟩ .nil
        | _ => simp [hu] at h

end Go.Flat
