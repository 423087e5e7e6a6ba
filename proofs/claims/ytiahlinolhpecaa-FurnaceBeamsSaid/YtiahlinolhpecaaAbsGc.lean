/- What is kept at a loop stands for the whole. -/
import Derived.Test.YtiahlinolhpecaaAbsWpC
namespace Go.Abs
open Go.RowKit
variable {P : Program} {ρ : Ren} {w0 w : World} {H : Heap}

theorem nodupB_spec : ∀ {l : List Nat}, nodupB l = true → l.Nodup
  | [], _ => List.nodup_nil
  | x :: l, h => by
    simp only [nodupB, Bool.and_eq_true, Bool.not_eq_true'] at h
    exact List.nodup_cons.2 ⟨by simpa using h.1, nodupB_spec h.2⟩

theorem Mu.find_mem : ∀ {μ : Mu} {i j : Nat}, μ.find i = some j → (i, j) ∈ μ
  | [], _, _, h => by cases h
  | (a, b) :: r, i, j, h => by
    unfold Mu.find at h
    split at h
    · rename_i e; cases h; subst e; exact List.mem_cons_self ..
    · exact List.mem_cons_of_mem _ (Mu.find_mem h)

/-- The renaming behind. -/
def Mu.ren (μ : Mu) (ρ : Ren) : Ren := fun j => match List.find? (fun p : Nat × Nat => p.2 == j) μ with | some p => ρ p.1 | none => none
theorem nodup_inj {α β : Type} {f : α → β} : ∀ {l : List α}, (l.map f).Nodup → ∀ {a b}, a ∈ l → b ∈ l → f a = f b → a = b
  | [], _, _, _, ha, _, _ => by cases ha
  | x :: l, h, a, b, ha, hb, e => by
    simp only [List.map_cons, List.nodup_cons, List.mem_map, not_exists, not_and] at h
    rcases List.mem_cons.1 ha with h1 | h1
    · rcases List.mem_cons.1 hb with h2 | h2
      · rw [h1, h2]
      · subst h1; exact absurd e.symm (h.1 b h2)
    · rcases List.mem_cons.1 hb with h2 | h2
      · subst h2; exact absurd e (h.1 a h1)
      · exact nodup_inj h.2 h1 h2 e
theorem Mu.ren_of {μ : Mu} (h2 : (μ.map (·.2)).Nodup) {i j : Nat} (h : (i, j) ∈ μ) : μ.ren ρ j = ρ i := by
  unfold Mu.ren
  cases hf : List.find? (fun p : Nat × Nat => p.2 == j) μ with
  | none =>
    have := List.find?_eq_none.1 hf (i, j) h
    simp at this
  | some p =>
    have hp := List.mem_of_find?_eq_some hf
    have he := List.find?_some hf
    simp only [beq_iff_eq] at he
    have : p = (i, j) := nodup_inj h2 hp h he
    rw [this]
theorem Mu.ren_some {μ : Mu} {j : Nat} {m : Meta} (h : μ.ren ρ j = some m) : ∃ i, (i, j) ∈ μ ∧ ρ i = some m := by
  unfold Mu.ren at h
  cases hf : List.find? (fun p : Nat × Nat => p.2 == j) μ with
  | none => rw [hf] at h; cases h
  | some p =>
    rw [hf] at h
    have hp := List.mem_of_find?_eq_some hf
    have he := List.find?_some hf
    simp only [beq_iff_eq] at he
    exact ⟨p.1, by rw [← he]; exact hp, h⟩

structure MuOK (μ : Mu) (nx : Nat) : Prop where
  fst : (μ.map (·.1)).Nodup
  snd : (μ.map (·.2)).Nodup
  cls : ∀ i j, (i, j) ∈ μ → (i < gbase ∧ j = i) ∨ (gbase ≤ i ∧ gbase ≤ j ∧ j < nx)
theorem gcGood_ok {μ : Mu} {b : Blocks} (h : gcGood μ b = true) : MuOK μ (heapOf b).next := by
  simp only [gcGood, Bool.and_eq_true] at h
  refine ⟨nodupB_spec h.1.1, nodupB_spec h.1.2, fun i j hij => ?_⟩
  have := List.all_eq_true.1 h.2 _ hij
  simp only at this
  split at this
  · rename_i hlt; exact .inl ⟨hlt, by simpa using this⟩
  · rename_i hge
    simp only [Bool.and_eq_true, decide_eq_true_eq] at this
    exact .inr ⟨by omega, this.1, this.2⟩

variable {μ : Mu} {nx : Nat}
theorem LR.map_left {ρ ρ2 : Ren} {f : Value → Value} (hf : ∀ v v', VR ρ v v' → VR ρ2 (f v) v') : ∀ {l l' : List Value}, LR ρ l l' → LR ρ2 (l.map f) l'
  | _, _, .nil => .nil
  | _, _, .cons h t => .cons (hf _ _ h) (LR.map_left hf t)

theorem mapV_VR (ok : MuOK μ nx) : ∀ (n : Nat) (v v' : Value), VR ρ v v' → VR (μ.ren ρ) (mapV μ n v) v'
  | 0, v, v', _ => .unknown _ _
  | n + 1, v, v', h => by
    have ih := mapV_VR ok n
    cases h with
    | bool b => exact .bool b
    | int k n => exact .int k n
    | float k n => exact .float k n
    | complex k n m => exact .complex k n m
    | string s => exact .string s
    | nilFunc => exact .nilFunc
    | nilIface => exact .nilIface
    | nilPtr => exact .nilPtr
    | nilSlice l c => exact .nilSlice l c
    | nilMap => exact .nilMap
    | unknown r v => unfold mapV; exact .unknown _ _
    | glob g k hg =>
      simp only [mapV]
      cases hm : μ.find g with
      | none => exact .unknown _ _
      | some j =>
        have hj : j = g := by
          rcases ok.cls _ _ (Mu.find_mem hm) with h | h
          · exact h.2
          · have := h.1; unfold gbase abase at *; omega
        subst hj
        exact .glob _ k hg
    | ptr i k m hm =>
      simp only [mapV]
      cases hf : μ.find i with
      | none => exact .unknown _ _
      | some j => exact .ptr j k m (by rw [Mu.ren_of ok.snd (Mu.find_mem hf)]; exact hm)
    | map i m hm =>
      simp only [mapV]
      cases hf : μ.find i with
      | none => exact .unknown _ _
      | some j => exact .map j m (by rw [Mu.ren_of ok.snd (Mu.find_mem hf)]; exact hm)
    | slice i k len cap m hm ho =>
      simp only [mapV]
      cases hf : μ.find i with
      | none => exact .unknown _ _
      | some j => exact .slice j k len cap m (by rw [Mu.ren_of ok.snd (Mu.find_mem hf)]; exact hm) ho
    | opened i k len cap capC m hm ho hc hs =>
      simp only [mapV]
      cases hf : μ.find i with
      | none => exact .unknown _ _
      | some j => exact .opened j k len cap capC m (by rw [Mu.ren_of ok.snd (Mu.find_mem hf)]; exact hm) ho hc hs
    | empty i k off m hm ho hz =>
      simp only [mapV]
      cases hf : μ.find i with
      | none => exact .unknown _ _
      | some j => exact .empty j k off m (by rw [Mu.ren_of ok.snd (Mu.find_mem hf)]; exact hm) ho hz
    | func f a b a' b' ha hb ra rb =>
      simp only [mapV]
      refine VR.func' ?_ ?_
      · simpa using LR.map_left ih (LR.of_arr ha ra)
      · simpa using LR.map_left ih (LR.of_arr hb rb)
    | yield l m hm => unfold mapV; exact .unknown _ _
    | iface t v v' hv => exact .iface t _ _ (ih _ _ hv)
    | agg a a' ha ra =>
      simp only [mapV]
      refine VR.agg' ?_
      simpa using LR.map_left ih (LR.of_arr ha ra)
    | tuple a a' ha ra =>
      simp only [mapV]
      refine VR.tuple' ?_
      simpa using LR.map_left ih (LR.of_arr ha ra)

theorem LR.plain_any {ρ ρ2 : Ren} : ∀ {l l' : List Value}, LR ρ l l' → (∀ v ∈ l, Abs.plain 8 v = true) → LR ρ2 l l'
  | _, _, .nil, _ => .nil
  | _, _, .cons h t, hp => by
    have h1 := hp _ (List.mem_cons_self ..)
    rw [Abs.plain_eq 8 _ _ h1 h]
    exact .cons (plain_refl _ 8 _ h1) (LR.plain_any t (fun v hv => hp v (List.mem_cons_of_mem _ hv)))
theorem ER.map_val {ρ ρ2 : Ren} {f : Value → Value} (hf : ∀ v v', VR ρ v v' → VR ρ2 (f v) v') : ∀ {l l' : List MapEntry}, ER ρ l l' → ER ρ2 (l.map fun e => { e with val := f e.val }) l'
  | _, _, .nil => .nil
  | _, _, .cons k kk v b t => .cons (by
      have := plain_eq 1 _ _ kk k
      rw [this]
      exact plain_refl _ 1 _ kk) kk (hf _ _ v) b (ER.map_val hf t)

theorem mapO_R (ok : MuOK μ nx) {m : Meta} {o o2 : AObj} (h : mapO μ o = some o2) (r : ObjR ρ w m o) : ObjR (μ.ren ρ) w m o2 ∧ o2.alive = o.alive := by
  cases o with
  | cells cs ty opn es =>
    simp only [mapO, Option.some.injEq] at h
    subst h
    obtain ⟨a, b, c, d, e, f, g, i⟩ := r
    exact ⟨⟨by simpa using a, b, c, d, e, f, g, by simpa using LR.map_left (mapV_VR ok 8) i⟩, rfl⟩
  | sym cs opn es =>
    simp only [mapO, Option.some.injEq] at h
    subst h
    obtain ⟨⟨a, b, c, d, e, z, f, g, i⟩, j⟩ := r
    exact ⟨⟨⟨a, b, c, d, e, z, f, g, i.plain_any (fun v hv => cellP_plain (j v hv))⟩, j⟩, rfl⟩
  | map es c =>
    simp only [mapO] at h
    split at h
    · simp only [Option.some.injEq] at h
      subst h
      obtain ⟨es', h1, h2⟩ := r
      exact ⟨⟨es', h1, ER.map_val (mapV_VR ok 8) h2⟩, rfl⟩
    · cases h
  | deferred => simp only [mapO, Option.some.injEq] at h; subst h; exact ⟨r, rfl⟩
  | taken => simp only [mapO, Option.some.injEq] at h; subst h; exact ⟨r, rfl⟩
  | dead _ _ _ => cases h
  | loop _ => cases h
  | siter _ _ => cases h

theorem foldl_tree {α : Type} (l : List (Nat × α)) : ∀ (t : Tree α) (m : Nat), (l.foldl (fun t (p : Nat × α) => t.set (p.1 + 1) p.1 p.2) t).get m = t.get m ∨ ∃ p ∈ l, p.1 = m ∧ (l.foldl (fun t (p : Nat × α) => t.set (p.1 + 1) p.1 p.2) t).get m = some p.2 := by
  induction l with
  | nil => intro t m; exact .inl rfl
  | cons p l ih =>
    intro t m
    simp only [List.foldl_cons]
    rcases ih (t.set (p.1 + 1) p.1 p.2) m with h | ⟨q, hq, h1, h2⟩
    · rw [h, Tree.get_set _ _ _ _ _ (by omega)]
      by_cases e : m = p.1
      · right; exact ⟨p, List.mem_cons_self .., e.symm, by rw [if_pos e]⟩
      · left; rw [if_neg e]
    · right; exact ⟨q, List.mem_cons_of_mem _ hq, h1, h2⟩
theorem heapOf_get {b : Blocks} {i : Nat} {o : AObj} (h : (heapOf b).get i = some o) : (i, o) ∈ b := by
  unfold heapOf Heap.get at h
  simp only at h
  rcases foldl_tree b .leaf i with h1 | ⟨p, hp, h1, h2⟩
  · rw [h] at h1; cases h1
  · rw [h] at h2; cases h2; rw [← h1]; exact hp
theorem gcB_mem {ν : Mu} : ∀ {μ : Mu} {j : Nat} {o : AObj}, (j, o) ∈ gcB H ν μ → ∃ i o', (i, j) ∈ μ ∧ H.get i = some o' ∧ mapO ν o' = some o
  | [], _, _, h => by cases h
  | p :: r, j, o, h => by
    unfold gcB at h
    split at h
    · rename_i o1 ho
      rcases List.mem_cons.1 h with e | h
      · simp only [Prod.mk.injEq] at e
        obtain ⟨rfl, rfl⟩ := e
        obtain ⟨o', h1, h2⟩ := Option.bind_eq_some_iff.1 ho
        exact ⟨p.1, o', List.mem_cons_self .., h1, h2⟩
      · obtain ⟨i, o', h1, h2, h3⟩ := gcB_mem h
        exact ⟨i, o', List.mem_cons_of_mem _ h1, h2, h3⟩
    · obtain ⟨i, o', h1, h2, h3⟩ := gcB_mem h
      exact ⟨i, o', List.mem_cons_of_mem _ h1, h2, h3⟩

theorem blank_get (sz m : Nat) : (blank sz).get m = if m < sz then some unknown else none := by
  unfold blank
  induction sz with
  | zero => rfl
  | succ k ih =>
    rw [List.range_succ, List.foldl_append]
    simp only [List.foldl_cons, List.foldl_nil]
    rw [Tree.get_set _ _ _ _ _ (by omega), ih]
    by_cases e : m = k
    · subst e; simp
    · rw [if_neg e]
      by_cases h : m < k
      · rw [if_pos h, if_pos (by omega)]
      · rw [if_neg h, if_neg (by omega)]

theorem gc_sub (g : Gam w0 ρ H w) {A : AAct} {a : Act} (ra : ActR ρ A a) (hd : A.defers = []) {keep : List Tmp} (hgood : gcGood μ (gcB H μ μ) = true) :
    Gam w0 (μ.ren ρ) (heapOf (gcB H μ μ)) w ∧ ActR (μ.ren ρ) (actOf A.size (gcS μ keep A)) a := by
  have ok := gcGood_ok hgood
  have hgb : gbase ≤ (heapOf (gcB H μ μ)).next := Nat.le_add_right _ _
  -- a block that is kept
  have hget : ∀ {j : Nat} {o : AObj}, (heapOf (gcB H μ μ)).get j = some o → ∃ i o', (i, j) ∈ μ ∧ H.get i = some o' ∧ mapO μ o' = some o := fun h => gcB_mem (heapOf_get h)
  have hsnd : ∀ {i i' j : Nat}, (i, j) ∈ μ → (i', j) ∈ μ → i = i' := fun h1 h2 => by have := nodup_inj ok.snd h1 h2 rfl; cases this; rfl
  have hfst : ∀ {i j j' : Nat}, (i, j) ∈ μ → (i, j') ∈ μ → j = j' := fun h1 h2 => by have := nodup_inj ok.fst h1 h2 rfl; cases this; rfl
  have hgt : ∀ {i j : Nat}, (i, j) ∈ μ → gbase ≤ j → gbase ≤ i := fun {i j} h hj => by rcases ok.cls _ _ h with h | h <;> omega
  have hlt : ∀ {i j : Nat}, (i, j) ∈ μ → j < gbase → i < gbase ∧ j = i := fun {i j} h hj => by rcases ok.cls _ _ h with h | h <;> omega
  have obj : ∀ i m o, μ.ren ρ i = some m → (heapOf (gcB H μ μ)).get i = some o → ObjR (μ.ren ρ) w m o ∧ ∃ i0 o0, (i0, i) ∈ μ ∧ ρ i0 = some m ∧ H.get i0 = some o0 ∧ o.alive = o0.alive := by
    intro i m o hm ho
    obtain ⟨i0, hi0, hr0⟩ := Mu.ren_some hm
    obtain ⟨i1, o1, hi1, hg1, hmo⟩ := hget ho
    obtain rfl := hsnd hi0 hi1
    obtain ⟨r1, r2⟩ := mapO_R ok hmo (g.obj _ m _ hr0 hg1)
    exact ⟨r1, i0, o1, hi0, hr0, hg1, r2⟩
  refine ⟨⟨hgb, ?_, g.below, ?_, ?_, ?_, fun i m o hm ho => (obj i m o hm ho).1, ?_⟩, ra.size, ?_, ?_⟩
  · intro i hi
    cases hr : μ.ren ρ i with
    | none => rfl
    | some m =>
      obtain ⟨i0, hi0, _⟩ := Mu.ren_some hr
      rcases ok.cls _ _ hi0 with h | h <;> omega
  · intro j m hm
    obtain ⟨i, hi, hr⟩ := Mu.ren_some hm
    obtain ⟨h1, h2, h3⟩ := g.own i m hr
    exact ⟨h1, fun hj => h2 (hgt hi hj), fun hj => h3 (hlt hi hj).1⟩
  · intro j m hm hj
    obtain ⟨i, hi, hr⟩ := Mu.ren_some hm
    have := hlt hi (by unfold gbase abase at *; omega)
    rw [this.2]
    exact g.glob i m hr (by omega)
  · rintro i j mi mj hgi ⟨oi, gi, ai⟩ ⟨oj, gj, aj⟩ ei ej hb
    obtain ⟨_, i0, oi0, hi0, ri0, gi0, hai⟩ := obj i mi oi ei gi
    obtain ⟨_, j0, oj0, hj0, rj0, gj0, haj⟩ := obj j mj oj ej gj
    have := g.inj i0 j0 mi mj (hgt hi0 hgi) ⟨oi0, gi0, by rw [← hai]; exact ai⟩ ⟨oj0, gj0, by rw [← haj]; exact aj⟩ ri0 rj0 hb
    subst this
    exact hfst hi0 hj0
  · intro j hj hn
    cases ho : (heapOf (gcB H μ μ)).get j with
    | none => exact absurd ho hn
    | some o =>
      obtain ⟨i, o', hi, hg, _⟩ := hget ho
      have := hlt hi (by unfold gbase abase at *; omega)
      obtain ⟨m, hm⟩ := g.gmap i (by omega) (by rw [hg]; simp)
      exact ⟨m, by rw [Mu.ren_of ok.snd hi]; exact hm⟩
  · intro t
    unfold AAct.slot actOf
    simp only
    rcases foldl_tree (gcS μ keep A) (blank A.size) t with h | ⟨p, hp, h1, h2⟩
    · rw [h, blank_get]
      by_cases ht : t < A.size
      · rw [if_pos ht]; exact .unknown _ _
      · rw [if_neg ht]
        have : a.tmps.getD t undef = undef := by
          rw [Array.getD_eq_getD_getElem?, Array.getElem?_eq_none (by rw [ra.size]; exact Nat.le_of_not_lt ht)]
          rfl
        rw [this]
        exact VR.undef _
    · rw [h2]
      unfold gcS at hp
      obtain ⟨k, _, rfl⟩ := List.mem_map.1 hp
      simp only at h1
      subst h1
      exact mapV_VR ok 8 _ _ (ra.slot k)
  · have := ra.defers.1
    rw [hd] at this
    exact ⟨by simpa [actOf] using this, fun j D h => by simp [actOf] at h⟩
end Go.Abs
