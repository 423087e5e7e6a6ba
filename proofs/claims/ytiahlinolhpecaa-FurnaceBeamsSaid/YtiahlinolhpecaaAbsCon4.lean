/- Contracts: what a function gives; loops; a function is proved. -/
import Derived.Test.YtiahlinolhpecaaAbsCon3
namespace Go.Abs
open Go.RowKit
variable {P : Program} {ρ : Ren} {w0 w : World} {H : Heap}

/-- Machine blocks of values that were given. -/
def UsedOK (ρ : Ren) (H : Heap) (used : List Nat) (u : List Nat) : Prop := ∀ b ∈ u, ∃ i ∈ used, gbase ≤ i ∧ H.live i ∧ ∃ m, ρ i = some m ∧ m.b = b

theorem give_sl (g : Gam w0 ρ H w) {used u : List Nat} (hu : UsedOK ρ H used u) {i len : Nat} {v' : Value} (hv : VR ρ (.slice (some ⟨i, 0, none⟩) len len) v') (hgi : gbase ≤ i) (hni : i ∉ used) {cs : List Value} {es : Nat}
    (hget : H.get i = some (.sym cs true es) ∨ ∃ ty opn, H.get i = some (.cells cs ty opn es)) (hlen : cs.length = len * es) (hp : ∀ v ∈ cs, cellP v = true) :
    ∃ b, Gives w0 w u (.sl len es cs) v' (b :: u) ∧ UsedOK ρ H (i :: used) (b :: u) := by
  have hlive : H.live i := by
    rcases hget with h | ⟨ty, opn, h⟩
    · exact ⟨_, h, rfl⟩
    · exact ⟨_, h, rfl⟩
  have key : ∀ m, ρ i = some m → m.known = cs.length ∧ m.es = es ∧ ∃ c ty, w.heap[m.b]? = some (.cells c ty (0, 0)) ∧ c.size = m.size ∧ (c.toList.drop m.o).take cs.length = cs := by
    intro m hm
    rcases hget with h | ⟨ty, opn, h⟩
    · obtain ⟨⟨a, b, c, d, e, z, f1, g2, g3⟩, _⟩ := g.obj i m _ hm h
      obtain rfl := f1.2 rfl
      exact ⟨a, c, d, e, f1.1, g2, LR.eq_of_plain g3 hp⟩
    · obtain ⟨a, b, c, d, e, g1, g2, g3⟩ := g.obj i m _ hm h
      exact ⟨a, c, d, e, g1, g2, LR.eq_of_plain g3 hp⟩
  have fin : ∀ (m : Meta) (off cap : Nat), ρ i = some m → v' = .slice (some ⟨m.b, off, none⟩) len cap → len ≤ cap → (off = m.o ∧ off + cap * es ≤ m.size) ∨ (cs = [] ∧ off + cap * es ≤ m.size) → ∃ b, Gives w0 w u (.sl len es cs) v' (b :: u) ∧ UsedOK ρ H (i :: used) (b :: u) := by
    intro m off cap hm e hc hor
    obtain ⟨k1, k2, c, ty, k3, k4, k5⟩ := key m hm
    subst e
    refine ⟨m.b, .sl u len es cs m.b off cap c ty k3 ((g.own i m hm).2.1 hgi) ?_ ?_ hc ?_ hlen hp, ?_⟩
    · intro hb
      obtain ⟨j, hj, hgj, hlj, mj, hmj, ebj⟩ := hu _ hb
      have := g.inj j i mj m hgj hlj hlive hmj hm ebj
      exact hni (this ▸ hj)
    · rcases hor with h | h
      · rw [k4]; exact h.2
      · rw [k4]; exact h.2
    · rcases hor with h | h
      · rw [h.1]; exact k5
      · rw [h.1]; simp
    · intro b hb
      rcases List.mem_cons.1 hb with rfl | hb
      · exact ⟨i, List.mem_cons_self .., hgi, hlive, m, hm, rfl⟩
      · obtain ⟨j, hj, r⟩ := hu b hb
        exact ⟨j, List.mem_cons_of_mem _ hj, r⟩
  cases hv with
  | slice i k len cap m hm ho =>
    obtain ⟨k1, k2, c, ty, k3, k4, k5⟩ := key m hm
    have := m.hw
    exact fin m _ _ hm rfl (Nat.le_refl _) (.inl ⟨rfl, by omega⟩)
  | opened i k len cap capC m hm ho hc hs =>
    obtain ⟨k1, k2, c, ty, k3, k4, k5⟩ := key m hm
    exact fin m _ _ hm rfl hc (.inl ⟨rfl, by rw [k2] at hs; exact hs⟩)
  | empty i k off m hm ho hz =>
    exact fin m _ _ hm rfl (Nat.le_refl _) (.inr ⟨List.length_eq_zero_iff.1 (by simpa using hlen), by simpa using hz⟩)

theorem giveCells_out (g : Gam w0 ρ H w) : ∀ (l : List Value) {l' : List Value} {used u : List Nat} {k : List Nat → List D → Prop}, LR ρ l l' → UsedOK ρ H used u → giveCells H used l k → ∃ ds u' used', GivesL w0 w u ds l' u' ∧ UsedOK ρ H used' u' ∧ k used' ds
  | [], _, used, u, k, .nil, hu, h => ⟨[], u, used, .nil u, hu, h⟩
  | v :: r, _, used, u, k, .cons hv ht, hu, h => by
    unfold giveCells at h
    split at h
    · obtain ⟨ds, u', used', h1, h2, h3⟩ := giveCells_out g r ht hu h
      cases hv
      exact ⟨_, u', used', .cons (.nil u) h1, h2, h3⟩
    · rename_i i len cap
      split at h
      · rename_i hc
        obtain ⟨hgi, hni⟩ := hc
        have hni : i ∉ used := by simpa using hni
        split at h
        · rename_i cs es hget
          obtain ⟨⟨e1, e2⟩, h⟩ := h
          subst e1
          have hp : ∀ v ∈ cs, cellP v = true := by
            obtain ⟨m, hm, _⟩ := slice_inv hv
            exact (g.obj i m _ hm hget).2
          obtain ⟨b, g1, u1⟩ := give_sl g hu hv hgi hni (.inl hget) e2 hp
          obtain ⟨ds, u', used', h1, h2, h3⟩ := giveCells_out g r ht u1 h
          exact ⟨_, u', used', .cons g1 h1, h2, h3⟩
        · rename_i cs ty opn es hget
          obtain ⟨⟨e1, e2⟩, h⟩ := h
          subst e1
          obtain ⟨hp, h⟩ := bcase_out h
          obtain ⟨b, g1, u1⟩ := give_sl g hu hv hgi hni (.inr ⟨ty, opn, hget⟩) e2 (List.all_eq_true.1 hp)
          obtain ⟨ds, u', used', h1, h2, h3⟩ := giveCells_out g r ht u1 h
          exact ⟨_, u', used', .cons g1 h1, h2, h3⟩
        · cases h
      · cases h
    · split at h
      · rename_i hp
        obtain ⟨ds, u', used', h1, h2, h3⟩ := giveCells_out g r ht hu h
        rw [plain_eq 8 _ _ hp hv]
        exact ⟨_, u', used', .cons (.val u _ hp) h1, h2, h3⟩
      · cases h

theorem GivesL.append {w' : World} : ∀ {a b : List D} {l l' : List Value} {u u' u'' : List Nat}, GivesL w w' u a l u' → GivesL w w' u' b l' u'' → GivesL w w' u (a ++ b) (l ++ l') u'' := by
  intro a
  induction a with
  | nil => intro b l l' u u' u'' h k; cases h; exact k
  | cons d a ih => intro b l l' u u' u'' h k; cases h with | cons h t => exact .cons h (ih t k)
theorem giveVals_out (g : Gam w0 ρ H w) : ∀ (l : List Value) {l' : List Value} {used u : List Nat} {k : List D → Prop}, LR ρ l l' → UsedOK ρ H used u → giveVals H used l k → ∃ ds u', GivesL w0 w u ds l' u' ∧ k ds
  | [], _, used, u, k, .nil, hu, h => ⟨[], u, .nil u, h⟩
  | v :: r, _, used, u, k, .cons hv ht, hu, h => by
    unfold giveVals at h
    split at h
    · rename_i e; cases e
    · rename_i cs r' e
      simp only [List.cons.injEq] at e
      obtain ⟨rfl, rfl⟩ := e
      cases hv with
      | agg _ a' ha ra =>
        obtain ⟨ds, u1, used1, h1, h2, h⟩ := giveCells_out g _ (LR.of_arr ha ra) hu h
        obtain ⟨rs, u2, h3, h⟩ := giveVals_out g _ ht h2 h
        exact ⟨_, u2, .cons (by simpa using Gives.agg (w := w0) (w' := w) u u1 ds a'.toList h1) h3, h⟩
    · rename_i v' r' hne e
      simp only [List.cons.injEq] at e
      obtain ⟨rfl, rfl⟩ := e
      obtain ⟨ds, u1, used1, h1, h2, h⟩ := giveCells_out g _ (.cons hv .nil) hu h
      obtain ⟨rs, u2, h3, h⟩ := giveVals_out g _ ht h2 h
      exact ⟨_, u2, h1.append h3, h⟩

theorem dataK_out (g : Gam w0 ρ H w) {v v' : Value} (hv : VR ρ v v') {k : List D → Prop} (hk : dataK k v H) : ∃ vs ds u, v' = tupleOf vs ∧ GivesL w0 w [] ds vs u ∧ k ds := by
  have hu : UsedOK ρ H [] [] := fun b hb => (List.not_mem_nil hb).elim
  unfold dataK at hk
  split at hk
  · rename_i vs
    split at hk
    · cases hk
    · rename_i hsz
      cases hv with
      | tuple _ a' ha ra =>
        obtain ⟨ds, u, h1, h2⟩ := giveVals_out g _ (LR.of_arr ha ra) hu hk
        refine ⟨a'.toList, ds, u, ?_, h1, h2⟩
        have : a'.toList.length ≠ 1 := by simp; omega
        unfold tupleOf
        split
        · rename_i x e; rw [e] at this; simp at this
        · simp
  · obtain ⟨ds, u, h1, h2⟩ := giveVals_out g _ (.cons hv .nil) hu hk
    exact ⟨[v'], ds, u, rfl, h1, h2⟩

/-! ### A function whose body has been walked -/
theorem layCells_len (caps : Nat → Nat) : ∀ (ds : List D) (i : Nat), (layCells caps i ds).1.length = ds.length
  | [], _ => rfl
  | .sl _ _ _ :: r, i => by simp [layCells, layCells_len caps r]
  | .nil :: r, i => by simp [layCells, layCells_len caps r]
  | .val _ :: r, i => by simp [layCells, layCells_len caps r]
  | .agg _ :: r, i => by simp [layCells, layCells_len caps r]
theorem layVals_len (caps : Nat → Nat) : ∀ (ds : List D) (i : Nat), (layVals caps i ds).1.length = ds.length
  | [], _ => rfl
  | .sl _ _ _ :: r, i => by simp [layVals, layVals_len caps r, layCells_len]; omega
  | .nil :: r, i => by simp [layVals, layVals_len caps r, layCells_len]; omega
  | .val _ :: r, i => by simp [layVals, layVals_len caps r, layCells_len]; omega
  | .agg _ :: r, i => by simp [layVals, layVals_len caps r]

theorem con_intro {h : Handler} (hh : HandlerOK P h) (hmix : P.follows .mixedOrders = true) {L : AtLoop} {f : FuncId} {fn : Func} {c : Code} (hf : P.funcs[f]? = some fn) (hc : fn.body = some c) {ds rs : List D} (hcount : countV ds ≤ 500) (hsz : ds.length = fn.params.size)
    (hk : ∀ caps, wpFn P h L 0 f (layVals caps 500 ds).1.toArray (heapOf (layVals caps 500 ds).2) (dataK (· = rs)))
    (hl : loopsOK P h L (fnSize fn) c (fnLv fn) (fnK P fn (dataK (· = rs)))) : Con P f ds rs := by
  intro w args hr
  obtain ⟨caps, ρ, g, ha⟩ := lay_gam hr hcount
  have hsz2 : max (layVals caps 500 ds).1.toArray.size fn.ntmps = fnSize fn := by simp [fnSize, layVals_len, hsz]
  refine callsIn_wide.1 ((wpFn_run (u := 0) (b := false) hh hmix (fun _ => rfl) hf hc (hk caps) (fun _ => by rw [hsz2]; exact hl) g 0 (by simpa using ha)).mono ?_)
  rintro e w' ⟨v, H', ρ', v', hkv, rfl, hv, g', _⟩
  obtain ⟨vs, ds', u, rfl, h1, rfl⟩ := dataK_out g' hv hkv
  exact ⟨⟨vs, u, rfl, h1⟩, g'.below⟩
end Go.Abs
