/- Contracts: what a call gives back is laid in the caller's heap; what a function is handed, and gives. -/
import Derived.Test.YtiahlinolhpecaaAbsCon
namespace Go.Abs
open Go.RowKit
variable {P : Program} {ρ : Ren} {w0 w : World} {H : Heap}

/-- The world has grown. -/
theorem Gam.grow (g : Gam w0 ρ H w) {w' : World} (hb : Below w.heap.size w w') : Gam w0 ρ H w' :=
  ⟨g.gb, g.fresh, g.below.trans (hb.mono g.below.size), fun i m hm => ⟨Nat.lt_of_lt_of_le (g.own i m hm).1 hb.size, (g.own i m hm).2⟩, g.glob, g.inj,
    fun i m o hm ho => (g.obj i m o hm ho).mono ρ.le_refl (fun _ => hb.block _ (g.own i m hm).1), g.gmap⟩

/-- A block of the world is taken in. -/
theorem Gam.adopt (g : Gam w0 ρ H w) (x : AObj) (m : Meta) (hlt : m.b < w.heap.size) (hge : w0.heap.size ≤ m.b) (hf : ∀ i n, ρ i = some n → n.b ≠ m.b) (hr : ObjR (ρ.put H.next m) w m x) :
    Gam w0 (ρ.put H.next m) (H.new x) w ∧ Ext ρ (ρ.put H.next m) H (H.new x) := by
  have hle := g.le_put m
  refine ⟨⟨Nat.le_trans g.gb (by simp), ?_, g.below, ?_, ?_, ?_, ?_, ?_⟩, ⟨hle, by simp, ?_⟩⟩
  · intro i hi
    simp only [Heap.next_new] at hi
    have : i ≠ H.next := by omega
    simp only [Ren.put, this, if_false]
    exact g.fresh i (by omega)
  · intro i n hn
    simp only [Ren.put] at hn
    split at hn
    · cases hn
      exact ⟨hlt, fun _ => hge, fun h => by have := g.gb; omega⟩
    · exact g.own i n hn
  · intro i n hn hi
    simp only [Ren.put] at hn
    split at hn
    · have := g.gb; unfold gbase abase at *; omega
    · exact g.glob i n hn hi
  · intro i j mi mj hgi hi hj ei ej hbb
    simp only [Ren.put] at ei ej
    obtain ⟨oi, gi, ai⟩ := hi
    obtain ⟨oj, gj, aj⟩ := hj
    rw [Heap.get_new] at gi gj
    by_cases e1 : i = H.next
    · by_cases e2 : j = H.next
      · rw [e1, e2]
      · simp only [e1, if_true, Option.some.injEq] at ei
        simp only [e2, if_false] at ej
        exact absurd (by rw [ei, hbb]) (hf j mj ej)
    · by_cases e2 : j = H.next
      · simp only [e2, if_true, Option.some.injEq] at ej
        simp only [e1, if_false] at ei
        exact absurd (by rw [ej, hbb]) (hf i mi ei)
      · simp only [e1, e2, if_false] at ei ej gi gj
        exact g.inj i j mi mj hgi ⟨oi, gi, ai⟩ ⟨oj, gj, aj⟩ ei ej hbb
  · intro i n o hn ho
    rw [Heap.get_new] at ho
    simp only [Ren.put] at hn
    by_cases e : i = H.next
    · simp only [e, if_true, Option.some.injEq] at hn ho
      subst hn ho
      exact hr
    · simp only [e, if_false] at hn ho
      exact (g.obj i n o hn ho).mono hle (fun _ => rfl)
  · intro i hi hn
    have : i ≠ H.next := by have := g.gb; unfold gbase abase at *; omega
    rw [Heap.get_new, if_neg this] at hn
    obtain ⟨n, h⟩ := g.gmap i hi hn
    exact ⟨n, hle _ _ h⟩
  · intro i hi hn
    have : i ≠ H.next := by omega
    exact ⟨by simp [Ren.put, this, hn], by rw [Heap.get_new, if_neg this]⟩

/-! ### How data are laid -/
inductive LaidC : Heap → List D → List Value → Heap → Prop
  | nil (H : Heap) : LaidC H [] [] H
  | val {H H' : Heap} {ds : List D} {vs : List Value} (v : Value) (hv : ∀ cs, v ≠ .agg cs) (t : LaidC H ds vs H') : LaidC H (.val v :: ds) (v :: vs) H'
  | nilS {H H' : Heap} {ds : List D} {vs : List Value} (t : LaidC H ds vs H') : LaidC H (.nil :: ds) (.slice none 0 0 :: vs) H'
  | sl {H H' : Heap} {ds : List D} {vs : List Value} (n es : Nat) (cs : List Value) (t : LaidC (H.new (.sym cs true es)) ds vs H') : LaidC H (.sl n es cs :: ds) (.slice (some ⟨H.next, 0, none⟩) n n :: vs) H'
inductive LaidV : Heap → List D → List Value → Heap → Prop
  | nil (H : Heap) : LaidV H [] [] H
  | one {H H1 H2 : Heap} {d : D} {v : Value} {ds : List D} {vs : List Value} (h : LaidC H [d] [v] H1) (t : LaidV H1 ds vs H2) : LaidV H (d :: ds) (v :: vs) H2
  | agg {H H1 H2 : Heap} {cds : List D} {cvs : List Value} {ds : List D} {vs : List Value} (h : LaidC H cds cvs H1) (t : LaidV H1 ds vs H2) : LaidV H (.agg cds :: ds) (.agg cvs.toArray :: vs) H2

theorem someScal_out : ∀ (l : List Sc) {H : Heap} {k : List D → List Value → Heap → Prop}, someScal l H k → ∃ ds vs H', LaidC H ds vs H' ∧ ds.length = l.length ∧ k ds vs H'
  | [], H, k, h => ⟨[], [], H, .nil H, rfl, h⟩
  | .int kd :: r, H, k, h => by
    obtain ⟨n, h⟩ := h
    obtain ⟨ds, vs, H', h1, h2, h3⟩ := someScal_out r h
    exact ⟨_, _, _, .val _ (fun cs e => by cases e) h1, by simp [h2], h3⟩
  | .bool :: r, H, k, h => by
    rcases h with h | h
    all_goals
      obtain ⟨ds, vs, H', h1, h2, h3⟩ := someScal_out r h
      exact ⟨_, _, _, .val _ (fun cs e => by cases e) h1, by simp [h2], h3⟩
  | .str :: r, H, k, h => by
    obtain ⟨n, h⟩ := h
    obtain ⟨ds, vs, H', h1, h2, h3⟩ := someScal_out r h
    exact ⟨_, _, _, .val _ (fun cs e => by cases e) h1, by simp [h2], h3⟩
  | .sl es :: r, H, k, h => by
    rcases h with h | ⟨n, cs, h⟩
    · obtain ⟨ds, vs, H', h1, h2, h3⟩ := someScal_out r h
      exact ⟨_, _, _, .nilS h1, by simp [h2], h3⟩
    · obtain ⟨ds, vs, H', h1, h2, h3⟩ := someScal_out r h
      exact ⟨_, _, _, .sl n es cs h1, by simp [h2], h3⟩
theorem someVals_out : ∀ (ts : List TypeId) {H : Heap} {k : List D → List Value → Heap → Prop}, someVals P ts H k → ∃ ds vs H', LaidV H ds vs H' ∧ k ds vs H'
  | [], H, k, h => ⟨[], [], H, .nil H, h⟩
  | t :: r, H, k, h => by
    simp only [someVals, someVal] at h
    split at h
    · cases h
    · rename_i l hl
      split at h
      · obtain ⟨ds, vs, H', h1, _, h3⟩ := someScal_out l h
        obtain ⟨rs, us, H2, h4, h5⟩ := someVals_out r h3
        exact ⟨_, _, _, .agg h1 h4, h5⟩
      · obtain ⟨ds, vs, H', h1, _, h3⟩ := someScal_out l h
        split at h3
        · obtain ⟨rs, us, H2, h4, h5⟩ := someVals_out r h3
          exact ⟨_, _, _, .one h1 h4, h5⟩
        · cases h3

theorem laidC_sound {w0' : World} : ∀ {H H' : Heap} {ds : List D} {vs : List Value}, LaidC H ds vs H' → ∀ {ρ : Ren} {vs' : List Value} {u u' : List Nat}, Gam w0 ρ H w → w0.heap.size ≤ w0'.heap.size → (∀ i m, ρ i = some m → m.b < w0'.heap.size ∨ m.b ∈ u) → GivesL w0' w u ds vs' u' →
    ∃ ρ', Gam w0 ρ' H' w ∧ LR ρ' vs vs' ∧ Ext ρ ρ' H H' ∧ (∀ i m, ρ' i = some m → m.b < w0'.heap.size ∨ m.b ∈ u') := by
  intro H H' ds vs h
  induction h with
  | nil H =>
    intro ρ vs' u u' g hw hu hg
    cases hg
    exact ⟨ρ, g, .nil, .refl _ _, hu⟩
  | val v hv t ih =>
    intro ρ vs' u u' g hw hu hg
    cases hg with
    | cons h1 h2 =>
      cases h1 with
      | val _ _ hp =>
        obtain ⟨ρ', g', l', e', u2⟩ := ih g hw hu h2
        exact ⟨ρ', g', .cons (plain_refl _ 8 _ hp) l', e', u2⟩
  | nilS t ih =>
    intro ρ vs' u u' g hw hu hg
    cases hg with
    | cons h1 h2 =>
      cases h1 with
      | nil _ =>
        obtain ⟨ρ', g', l', e', u2⟩ := ih g hw hu h2
        exact ⟨ρ', g', .cons (.nilSlice _ _) l', e', u2⟩
  | @sl H H' ds vs n es cs t ih =>
    intro ρ vs' u u' g hw hu hg
    cases hg with
    | cons h1 h2 =>
      cases h1 with
      | sl _ _ _ _ b o cap c ty hb hwb hub hs hcap hc hn hp =>
        have hcl : o + cs.length ≤ c.size := by
          have : n * es ≤ cap * es := Nat.mul_le_mul_right _ hcap
          omega
        let m : Meta := ⟨b, o, cs.length, true, es, c.size, hcl⟩
        have hlt : b < w.heap.size := by
          rcases Nat.lt_or_ge b w.heap.size with h | h
          · exact h
          · rw [Array.getElem?_eq_none h] at hb; cases hb
        obtain ⟨g1, e1⟩ := g.adopt (.sym cs true es) m hlt (Nat.le_trans hw hwb) (fun i n hn e => by
            rcases hu i n hn with h | h
            · simp only [m] at e; omega
            · exact hub (by rw [← show n.b = b from e]; exact h)) ⟨⟨rfl, rfl, rfl, c, ty, (0, 0), ⟨hb, fun _ => rfl⟩, rfl, by
              rw [show m.o = o from rfl, hc]
              exact LR.plain (fun v => plain_refl _ 8 v) cs (List.all_eq_true.2 (fun v hv => cellP_plain (hp v hv)))⟩, hp⟩
        have hput : (ρ.put H.next m) H.next = some m := by simp [Ren.put]
        obtain ⟨ρ', g', l', e', u2⟩ := ih g1 hw (fun i n hn => by
            simp only [Ren.put] at hn
            split at hn
            · cases hn; exact .inr (List.mem_cons_self ..)
            · rcases hu i n hn with h | h
              · exact .inl h
              · exact .inr (List.mem_cons_of_mem _ h)) h2
        refine ⟨ρ', g', .cons ?_ l', e1.trans e', u2⟩
        have := VR.opened (ρ := ρ.put H.next m) H.next 0 n n cap m hput (by simp [Meta.isOpen, m, hn]) hcap (by simp [m]; omega)
        exact VR.mono e'.le (by simpa [m] using this)
theorem laidV_sound {w0' : World} : ∀ {H H' : Heap} {ds : List D} {vs : List Value}, LaidV H ds vs H' → ∀ {ρ : Ren} {vs' : List Value} {u u' : List Nat}, Gam w0 ρ H w → w0.heap.size ≤ w0'.heap.size → (∀ i m, ρ i = some m → m.b < w0'.heap.size ∨ m.b ∈ u) → GivesL w0' w u ds vs' u' →
    ∃ ρ', Gam w0 ρ' H' w ∧ LR ρ' vs vs' ∧ Ext ρ ρ' H H' ∧ (∀ i m, ρ' i = some m → m.b < w0'.heap.size ∨ m.b ∈ u') := by
  intro H H' ds vs h
  induction h with
  | nil H =>
    intro ρ vs' u u' g hw hu hg
    cases hg
    exact ⟨ρ, g, .nil, .refl _ _, hu⟩
  | one h t ih =>
    intro ρ vs' u u' g hw hu hg
    cases hg with
    | cons h1 h2 =>
      obtain ⟨ρ1, g1, l1, e1, u1⟩ := laidC_sound h g hw hu (.cons h1 (.nil _))
      obtain ⟨ρ2, g2, l2, e2, u2⟩ := ih g1 hw u1 h2
      cases l1 with
      | cons l1 _ => exact ⟨ρ2, g2, .cons (l1.mono e2.le) l2, e1.trans e2, u2⟩
  | agg h t ih =>
    intro ρ vs' u u' g hw hu hg
    cases hg with
    | cons h1 h2 =>
      cases h1 with
      | agg _ _ _ _ h1 =>
        obtain ⟨ρ1, g1, l1, e1, u1⟩ := laidC_sound h g hw hu h1
        obtain ⟨ρ2, g2, l2, e2, u2⟩ := ih g1 hw u1 h2
        exact ⟨ρ2, g2, .cons (VR.agg' (by simpa using l1.mono e2.le)) l2, e1.trans e2, u2⟩

theorem tupleOf_R {vs vs' : List Value} (h : LR ρ vs vs') : VR ρ (tupleOf vs) (tupleOf vs') := by
  have ht : VR ρ (.tuple vs.toArray) (.tuple vs'.toArray) := VR.tuple' (by simpa using h)
  match vs, vs', h with
  | [], [], _ => exact ht
  | [_], [_], .cons h _ => exact h
  | _ :: _ :: _, _ :: _ :: _, _ => exact ht

/-- A call that is met by its contract. -/
theorem wpSaid_call {C : FuncId → List D → List D → Prop} (hC : ∀ f ds rs, C f ds rs → Con P f ds rs) {f : FuncId} {res : List TypeId} {args : Array Value} {k : Value → Heap → Prop} (hk : wpSaid P C f res args H k) : CallH P f args H k := by
  intro w0 ρ w args' n g ha
  obtain ⟨ds, hr, hk⟩ := readVals_out g _ ha hk
  obtain ⟨rs, vs, H', hl, hs, hk⟩ := someVals_out res hk
  refine callsIn_wide.2 ((hC f ds rs hs.out w args' hr).mono ?_)
  rintro e w' ⟨⟨vs', u, rfl, hg⟩, hb⟩
  obtain ⟨ρ', g', l', e', _⟩ := laidV_sound hl (g.grow hb) g.below.size (fun i m hm => .inl (g.own i m hm).1) hg
  exact ⟨_, H', ρ', _, hk, rfl, tupleOf_R l', g', e'⟩

theorem handlerN_ok (hmix : P.follows .mixedOrders = true) {C : FuncId → List D → List D → Prop} (hC : ∀ f ds rs, C f ds rs → Con P f ds rs) {sig : FuncId → Bool} {u : Nat} (hu : u ≠ 0) : ∀ n, HandlerOK P (handlerN P C sig u n)
  | 0 => fun _ _ _ _ _ h => h.elim
  | n + 1 => fun g args ats H k hk => by
    simp only [handlerN] at hk
    split at hk
    · split at hk
      · exact wpSaid_call hC hk
      · exact hk.elim
    · exact wpFn_call (handlerN_ok hmix hC hu n) hmix hu hk
end Go.Abs
