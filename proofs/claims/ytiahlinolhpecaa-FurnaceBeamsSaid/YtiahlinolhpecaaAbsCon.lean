/- Contracts: what a function does, in data. -/
import Derived.Test.YtiahlinolhpecaaAbsHold
namespace Go.Abs
open Go.RowKit
variable {P : Program} {ρ : Ren} {w0 w : World} {H : Heap}

/-! ### Data in the machine's memory -/
mutual
/-- A value reads as data. -/
inductive Reads (w : World) : D → Value → Prop
  | val (v : Value) (h : plain 8 v = true) : Reads w (.val v) v
  | agg (ds : List D) (vs : List Value) (h : ReadsL w ds vs) : Reads w (.agg ds) (.agg vs.toArray)
  | nil : Reads w .nil (.slice none 0 0)
  | sl (n es : Nat) (cs : List Value) (b o cap : Nat) (c : Array Value) (ty : TypeId) (fz : Nat × Nat) (hb : w.heap[b]? = some (.cells c ty fz)) (hs : o + cs.length ≤ c.size)
      (hc : (c.toList.drop o).take cs.length = cs) (hn : cs.length = n * es) (hp : ∀ v ∈ cs, cellP v = true) : Reads w (.sl n es cs) (.slice (some ⟨b, o, none⟩) n cap)
inductive ReadsL (w : World) : List D → List Value → Prop
  | nil : ReadsL w [] []
  | cons {d : D} {v : Value} {ds : List D} {vs : List Value} (h : Reads w d v) (t : ReadsL w ds vs) : ReadsL w (d :: ds) (v :: vs)
end
mutual
/-- A value that a call gives back reads as data; its slices lie in new blocks, none shared. -/
inductive Gives (w w' : World) : List Nat → D → Value → List Nat → Prop
  | val (u : List Nat) (v : Value) (h : plain 8 v = true) : Gives w w' u (.val v) v u
  | agg (u u' : List Nat) (ds : List D) (vs : List Value) (h : GivesL w w' u ds vs u') : Gives w w' u (.agg ds) (.agg vs.toArray) u'
  | nil (u : List Nat) : Gives w w' u .nil (.slice none 0 0) u
  | sl (u : List Nat) (n es : Nat) (cs : List Value) (b o cap : Nat) (c : Array Value) (ty : TypeId) (hb : w'.heap[b]? = some (.cells c ty (0, 0))) (hw : w.heap.size ≤ b) (hu : b ∉ u) (hs : o + cap * es ≤ c.size) (hcap : n ≤ cap)
      (hc : (c.toList.drop o).take cs.length = cs) (hn : cs.length = n * es) (hp : ∀ v ∈ cs, cellP v = true) : Gives w w' u (.sl n es cs) (.slice (some ⟨b, o, none⟩) n cap) (b :: u)
inductive GivesL (w w' : World) : List Nat → List D → List Value → List Nat → Prop
  | nil (u : List Nat) : GivesL w w' u [] [] u
  | cons {u u' u'' : List Nat} {d : D} {v : Value} {ds : List D} {vs : List Value} (h : Gives w w' u d v u') (t : GivesL w w' u' ds vs u'') : GivesL w w' u (d :: ds) (v :: vs) u''
end
/-- A CONTRACT: handed values that read as ds, the function gives back values that read as rs, and changes nothing that was there. -/
def Con (P : Program) (f : FuncId) (ds rs : List D) : Prop :=
  ∀ (w : World) (args : Array Value), ReadsL w ds args.toList → Calls P f args w fun e w' => (∃ vs u, e = .returned (tupleOf vs) ∧ GivesL w w' [] rs vs u) ∧ Below w.heap.size w w'

/-! ### From the evaluator's values to data -/
theorem LR.eq_of_plain {l l' : List Value} (h : LR ρ l l') (hp : ∀ v ∈ l, cellP v = true) : l' = l := LR.plain_eq (fun v v' h1 h2 => Abs.plain_eq 8 v v' h1 h2) h (List.all_eq_true.2 (fun v hv => cellP_plain (hp v hv)))

theorem reads_sl (g : Gam w0 ρ H w) {i o len cap : Nat} {v' : Value} (hv : VR ρ (.slice (some ⟨i, o, none⟩) len cap) v') {cs : List Value} {es : Nat}
    (hget : ∃ opn, H.get i = some (.sym cs opn es) ∨ ∃ ty, H.get i = some (.cells cs ty opn es)) (hle : o + len * es ≤ cs.length) (hp : ∀ v ∈ (cs.drop o).take (len * es), cellP v = true) :
    Reads w (.sl len es ((cs.drop o).take (len * es))) v' := by
  obtain ⟨m, hm, off, capC, rfl, hcap, h1, h2⟩ := slice_inv hv
  obtain ⟨opn, hget⟩ := hget
  have key : m.known = cs.length ∧ ∃ c ty fz, w.heap[m.b]? = some (.cells c ty fz) ∧ c.size = m.size ∧ LR ρ cs ((c.toList.drop m.o).take cs.length) := by
    rcases hget with hget | ⟨ty, hget⟩
    · obtain ⟨⟨a, b, c, d, e, f, g1, g2, g3⟩, _⟩ := g.obj i m _ hm hget
      exact ⟨a, d, e, f, g1.1, g2, g3⟩
    · obtain ⟨a, b, c, d, e, g1, g2, g3⟩ := g.obj i m _ hm hget
      exact ⟨a, d, e, _, g1, g2, g3⟩
  obtain ⟨hk, c, ty, fz, hb, hsz, hlr⟩ := key
  have hw := m.hw
  have hlr2 : LR ρ ((cs.drop o).take (len * es)) ((((c.toList.drop m.o).take cs.length).drop o).take (len * es)) := (hlr.drop o).take _
  have heq := LR.eq_of_plain hlr2 hp
  have hlen : ((cs.drop o).take (len * es)).length = len * es := by simp; omega
  have hat : off = m.o + o ∨ (len = 0 ∧ off ≤ m.size) := by
    by_cases ho : m.isOpen o cap = true
    · rcases h2 ho with h | h
      · exact .inl h.1
      · exact .inr ⟨h.1, slice_off hv hm rfl ho⟩
    · exact .inl (h1 (by simpa using ho)).1
  rcases hat with rfl | ⟨rfl, hoff⟩
  · refine .sl _ _ _ _ _ _ c ty fz hb (by rw [hlen]; omega) ?_ hlen hp
    rw [hlen]
    rw [← heq]
    rw [List.drop_take, List.take_take, List.drop_drop]
    congr 1
    omega
  · have hnil : (cs.drop o).take (0 * es) = [] := by simp
    rw [hnil]
    exact .sl 0 es [] _ _ _ c ty fz hb (by simp; omega) (by simp) (by simp) (fun v hv => by cases hv)

theorem readCells_out (g : Gam w0 ρ H w) : ∀ (l : List Value) {l' : List Value} {k : List D → Prop}, LR ρ l l' → readCells H l k → ∃ ds, ReadsL w ds l' ∧ k ds
  | [], _, k, .nil, h => ⟨[], .nil, h⟩
  | v :: r, _, k, .cons hv ht, h => by
    unfold readCells at h
    split at h
    · obtain ⟨ds, h1, h2⟩ := readCells_out g r ht h
      cases hv
      exact ⟨_, .cons .nil h1, h2⟩
    · rename_i i o len cap
      split at h
      · rename_i cs opn es hget
        obtain ⟨hle, h⟩ := bcase_out h
        obtain ⟨ds, h1, h2⟩ := readCells_out g r ht h
        simp only [decide_eq_true_eq] at hle
        refine ⟨_, .cons (reads_sl g hv ⟨opn, .inl hget⟩ hle ?_) h1, h2⟩
        intro v hv'
        cases hv with
        | slice i k len cap m hm ho => exact (g.obj i m _ hm hget).2 v (List.mem_of_mem_drop (List.mem_of_mem_take hv'))
        | opened i k len cap capC m hm ho hc hs => exact (g.obj i m _ hm hget).2 v (List.mem_of_mem_drop (List.mem_of_mem_take hv'))
        | empty i k off m hm ho hz => exact (g.obj i m _ hm hget).2 v (List.mem_of_mem_drop (List.mem_of_mem_take hv'))
      · rename_i cs ty opn es hget
        obtain ⟨hle, h⟩ := bcase_out h
        obtain ⟨hp, h⟩ := bcase_out h
        obtain ⟨ds, h1, h2⟩ := readCells_out g r ht h
        simp only [decide_eq_true_eq] at hle
        exact ⟨_, .cons (reads_sl g hv ⟨opn, .inr ⟨ty, hget⟩⟩ hle (List.all_eq_true.1 hp)) h1, h2⟩
      · cases h
    · split at h
      · rename_i hp
        obtain ⟨ds, h1, h2⟩ := readCells_out g r ht h
        rw [plain_eq 8 _ _ hp hv]
        exact ⟨_, .cons (.val _ hp) h1, h2⟩
      · cases h

theorem ReadsL.append {a b : List D} {l l' : List Value} (h : ReadsL w a l) (k : ReadsL w b l') : ReadsL w (a ++ b) (l ++ l') := by
  induction a generalizing l with
  | nil => cases h; exact k
  | cons d a ih => cases h with | cons h t => exact .cons h (ih t)
theorem readVals_out (g : Gam w0 ρ H w) : ∀ (l : List Value) {l' : List Value} {k : List D → Prop}, LR ρ l l' → readVals H l k → ∃ ds, ReadsL w ds l' ∧ k ds
  | [], _, k, .nil, h => ⟨[], .nil, h⟩
  | v :: r, _, k, .cons hv ht, h => by
    unfold readVals at h
    split at h
    · rename_i e; cases e
    · rename_i cs r' e
      simp only [List.cons.injEq] at e
      obtain ⟨rfl, rfl⟩ := e
      cases hv with
      | agg _ a' ha ra =>
        obtain ⟨ds, h1, h⟩ := readCells_out g _ (LR.of_arr ha ra) h
        obtain ⟨rs, h2, h⟩ := readVals_out g _ ht h
        exact ⟨_, .cons (by simpa using Reads.agg (w := w) ds a'.toList h1) h2, h⟩
    · rename_i v' r' hne e
      simp only [List.cons.injEq] at e
      obtain ⟨rfl, rfl⟩ := e
      obtain ⟨ds, h1, h⟩ := readCells_out g _ (.cons hv .nil) h
      obtain ⟨rs, h2, h⟩ := readVals_out g _ ht h
      exact ⟨_, h1.append h2, h⟩
end Go.Abs
