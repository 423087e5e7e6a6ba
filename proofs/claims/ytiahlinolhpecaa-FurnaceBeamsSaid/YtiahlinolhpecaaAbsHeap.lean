/- The abstract heap against the machine's memory. -/
import Derived.Test.YtiahlinolhpecaaAbsSlice
import Derived.Laws.Cells
import Derived.Laws.CopyRow
namespace Go.Abs
open Go.RowKit
variable {P : Program} {ρ : Ren}

/-- Entries of a map. -/
inductive ER (ρ : Ren) : List MapEntry → List MapEntry → Prop
  | nil : ER ρ [] []
  | cons {e e' : MapEntry} {l l' : List MapEntry} (k : VR ρ e.key e'.key) (kk : plain 1 e.key = true) (v : VR ρ e.val e'.val) (b : e.born = e'.born) (t : ER ρ l l') : ER ρ (e :: l) (e' :: l')
theorem ER.mono {ρ' : Ren} (h : ρ.le ρ') {l l' : List MapEntry} (r : ER ρ l l') : ER ρ' l l' := by
  induction r with
  | nil => exact .nil
  | cons k kk v b _ ih => exact .cons (k.mono h) kk (v.mono h) b ih

/-- The slots of an activation. -/
structure ActR (ρ : Ren) (A : AAct) (a : Act) : Prop where
  size : a.tmps.size = A.size
  slot : ∀ t, VR ρ (A.slot t) (a.tmps.getD t undef)
  defers : a.defers.length = A.defers.length ∧ ∀ (j : Nat) (D : Nat), A.defers[j]? = some D → ∃ m, ρ D = some m ∧ a.defers[j]? = some { target := .collected m.b, args := #[] }
theorem ActR.mono {ρ' : Ren} (h : ρ.le ρ') {A : AAct} {a : Act} (r : ActR ρ A a) : ActR ρ' A a :=
  ⟨r.size, fun t => (r.slot t).mono h, r.defers.1, fun j D e => let ⟨m, h1, h2⟩ := r.defers.2 j D e; ⟨m, h _ _ h1, h2⟩⟩

structure LoopR (ρ : Ren) (l : ALoop) (L : Loop) : Prop where
  state : L.state = l.state
  pending : L.pending = l.pending
  size : L.tmps.size = l.act.size
  slot : ∀ t, VR ρ (l.act.slot t) (L.tmps.getD t undef)
  params : L.params = l.params
  assign : L.assign = l.assign
  body : L.body = l.body
  defers : ∃ m, ρ l.defers = some m ∧ L.defers = m.b
theorem LoopR.mono {ρ' : Ren} (h : ρ.le ρ') {l : ALoop} {L : Loop} (r : LoopR ρ l L) : LoopR ρ' l L :=
  ⟨r.state, r.pending, r.size, fun t => (r.slot t).mono h, r.params, r.assign, r.body, let ⟨m, h1, h2⟩ := r.defers; ⟨m, h _ _ h1, h2⟩⟩

def AObj.alive : AObj → Bool
  | .dead _ _ _ | .taken => false
  | _ => true

def ObjR (ρ : Ren) (w : World) (m : Meta) : AObj → Prop
  | .cells cs _ opn es => m.known = cs.length ∧ m.opn = opn ∧ m.es = es ∧ ∃ c ty', w.heap[m.b]? = some (.cells c ty' (0, 0)) ∧ c.size = m.size ∧ LR ρ cs ((c.toList.drop m.o).take cs.length)
  | .dead n opn es => m.known = n ∧ m.opn = opn ∧ m.es = es
  | .map es clock => ∃ es', w.heap[m.b]? = some (.map es' clock) ∧ ER ρ es es'.toList
  | .loop l => ∃ L, w.heap[m.b]? = some (.loop L) ∧ LoopR ρ l L
  | .deferred => w.heap[m.b]? = some (.deferred (some []))
  | .taken => True
  | .siter _ _ => False
  | .sym cs opn es => (m.known = cs.length ∧ m.opn = opn ∧ m.es = es ∧ ∃ c ty' fz, (w.heap[m.b]? = some (.cells c ty' fz) ∧ (opn = true → fz = (0, 0))) ∧ c.size = m.size ∧ LR ρ cs ((c.toList.drop m.o).take cs.length)) ∧ ∀ v ∈ cs, cellP v = true
theorem ObjR.mono {ρ' : Ren} (h : ρ.le ρ') {w w' : World} {m : Meta} {o : AObj} (hb : o.alive = true → w'.heap[m.b]? = w.heap[m.b]?) (r : ObjR ρ w m o) : ObjR ρ' w' m o := by
  cases o with
  | cells cs ty opn es => obtain ⟨a, b, c, d, e, f, g, i⟩ := r; exact ⟨a, b, c, d, e, (hb rfl).trans f, g, i.mono h⟩
  | dead n opn es => exact r
  | map es clock => obtain ⟨a, b, c⟩ := r; exact ⟨a, (hb rfl).trans b, c.mono h⟩
  | loop l => obtain ⟨a, b, c⟩ := r; exact ⟨a, (hb rfl).trans b, c.mono h⟩
  | deferred => exact (hb rfl).trans r
  | taken => trivial
  | siter s p => exact r
  | sym cs opn es => obtain ⟨⟨a, b, c, d, e, z, f, g, i⟩, j⟩ := r; exact ⟨⟨a, b, c, d, e, z, ⟨(hb rfl).trans f.1, f.2⟩, g, i.mono h⟩, j⟩

theorem cellP_plain {v : Value} (h : cellP v = true) : plain 8 v = true := by simp only [cellP, Bool.and_eq_true] at h; exact h.1
def Heap.live (H : Heap) (i : Nat) : Prop := ∃ o, H.get i = some o ∧ o.alive = true

structure Gam (w0 : World) (ρ : Ren) (H : Heap) (w : World) : Prop where
  gb : gbase ≤ H.next
  fresh : ∀ i, H.next ≤ i → ρ i = none
  below : Below w0.heap.size w0 w
  own : ∀ i m, ρ i = some m → m.b < w.heap.size ∧ (gbase ≤ i → w0.heap.size ≤ m.b) ∧ (i < gbase → m.b < w0.heap.size)
  glob : ∀ i m, ρ i = some m → i < abase → m.b = i ∧ m.o = 0
  inj : ∀ i j mi mj, gbase ≤ i → H.live i → H.live j → ρ i = some mi → ρ j = some mj → mi.b = mj.b → i = j
  obj : ∀ i m o, ρ i = some m → H.get i = some o → ObjR ρ w m o
  gmap : ∀ i, i < abase → H.get i ≠ none → ∃ m, ρ i = some m

/-- What a step keeps. -/
structure Ext (ρ ρ' : Ren) (H H' : Heap) : Prop where
  le : ρ.le ρ'
  next : H.next ≤ H'.next
  keep : ∀ i, i < H.next → ρ i = none → ρ' i = none ∧ H'.get i = H.get i
theorem Ext.refl (ρ : Ren) (H : Heap) : Ext ρ ρ H H := ⟨ρ.le_refl, Nat.le_refl _, fun _ _ h => ⟨h, rfl⟩⟩
theorem Ext.trans {a b c : Ren} {H I J : Heap} (h : Ext a b H I) (k : Ext b c I J) : Ext a c H J :=
  ⟨Ren.le_trans h.le k.le, Nat.le_trans h.next k.next, fun i hi hn => let ⟨h1, h2⟩ := h.keep i hi hn; let ⟨k1, k2⟩ := k.keep i (Nat.lt_of_lt_of_le hi h.next) h1; ⟨k1, k2.trans h2⟩⟩

variable {w0 w : World} {H : Heap}
theorem Gam.drawn (g : Gam w0 ρ H w) (d : Nat) : Gam w0 ρ H { w with drawn := d } :=
  ⟨g.gb, g.fresh, ⟨g.below.os, g.below.tape, g.below.output, g.below.size, g.below.block⟩, g.own, g.glob, g.inj, fun i m o hm ho => (g.obj i m o hm ho).mono ρ.le_refl (fun _ => rfl), g.gmap⟩
theorem Gam.lt (g : Gam w0 ρ H w) {i : Nat} {m : Meta} (h : ρ i = some m) : i < H.next := by
  rcases Nat.lt_or_ge i H.next with hl | hl
  · exact hl
  · rw [g.fresh i hl] at h; cases h

def Ren.put (ρ : Ren) (i : Nat) (m : Meta) : Ren := fun j => if j = i then some m else ρ j
theorem Gam.le_put (g : Gam w0 ρ H w) (m : Meta) : ρ.le (ρ.put H.next m) := fun j n h => by
  have : j ≠ H.next := fun e => by rw [e, g.fresh _ (Nat.le_refl _)] at h; cases h
  simp [Ren.put, this, h]

/-- A new block. -/
theorem Gam.new (g : Gam w0 ρ H w) (x : AObj) (obj : Obj) (m : Meta) (hb : m.b = w.heap.size) (hr : ObjR (ρ.put H.next m) (w.alloc obj) m x) :
    Gam w0 (ρ.put H.next m) (H.new x) (w.alloc obj) ∧ Ext ρ (ρ.put H.next m) H (H.new x) := by
  have hle := g.le_put m
  have hold : ∀ k, k < w.heap.size → (w.alloc obj).heap[k]? = w.heap[k]? := fun k hk => Below.heap_alloc w obj k hk
  refine ⟨⟨Nat.le_trans g.gb (by simp), ?_, g.below.alloc g.below.size obj, ?_, ?_, ?_, ?_, ?_⟩, ⟨hle, by simp, ?_⟩⟩
  · intro i hi
    simp only [Heap.next_new] at hi
    have : i ≠ H.next := by omega
    simp only [Ren.put, this, if_false]
    exact g.fresh i (by omega)
  · intro i n hn
    simp only [Ren.put] at hn
    split at hn
    · cases hn
      exact ⟨by rw [hb]; simp, fun _ => by rw [hb]; exact g.below.size, fun h => by have := g.gb; omega⟩
    · have := g.own i n hn
      exact ⟨by simp; omega, this.2⟩
  · intro i n hn hi
    simp only [Ren.put] at hn
    split at hn
    · have := g.gb; unfold gbase abase at *; omega
    · exact g.glob i n hn hi
  · intro i j mi mj hgi hi hj ei ej hbb
    simp only [Ren.put] at ei ej
    obtain ⟨oi, gi, ai⟩ := hi
    obtain ⟨oj, gj, aj⟩ := hj
    rw [Heap.get_new] at gi gj
    by_cases e1 : i = H.next
    · by_cases e2 : j = H.next
      · rw [e1, e2]
      · simp only [e1, if_true, Option.some.injEq] at ei
        simp only [e2, if_false] at ej
        have := (g.own j mj ej).1
        rw [← ei, hb] at hbb
        omega
    · by_cases e2 : j = H.next
      · simp only [e2, if_true, Option.some.injEq] at ej
        simp only [e1, if_false] at ei
        have := (g.own i mi ei).1
        rw [← ej, hb] at hbb
        omega
      · simp only [e1, e2, if_false] at ei ej gi gj
        exact g.inj i j mi mj hgi ⟨oi, gi, ai⟩ ⟨oj, gj, aj⟩ ei ej hbb
  · intro i n o hn ho
    rw [Heap.get_new] at ho
    simp only [Ren.put] at hn
    by_cases e : i = H.next
    · simp only [e, if_true, Option.some.injEq] at hn ho
      subst hn ho
      exact hr
    · simp only [e, if_false] at hn ho
      exact (g.obj i n o hn ho).mono hle (fun _ => hold _ (g.own i n hn).1)
  · intro i hi hn
    have : i ≠ H.next := by have := g.gb; unfold gbase abase at *; omega
    rw [Heap.get_new, if_neg this] at hn
    obtain ⟨n, h⟩ := g.gmap i hi hn
    exact ⟨n, hle _ _ h⟩
  · intro i hi hn
    have : i ≠ H.next := by omega
    exact ⟨by simp [Ren.put, this, hn], by rw [Heap.get_new, if_neg this]⟩

/-- A change of one block of the call's own. -/
theorem Gam.update (g : Gam w0 ρ H w) {i : Nat} {m : Meta} {o o' : AObj} {w' : World} (hm : ρ i = some m) (hi : gbase ≤ i) (ho : H.get i = some o) (ha : o.alive = true)
    (hs : w'.heap.size = w.heap.size) (hk : ∀ k, k ≠ m.b → w'.heap[k]? = w.heap[k]?) (h1 : w'.os = w.os) (h2 : w'.tape = w.tape) (h3 : w'.output = w.output) (hr : ObjR ρ w' m o') :
    Gam w0 ρ (H.set i o') w' ∧ Ext ρ ρ H (H.set i o') := by
  have hown := (g.own i m hm).2.1 hi
  refine ⟨⟨g.gb, g.fresh, ⟨h1.trans g.below.os, h2.trans g.below.tape, h3.trans g.below.output, by rw [hs]; exact g.below.size, fun k hk' => (hk k (by omega)).trans (g.below.block k hk')⟩, ?_, g.glob, ?_, ?_, ?_⟩, ⟨ρ.le_refl, Nat.le_refl _, ?_⟩⟩
  · intro j n hn
    rw [hs]; exact g.own j n hn
  · intro j k mj mk hgj hj hk' ej ek hbb
    have conv : ∀ x, (H.set i o').live x → H.live x := by
      rintro x ⟨ox, gx, ax⟩
      rw [Heap.get_set] at gx
      split at gx
      · rename_i e; exact ⟨o, by rw [e]; exact ho, ha⟩
      · exact ⟨ox, gx, ax⟩
    exact g.inj j k mj mk hgj (conv j hj) (conv k hk') ej ek hbb
  · intro j n x hn hx
    rw [Heap.get_set] at hx
    split at hx
    · rename_i e
      subst e
      rw [hm] at hn
      cases hn
      cases hx
      exact hr
    · rename_i e
      refine (g.obj j n x hn hx).mono ρ.le_refl (fun hal => hk _ ?_)
      intro hbb
      exact e (g.inj i j m n hi ⟨o, ho, ha⟩ ⟨x, hx, hal⟩ hm hn hbb.symm).symm
  · intro j hj hn
    rw [Heap.get_set, if_neg (by unfold gbase abase at *; omega)] at hn
    exact g.gmap j hj hn
  · intro j hj hn
    have : j ≠ i := fun e => by rw [e, hm] at hn; cases hn
    exact ⟨hn, by rw [Heap.get_set, if_neg this]⟩

/-! ### Cells read and written -/
theorem take_get {l l' : List Value} {off n : Nat} {v : Value} {j : Nat} (hl : l = (l'.drop off).take n) (h : l[j]? = some v) : l'[off + j]? = some v := by
  subst hl
  rw [List.getElem?_take] at h
  split at h
  · rwa [List.getElem?_drop] at h
  · cases h

/-- What the abstract heap says of cells, of the world. -/
theorem Gam.cellsAt (g : Gam w0 ρ H w) {i k n : Nat} {m : Meta} {cs : List Value} (hm : ρ i = some m) (h : H.cellsAt i k n = some cs) :
    cs.length = n ∧ ∃ cs', LR ρ cs cs' ∧ ∀ j v, cs'[j]? = some v → w.cell? ⟨m.b, m.o + k + j, none⟩ = some v := by
  unfold Heap.cellsAt at h
  cases ho : H.get i with
  | none => simp [ho] at h
  | some o =>
    cases o with
    | cells l ty opn es =>
      simp only [ho] at h
      split at h
      · rename_i hle
        simp only [Option.some.injEq] at h
        obtain ⟨e1, e2, e3, c, ty', hb, hsz, hlr⟩ := g.obj i m _ hm ho
        have hw := m.hw
        refine ⟨by rw [← h]; simp; omega, ((c.toList.drop m.o).take l.length).drop k |>.take n, ?_, ?_⟩
        · rw [← h]; exact (hlr.drop k).take n
        · intro j v hv
          have h1 := take_get rfl hv
          have h2 := take_get rfl h1
          simp only [World.cell?, hb, Option.isSome_none, Bool.false_eq_true, if_false]
          rw [← Array.getElem?_toList, Nat.add_assoc]
          exact h2
      · cases h
    | sym l opn es =>
      simp only [ho] at h
      split at h
      · rename_i hle
        simp only [Option.some.injEq] at h
        obtain ⟨⟨e1, e2, e3, c, ty', fz, ⟨hb, _⟩, hsz, hlr⟩, _⟩ := g.obj i m _ hm ho
        have hw := m.hw
        refine ⟨by rw [← h]; simp; omega, ((c.toList.drop m.o).take l.length).drop k |>.take n, ?_, ?_⟩
        · rw [← h]; exact (hlr.drop k).take n
        · intro j v hv
          have h1 := take_get rfl hv
          have h2 := take_get rfl h1
          simp only [World.cell?, hb, Option.isSome_none, Bool.false_eq_true, if_false]
          rw [← Array.getElem?_toList, Nat.add_assoc]
          exact h2
      · cases h
    | _ => simp [ho] at h

theorem isAgg_run {t : TypeId} {b : Bool} (h : isAggP P t = some b) (w : World) : (isAgg t).run P w = .ok b w := by
  unfold isAggP at h
  cases hu : P.underlying t with
  | none => simp [hu] at h
  | some d =>
    simp only [hu, Option.map_some, Option.some.injEq] at h
    unfold isAgg
    simp only [Sem.run_bind, und_run hu, Result.andThen_ok]
    subst h
    cases d <;> rfl

theorem cell_of_glob (g : Gam w0 ρ H w) {i k n : Nat} {cs : List Value} (hi : i < abase) (h : H.cellsAt i k n = some cs) :
    ∃ m, ρ i = some m ∧ m.b = i ∧ m.o = 0 := by
  obtain ⟨m, hm⟩ := g.gmap i hi (fun e => by simp [Heap.cellsAt, e] at h)
  exact ⟨m, hm, g.glob i m hm hi⟩

/-- A load. -/
theorem loadA_sound (g : Gam w0 ρ H w) {t : TypeId} {p p' v : Value} (hp : VR ρ p p') (h : loadA P H t p = some v) :
    ∃ v', VR ρ v v' ∧ (Instr.loadAt t p').run P w = .ok v' w := by
  have core : ∀ (i k : Nat) (m : Meta), ρ i = some m → loadA P H t (.pointer (some ⟨i, k, none⟩)) = some v →
      ∃ v', VR ρ v v' ∧ (Instr.loadAt t (.pointer (some ⟨m.b, m.o + k, none⟩))).run P w = .ok v' w := by
    intro i k m hm h
    unfold loadA at h
    simp only at h
    cases ha : isAggP P t with
    | none => simp [ha] at h
    | some b =>
      have hrun := isAgg_run ha w
      cases b with
      | true =>
        simp only [ha] at h
        cases hn : sizeP P t with
        | none => simp [hn] at h
        | some n =>
          simp only [hn, Option.bind_eq_bind, Option.bind_some] at h
          cases hc : H.cellsAt i k n with
          | none => simp [hc] at h
          | some cs =>
            simp only [hc, Option.bind_some, Option.some.injEq] at h
            subst h
            obtain ⟨hlen, cs', hlr, hcell⟩ := g.cellsAt hm hc
            refine ⟨.agg cs'.toArray, VR.agg' (by simpa using hlr), ?_⟩
            have hl := run_loadCells_list (P := P) w ⟨m.b, m.o + k, none⟩ cs' (fun j u hu => by
              have := hcell j u hu
              unfold Addr.add
              split
              · rename_i e; subst e; simpa using this
              · simpa using this)
            rw [← hlr.length, hlen] at hl
            simp only [Instr.loadAt, Instr.sureAddr, loadVar, Sem.run_bind, Sem.run_pure, Result.andThen_ok, hrun, if_true, size_run hn, hl]
      | false =>
        simp only [ha] at h
        cases hc : H.cellsAt i k 1 with
        | none => simp [hc] at h
        | some cs =>
          simp only [hc, Option.bind_eq_bind, Option.bind_some] at h
          obtain ⟨hlen, cs', hlr, hcell⟩ := g.cellsAt hm hc
          cases hlr with
          | nil => simp at hlen
          | @cons u u' l l' hu ht =>
            simp only [List.head?_cons, Option.some.injEq] at h
            subst h
            have hc0 := hcell 0 u' rfl
            refine ⟨u', hu, ?_⟩
            simp only [Instr.loadAt, Instr.sureAddr, loadVar, Sem.run_bind, Sem.run_pure, Result.andThen_ok, hrun, Bool.false_eq_true, if_false]
            simp only [Nat.add_zero] at hc0
            simp [load, Sem.run, hc0]
  cases hp with
  | ptr i k m hm => exact core i k m hm h
  | glob i k hi =>
    have hc : ∃ n cs, H.cellsAt i k n = some cs := by
      unfold loadA at h
      simp only at h
      cases ha : isAggP P t with
      | none => simp [ha] at h
      | some b =>
        cases b with
        | true =>
          simp only [ha] at h
          cases hn : sizeP P t with
          | none => simp [hn] at h
          | some n =>
            simp only [hn, Option.bind_eq_bind, Option.bind_some] at h
            cases hc : H.cellsAt i k n with
            | none => simp [hc] at h
            | some cs => exact ⟨n, cs, hc⟩
        | false =>
          simp only [ha] at h
          cases hc : H.cellsAt i k 1 with
          | none => simp [hc] at h
          | some cs => exact ⟨1, cs, hc⟩
    obtain ⟨n, cs, hc⟩ := hc
    obtain ⟨m, hm, hb, ho⟩ := cell_of_glob g hi hc
    have := core i k m hm h
    rwa [hb, ho, Nat.zero_add] at this
  | _ => simp [loadA] at h

theorem VR.one {v v' : Value} (h : VR ρ v v') (hc : cellOk v = true) : v'.oneCell' = true := by
  cases h <;> first | rfl | simp [cellOk] at hc
theorem LR.one {l l' : List Value} (h : LR ρ l l') : l.all cellOk = true → ∀ v ∈ l', v.oneCell' = true := by
  induction h with
  | nil => intro _ v hv; cases hv
  | cons h _ ih =>
    intro hc v hv
    simp only [List.all_cons, Bool.and_eq_true] at hc
    cases hv with
    | head => exact h.one hc.1
    | tail _ hv => exact ih hc.2 v hv

theorem listSet_LR {cs cs' vs vs' : List Value} (h : LR ρ cs cs') (k : LR ρ vs vs') (off : Nat) : LR ρ (listSet cs off vs) (listSet cs' off vs') := by
  unfold listSet
  rw [← k.length]
  exact ((h.take off).append k).append (h.drop _)

theorem setRow_heap_ne (w : World) (g k : Nat) (c : Array Value) (h : k ≠ g) : (w.setRow g c).heap[k]? = w.heap[k]? := by
  simp only [World.setRow, Array.getElem?_modify]
  rw [if_neg (by omega)]
theorem setRow_size (w : World) (g : Nat) (c : Array Value) : (w.setRow g c).heap.size = w.heap.size := by simp [World.setRow]

/-- A row of cells written. -/
theorem Gam.write (g : Gam w0 ρ H w) {i k : Nat} {m : Meta} {vs vs' : List Value} {H' : Heap} (hm : ρ i = some m) (hv : LR ρ vs vs') (h : H.write i k vs = some H') :
    ∃ w', (storeCells ⟨m.b, m.o + k, none⟩ vs').run P w = .ok () w' ∧ Gam w0 ρ H' w' ∧ Ext ρ ρ H H' := by
  unfold Heap.write at h
  cases ho : H.get i with
  | none => simp [ho] at h
  | some o =>
    cases o with
    | cells l ty opn es =>
      simp only [ho] at h
      split at h
      · rename_i hc
        simp only [Bool.and_eq_true, decide_eq_true_eq] at hc
        obtain ⟨⟨hle, hok⟩, hi⟩ := hc
        simp only [Option.some.injEq] at h
        subst h
        obtain ⟨e1, e2, e3, c, ty', hb, hsz, hlr⟩ := g.obj i m _ hm ho
        have hw := m.hw
        have hlen := hv.length
        have hst := run_storeCells_at (P := P) m.b (m.o + k) ty' vs' 0 c w hb (by omega) (hv.one hok)
        simp only [Nat.add_zero] at hst
        refine ⟨_, hst, ?_⟩
        refine g.update hm hi ho rfl (setRow_size _ _ _) (fun j hj => setRow_heap_ne _ _ _ _ hj) rfl rfl rfl ?_
        have hnew := setRow_heap w m.b c (c.toList.take (m.o + k) ++ vs' ++ c.toList.drop (m.o + k + vs'.length)).toArray ty' (0, 0) hb
        refine ⟨?_, e2, e3, _, ty', hnew, ?_, ?_⟩
        · rw [e1]; simp [listSet]; omega
        · simp; omega
        · have hl2 : (listSet l k vs).length = l.length := by simp [listSet]; omega
          rw [hl2]
          have := listSet_LR hlr hv k
          have e : listSet ((c.toList.drop m.o).take l.length) k vs' = ((c.toList.take (m.o + k) ++ vs' ++ c.toList.drop (m.o + k + vs'.length)).drop m.o).take l.length := by
            apply List.ext_getElem?
            intro j
            simp only [listSet, List.getElem?_take, List.getElem?_append, List.getElem?_drop, List.length_take, List.length_drop, List.length_append, Array.length_toList]
            have hcs : c.size = m.size := hsz
            repeat' split
            all_goals first
              | rfl
              | omega
              | (congr 1; omega)
          rw [e] at this
          simpa using this
      · cases h
    | _ => simp [ho] at h

end Go.Abs
