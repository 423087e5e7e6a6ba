/- Texts of the proof, put together: C1G, AbsRead, AbsRead4, AbsJ, AbsJ2, AbsFrameD, AbsFrame, AbsState, AbsJ3, C1U, C1V. -/
import Derived.Test.YtnnbkhijgbmgaaaGreatDoorP3
import Derived.Test.YtnnbkhijgbmgaaaGreatDoorC1Awake
import Derived.Test.YtnnbkhijgbmgaaaGreatDoorP2
import Derived.Test.YtnnbkhijgbmgaaaGreatDoorCards
import Derived.Test.YtnnbkhijgbmgaaaGreatDoorTie
import Derived.Deep.DeepHandedRow
import Derived.Lib.LaidTab
import Derived.WalkKit
import Derived.Handed
import Derived.ChangeArms
import Derived.ChangeSame
import Derived.DataReads
import Derived.Lib.SmallJoins
import Derived.Test.YtnnbkhijgbmgaaaGreatDoorProg
/- Chapter 1: a world with the listed tables. -/
namespace Go.Proofs.YtnnbkhijgbmgaaaGreatDoor
open Go Go.Abs Go.RowKit Go.ChangeShapes Go.WideShapes Go.ChangeAt Go.Proofs Go.Flat
set_option maxRecDepth 100000
theorem own : ownKnob Tryz.prog.godebug = none := by kernel_rfl
theorem laidP : laidOutB Tryz.prog = true := by kernel_rfl
theorem mapsP : mapsRowed Tryz.prog = true := by kernel_rfl
theorem slicesP : ∀ t e, t < Tryz.prog.types.size → Tryz.prog.underlying t = some (.slice e) → 0 < Tryz.prog.cellsOf e := slices_full_of Tryz.prog (by kernel_rfl)

/-- The cells of data without addresses. -/
def cellsD : Nat → DataW Unit → List Value
  | 0, _ => []
  | n + 1, .agg ps => ps.flatMap (cellsD n)
  | _ + 1, .lit (.int k z) => [.int k z]
  | _ + 1, .lit (.bool b) => [.bool b]
  | _, _ => []
/-- A world in which the listed tables hold what is listed. -/
def layAt (h : Array Obj) (i : Nat) (d : DataW Unit) : Array Obj := h.modify i fun
  | .cells _ t frozen => .cells (cellsD 8 d).toArray t frozen
  | o => o
noncomputable def laidHeap (h : Array Obj) : Array Obj :=
  layAt (layAt (layAt (layAt (layAt h 4 Rows.laid_math_bits_deBruijn32tab) 5 Rows.laid_math_bits_deBruijn64tab) 3 Rows.laid_internal_strconv_uint64pow10) 2 Rows.laid_unicode_utf8_acceptRanges) 1 Rows.laid_unicode_utf8_first
noncomputable def laidWorld (os : Os) : World := { World.holding Tryz.prog os ⟨#[], #[], []⟩ with heap := laidHeap (World.holding Tryz.prog os ⟨#[], #[], []⟩).heap }

end Go.Proofs.YtnnbkhijgbmgaaaGreatDoor

/- What is handed to a law reads as data. -/
namespace Go.Abs
open Go.RowKit Go.ChangeShapes Go.WideShapes Go.ChangeAt
variable {H : Type} {enc : TypeId × Value → H} {P : Program} {W : World}

theorem rowAt_le {fits : TypeId → Bool} : ∀ (d : Nat) {e : TypeId} {count off n : Nat}, rowAt P fits d e count off n = true → off ≤ count * P.cellsOf e
  | 0, _, _, _, _, h => by simp [rowAt] at h
  | d + 1, e, count, off, n, h => by
    unfold rowAt at h
    simp only at h
    split at h
    · cases h
    · rename_i hs
      simp only [Bool.or_eq_true, Bool.and_eq_true, beq_iff_eq, decide_eq_true_eq] at h
      have hdm := Nat.div_add_mod off (P.cellsOf e)
      rcases h with ⟨⟨h1, h2⟩, _⟩ | ⟨h1, _⟩
      · rw [h1, Nat.add_zero] at hdm
        rw [← hdm, Nat.mul_comm]
        exact Nat.mul_le_mul_right _ (by omega)
      · have hlt := Nat.mod_lt off (Nat.pos_of_ne_zero hs)
        have : P.cellsOf e * (off / P.cellsOf e + 1) ≤ P.cellsOf e * count := Nat.mul_le_mul_left _ h1
        rw [Nat.mul_add, Nat.mul_one] at this
        rw [Nat.mul_comm count]
        omega
theorem liesAt_le : ∀ (d : Nat) {e : TypeId} {count off : Nat} {u : TypeId} {n : Nat}, liesAt P d e count off u n = true → off ≤ count * P.cellsOf e
  | 0, _, _, _, _, _, h => by simp [liesAt] at h
  | d + 1, e, count, off, u, n, h => by
    unfold liesAt at h
    simp only [Bool.or_eq_true] at h
    rcases h with h | h
    · exact rowAt_le _ h
    · split at h
      · exact liesAt_le d h
      · cases h
theorem has_block {r : Reach} {base : Nat} {a : Addr} {e : TypeId} {n : Nat} (h : W.has P r base a e n) : ∃ b o, a = ⟨b, o, none⟩ ∧ ∃ c ty fz, W.heap[b]? = some (.cells c ty fz) ∧ o ≤ c.size := by
  obtain ⟨_, hsp, row, cells, hsh, hl⟩ := h
  obtain ⟨b, o, sp⟩ := a
  simp only at hsp
  subst hsp
  refine ⟨b, o, rfl, ?_⟩
  have hle := liesAt_le _ hl
  have hmul : cells / P.cellsOf row * P.cellsOf row ≤ cells := Nat.div_mul_le_self _ _
  unfold World.shape? at hsh
  simp only at hsh
  split at hsh
  · rename_i c ty fz hb
    simp only [Option.some.injEq, Prod.mk.injEq] at hsh
    obtain ⟨_, rfl⟩ := hsh
    exact ⟨c, ty, fz, hb, Nat.le_trans hle hmul⟩
  all_goals cases hsh

theorem reads_ints {t e : TypeId} {k : IntKind} {r : Reach} {base base0 : Nat} {sp : Nat → Bool} {held : Bool} {fuel : Nat} {v : Value} {x : DataW H × List MemPlace} (ht : P.underlying t = some (.slice e)) (he : P.underlying e = some (.int k)) (hc : P.cellsOf e = 1)
    (hok : Cell.okWide P W r base t v) (h : DataW.trod enc P W base0 sp held fuel t [v] = some x) :
    (v = .slice none 0 0 ∧ Reads W .nil v) ∨ ∃ (ps : List Int), ps.length ≤ maxLen ∧ (∀ n ∈ ps, (Lit.int k n).wf = true) ∧ Reads W (.sl ps.length 1 (ps.map (Value.int k))) v := by
  rcases open_ints ht he hc h with ⟨h1, _⟩ | ⟨a, len, cap, zs, h1, h2, h3, h4, h5, h6, h7, h8⟩
  · left
    simp only [List.cons.injEq, and_true] at h1
    subst h1
    exact ⟨rfl, .nil⟩
  · right
    simp only [List.cons.injEq, and_true] at h1
    subst h1
    simp only [Cell.okWide, Cell.ok, ht] at hok
    obtain ⟨b, o, rfl, c, ty, fz, hb, ho⟩ := has_block hok.2.2
    have hlen : len ≤ zs.length := by rw [h5]; split <;> omega
    have hcell : ∀ i, i < zs.length → c[o + i]? = some (.int k (zs.getD i 0)) := by
      intro i hi
      have := h7 i hi
      rw [addr_add] at this
      simpa [World.cell?, hb] using this
    have hl : (zs.take len).length = len := by simp; omega
    refine ⟨zs.take len, by rw [hl]; omega, fun n hn => h8 n (List.mem_of_mem_take hn), ?_⟩
    have hsz : o + len ≤ c.size := by
      by_cases h0 : len = 0
      · omega
      · have := hcell (len - 1) (by omega)
        have := (Array.getElem?_eq_some_iff.1 this).1
        omega
    rw [hl]
    refine .sl len 1 ((zs.take len).map (Value.int k)) b o cap c ty fz hb (by rw [List.length_map, hl]; exact hsz) ?_ (by rw [List.length_map, hl, Nat.mul_one]) (fun v hv => ?_) (by omega)
    · rw [List.length_map, hl]
      apply List.ext_getElem?
      intro j
      by_cases hj : j < len
      · have := hcell j (by omega)
        rw [List.getElem?_take, if_pos hj, List.getElem?_drop, Array.getElem?_toList, this]
        simp [hj, List.getD_eq_getElem?_getD, show j < zs.length by omega]
      · rw [List.getElem?_take, if_neg hj, List.getElem?_eq_none (by simp; omega)]
    · obtain ⟨n, _, rfl⟩ := List.mem_map.1 hv
      rfl
end Go.Abs

/- An argument that is a list of structs of four whole numbers reads as data. -/
namespace Go.Abs
open Go.RowKit Go.ChangeShapes Go.WideShapes Go.ChangeAt
variable {H : Type} {enc : TypeId × Value → H} {P : Program} {W : World}
theorem reads_quads {t e : TypeId} {f0 f1 f2 f3 : Field} {k : IntKind} {r : Reach} {base base0 : Nat} {sp : Nat → Bool} {held : Bool} {fuel : Nat} {v : Value} {x : DataW H × List MemPlace} (ht : P.underlying t = some (.slice e)) (he : P.underlying e = some (.struct #[f0, f1, f2, f3]))
    (hk0 : P.underlying f0.type = some (.int k)) (hk1 : P.underlying f1.type = some (.int k)) (hk2 : P.underlying f2.type = some (.int k)) (hk3 : P.underlying f3.type = some (.int k)) (hc : P.cellsOf e = 4) (hc0 : P.cellsOf f0.type = 1) (hc1 : P.cellsOf f1.type = 1) (hc2 : P.cellsOf f2.type = 1) (hc3 : P.cellsOf f3.type = 1) (ho0 : f0.offset = 0) (ho1 : f1.offset = 1) (ho2 : f2.offset = 2) (ho3 : f3.offset = 3)
    (hok : Cell.okWide P W r base t v) (h : DataW.trod enc P W base0 sp held fuel t [v] = some x) :
    (v = .slice none 0 0 ∧ Reads W .nil v) ∨ ∃ (ps : List (Int × Int × Int × Int)), Reads W (.sl ps.length 4 (ps.flatMap fun p => [Value.int k p.1, Value.int k p.2.1, Value.int k p.2.2.1, Value.int k p.2.2.2])) v := by
  rcases DataW.trod_slice ht h with ⟨h1, _⟩ | ⟨a, len, cap, elems, rest, n, _, h1, _, hb, hl, hm, hlen, hel, _, _⟩
  · left
    simp only [List.cons.injEq, and_true] at h1
    subst h1
    exact ⟨rfl, .nil⟩
  · right
    simp only [List.cons.injEq, and_true] at h1
    subst h1
    simp only [Cell.okWide, Cell.ok, ht] at hok
    obtain ⟨b, o, rfl, c, ty, fz, hbb, ho⟩ := has_block hok.2.2
    let R : Nat → (Int × Int × Int × Int) → Prop := fun s p => c[s]? = some (.int k p.1) ∧ c[s + 1]? = some (.int k p.2.1) ∧ c[s + 2]? = some (.int k p.2.2.1) ∧ c[s + 3]? = some (.int k p.2.2.2)
    have each : ∀ i, i < len → ∃ p : Int × Int × Int × Int, R (o + i * 4) p := by
      intro i hi
      have h2 := hel i hi
      rw [List.getElem?_eq_getElem (by omega), hc, Option.bind_eq_some_iff] at h2
      obtain ⟨cs, hcs, hy⟩ := h2
      obtain ⟨_, hn, hg⟩ := World.cells?_some hcs
      obtain ⟨y0, y1, y2, y3, m, _, _, t0, t1, t2, t3⟩ := Go.Joins.trod_struct4 he hy
      rw [ho0, hc0] at t0
      rw [ho1, hc1] at t1
      rw [ho2, hc2] at t2
      rw [ho3, hc3] at t3
      obtain ⟨k0, e0, _, _⟩ := DataW.trod_int hk0 t0
      obtain ⟨k1, e1, _, _⟩ := DataW.trod_int hk1 t1
      obtain ⟨k2, e2, _, _⟩ := DataW.trod_int hk2 t2
      obtain ⟨k3, e3, _, _⟩ := DataW.trod_int hk3 t3
      match cs, hn with
      | [c0, c1, c2, c3], _ =>
        obtain rfl : c0 = .int k k0 := by simpa using e0
        obtain rfl : c1 = .int k k1 := by simpa using e1
        obtain rfl : c2 = .int k k2 := by simpa using e2
        obtain rfl : c3 = .int k k3 := by simpa using e3
        have g0 := hg 0 (by omega)
        have g1 := hg 1 (by omega)
        have g2 := hg 2 (by omega)
        have g3 := hg 3 (by omega)
        simp only [addr_add, World.cell?, hbb] at g0 g1 g2 g3
        exact ⟨(k0, k1, k2, k3), by simpa using g0, by simpa using g1, by simpa using g2, by simpa using g3⟩
    have all : ∀ m, m ≤ len → ∃ ps : List (Int × Int × Int × Int), ps.length = m ∧ ∀ i (h : i < ps.length), R (o + i * 4) ps[i] := by
      intro m
      induction m with
      | zero => intro _; exact ⟨[], rfl, fun i h => by simp at h⟩
      | succ m ih =>
        intro hm'
        obtain ⟨ps, hp, hq⟩ := ih (by omega)
        obtain ⟨p, h3⟩ := each m (by omega)
        refine ⟨ps ++ [p], by simp [hp], fun i hi => ?_⟩
        by_cases h : i < ps.length
        · rw [List.getElem_append_left h]; exact hq i h
        · have : i = m := by simp at hi; omega
          subst this
          rw [List.getElem_append_right (by omega)]
          simp only [List.getElem_singleton]
          exact h3
    obtain ⟨ps, hp, hq⟩ := all len (Nat.le_refl _)
    have hfl : ∀ l : List (Int × Int × Int × Int), (l.flatMap fun p => [Value.int k p.1, Value.int k p.2.1, Value.int k p.2.2.1, Value.int k p.2.2.2]).length = l.length * 4 := by
      intro l
      induction l with
      | nil => rfl
      | cons p l ih => simp only [List.flatMap_cons, List.length_append, List.length_cons, List.length_nil, ih]; omega
    have hsz : o + len * 4 ≤ c.size := by
      by_cases h0 : len = 0
      · omega
      · have := (hq (len - 1) (by omega)).2.2.2
        have := (Array.getElem?_eq_some_iff.1 this).1
        omega
    have hread : ∀ (l : List (Int × Int × Int × Int)) (s : Nat), (∀ i (h : i < l.length), R (s + i * 4) l[i]) → (c.toList.drop s).take (l.length * 4) = l.flatMap fun p => [Value.int k p.1, Value.int k p.2.1, Value.int k p.2.2.1, Value.int k p.2.2.2] := by
      intro l
      induction l with
      | nil => intro s _; simp
      | cons p l ih =>
        intro s hs
        have h0 : R (s + 0 * 4) p := hs 0 (by simp)
        simp only [R, Nat.zero_mul, Nat.add_zero] at h0
        obtain ⟨g0, e0⟩ := Array.getElem?_eq_some_iff.1 h0.1
        obtain ⟨g1, e1⟩ := Array.getElem?_eq_some_iff.1 h0.2.1
        obtain ⟨g2, e2⟩ := Array.getElem?_eq_some_iff.1 h0.2.2.1
        obtain ⟨g3, e3⟩ := Array.getElem?_eq_some_iff.1 h0.2.2.2
        have d0 : c.toList.drop s = .int k p.1 :: .int k p.2.1 :: .int k p.2.2.1 :: .int k p.2.2.2 :: c.toList.drop (s + 4) := by
          rw [List.drop_eq_getElem_cons (by simpa using g0), List.drop_eq_getElem_cons (by simpa using g1), List.drop_eq_getElem_cons (by simpa using g2), List.drop_eq_getElem_cons (by simpa using g3)]
          simp [e0, e1, e2, e3]
        rw [d0, List.length_cons, Nat.add_mul, Nat.one_mul]
        simp only [List.take_succ_cons, List.flatMap_cons, List.cons_append, List.nil_append]
        rw [ih (s + 4) (fun i hi => by
          have := hs (i + 1) (by simpa using hi)
          simp only [List.getElem_cons_succ] at this
          rw [show s + 4 + i * 4 = s + (i + 1) * 4 by omega]
          exact this)]
    refine ⟨ps, ?_⟩
    rw [hp]
    refine .sl len 4 _ b o cap c ty fz hbb (by rw [hfl, hp]; exact hsz) ?_ (by rw [hfl, hp]) (fun v hv => ?_) (by omega)
    · rw [hfl]
      exact hread ps o hq
    · obtain ⟨p, _, hv⟩ := List.mem_flatMap.1 hv
      simp only [List.mem_cons, List.not_mem_nil, or_false] at hv
      rcases hv with rfl | rfl | rfl | rfl <;> rfl
end Go.Abs

/- A walk that is cut at loops and at the ends of named blocks: definitions. -/
namespace Go.Abs
/-- What is met where a walk is cut: what is read later, renumbered. -/
def cutAt (L : AtLoop) (id : Nat) (live : List Tmp) (A : AAct) (H : Heap) : Prop :=
  match A.defers with
  | [] => let keep := sortT live; let μ := gcMu keep A H; bcase (gcGood μ (gcB H μ μ)) (L id (gcS μ keep A) (gcB H μ μ)) False
  | _ => False
def cutK (L : AtLoop) (id : Nat) (live : List Tmp) (k : Exit → AAct → Heap → Prop) : Exit → AAct → Heap → Prop := fun e A H =>
  match e with
  | .normal => cutAt L id live A H
  | .exit i => if i = id then cutAt L id live A H else k (.exit i) A H
  | e => k e A H
/-- A region that is cut at its end. -/
def endK (L : AtLoop) (id : Nat) (live : List Tmp) (k : Exit → AAct → Heap → Prop) : Exit → AAct → Heap → Prop := fun e A H =>
  match e with
  | .normal => cutAt L id live A H
  | e => k e A H
/-- As wpT with u = 0; the blocks of J, and the regions of J (30000 and more), are cut at their ends. -/
def wpJ (P : Program) (h : Handler) (L : AtLoop) (J : List Nat) : Code → Lv → AAct → Heap → (Exit → AAct → Heap → Prop) → Prop
  | .seq x y, l, A, H, k => wpJ P h L J x { l with normal := liveIn y l } A H (seqK (fun A' H' => wpJ P h L J y l A' H' k) k)
  | .cond c x y, l, A, H, k =>
    match A.eval c with
    | .bool true => wpJ P h L J x l A H k
    | .bool false => wpJ P h L J y l A H k
    | _ => False
  | .block id body, l, A, H, k =>
    if isLoop body = true then wpT P h L 0 (.block id body) l A H k
    else if J.contains id = true then wpJ P h L J body { l with exits := (id, l.normal) :: l.exits } A H (cutK L id l.normal k)
    else wpJ P h L J body { l with exits := (id, l.normal) :: l.exits } A H (blockK id k)
  | .loop _, _, _, _, _ => False
  | .region id ops d, l, A, H, k =>
    if J.contains (30000 + id) = true then wpT P h L 0 (.region id ops d) l A H (endK L (30000 + id) l.normal k)
    else wpT P h L 0 (.region id ops d) l A H k
  | c, l, A, H, k => wpT P h L 0 c l A H k
/-- The points of a piece of code: its loops, and the blocks of J. -/
def ptIds (J : List Nat) : Code → List Nat
  | .seq x y => ptIds J x ++ ptIds J y
  | .cond _ x y => ptIds J x ++ ptIds J y
  | .block i b => if isLoop b then [i] else if J.contains i then i :: ptIds J b else ptIds J b
  | .region i _ _ => if J.contains (30000 + i) then [30000 + i] else []
  | _ => []
/-- What must be shown where the code goes on behind that point. -/
def aftJ (P : Program) (h : Handler) (L : AtLoop) (J : List Nat) : Code → Lv → Nat → Exit → AAct → Heap → (Exit → AAct → Heap → Prop) → Prop
  | .seq x y, l, id, e, A, H, k =>
    if (ptIds J x).contains id then aftJ P h L J x { l with normal := liveIn y l } id e A H (seqK (fun A' H' => wpJ P h L J y l A' H' k) k)
    else aftJ P h L J y l id e A H k
  | .cond _ x y, l, id, e, A, H, k => if (ptIds J x).contains id then aftJ P h L J x l id e A H k else aftJ P h L J y l id e A H k
  | .block i b, l, id, e, A, H, k =>
    if isLoop b then (if i = id then k e A H else False)
    else if J.contains i then (if i = id then k e A H else aftJ P h L J b { l with exits := (i, l.normal) :: l.exits } id e A H (cutK L i l.normal k))
    else aftJ P h L J b { l with exits := (i, l.normal) :: l.exits } id e A H (blockK i k)
  | .region _ _ _, _, _, e, A, H, k => k e A H
  | _, _, _, _, _, _, _ => False
/-- A call whose body is walked with cuts. -/
def jFn (P : Program) (h : Handler) (L : AtLoop) (J : List Nat) (f : FuncId) (args : Array Value) (H : Heap) (k : Value → Heap → Prop) : Prop :=
  match P.funcs[f]? with
  | some fn =>
    match fn.body with
    | some c => wpJ P h L J c (fnLv fn) (act0 fn args) H (fnK P fn k)
    | none => False
  | none => False
/-- What follows a point of the function. -/
def jNext (P : Program) (h : Handler) (L : AtLoop) (J : List Nat) (f : FuncId) (id : Nat) (e : Exit) (s : Slots) (b : Blocks) (k : Value → Heap → Prop) : Prop :=
  match P.funcs[f]? with
  | some fn => match fn.body with | some c => aftJ P h L J c (fnLv fn) id e (actOf (fnSize fn) s) (heapOf b) (fnK P fn k) | none => False
  | none => False
/-- The body of a loop of the function. -/
def jRound (P : Program) (h : Handler) (L : AtLoop) (J : List Nat) (f : FuncId) (id : Nat) (s : Slots) (b : Blocks) (B : Slots → Blocks → Prop) (X : Nat → Slots → Blocks → Prop) (k : Value → Heap → Prop) : Prop :=
  match P.funcs[f]? with
  | some fn =>
    match fn.body with
    | some c =>
      match findLoop c (fnLv fn) id with
      | some (body, l) => wpJ P h L J body l (actOf (fnSize fn) s) (heapOf b) (roundK body l B X (fnK P fn k))
      | none => False
    | none => False
  | none => False
/-- What follows a point within the body of a loop of the function. -/
def jIn (P : Program) (h : Handler) (L : AtLoop) (J : List Nat) (f : FuncId) (id id2 : Nat) (e : Exit) (s : Slots) (b : Blocks) (B : Slots → Blocks → Prop) (X : Nat → Slots → Blocks → Prop) (k : Value → Heap → Prop) : Prop :=
  match P.funcs[f]? with
  | some fn =>
    match fn.body with
    | some c =>
      match findLoop c (fnLv fn) id with
      | some (body, l) => aftJ P h L J body l id2 e (actOf (fnSize fn) s) (heapOf b) (roundK body l B X (fnK P fn k))
      | none => False
    | none => False
  | none => False
/-- A return from within a loop within a loop. -/
def retK (R : Exit → AAct → Heap → Prop) : Exit → AAct → Heap → Prop := fun e A H =>
  match e with
  | .ret => R .ret A H
  | _ => False
/-- The body of a loop within a loop of the function. -/
def jRound2 (P : Program) (h : Handler) (L : AtLoop) (J : List Nat) (f : FuncId) (id id2 : Nat) (s : Slots) (b : Blocks) (B : Slots → Blocks → Prop) (X : Nat → Slots → Blocks → Prop) (k : Value → Heap → Prop) : Prop :=
  match P.funcs[f]? with
  | some fn =>
    match fn.body with
    | some c =>
      match findLoop c (fnLv fn) id with
      | some (body, l) =>
        match findLoop body l id2 with
        | some (body2, l2) => wpJ P h L J body2 l2 (actOf (fnSize fn) s) (heapOf b) (roundK body2 l2 B X (fnK P fn k))
        | none => False
      | none => False
    | none => False
  | none => False
/-- What follows a cut within the body of a loop within a loop. -/
def jIn2 (P : Program) (h : Handler) (L : AtLoop) (J : List Nat) (f : FuncId) (id id2 id3 : Nat) (e : Exit) (s : Slots) (b : Blocks) (B : Slots → Blocks → Prop) (X : Nat → Slots → Blocks → Prop) (k : Value → Heap → Prop) : Prop :=
  match P.funcs[f]? with
  | some fn =>
    match fn.body with
    | some c =>
      match findLoop c (fnLv fn) id with
      | some (body, l) =>
        match findLoop body l id2 with
        | some (body2, l2) => aftJ P h L J body2 l2 id3 e (actOf (fnSize fn) s) (heapOf b) (roundK body2 l2 B X (fnK P fn k))
        | none => False
      | none => False
    | none => False
  | none => False
end Go.Abs

/- A walk that is cut at loops and at the ends of named blocks: it is enough. -/
namespace Go.Abs
open Go.RowKit
variable {P : Program} {ρ : Ren} {w0 : Start} {w : World} {H : Heap} {h : Handler} {L : AtLoop} {J : List Nat} {sz : Nat}

/-- The points of a piece of code lead on. -/
def ptsOK (P : Program) (h : Handler) (L : AtLoop) (J : List Nat) (sz : Nat) : Code → Lv → Cont → Prop
  | .seq x y, l, k => ptsOK P h L J sz x { l with normal := liveIn y l } (seqK (fun A' H' => wpJ P h L J y l A' H' k) k) ∧ ptsOK P h L J sz y l k
  | .cond _ x y, l, k => ptsOK P h L J sz x l k ∧ ptsOK P h L J sz y l k
  | .block i b, l, k =>
    if isLoop b then ∀ s bl, L i s bl → Holds P false sz (.block i b) (actOf sz s) (heapOf bl) k
    else if J.contains i then (∀ s bl, L i s bl → k .normal (actOf sz s) (heapOf bl)) ∧ ptsOK P h L J sz b { l with exits := (i, l.normal) :: l.exits } (cutK L i l.normal k)
    else ptsOK P h L J sz b { l with exits := (i, l.normal) :: l.exits } (blockK i k)
  | .region i _ _, _, k => if J.contains (30000 + i) then ∀ s bl, L (30000 + i) s bl → k .normal (actOf sz s) (heapOf bl) else True
  | _, _, _ => True

theorem cutAt_out {id : Nat} {live : List Tmp} {A : AAct} {a : Act} (hk : cutAt L id live A H) (g : Gam w0 ρ H w) (ra : ActR ρ A a) : ∃ s bl ρ2, L id s bl ∧ Gam w0 ρ2 (heapOf bl) w ∧ ActR ρ2 (actOf A.size s) a := by
  unfold cutAt at hk
  split at hk
  · rename_i hd
    obtain ⟨hgood, hk⟩ := bcase_out hk
    obtain ⟨g2, ra2⟩ := gc_sub g ra hd (keep := _) hgood
    exact ⟨_, _, _, hk, g2, ra2⟩
  · cases hk

theorem wpJ_sound (hh : HandlerOK P h) (hmix : P.follows .mixedOrders = true) : ∀ (c : Code) {l : Lv} {A : AAct} {H : Heap} {K : Cont}, wpJ P h L J c l A H K → ptsOK P h L J sz c l K → Holds P false sz c A H K := by
  intro c
  induction c with
  | seq x y ihx ihy =>
    intro l A H K hk hl w0 ρ w a n g ra hs
    simp only [wpJ] at hk
    refine wpIn_seq (wpIn_mono (ihx hk hl.1 w0 ρ w a n g ra hs) ?_)
    rintro e a1 w1 ⟨A1, H1, ρ1, k1, s1, ra1, g1, ext1⟩
    cases e with
    | normal => exact wpIn_mono (ihy k1 hl.2 w0 ρ1 w1 a1 n g1 ra1 s1) (fun e a w p => p.back ext1)
    | _ => exact ⟨A1, H1, ρ1, k1, s1, ra1, g1, ext1⟩
  | cond c x y ihx ihy =>
    intro l A H K hk hl w0 ρ w a n g ra hs
    simp only [wpJ] at hk
    have hc := ra.eval c
    split at hk
    · rename_i ec
      rw [ec] at hc
      exact wpIn_cond_true hc.bool_inv (ihx hk hl.1 w0 ρ w a n g ra hs)
    · rename_i ec
      rw [ec] at hc
      exact wpIn_cond_false hc.bool_inv (ihy hk hl.2 w0 ρ w a n g ra hs)
    · cases hk
  | block id body ih =>
    intro l A H K hk hl w0 ρ w a n g ra hs
    simp only [wpJ] at hk
    simp only [ptsOK] at hl
    split at hk
    · rename_i hlp
      rw [if_pos hlp] at hl
      refine wpT_sound (L := L) (u := 0) (b := false) hh hmix (fun _ => rfl) _ hk (fun _ => ?_) w0 ρ w a n g ra hs
      simp only [loopsOK]
      rw [if_pos hlp]
      exact hl
    · rename_i hlp
      rw [if_neg hlp] at hl
      split at hk
      · rename_i hJ
        rw [if_pos hJ] at hl
        refine wpIn_block (wpIn_mono (ih hk hl.2 w0 ρ w a n g ra hs) ?_)
        rintro e a1 w1 ⟨A1, H1, ρ1, k1, s1, ra1, g1, _⟩
        have cut : cutAt L id l.normal A1 H1 → Post w0 ρ H false sz K .normal a1 w1 := by
          intro hc
          obtain ⟨s, bl, ρ2, h1, h2, h3⟩ := cutAt_out hc g1 ra1
          rw [s1] at h3
          exact ⟨_, _, ρ2, hl.1 s bl h1, rfl, h3, h2, fun hb => by cases hb⟩
        cases e with
        | normal => exact cut k1
        | exit id' =>
          simp only [cutK] at k1
          by_cases hid : id' = id
          · simp only [hid, if_true] at k1
            simp only [Exit.inBlock, hid, if_true]
            exact cut k1
          · simp only [hid, if_false] at k1
            simp only [Exit.inBlock, hid, if_false]
            exact ⟨A1, H1, ρ1, k1, s1, ra1, g1, fun hb => by cases hb⟩
        | _ => exact ⟨A1, H1, ρ1, k1, s1, ra1, g1, fun hb => by cases hb⟩
      · rename_i hJ
        rw [if_neg hJ] at hl
        refine wpIn_block (wpIn_mono (ih hk hl w0 ρ w a n g ra hs) ?_)
        rintro e a1 w1 ⟨A1, H1, ρ1, k1, s1, ra1, g1, ext1⟩
        cases e with
        | exit id' =>
          simp only [blockK] at k1
          by_cases hid : id' = id
          · simp only [hid, if_true] at k1
            simp only [Exit.inBlock, hid, if_true]
            exact ⟨A1, H1, ρ1, k1, s1, ra1, g1, ext1⟩
          · simp only [hid, if_false] at k1
            simp only [Exit.inBlock, hid, if_false]
            exact ⟨A1, H1, ρ1, k1, s1, ra1, g1, ext1⟩
        | _ => exact ⟨A1, H1, ρ1, k1, s1, ra1, g1, ext1⟩
  | loop body ih => intro l A H K hk; exact hk.elim
  | skip => intro l A H K hk _; exact wpT_sound (L := L) (u := 0) (b := false) hh hmix (fun _ => rfl) _ hk (fun _ => trivial)
  | region id ops draw =>
    intro l A H K hk hl
    simp only [wpJ] at hk
    simp only [ptsOK] at hl
    split at hk
    · rename_i hJ
      rw [if_pos hJ] at hl
      intro w0 ρ w a n g ra hs
      refine wpIn_mono (wpT_sound (L := L) (u := 0) (b := false) hh hmix (fun _ => rfl) _ hk (fun _ => trivial) w0 ρ w a n g ra hs) ?_
      rintro e a1 w1 ⟨A1, H1, ρ1, k1, s1, ra1, g1, _⟩
      cases e with
      | normal =>
        obtain ⟨s, bl, ρ2, h1, h2, h3⟩ := cutAt_out k1 g1 ra1
        rw [s1] at h3
        exact ⟨_, _, ρ2, hl s bl h1, rfl, h3, h2, fun hb => by cases hb⟩
      | _ => exact ⟨A1, H1, ρ1, k1, s1, ra1, g1, fun hb => by cases hb⟩
    · exact wpT_sound (L := L) (u := 0) (b := false) hh hmix (fun _ => rfl) _ hk (fun _ => trivial)
  | exit id => intro l A H K hk _; exact wpT_sound (L := L) (u := 0) (b := false) hh hmix (fun _ => rfl) _ hk (fun _ => trivial)
  | ret => intro l A H K hk _; exact wpT_sound (L := L) (u := 0) (b := false) hh hmix (fun _ => rfl) _ hk (fun _ => trivial)
  | rangeFunc f ps x y _ _ => intro l A H K hk; exact hk.elim
  | label l => intro l A H K hk; exact hk.elim
  | goto l => intro l A H K hk; exact hk.elim
  | scope body _ => intro l A H K hk; exact hk.elim
  | refuse why => intro l A H K hk; exact hk.elim

theorem nodupB_of {l : List Nat} (hl : l.Nodup) : nodupB l = true := by
  induction l with
  | nil => rfl
  | cons a l ih => simp only [List.nodup_cons] at hl; simp only [nodupB, Bool.and_eq_true, Bool.not_eq_true']; exact ⟨by simpa using hl.1, ih hl.2⟩
theorem findLoop_pt : ∀ (c : Code) (l : Lv) (id : Nat) {r : Code × Lv}, findLoop c l id = some r → id ∈ ptIds J c := by
  intro c
  induction c with
  | seq x y ihx ihy =>
    intro l id r hr
    simp only [findLoop] at hr
    simp only [ptIds, List.mem_append]
    rcases Option.or_eq_some_iff.1 hr with h | ⟨_, h⟩
    · exact .inl (ihx _ _ h)
    · exact .inr (ihy _ _ h)
  | cond c x y ihx ihy =>
    intro l id r hr
    simp only [findLoop] at hr
    simp only [ptIds, List.mem_append]
    rcases Option.or_eq_some_iff.1 hr with h | ⟨_, h⟩
    · exact .inl (ihx _ _ h)
    · exact .inr (ihy _ _ h)
  | block i b ih =>
    intro l id r hr
    simp only [findLoop] at hr
    simp only [ptIds]
    split at hr
    · rename_i hlp
      split at hr
      · rename_i e; simp [hlp, e]
      · cases hr
    · rename_i hlp
      rw [if_neg hlp]
      split
      · exact List.mem_cons_of_mem _ (ih _ _ hr)
      · exact ih _ _ hr
  | _ => intro l id r hr; simp [findLoop] at hr

/-- It is enough to look at each point by its number. -/
theorem ptsOK_of : ∀ (c : Code) {l : Lv} {K : Cont}, nodupB (ptIds J c) = true →
    (∀ id body l', findLoop c l id = some (body, l') → ∀ s bl, L id s bl → Holds P false sz (.block id (.loop body)) (actOf sz s) (heapOf bl) (fun e A H => aftJ P h L J c l id e A H K)) →
    (∀ id ∈ ptIds J c, findLoop c l id = none → ∀ s bl, L id s bl → aftJ P h L J c l id .normal (actOf sz s) (heapOf bl) K) → ptsOK P h L J sz c l K := by
  intro c
  induction c with
  | seq x y ihx ihy =>
    intro l K hn hl hc
    have hn' := nodupB_spec hn
    simp only [ptIds] at hn'
    obtain ⟨n1, n2, n3⟩ := List.nodup_append.1 hn'
    have inx : ∀ {id : Nat}, id ∈ ptIds J x → (ptIds J x).contains id = true := fun h => by simpa using h
    have iny : ∀ {id : Nat}, id ∈ ptIds J y → (ptIds J x).contains id = false := fun {id} hy => by
      cases hx : (ptIds J x).contains id with
      | false => rfl
      | true => exact absurd rfl (n3 id (by simpa using hx) id hy)
    have nox : ∀ {id : Nat} {l' : Lv}, id ∈ ptIds J y → findLoop x l' id = none := fun {id l'} hy => by
      cases hx : findLoop x l' id with
      | none => rfl
      | some r => exact absurd rfl (n3 id (findLoop_pt x _ id hx) id hy)
    have noy : ∀ {id : Nat} {l' : Lv}, id ∈ ptIds J x → findLoop y l' id = none := fun {id l'} hx => by
      cases hy : findLoop y l' id with
      | none => rfl
      | some r => exact absurd rfl (n3 id hx id (findLoop_pt y _ id hy))
    refine ⟨ihx (nodupB_of n1) (fun id body l' hf s bl hs => ?_) (fun id hi hf s bl hs => ?_), ihy (nodupB_of n2) (fun id body l' hf s bl hs => ?_) (fun id hi hf s bl hs => ?_)⟩
    · have := hl id body l' (by simp only [findLoop]; rw [hf]; rfl) s bl hs
      simpa only [aftJ, inx (findLoop_pt x _ id hf), if_true] using this
    · have := hc id (by simp only [ptIds]; exact List.mem_append_left _ hi) (by simp only [findLoop]; rw [hf, noy hi]; rfl) s bl hs
      simpa only [aftJ, inx hi, if_true] using this
    · have hi := findLoop_pt (J := J) y _ id hf
      have := hl id body l' (by simp only [findLoop]; rw [nox hi]; exact hf) s bl hs
      simpa only [aftJ, iny hi, Bool.false_eq_true, if_false] using this
    · have := hc id (by simp only [ptIds]; exact List.mem_append_right _ hi) (by simp only [findLoop]; rw [hf, nox hi]; rfl) s bl hs
      simpa only [aftJ, iny hi, Bool.false_eq_true, if_false] using this
  | cond c x y ihx ihy =>
    intro l K hn hl hc
    have hn' := nodupB_spec hn
    simp only [ptIds] at hn'
    obtain ⟨n1, n2, n3⟩ := List.nodup_append.1 hn'
    have inx : ∀ {id : Nat}, id ∈ ptIds J x → (ptIds J x).contains id = true := fun h => by simpa using h
    have iny : ∀ {id : Nat}, id ∈ ptIds J y → (ptIds J x).contains id = false := fun {id} hy => by
      cases hx : (ptIds J x).contains id with
      | false => rfl
      | true => exact absurd rfl (n3 id (by simpa using hx) id hy)
    have nox : ∀ {id : Nat} {l' : Lv}, id ∈ ptIds J y → findLoop x l' id = none := fun {id l'} hy => by
      cases hx : findLoop x l' id with
      | none => rfl
      | some r => exact absurd rfl (n3 id (findLoop_pt x _ id hx) id hy)
    have noy : ∀ {id : Nat} {l' : Lv}, id ∈ ptIds J x → findLoop y l' id = none := fun {id l'} hx => by
      cases hy : findLoop y l' id with
      | none => rfl
      | some r => exact absurd rfl (n3 id hx id (findLoop_pt y _ id hy))
    refine ⟨ihx (nodupB_of n1) (fun id body l' hf s bl hs => ?_) (fun id hi hf s bl hs => ?_), ihy (nodupB_of n2) (fun id body l' hf s bl hs => ?_) (fun id hi hf s bl hs => ?_)⟩
    · have := hl id body l' (by simp only [findLoop]; rw [hf]; rfl) s bl hs
      simpa only [aftJ, inx (findLoop_pt x _ id hf), if_true] using this
    · have := hc id (by simp only [ptIds]; exact List.mem_append_left _ hi) (by simp only [findLoop]; rw [hf, noy hi]; rfl) s bl hs
      simpa only [aftJ, inx hi, if_true] using this
    · have hi := findLoop_pt (J := J) y _ id hf
      have := hl id body l' (by simp only [findLoop]; rw [nox hi]; exact hf) s bl hs
      simpa only [aftJ, iny hi, Bool.false_eq_true, if_false] using this
    · have := hc id (by simp only [ptIds]; exact List.mem_append_right _ hi) (by simp only [findLoop]; rw [hf, nox hi]; rfl) s bl hs
      simpa only [aftJ, iny hi, Bool.false_eq_true, if_false] using this
  | block i b ih =>
    intro l K hn hl hc
    simp only [ptsOK]
    by_cases hlp : isLoop b = true
    · rw [if_pos hlp]
      intro s bl hs
      cases b with
      | loop body =>
        have := hl i body _ (by simp [findLoop, isLoop]; rfl) s bl hs
        simpa only [aftJ, isLoop, if_true] using this
      | _ => simp [isLoop] at hlp
    · rw [if_neg hlp]
      have hfl : ∀ id, findLoop (.block i b) l id = findLoop b { l with exits := (i, l.normal) :: l.exits } id := fun id => by simp only [findLoop]; rw [if_neg hlp]
      by_cases hJ : J.contains i = true
      · rw [if_pos hJ]
        have hn' : nodupB (i :: ptIds J b) = true := by simp only [ptIds] at hn; rw [if_neg hlp, if_pos hJ] at hn; exact hn
        have hnd := List.nodup_cons.1 (nodupB_spec hn')
        have hp : ptIds J (.block i b) = i :: ptIds J b := by simp only [ptIds]; rw [if_neg hlp, if_pos hJ]
        refine ⟨fun s bl hs => ?_, ih (nodupB_of hnd.2) (fun id body l' hf s bl hs => ?_) (fun id hi hf s bl hs => ?_)⟩
        · have hno : findLoop (.block i b) l i = none := by
            rw [hfl]
            cases hx : findLoop b { l with exits := (i, l.normal) :: l.exits } i with
            | none => rfl
            | some r => exact absurd (findLoop_pt b _ i hx) hnd.1
          have := hc i (by rw [hp]; exact List.mem_cons_self ..) hno s bl hs
          simpa only [aftJ, hlp, hJ, if_true, if_false, Bool.false_eq_true] using this
        · have hne : i ≠ id := fun e => by subst e; exact hnd.1 (findLoop_pt b _ _ hf)
          have := hl id body l' (by rw [hfl]; exact hf) s bl hs
          simpa only [aftJ, hlp, hJ, hne, if_true, if_false, Bool.false_eq_true] using this
        · have hne : i ≠ id := fun e => by subst e; exact hnd.1 hi
          have := hc id (by rw [hp]; exact List.mem_cons_of_mem _ hi) (by rw [hfl]; exact hf) s bl hs
          simpa only [aftJ, hlp, hJ, hne, if_true, if_false, Bool.false_eq_true] using this
      · rw [if_neg hJ]
        have hp : ptIds J (.block i b) = ptIds J b := by simp only [ptIds]; rw [if_neg hlp, if_neg hJ]
        refine ih (by rw [hp] at hn; exact hn) (fun id body l' hf s bl hs => ?_) (fun id hi hf s bl hs => ?_)
        · have := hl id body l' (by rw [hfl]; exact hf) s bl hs
          simpa only [aftJ, hlp, hJ, if_false, Bool.false_eq_true] using this
        · have := hc id (by rw [hp]; exact hi) (by rw [hfl]; exact hf) s bl hs
          simpa only [aftJ, hlp, hJ, if_false, Bool.false_eq_true] using this
  | region i ops d =>
    intro l K hn hl hc
    simp only [ptsOK]
    by_cases hJ : J.contains (30000 + i) = true
    · rw [if_pos hJ]
      intro s bl hs
      have := hc (30000 + i) (by simp only [ptIds]; rw [if_pos hJ]; exact List.mem_cons_self ..) (by simp [findLoop]) s bl hs
      simpa only [aftJ] using this
    · rw [if_neg hJ]; trivial
  | _ => intro l K _ _ _; trivial

/-- What returns from within goes on as a return. -/
theorem aftJ_ret : ∀ (c : Code) {l : Lv} {id : Nat} {A : AAct} {H : Heap} {K : Cont}, id ∈ ptIds J c → K .ret A H → aftJ P h L J c l id .ret A H K := by
  intro c
  induction c with
  | seq x y ihx ihy =>
    intro l id A H K hf hk
    simp only [aftJ]
    simp only [ptIds, List.mem_append] at hf
    split
    · rename_i hx; exact ihx (by simpa using hx) hk
    · rename_i hx
      exact ihy (hf.resolve_left (by simpa using hx)) hk
  | cond c x y ihx ihy =>
    intro l id A H K hf hk
    simp only [aftJ]
    simp only [ptIds, List.mem_append] at hf
    split
    · rename_i hx; exact ihx (by simpa using hx) hk
    · rename_i hx
      exact ihy (hf.resolve_left (by simpa using hx)) hk
  | block i b ih =>
    intro l id A H K hf hk
    simp only [aftJ]
    simp only [ptIds] at hf
    split
    · rename_i hlp
      simp only [hlp, if_true, List.mem_singleton] at hf
      rw [if_pos hf.symm]; exact hk
    · rename_i hlp
      rw [if_neg hlp] at hf
      split
      · rename_i hJ
        rw [if_pos hJ] at hf
        split
        · exact hk
        · rename_i hne
          exact ih ((List.mem_cons.1 hf).resolve_left (fun e => hne e.symm)) hk
      · rename_i hJ
        rw [if_neg hJ] at hf
        exact ih hf hk
  | region i ops d => intro l id A H K _ hk; exact hk
  | _ => intro l id A H K hf; simp [ptIds] at hf

/-- THE RULE OF A LOOP, with points within its body. -/
theorem loop_ruleJ (hh : HandlerOK P h) (hmix : P.follows .mixedOrders = true) {X : Type} (st : X → Slots × Blocks) (inv : X → Prop) (m : X → Nat) {id : Nat} {body : Code} {l' : Lv} {k : Cont} {R : Cont}
    (hb : ∀ x, inv x → ∃ L : AtLoop, wpJ P h L J body l' (actOf sz (st x).1) (heapOf (st x).2) (roundK body l' (fun s b => ∃ y, inv y ∧ m y < m x ∧ st y = (s, b)) (fun i s b => if i = id then k .normal (actOf sz s) (heapOf b) else k (.exit i) (actOf sz s) (heapOf b)) R) ∧
      ptsOK P h L J sz body l' (roundK body l' (fun s b => ∃ y, inv y ∧ m y < m x ∧ st y = (s, b)) (fun i s b => if i = id then k .normal (actOf sz s) (heapOf b) else k (.exit i) (actOf sz s) (heapOf b)) R))
    (hR : ∀ e A H, (e = .ret) → R e A H → k e A H) (hR2 : ∀ e A H, e ≠ .ret → e ≠ .normal → ¬ R e A H) :
    ∀ x, inv x → Holds P false sz (.block id (.loop body)) (actOf sz (st x).1) (heapOf (st x).2) k := by
  have key : ∀ (N : Nat) (x : X), m x < N → inv x → ∀ (w0 : Start) (ρ : Ren) (w : World) (a : Act) (n : Nat), Gam w0 ρ (heapOf (st x).2) w → ActR ρ (actOf sz (st x).1) a →
      body.wpIn (Fr none) n P (Exit.then (LoopIn body (Fr none) n P (fun e a w => ∀ (ρ0 : Ren) (H0 : Heap), Post w0 ρ0 H0 false sz (fun e A H => match e with | .exit i => if i = id then k .normal A H else k (.exit i) A H | e => k e A H) e a w)) (fun e a w => ∀ (ρ0 : Ren) (H0 : Heap), Post w0 ρ0 H0 false sz (fun e A H => match e with | .exit i => if i = id then k .normal A H else k (.exit i) A H | e => k e A H) e a w)) a w := by
    intro N
    induction N with
    | zero => intro x hx; omega
    | succ N ih =>
      intro x hx hinv w0 ρ w a n g ra
      obtain ⟨L, hb1, hb2⟩ := hb x hinv
      refine wpIn_mono (wpJ_sound hh hmix body hb1 hb2 w0 ρ w a n g ra rfl) ?_
      rintro e a1 w1 ⟨A1, H1, ρ1, k1, s1, ra1, g1, _⟩
      cases e with
      | normal =>
        simp only [roundK] at k1
        split at k1
        · rename_i hd
          obtain ⟨hgood, y, hy, hlt, he⟩ := bcase_out k1
          obtain ⟨g2, ra2⟩ := gc_sub g1 ra1 hd (keep := _) hgood
          have e1 : (st y).1 = _ := congrArg Prod.fst he
          have e2 : (st y).2 = _ := congrArg Prod.snd he
          exact loopIn_once (ih y (by omega) hy w0 _ w1 a1 n (by rw [e2]; exact g2) (by rw [e1, ← s1]; exact ra2))
        · cases k1
      | exit i =>
        simp only [roundK] at k1
        split at k1
        · rename_i hd
          obtain ⟨hgood, k1⟩ := bcase_out k1
          obtain ⟨g2, ra2⟩ := gc_sub g1 ra1 hd (keep := _) hgood
          intro ρ0 H0
          refine ⟨_, _, _, k1, ?_, by rw [← s1]; exact ra2, g2, fun h => by cases h⟩
          rfl
        · cases k1
      | ret =>
        intro ρ0 H0
        exact ⟨A1, H1, ρ1, hR _ _ _ rfl k1, s1, ra1, g1, fun h => by cases h⟩
      | goto t => exact absurd k1 (hR2 _ _ _ (by simp) (by simp))
      | panic ch => exact absurd k1 (hR2 _ _ _ (by simp) (by simp))
      | outgrown => exact absurd k1 (hR2 _ _ _ (by simp) (by simp))
  intro x hinv w0 ρ w a n g ra hs
  refine wpIn_block (wpIn_mono (wpIn_loop_once (key _ x (Nat.lt_succ_self _) hinv w0 ρ w a n g ra)) ?_)
  intro e a1 w1 hp
  obtain ⟨A1, H1, ρ1, k1, s1, ra1, g1, _⟩ := hp ρ (heapOf (st x).2)
  cases e with
  | exit i =>
    simp only at k1
    by_cases hi : i = id
    · simp only [hi, if_true] at k1
      simp only [Exit.inBlock, hi, if_true]
      exact ⟨A1, H1, ρ1, k1, s1, ra1, g1, fun h => by cases h⟩
    · simp only [hi, if_false] at k1
      simp only [Exit.inBlock, hi, if_false]
      exact ⟨A1, H1, ρ1, k1, s1, ra1, g1, fun h => by cases h⟩
  | _ => exact ⟨A1, H1, ρ1, k1, s1, ra1, g1, fun h => by cases h⟩
end Go.Abs

/- A call that is met by what it does to the blocks that it reaches ('state contracts'): definitions. -/
namespace Go.Abs
/-- The blocks that are reached from a call's arguments, each with its number within: what may only be read from abase on, the others from mbase on. -/
def reachC (H : Heap) : Nat → List Nat → Mu → Nat → Nat → Mu
  | 0, _, μ, _, _ => μ
  | _, [], μ, _, _ => μ
  | f + 1, i :: work, μ, ro, mu =>
    match μ.find i with
    | some _ => reachC H f work μ ro mu
    | none =>
      match H.get i with
      | none => reachC H f work μ ro mu
      | some o => if i < mbase then reachC H f (work ++ blocksO o) (μ ++ [(i, ro)]) (ro + 1) mu else reachC H f (work ++ blocksO o) (μ ++ [(i, mu)]) ro (mu + 1)
def callMu (args : List Value) (H : Heap) : Mu := reachC H 1000 (args.flatMap (blocksV 8)) [] abase mbase
def callGood (μ : Mu) (H : Heap) : Bool :=
  nodupB (μ.map (·.1)) && nodupB (μ.map (·.2)) && μ.all fun p =>
    decide (abase ≤ p.1) && (if p.1 < mbase then decide (abase ≤ p.2) && decide (p.2 < mbase) else decide (mbase ≤ p.2) && decide (p.2 < gbase)) &&
    (match H.get p.1 with | some o => (match mapO μ o with | some (.taken) => false | some _ => true | none => false) | none => false)
/-- What a call leads to, by its arguments and the blocks that they reach. -/
abbrev SpecS := List Value → Blocks → (Value → Blocks → Prop) → Prop
/-- The end of such a call. -/
def endMu (v : Value) (H : Heap) : Mu := reach H 1000 (blocksV 8 v ++ mroots H) [] gbase
def stateK (K : Value → Blocks → Prop) : Value → Heap → Prop := fun v H =>
  bcase (gcGood (endMu v H) (gcB H (endMu v H) (endMu v H))) (K (mapV (endMu v H) 8 v) (gcB H (endMu v H) (endMu v H))) False
/-- What is new at the end, and its numbers at the caller's. -/
def newsOf (bs : Blocks) : Blocks := bs.filter fun p => decide (gbase ≤ p.1)
def numFrom : List Nat → Nat → Mu
  | [], _ => []
  | i :: r, n => (i, n) :: numFrom r (n + 1)
def backMu (μ : Mu) (n : Nat) (bs : Blocks) : Mu := μ.map (fun p => (p.2, p.1)) ++ numFrom ((newsOf bs).map (·.1)) n
def objAt (β : Mu) (bs : Blocks) (j : Nat) : AObj := (((heapOf bs).get j).bind (mapO β)).getD .taken
def mergeP (β : Mu) (bs : Blocks) : Mu → Heap → Heap
  | [], H => H
  | p :: r, H => mergeP β bs r (if mbase ≤ p.2 then H.set p.1 (objAt β bs p.2) else H)
def mergeN (β : Mu) (bs : Blocks) : List Nat → Heap → Heap
  | [], H => H
  | j :: r, H => mergeN β bs r (H.new (objAt β bs j))
def merged (μ : Mu) (bs : Blocks) (H : Heap) : Heap := mergeN (backMu μ H.next bs) bs ((newsOf bs).map (·.1)) (mergeP (backMu μ H.next bs) bs μ H)
def wpState (sp : SpecS) (args : Array Value) (H : Heap) (k : Value → Heap → Prop) : Prop :=
  bcase (callGood (callMu args.toList H) H)
    (sp (args.toList.map (mapV (callMu args.toList H) 8)) (gcB H (callMu args.toList H) (callMu args.toList H)) fun v bs =>
      bcase (nodupB ((newsOf bs).map (·.1))) (k (mapV (backMu (callMu args.toList H) H.next bs) 8 v) (merged (callMu args.toList H) bs H)) False) False
def handlerQ (sp : FuncId → Option SpecS) (base : Handler) : Handler := fun g args ats H k =>
  match sp g with
  | some s => wpState s args H k
  | none => base g args ats H k
end Go.Abs

/- A call that is met by what it does to the blocks that it reaches: it is sound. -/
namespace Go.Abs
open Go.RowKit
variable {P : Program} {ρ : Ren} {w0 : Start} {w : World} {H : Heap}

/-- A call, by the blocks that its arguments reach. -/
def CallS (P : Program) (f : FuncId) (args : List Value) (bs : Blocks) (K : Value → Blocks → Prop) : Prop :=
  ∀ (w0 : Start) (ρ : Ren) (w : World) (args' : Array Value) (n : Nat), Gam w0 ρ (heapOf bs) w → LR ρ args args'.toList →
    CallsIn Fence.wide n P f args' w fun e w' => ∃ v bs' ρ' v', K v bs' ∧ e = .returned v' ∧ VR ρ' v v' ∧ Gam w0 ρ' (heapOf bs') w'

/-! ### Renaming, once more (numbers change anyhow; the globals stay) -/
structure MuS (μ : Mu) : Prop where
  snd : (μ.map (·.2)).Nodup
  glb : ∀ i j, (i, j) ∈ μ → i < abase → j = i
variable {μ : Mu}
theorem mapV_S (ok : MuS μ) : ∀ (n : Nat) (v v' : Value), VR ρ v v' → VR (μ.ren ρ) (mapV μ n v) v'
  | 0, v, v', _ => .unknown _ _
  | n + 1, v, v', h => by
    have ih := mapV_S ok n
    cases h with
    | bool b => exact .bool b
    | int k n => exact .int k n
    | float k n => exact .float k n
    | complex k n m => exact .complex k n m
    | string s => exact .string s
    | nilFunc => exact .nilFunc
    | nilIface => exact .nilIface
    | nilPtr => exact .nilPtr
    | nilSlice l c => exact .nilSlice l c
    | nilMap => exact .nilMap
    | unknown r v => unfold mapV; exact .unknown _ _
    | glob g k hg =>
      simp only [mapV]
      cases hm : μ.find g with
      | none => exact .unknown _ _
      | some j =>
        have hj : j = g := ok.glb _ _ (Mu.find_mem hm) hg
        subst hj
        exact .glob _ k hg
    | ptr i k m hm =>
      simp only [mapV]
      cases hf : μ.find i with
      | none => exact .unknown _ _
      | some j => exact .ptr j k m (by rw [Mu.ren_of ok.snd (Mu.find_mem hf)]; exact hm)
    | map i m hm =>
      simp only [mapV]
      cases hf : μ.find i with
      | none => exact .unknown _ _
      | some j => exact .map j m (by rw [Mu.ren_of ok.snd (Mu.find_mem hf)]; exact hm)
    | slice i k len cap m hm ho hl =>
      simp only [mapV]
      cases hf : μ.find i with
      | none => exact .unknown _ _
      | some j => exact .slice j k len cap m (by rw [Mu.ren_of ok.snd (Mu.find_mem hf)]; exact hm) ho hl
    | opened i k len cap capC m hm ho hc hs hl =>
      simp only [mapV]
      cases hf : μ.find i with
      | none => exact .unknown _ _
      | some j => exact .opened j k len cap capC m (by rw [Mu.ren_of ok.snd (Mu.find_mem hf)]; exact hm) ho hc hs hl
    | empty i k off m hm ho hz =>
      simp only [mapV]
      cases hf : μ.find i with
      | none => exact .unknown _ _
      | some j => exact .empty j k off m (by rw [Mu.ren_of ok.snd (Mu.find_mem hf)]; exact hm) ho hz
    | func f a b a' b' ha hb ra rb =>
      simp only [mapV]
      refine VR.func' ?_ ?_
      · simpa using LR.map_left ih (LR.of_arr ha ra)
      · simpa using LR.map_left ih (LR.of_arr hb rb)
    | yield l m hm => unfold mapV; exact .unknown _ _
    | iface t v v' hv => exact .iface t _ _ (ih _ _ hv)
    | agg a a' ha ra =>
      simp only [mapV]
      refine VR.agg' ?_
      simpa using LR.map_left ih (LR.of_arr ha ra)
    | tuple a a' ha ra =>
      simp only [mapV]
      refine VR.tuple' ?_
      simpa using LR.map_left ih (LR.of_arr ha ra)
theorem mapO_S (ok : MuS μ) {m : Meta} {o o2 : AObj} (h : mapO μ o = some o2) (r : ObjR ρ w m o) : ObjR (μ.ren ρ) w m o2 ∧ o2.alive = o.alive := by
  cases o with
  | cells cs ty opn es =>
    simp only [mapO, Option.some.injEq] at h
    subst h
    obtain ⟨a, b, c, d, e, f, g, i⟩ := r
    exact ⟨⟨by simpa using a, b, c, d, e, f, g, by simpa using LR.map_left (mapV_S ok 8) i⟩, rfl⟩
  | sym cs opn es =>
    simp only [mapO, Option.some.injEq] at h
    subst h
    obtain ⟨⟨a, b, c, d, e, z, f, g, i⟩, j⟩ := r
    exact ⟨⟨⟨a, b, c, d, e, z, f, g, i.plain_any (fun v hv => cellP_plain (j v hv))⟩, j⟩, rfl⟩
  | map es c =>
    simp only [mapO] at h
    split at h
    · simp only [Option.some.injEq] at h
      subst h
      obtain ⟨es', h1, h2⟩ := r
      exact ⟨⟨es', h1, ER.map_val (mapV_S ok 8) h2⟩, rfl⟩
    · cases h
  | deferred => simp only [mapO, Option.some.injEq] at h; subst h; exact ⟨r, rfl⟩
  | taken => simp only [mapO, Option.some.injEq] at h; subst h; exact ⟨r, rfl⟩
  | dead _ _ _ => cases h
  | loop _ => cases h
  | siter _ _ => cases h
theorem LR.map_S (ok : MuS μ) {l l' : List Value} (h : LR ρ l l') : LR (μ.ren ρ) (l.map (mapV μ 8)) l' := LR.map_left (mapV_S ok 8) h

/-! ### What is reached has its place -/
def Placed (ρ : Ren) (i : Nat) : Prop := i < abase ∨ ∃ m, ρ i = some m
theorem LR.placed {f : Value → List Nat} (hf : ∀ v v', VR ρ v v' → ∀ i ∈ f v, Placed ρ i) : ∀ {l l' : List Value}, LR ρ l l' → ∀ i ∈ l.flatMap f, Placed ρ i
  | _, _, .nil, i, h => by cases h
  | _, _, .cons h t, i, hi => by
    rw [List.flatMap_cons] at hi
    rcases List.mem_append.1 hi with h1 | h1
    · exact hf _ _ h i h1
    · exact LR.placed hf t i h1
theorem blocksV_placed : ∀ (n : Nat) (v v' : Value), VR ρ v v' → ∀ i ∈ blocksV n v, Placed ρ i
  | 0, _, _, _, i, h => by simp [blocksV] at h
  | n + 1, v, v', hv, i, h => by
    have ih : ∀ (v v' : Value), VR ρ v v' → ∀ i ∈ blocksV n v, Placed ρ i := blocksV_placed n
    cases hv with
    | glob g k hg => simp only [blocksV, List.mem_singleton] at h; subst h; exact .inl hg
    | ptr j k m hm => simp only [blocksV, List.mem_singleton] at h; subst h; exact .inr ⟨m, hm⟩
    | map j m hm => simp only [blocksV, List.mem_singleton] at h; subst h; exact .inr ⟨m, hm⟩
    | slice j k len cap m hm ho => simp only [blocksV, List.mem_singleton] at h; subst h; exact .inr ⟨m, hm⟩
    | opened j k len cap capC m hm ho hc hs => simp only [blocksV, List.mem_singleton] at h; subst h; exact .inr ⟨m, hm⟩
    | empty j k off m hm ho hz => simp only [blocksV, List.mem_singleton] at h; subst h; exact .inr ⟨m, hm⟩
    | func f a b a' b' ha hb ra rb =>
      simp only [blocksV] at h
      rcases List.mem_append.1 h with h | h
      · exact LR.placed ih (LR.of_arr ha ra) i h
      · exact LR.placed ih (LR.of_arr hb rb) i h
    | iface t v v' hv => exact ih _ _ hv i (by simpa [blocksV] using h)
    | agg a a' ha ra => exact LR.placed ih (LR.of_arr ha ra) i (by simpa [blocksV] using h)
    | tuple a a' ha ra => exact LR.placed ih (LR.of_arr ha ra) i (by simpa [blocksV] using h)
    | _ => simp [blocksV] at h
theorem ER.placed : ∀ {l l' : List MapEntry}, ER ρ l l' → ∀ i ∈ l.flatMap (fun e => blocksV 8 e.val), Placed ρ i
  | _, _, .nil, i, h => by cases h
  | _, _, .cons k kk v b t, i, hi => by
    rw [List.flatMap_cons] at hi
    rcases List.mem_append.1 hi with h1 | h1
    · exact blocksV_placed 8 _ _ v i h1
    · exact ER.placed t i h1
theorem blocksO_placed {m : Meta} {o : AObj} (r : ObjR ρ w m o) : ∀ i ∈ blocksO o, Placed ρ i := by
  intro i h
  cases o with
  | cells cs ty opn es =>
    obtain ⟨_, _, _, _, _, _, _, hl⟩ := r
    exact LR.placed (blocksV_placed 8) hl i (by simpa [blocksO] using h)
  | map es c =>
    obtain ⟨es', _, h2⟩ := r
    exact ER.placed h2 i (by simpa [blocksO] using h)
  | _ => simp [blocksO] at h
theorem reachC_placed (g : Gam w0 ρ H w) : ∀ (f : Nat) (work : List Nat) (μ : Mu) (ro mu : Nat), (∀ i ∈ work, Placed ρ i) → (∀ p ∈ μ, Placed ρ p.1) → ∀ p ∈ reachC H f work μ ro mu, Placed ρ p.1
  | 0, _, μ, _, _, _, h => by simpa [reachC] using h
  | f + 1, [], μ, _, _, _, h => by simpa [reachC] using h
  | f + 1, i :: work, μ, ro, mu, hw, h => by
    have hw2 : ∀ j ∈ work, Placed ρ j := fun j hj => hw j (List.mem_cons_of_mem _ hj)
    have hi := hw i (List.mem_cons_self ..)
    unfold reachC
    split
    · exact reachC_placed g f work μ ro mu hw2 h
    · split
      · exact reachC_placed g f work μ ro mu hw2 h
      · rename_i o ho
        have hpl : ∀ j ∈ work ++ blocksO o, Placed ρ j := by
          intro j hj
          rcases List.mem_append.1 hj with hj | hj
          · exact hw2 j hj
          · have hm : ∃ m, ρ i = some m := by
              rcases hi with hlt | hm
              · exact g.gmap i (.inl hlt) (by rw [ho]; simp)
              · exact hm
            obtain ⟨m, hm⟩ := hm
            exact blocksO_placed (g.obj i m o hm ho) j hj
        have hadd : ∀ q, ∀ p ∈ μ ++ [(i, q)], Placed ρ p.1 := by
          intro q p hp
          rcases List.mem_append.1 hp with hp | hp
          · exact h p hp
          · rw [List.mem_singleton.1 hp]; exact hi
        split
        · exact reachC_placed g f _ _ _ _ hpl (hadd _)
        · exact reachC_placed g f _ _ _ _ hpl (hadd _)

/-! ### The call's own view -/
structure CallOK (μ : Mu) (H : Heap) : Prop where
  fst : (μ.map (·.1)).Nodup
  snd : (μ.map (·.2)).Nodup
  lo : ∀ i j, (i, j) ∈ μ → abase ≤ i ∧ abase ≤ j ∧ j < gbase
  mb : ∀ i j, (i, j) ∈ μ → (mbase ≤ i ↔ mbase ≤ j)
  live : ∀ i j, (i, j) ∈ μ → ∃ o o2, H.get i = some o ∧ mapO μ o = some o2 ∧ o.alive = true
theorem mapO_alive {o o2 : AObj} (h : mapO μ o = some o2) (ht : o2 ≠ .taken) : o.alive = true := by
  cases o with
  | taken => simp only [mapO, Option.some.injEq] at h; exact absurd h.symm ht
  | dead _ _ _ => cases h
  | _ => rfl
theorem callGood_ok (h : callGood μ H = true) : CallOK μ H := by
  simp only [callGood, Bool.and_eq_true] at h
  have hall := fun p hp => List.all_eq_true.1 h.2 p hp
  have each : ∀ i j, (i, j) ∈ μ → abase ≤ i ∧ (abase ≤ j ∧ j < gbase) ∧ (mbase ≤ i ↔ mbase ≤ j) ∧ ∃ o o2, H.get i = some o ∧ mapO μ o = some o2 ∧ o.alive = true := by
    intro i j hij
    have := hall _ hij
    simp only [Bool.and_eq_true, decide_eq_true_eq] at this
    obtain ⟨⟨h1, h2⟩, h3⟩ := this
    have h4 : (abase ≤ j ∧ j < gbase) ∧ (mbase ≤ i ↔ mbase ≤ j) := by
      split at h2
      · rename_i hlt
        simp only [Bool.and_eq_true, decide_eq_true_eq] at h2
        refine ⟨⟨h2.1, ?_⟩, by omega⟩
        have : mbase ≤ gbase := by decide
        omega
      · rename_i hge
        simp only [Bool.and_eq_true, decide_eq_true_eq] at h2
        refine ⟨⟨?_, h2.2⟩, by omega⟩
        have : abase ≤ mbase := by decide
        omega
    refine ⟨h1, h4.1, h4.2, ?_⟩
    cases hg : H.get i with
    | none => simp [hg] at h3
    | some o =>
      simp only [hg] at h3
      cases hm : mapO μ o with
      | none => simp [hm] at h3
      | some o2 =>
        refine ⟨o, o2, rfl, hm, mapO_alive hm (fun e => ?_)⟩
        subst e
        simp [hm] at h3
  exact ⟨nodupB_spec h.1.1, nodupB_spec h.1.2, fun i j hij => ⟨(each i j hij).1, (each i j hij).2.1⟩, fun i j hij => (each i j hij).2.2.1, fun i j hij => (each i j hij).2.2.2⟩
theorem CallOK.toS (ok : CallOK μ H) : MuS μ := ⟨ok.snd, fun i j hij hlt => by have := (ok.lo i j hij).1; omega⟩

theorem callGam (g : Gam w0 ρ H w) (ok : CallOK μ H) (hp : ∀ p ∈ μ, Placed ρ p.1) : Gam ⟨w, μ.ren ρ⟩ (μ.ren ρ) (heapOf (gcB H μ μ)) w := by
  have hsnd : ∀ {i i' j : Nat}, (i, j) ∈ μ → (i', j) ∈ μ → i = i' := fun h1 h2 => by have := nodup_inj ok.snd h1 h2 rfl; cases this; rfl
  have hfst : ∀ {i j j' : Nat}, (i, j) ∈ μ → (i, j') ∈ μ → j = j' := fun h1 h2 => by have := nodup_inj ok.fst h1 h2 rfl; cases this; rfl
  have hget : ∀ {j : Nat} {o : AObj}, (heapOf (gcB H μ μ)).get j = some o → ∃ i o', (i, j) ∈ μ ∧ H.get i = some o' ∧ mapO μ o' = some o := fun h => gcB_mem (heapOf_get h)
  have obj : ∀ i m o, μ.ren ρ i = some m → (heapOf (gcB H μ μ)).get i = some o → ObjR (μ.ren ρ) w m o ∧ ∃ i0 o0, (i0, i) ∈ μ ∧ ρ i0 = some m ∧ H.get i0 = some o0 ∧ o.alive = o0.alive := by
    intro i m o hm ho
    obtain ⟨i0, hi0, hr0⟩ := Mu.ren_some hm
    obtain ⟨i1, o1, hi1, hg1, hmo⟩ := hget ho
    obtain rfl := hsnd hi0 hi1
    obtain ⟨r1, r2⟩ := mapO_S ok.toS hmo (g.obj _ m _ hr0 hg1)
    exact ⟨r1, i0, o1, hi0, hr0, hg1, r2⟩
  refine ⟨Nat.le_add_right _ _, ?_, .refl _ _, ?_, ?_, ?_, fun i m o hm ho => (obj i m o hm ho).1, ?_, fun i m _ _ h => h⟩
  · intro i hi
    cases hr : μ.ren ρ i with
    | none => rfl
    | some m =>
      obtain ⟨i0, hi0, _⟩ := Mu.ren_some hr
      have := (ok.lo _ _ hi0).2.2
      have h5 : gbase ≤ i := Nat.le_trans (Nat.le_add_right _ _) hi
      omega
  · intro j m hm
    obtain ⟨i, hi, hr⟩ := Mu.ren_some hm
    have h1 := (g.own i m hr).1
    have := (ok.lo _ _ hi).2.2
    exact ⟨h1, fun h => by omega, fun _ => h1⟩
  · intro j m hm hj
    obtain ⟨i, hi, hr⟩ := Mu.ren_some hm
    have := (ok.lo _ _ hi).2.1
    omega
  · rintro i j mi mj hgi ⟨oi, gi, ai⟩ ⟨oj, gj, aj⟩ ei ej hb
    obtain ⟨_, i0, oi0, hi0, ri0, gi0, hai⟩ := obj i mi oi ei gi
    obtain ⟨_, j0, oj0, hj0, rj0, gj0, haj⟩ := obj j mj oj ej gj
    have := g.inj i0 j0 mi mj ((ok.mb _ _ hi0).2 hgi) ⟨oi0, gi0, by rw [← hai]; exact ai⟩ ⟨oj0, gj0, by rw [← haj]; exact aj⟩ ri0 rj0 hb
    subst this
    exact hfst hi0 hj0
  · intro j hj hn
    cases ho : (heapOf (gcB H μ μ)).get j with
    | none => exact absurd ho hn
    | some o =>
      obtain ⟨i, o', hi, hg, _⟩ := hget ho
      rcases hp _ hi with h | ⟨m, hm⟩
      · have := (ok.lo _ _ hi).1; simp only at h; omega
      · exact ⟨m, by rw [Mu.ren_of ok.snd hi]; exact hm⟩

/-! ### Back at the caller -/
theorem numFrom_mem : ∀ {l : List Nat} {n j q : Nat}, (j, q) ∈ numFrom l n → j ∈ l ∧ n ≤ q ∧ q < n + l.length
  | [], _, _, _, h => by cases h
  | i :: r, n, j, q, h => by
    unfold numFrom at h
    rcases List.mem_cons.1 h with h | h
    · cases h; exact ⟨List.mem_cons_self .., Nat.le_refl _, by simp⟩
    · obtain ⟨h1, h2, h3⟩ := numFrom_mem h
      exact ⟨List.mem_cons_of_mem _ h1, by omega, by simp only [List.length_cons]; omega⟩
theorem numFrom_snd : ∀ (l : List Nat) (n : Nat), ((numFrom l n).map (·.2)).Nodup
  | [], _ => List.nodup_nil
  | i :: r, n => by
    unfold numFrom
    simp only [List.map_cons, List.nodup_cons]
    refine ⟨fun h => ?_, numFrom_snd r (n + 1)⟩
    obtain ⟨p, hp, e⟩ := List.mem_map.1 h
    obtain ⟨j, q⟩ := p
    have := (numFrom_mem hp).2.1
    simp only at e
    omega
theorem numFrom_fst : ∀ (l : List Nat) (n : Nat), (numFrom l n).map (·.1) = l
  | [], _ => rfl
  | i :: r, n => by unfold numFrom; simp only [List.map_cons, numFrom_fst r]
theorem numFrom_at : ∀ {l : List Nat} {n q : Nat}, n ≤ q → q < n + l.length → ∃ j, (j, q) ∈ numFrom l n
  | [], n, q, h1, h2 => by simp at h2; omega
  | i :: r, n, q, h1, h2 => by
    unfold numFrom
    by_cases e : q = n
    · exact ⟨i, by rw [e]; exact List.mem_cons_self ..⟩
    · obtain ⟨j, hj⟩ := numFrom_at (l := r) (n := n + 1) (q := q) (by omega) (by simp only [List.length_cons] at h2; omega)
      exact ⟨j, List.mem_cons_of_mem _ hj⟩
variable {β : Mu} {bs : Blocks}
theorem mergeP_next : ∀ (l : Mu) (H : Heap), (mergeP β bs l H).next = H.next
  | [], _ => rfl
  | p :: r, H => by
    unfold mergeP
    rw [mergeP_next r]
    split <;> rfl
theorem mergeP_out {i : Nat} : ∀ (l : Mu) (H : Heap), (∀ j, (i, j) ∈ l → ¬ mbase ≤ j) → (mergeP β bs l H).get i = H.get i
  | [], _, _ => rfl
  | p :: r, H, h => by
    unfold mergeP
    rw [mergeP_out r _ (fun j hj => h j (List.mem_cons_of_mem _ hj))]
    split
    · rename_i hm
      rw [Heap.get_set, if_neg (fun e => h p.2 (by rw [e]; exact List.mem_cons_self ..) hm)]
    · rfl
theorem mergeP_in {i j : Nat} : ∀ (l : Mu) (H : Heap), (l.map (·.1)).Nodup → (i, j) ∈ l → mbase ≤ j → (mergeP β bs l H).get i = some (objAt β bs j)
  | [], _, _, h, _ => by cases h
  | p :: r, H, hn, h, hj => by
    simp only [List.map_cons, List.nodup_cons] at hn
    unfold mergeP
    rcases List.mem_cons.1 h with h | h
    · subst h
      rw [mergeP_out r _ (fun q hq => absurd (List.mem_map.2 ⟨_, hq, rfl⟩) hn.1), if_pos hj, Heap.get_set, if_pos rfl]
    · exact mergeP_in r _ hn.2 h hj
theorem mergeN_next : ∀ (l : List Nat) (H : Heap), (mergeN β bs l H).next = H.next + l.length
  | [], _ => rfl
  | j :: r, H => by unfold mergeN; rw [mergeN_next r]; simp only [Heap.next_new, List.length_cons]; omega
theorem mergeN_old {i : Nat} : ∀ (l : List Nat) (H : Heap), i < H.next → (mergeN β bs l H).get i = H.get i
  | [], _, _ => rfl
  | j :: r, H, h => by
    unfold mergeN
    rw [mergeN_old r _ (by simp only [Heap.next_new]; omega), Heap.get_new, if_neg (by omega)]
theorem mergeN_new {i j : Nat} : ∀ (l : List Nat) (H : Heap), (j, i) ∈ numFrom l H.next → (mergeN β bs l H).get i = some (objAt β bs j)
  | [], _, h => by cases h
  | q :: r, H, h => by
    unfold numFrom at h
    unfold mergeN
    rcases List.mem_cons.1 h with h | h
    · cases h
      rw [mergeN_old r _ (by simp only [Heap.next_new]; omega), Heap.get_new, if_pos rfl]
    · exact mergeN_new r (H.new (objAt β bs q)) (by simpa only [Heap.next_new] using h)

theorem mergeGam {ρ' : Ren} {w' : World} (g : Gam w0 ρ H w) (ok : CallOK μ H) (hp : ∀ p ∈ μ, Placed ρ p.1) (g' : Gam ⟨w, μ.ren ρ⟩ ρ' (heapOf bs) w') (hnd : ((newsOf bs).map (·.1)).Nodup) :
    ∃ ρm, Gam w0 ρm (merged μ bs H) w' ∧ Ext ρ ρm H (merged μ bs H) ∧ ∀ v v', VR ρ' v v' → VR ρm (mapV (backMu μ H.next bs) 8 v) v' := by
  let news := (newsOf bs).map (·.1)
  let β := backMu μ H.next bs
  have place : ∀ {i j : Nat}, (i, j) ∈ μ → ∃ m, ρ i = some m := by
    intro i j hij
    rcases hp _ hij with h | h
    · have := (ok.lo _ _ hij).1; simp only at h; omega
    · exact h
  have ilt : ∀ {i j : Nat}, (i, j) ∈ μ → i < H.next := fun hij => let ⟨m, hm⟩ := place hij; g.lt hm
  have newge : ∀ j ∈ news, gbase ≤ j := by
    intro j hj
    obtain ⟨p, hp, rfl⟩ := List.mem_map.1 hj
    simpa using (List.mem_filter.1 hp).2
  have βmem : ∀ {j i : Nat}, (j, i) ∈ β → ((i, j) ∈ μ) ∨ (j, i) ∈ numFrom news H.next := by
    intro j i h
    rcases List.mem_append.1 h with h | h
    · obtain ⟨p, hp, e⟩ := List.mem_map.1 h
      cases e; exact .inl hp
    · exact .inr h
  have βS : MuS β := by
    refine ⟨?_, fun j i h hj => ?_⟩
    · show ((μ.map (fun p => (p.2, p.1)) ++ numFrom news H.next).map (·.2)).Nodup
      rw [List.map_append, List.map_map]
      refine List.nodup_append.2 ⟨ok.fst, numFrom_snd _ _, ?_⟩
      intro a ha b hb e
      subst e
      obtain ⟨p, hp1, rfl⟩ := List.mem_map.1 ha
      obtain ⟨q, hq, e⟩ := List.mem_map.1 hb
      obtain ⟨j, i⟩ := q
      have h1 := (numFrom_mem hq).2.1
      have h2 : p.1 < H.next := ilt (j := p.2) hp1
      simp only [Function.comp] at e
      omega
    · rcases βmem h with h | h
      · have := (ok.lo _ _ h).2.1; omega
      · have := newge j (numFrom_mem h).1
        unfold gbase at this; unfold abase at hj; omega
  let ρm : Ren := fun i => if i < H.next then ρ i else β.ren ρ' i
  have ρlt : ∀ {i : Nat}, i < H.next → ρm i = ρ i := fun h => if_pos h
  have ρge : ∀ {i : Nat}, ¬ i < H.next → ρm i = β.ren ρ' i := fun h => if_neg h
  -- what was handed lies where it lay
  have pinned : ∀ {i j : Nat} {m : Meta}, (i, j) ∈ μ → ρ' j = some m → ρ i = some m := by
    intro i j m hij hj
    have h1 := ok.lo _ _ hij
    have := g'.pins j m h1.2.1 h1.2.2 hj
    simp only at this
    rwa [Mu.ren_of ok.snd hij] at this
  have hle : (β.ren ρ').le ρm := by
    intro i m hm
    obtain ⟨j, hj, hr⟩ := Mu.ren_some hm
    rcases βmem hj with h | h
    · rw [ρlt (ilt h)]; exact pinned h hr
    · rw [ρge (by have := (numFrom_mem h).2.1; omega)]; exact hm
  have objR : ∀ {j : Nat} {m : Meta}, ρ' j = some m → ObjR ρm w' m (objAt β bs j) := by
    intro j m hj
    unfold objAt
    cases hg : (heapOf bs).get j with
    | none => trivial
    | some o =>
      simp only [Option.bind_some]
      cases hm : mapO β o with
      | none => trivial
      | some o2 => exact (mapO_S βS hm (g'.obj j m o hj hg)).1.mono hle (fun _ => rfl)
  have objA : ∀ {j : Nat}, (objAt β bs j).alive = true → (heapOf bs).live j := by
    intro j h
    unfold objAt at h
    cases hg : (heapOf bs).get j with
    | none => rw [hg] at h; cases h
    | some o =>
      rw [hg] at h
      simp only [Option.bind_some] at h
      cases hm : mapO β o with
      | none => rw [hm] at h; cases h
      | some o2 =>
        rw [hm] at h
        refine ⟨o, hg, ?_⟩
        by_cases hj : ∃ m, ρ' j = some m
        · obtain ⟨m, hj⟩ := hj
          rw [← (mapO_S βS hm (g'.obj j m o hj hg)).2]; exact h
        · refine mapO_alive hm (fun e => ?_)
          subst e; cases h
  have hnx : (merged μ bs H).next = H.next + news.length := by
    show (mergeN β bs news (mergeP β bs μ H)).next = _
    rw [mergeN_next, mergeP_next]
  have getOut : ∀ {i : Nat}, i < H.next → (∀ j, (i, j) ∈ μ → ¬ mbase ≤ j) → (merged μ bs H).get i = H.get i := by
    intro i hi h
    show (mergeN β bs news (mergeP β bs μ H)).get i = _
    rw [mergeN_old _ _ (by rw [mergeP_next]; exact hi), mergeP_out _ _ h]
  have getIn : ∀ {i j : Nat}, (i, j) ∈ μ → mbase ≤ j → (merged μ bs H).get i = some (objAt β bs j) := by
    intro i j hij hj
    show (mergeN β bs news (mergeP β bs μ H)).get i = _
    rw [mergeN_old _ _ (by rw [mergeP_next]; exact ilt hij), mergeP_in _ _ ok.fst hij hj]
  have getNew : ∀ {i j : Nat}, (j, i) ∈ numFrom news H.next → (merged μ bs H).get i = some (objAt β bs j) := by
    intro i j h
    exact mergeN_new _ _ (by rw [mergeP_next]; exact h)
  have newOf : ∀ {i : Nat} {m : Meta}, ¬ i < H.next → ρm i = some m → ∃ j, (j, i) ∈ numFrom news H.next ∧ ρ' j = some m ∧ gbase ≤ j := by
    intro i m hi hm
    rw [ρge hi] at hm
    obtain ⟨j, hj, hr⟩ := Mu.ren_some hm
    rcases βmem hj with h | h
    · exact absurd (ilt h) hi
    · exact ⟨j, h, hr, newge j (numFrom_mem h).1⟩
  -- what may have been written
  have mayOf : ∀ {k : Nat}, (Start.mk w (μ.ren ρ)).may k → ∃ i j m, (i, j) ∈ μ ∧ mbase ≤ i ∧ mbase ≤ j ∧ ρ i = some m ∧ m.b = k ∧ H.live i := by
    rintro k ⟨j, m, h1, h2, h3, h4⟩
    obtain ⟨i, hij, hr⟩ := Mu.ren_some h3
    obtain ⟨o, _, ho, _, ha⟩ := ok.live _ _ hij
    exact ⟨i, j, m, hij, (ok.mb _ _ hij).2 h1, h1, hr, h4, o, ho, ha⟩
  have liveOld : ∀ {i : Nat}, i < H.next → (merged μ bs H).live i → H.live i ∧ ∀ j, (i, j) ∈ μ → mbase ≤ j → (heapOf bs).live j := by
    rintro i hi ⟨o, ho, ha⟩
    by_cases h : ∃ j, (i, j) ∈ μ ∧ mbase ≤ j
    · obtain ⟨j, hij, hj⟩ := h
      obtain ⟨o1, _, h1, _, h2⟩ := ok.live _ _ hij
      refine ⟨⟨o1, h1, h2⟩, fun j' hij' hj' => ?_⟩
      rw [getIn hij' hj'] at ho
      cases ho
      exact objA ha
    · rw [getOut hi (fun j hij hj => h ⟨j, hij, hj⟩)] at ho
      exact ⟨⟨o, ho, ha⟩, fun j hij hj => absurd ⟨j, hij, hj⟩ h⟩
  have hsz : w.heap.size ≤ w'.heap.size := g'.below.size
  refine ⟨ρm, ⟨by rw [hnx]; exact Nat.le_trans g.gb (Nat.le_add_right _ _), ?_, ?_, ?_, ?_, ?_, ?_, ?_, ?_⟩, ⟨?_, by rw [hnx]; exact Nat.le_add_right _ _, ?_⟩, fun v v' hv => (mapV_S βS 8 v v' hv).mono hle⟩
  · -- fresh
    intro i hi
    rw [hnx] at hi
    cases hr : ρm i with
    | none => rfl
    | some m =>
      obtain ⟨j, hj, _⟩ := newOf (by omega) hr
      have := (numFrom_mem hj).2.2
      omega
  · -- below
    refine ⟨g'.below.os.trans g.below.os, g'.below.tape.trans g.below.tape, g'.below.output.trans g.below.output, Nat.le_trans g.below.size hsz, fun k hk hm => ?_⟩
    refine (g'.below.block k (Nat.lt_of_lt_of_le hk g.below.size) (fun hmay => ?_)).trans (g.below.block k hk hm)
    obtain ⟨i, j, m, hij, hi, hj, hr, rfl, _⟩ := mayOf hmay
    rcases Nat.lt_or_ge i gbase with hl | hl
    · exact hm ⟨i, m, hi, hl, g.pins i m (ok.lo _ _ hij).1 hl hr, rfl⟩
    · have := (g.own i m hr).2.1 hl
      omega
  · -- own
    intro i m hm
    by_cases hi : i < H.next
    · rw [ρlt hi] at hm
      have := g.own i m hm
      exact ⟨by omega, this.2⟩
    · obtain ⟨j, hj, hr, hge⟩ := newOf hi hm
      have := g'.own j m hr
      have h1 := this.2.1 hge
      simp only at h1
      have h2 := g.below.size
      have h3 := g.gb
      exact ⟨this.1, fun _ => by omega, fun h => by omega⟩
  · -- glob
    intro i m hm hi
    rw [ρlt (by have := g.gb; unfold gbase at this; unfold abase at hi; omega)] at hm
    exact g.glob i m hm hi
  · -- inj
    intro i j mi mj hgi hi hj ei ej hb
    by_cases h1 : i < H.next
    · rw [ρlt h1] at ei
      by_cases h2 : j < H.next
      · rw [ρlt h2] at ej
        exact g.inj i j mi mj hgi (liveOld h1 hi).1 (liveOld h2 hj).1 ei ej hb
      · obtain ⟨q, hq, hr, hge⟩ := newOf h2 ej
        have a1 := (g.own i mi ei).1
        have a2 := (g'.own q mj hr).2.1 hge
        simp only at a2
        omega
    · obtain ⟨p, hp1, hr1, hge1⟩ := newOf h1 ei
      by_cases h2 : j < H.next
      · rw [ρlt h2] at ej
        have a1 := (g.own j mj ej).1
        have a2 := (g'.own p mi hr1).2.1 hge1
        simp only at a2
        omega
      · obtain ⟨q, hq, hr2, hge2⟩ := newOf h2 ej
        obtain ⟨oi, hoi, hai⟩ := hi
        obtain ⟨oj, hoj, haj⟩ := hj
        rw [getNew hp1] at hoi
        rw [getNew hq] at hoj
        cases hoi
        cases hoj
        have := g'.inj p q mi mj (mb_of hge1) (objA hai) (objA haj) hr1 hr2 hb
        subst this
        have hnf : ((numFrom news H.next).map (·.1)).Nodup := by rw [numFrom_fst]; exact hnd
        have := nodup_inj hnf hp1 hq rfl
        cases this
        rfl
  · -- objects
    intro i m o hm ho
    by_cases hi : i < H.next
    · rw [ρlt hi] at hm
      by_cases h : ∃ j, (i, j) ∈ μ ∧ mbase ≤ j
      · obtain ⟨j, hij, hj⟩ := h
        rw [getIn hij hj] at ho
        cases ho
        cases hg : (heapOf bs).get j with
        | none => unfold objAt; rw [hg]; trivial
        | some ob =>
          obtain ⟨m', hm'⟩ := g'.gmap j (.inr ⟨hj, (ok.lo _ _ hij).2.2⟩) (by rw [hg]; simp)
          have := pinned hij hm'
          rw [hm] at this
          cases this
          exact objR hm'
      · have hout : ∀ j, (i, j) ∈ μ → ¬ mbase ≤ j := fun j hij hj => h ⟨j, hij, hj⟩
        rw [getOut hi hout] at ho
        refine (g.obj i m o hm ho).mono (fun q n hq => by rw [ρlt (g.lt hq)]; exact hq) (fun hal => ?_)
        refine g'.below.block m.b (g.own i m hm).1 (fun hmay => ?_)
        obtain ⟨i2, j2, m2, hij2, hi2, hj2, hr2, hb2, hl2⟩ := mayOf hmay
        have := g.inj i2 i m2 m hi2 hl2 ⟨o, ho, hal⟩ hr2 hm hb2
        subst this
        exact hout _ hij2 hj2
    · obtain ⟨j, hj, hr, _⟩ := newOf hi hm
      rw [getNew hj] at ho
      cases ho
      exact objR hr
  · -- gmap
    intro i hi hn
    have hlt : i < H.next := by
      have := g.gb
      rcases hi with h | h
      · unfold gbase at this; unfold abase at h; omega
      · omega
    rw [ρlt hlt]
    by_cases h : ∃ j, (i, j) ∈ μ ∧ mbase ≤ j
    · obtain ⟨j, hij, _⟩ := h
      exact place hij
    · rw [getOut hlt (fun j hij hj => h ⟨j, hij, hj⟩)] at hn
      exact g.gmap i hi hn
  · -- pins
    intro i m ha hi hm
    rw [ρlt (by have := g.gb; omega)] at hm
    exact g.pins i m ha hi hm
  · -- le
    intro i m hm
    rw [ρlt (g.lt hm)]; exact hm
  · -- keep
    intro i hi hn
    refine ⟨by rw [ρlt hi]; exact hn, getOut hi (fun j hij _ => ?_)⟩
    obtain ⟨m, hm⟩ := place hij
    rw [hn] at hm; cases hm

theorem wpState_call {sp : SpecS} {f : FuncId} (hs : ∀ args bs K, sp args bs K → CallS P f args bs K) {args : Array Value} {k : Value → Heap → Prop} (hk : wpState sp args H k) : CallH P f args H k := by
  intro w0 ρ w args' n g ha
  unfold wpState at hk
  obtain ⟨hgood, hk⟩ := bcase_out hk
  have ok := callGood_ok hgood
  have hp : ∀ p ∈ callMu args.toList H, Placed ρ p.1 := reachC_placed g _ _ _ _ _ (LR.placed (blocksV_placed 8) ha) (fun p hp => by cases hp)
  have gC := callGam g ok hp
  refine (hs _ _ _ hk ⟨w, (callMu args.toList H).ren ρ⟩ _ w args' n gC (LR.map_S ok.toS ha)).mono ?_
  rintro e w' ⟨v, bs, ρ', v', hK, rfl, hv, g'⟩
  obtain ⟨hnd, hK⟩ := bcase_out hK
  obtain ⟨ρm, gm, ext, hvr⟩ := mergeGam g ok hp g' (nodupB_spec hnd)
  exact ⟨_, _, ρm, v', hK, rfl, hvr _ _ hv, gm, ext⟩
theorem handlerQ_ok {sp : FuncId → Option SpecS} {base : Handler} (hs : ∀ f s, sp f = some s → ∀ args bs K, s args bs K → CallS P f args bs K) (hb : HandlerOK P base) : HandlerOK P (handlerQ sp base) := by
  intro g args ats H k hk
  unfold handlerQ at hk
  split at hk
  · rename_i s he
    exact wpState_call (hs g s he) hk
  · exact hb g args ats H k hk
end Go.Abs

/- State contracts: a function whose body has been walked. -/
namespace Go.Abs
open Go.RowKit
variable {P : Program} {ρ : Ren} {w0 : Start} {w : World} {H : Heap} {h : Handler} {L : AtLoop}

theorem stateK_out (g : Gam w0 ρ H w) {v v' : Value} (hv : VR ρ v v') {K : Value → Blocks → Prop} (hk : stateK K v H) : ∃ v2 bs ρ2, K v2 bs ∧ VR ρ2 v2 v' ∧ Gam w0 ρ2 (heapOf bs) w := by
  unfold stateK at hk
  obtain ⟨hgood, hk⟩ := bcase_out hk
  let A : AAct := ⟨.leaf, 0, []⟩
  let a : Act := ⟨#[], []⟩
  have ra : ActR ρ A a := ⟨rfl, fun t => by
    have e1 : A.slot t = undef := rfl
    have e2 : a.tmps.getD t undef = undef := rfl
    rw [e1, e2]; exact VR.undef _, ⟨rfl, fun j D e => by simp [A] at e⟩⟩
  obtain ⟨g2, _⟩ := gc_sub g ra rfl (keep := []) hgood
  exact ⟨_, _, _, hk, mapV_VR (gcGood_ok hgood) 8 _ _ hv, g2⟩

/-- A loop of a function, whatever its end is. -/
structure LoopGoodF (P : Program) (h : Handler) (L : AtLoop) (f : FuncId) (c : Code) (lv : Lv) (id : Nat) (F : Value → Heap → Prop) (X : Type) (st : X → Slots × Blocks) (inv : X → Prop) (m : X → Nat) : Prop where
  head : ∀ s b, L id s b → ∃ x, inv x ∧ st x = (s, b)
  flat : ((findLoop c lv id).map fun r => loopIds r.1) = some []
  round : ∀ x, inv x → wpRound P h L f id (st x).1 (st x).2 (fun s b => ∃ y, inv y ∧ m y < m x ∧ st y = (s, b))
    (fun i s b => if i = id then wpNext P h L f id .normal s b F else wpNext P h L f id (.exit i) s b F) F

theorem loopsOK_good (hh : HandlerOK P h) (hmix : P.follows .mixedOrders = true) {f : FuncId} {fn : Func} {c : Code} (hf : P.funcs[f]? = some fn) (hc : fn.body = some c) {F : Value → Heap → Prop} {ids : List Nat} (hids : loopIds c = ids) (hn : nodupB ids = true)
    (hl : ∀ id ∈ ids, ∃ X st inv m, LoopGoodF P h L f c (fnLv fn) id F X st inv m) : loopsOK P h L (fnSize fn) c (fnLv fn) (fnK P fn F) := by
  subst hids
  refine loopsOK_of c hn ?_
  intro id body l' hfl s bl hs
  obtain ⟨X, st, inv, m, hg⟩ := hl id (findLoop_ids c _ id hfl)
  obtain ⟨x, hx, he⟩ := hg.head s bl hs
  have e1 : (st x).1 = s := congrArg Prod.fst he
  have e2 : (st x).2 = bl := congrArg Prod.snd he
  have hin : loopIds body = [] := by have := hg.flat; rw [hfl] at this; simpa using this
  have := loop_rule (P := P) (h := h) (L := L) (sz := fnSize fn) hh hmix st inv m (id := id) (body := body) (l' := l') (k := fun e A H => wpAfter P h L c (fnLv fn) id e A H (fnK P fn F)) (R := fnK P fn F) hin
    (fun x hx => by
      have := hg.round x hx
      unfold wpRound at this
      simp only [hf, hc, hfl] at this
      have e : ∀ i s b, (if i = id then wpNext P h L f id .normal s b F else wpNext P h L f id (.exit i) s b F) = (if i = id then wpAfter P h L c (fnLv fn) id .normal (actOf (fnSize fn) s) (heapOf b) (fnK P fn F) else wpAfter P h L c (fnLv fn) id (.exit i) (actOf (fnSize fn) s) (heapOf b) (fnK P fn F)) := by
        intro i s b
        simp only [wpNext, hf, hc]
      simpa only [e] using this)
    (fun e A H he hR => by subst he; exact wpAfter_ret c (by rw [hfl]; rfl) hR)
    (fun e A H h1 h2 hR => by cases e <;> first | exact h1 rfl | exact h2 rfl | exact hR)
    x hx
  rw [e1, e2] at this
  exact this

/-- A FUNCTION IS PROVED, by what it does to the blocks that it reaches. -/
theorem callS_of (hh : HandlerOK P h) (hmix : P.follows .mixedOrders = true) {f : FuncId} {fn : Func} {c : Code} (hf : P.funcs[f]? = some fn) (hc : fn.body = some c) {args : List Value} {bs : Blocks} {K : Value → Blocks → Prop} (hsz : args.length = fn.params.size) {ids : List Nat} (hids : loopIds c = ids) (hn : nodupB ids = true)
    (hk : wpFn P h L 0 f args.toArray (heapOf bs) (stateK K))
    (hl : ∀ id ∈ ids, ∃ X st inv m, LoopGoodF P h L f c (fnLv fn) id (stateK K) X st inv m) : CallS P f args bs K := by
  intro w0 ρ w args' n g ha
  have hsz2 : max args.toArray.size fn.ntmps = fnSize fn := by simp [fnSize, hsz]
  refine (wpFn_run (u := 0) (b := false) hh hmix (fun _ => rfl) hf hc hk (fun _ => by rw [hsz2]; exact loopsOK_good hh hmix hf hc hids hn hl) g n (by simpa using ha)).mono ?_
  rintro e w' ⟨v, H', ρ', v', hkv, rfl, hv, g', _⟩
  obtain ⟨v2, bs', ρ2, h1, h2, h3⟩ := stateK_out g' hv hkv
  exact ⟨v2, bs', ρ2, v', h1, rfl, h2, h3⟩
theorem callS_flat (hh : HandlerOK P h) (hmix : P.follows .mixedOrders = true) {f : FuncId} {fn : Func} {c : Code} (hf : P.funcs[f]? = some fn) (hc : fn.body = some c) {args : List Value} {bs : Blocks} {K : Value → Blocks → Prop} (hsz : args.length = fn.params.size) (hn : loopIds c = [])
    (hk : wpFn P h (fun _ _ _ => False) 0 f args.toArray (heapOf bs) (stateK K)) : CallS P f args bs K :=
  callS_of hh hmix hf hc hsz hn rfl hk (fun id hid => by cases hid)
end Go.Abs

/- Functions with cuts, and loops within loops: by what is left to show of each part. -/
namespace Go.Abs
open Go.RowKit
variable {P : Program} {ρ : Ren} {w0 : Start} {w : World} {H : Heap} {h : Handler} {L : AtLoop} {J : List Nat}

theorem jFn_run (hh : HandlerOK P h) (hmix : P.follows .mixedOrders = true) {f : FuncId} {fn : Func} {c : Code} (hf : P.funcs[f]? = some fn) (hc : fn.body = some c) {args : Array Value} {k : Value → Heap → Prop}
    (hk : jFn P h L J f args H k) (hl : ptsOK P h L J (max args.size fn.ntmps) c (fnLv fn) (fnK P fn k))
    (g : Gam w0 ρ H w) {args' : Array Value} (n : Nat) (ha : LR ρ args.toList args'.toList) :
    CallsIn Fence.wide n P f args' w fun e w' => ∃ v H' ρ' v', k v H' ∧ e = .returned v' ∧ VR ρ' v v' ∧ Gam w0 ρ' H' w' := by
  unfold jFn at hk
  simp only [hf, hc] at hk
  refine callsIn_of_wp_marks hf hc trivial ?_
  refine wpIn_mono (wpJ_sound hh hmix c hk hl w0 ρ w _ n g (initial_act ha fn.ntmps) rfl) ?_
  rintro e a1 w1 ⟨A1, H1, ρ1, k1, s1, ra1, g1, _⟩
  have fin : ∀ {v : Value}, A1.defers = [] → resultsA P H1 fn A1 = some v → k v H1 → LeavesInM Fence.wide n P fn a1.tmps (fun e w' => ∃ v H' ρ' v', k v H' ∧ e = .returned v' ∧ VR ρ' v v' ∧ Gam w0 ρ' H' w') a1.defers .returning w1 := by
    intro v hd hr hkv
    have hdd := ra1.defers
    rw [hd] at hdd
    refine leaves_R (P := P) (ρ := ρ1) (w0 := w0) [] a1.defers rfl g1 hdd (fun w2 g2 ext2 => ?_)
    obtain ⟨v', hv, hrun⟩ := resultsA_sound g2 ra1 hr
    exact ⟨v', hrun, v, H1, ρ1, v', hkv, rfl, hv, g2⟩
  cases e with
  | normal =>
    simp only [fnK] at k1
    split at k1
    · rename_i hd
      split at k1
      · rename_i v hr; exact fin hd hr k1
      · cases k1
    · cases k1
  | ret =>
    simp only [fnK] at k1
    split at k1
    · rename_i hd
      split at k1
      · rename_i v hr; exact fin hd hr k1
      · cases k1
    · cases k1
  | _ => exact k1.elim

abbrev Kx := Slots → Blocks → Prop
abbrev Xk := Nat → Slots → Blocks → Prop
/-- A loop within a round of a loop: its points are cuts. -/
structure LoopJ2 (P : Program) (h : Handler) (J : List Nat) (f : FuncId) (c : Code) (lv : Lv) (id id2 : Nat) (L : AtLoop) (B : Kx) (X : Xk) (F : Value → Heap → Prop) : Type 1 where
  Y : Type
  st : Y → Slots × Blocks
  inv : Y → Prop
  m : Y → Nat
  head : ∀ s b, L id2 s b → ∃ y, inv y ∧ st y = (s, b)
  pts : List Nat
  is : ((findLoop c lv id).bind fun r => (findLoop r.1 r.2 id2).map fun q => (ptIds J q.1, loopIds q.1)) = some (pts, [])
  nd : nodupB pts = true
  round : ∀ y, inv y → ∃ L2 : AtLoop,
    jRound2 P h L2 J f id id2 (st y).1 (st y).2 (fun s b => ∃ z, inv z ∧ m z < m y ∧ st z = (s, b)) (fun i s b => if i = id2 then jIn P h L J f id id2 .normal s b B X F else jIn P h L J f id id2 (.exit i) s b B X F) F ∧
    ∀ id3 ∈ pts, ∀ s b, L2 id3 s b → jIn2 P h L2 J f id id2 id3 .normal s b (fun s b => ∃ z, inv z ∧ m z < m y ∧ st z = (s, b)) (fun i s b => if i = id2 then jIn P h L J f id id2 .normal s b B X F else jIn P h L J f id id2 (.exit i) s b B X F) F
/-- A loop of a function. -/
structure LoopJ (P : Program) (h : Handler) (J : List Nat) (f : FuncId) (c : Code) (lv : Lv) (id : Nat) (L : AtLoop) (F : Value → Heap → Prop) : Type 1 where
  Y : Type
  st : Y → Slots × Blocks
  inv : Y → Prop
  m : Y → Nat
  head : ∀ s b, L id s b → ∃ y, inv y ∧ st y = (s, b)
  pts : List Nat
  loops : List Nat
  is : ((findLoop c lv id).map fun r => (ptIds J r.1, loopIds r.1)) = some (pts, loops)
  nd : nodupB pts = true
  round : ∀ y, inv y → ∃ L2 : AtLoop,
    jRound P h L2 J f id (st y).1 (st y).2 (fun s b => ∃ z, inv z ∧ m z < m y ∧ st z = (s, b)) (fun i s b => if i = id then jNext P h L J f id .normal s b F else jNext P h L J f id (.exit i) s b F) F ∧
    (∀ id2 ∈ pts, id2 ∉ loops → ∀ s b, L2 id2 s b → jIn P h L2 J f id id2 .normal s b (fun s b => ∃ z, inv z ∧ m z < m y ∧ st z = (s, b)) (fun i s b => if i = id then jNext P h L J f id .normal s b F else jNext P h L J f id (.exit i) s b F) F) ∧
    (∀ id2 ∈ loops, Nonempty (LoopJ2 P h J f c lv id id2 L2 (fun s b => ∃ z, inv z ∧ m z < m y ∧ st z = (s, b)) (fun i s b => if i = id then jNext P h L J f id .normal s b F else jNext P h L J f id (.exit i) s b F) F))

theorem roundK_ret {body : Code} {l : Lv} {B : Kx} {X : Xk} {R : Cont} {A : AAct} {H : Heap} : roundK body l B X R .ret A H = R .ret A H := rfl

theorem loopJ2_holds (hh : HandlerOK P h) (hmix : P.follows .mixedOrders = true) {f : FuncId} {fn : Func} {c : Code} (hf : P.funcs[f]? = some fn) (hc : fn.body = some c) {id id2 : Nat} {F : Value → Heap → Prop} {B : Kx} {X : Xk} {body : Code} {l' : Lv} (hfl : findLoop c (fnLv fn) id = some (body, l')) {body2 : Code} {l2 : Lv} (hf2 : findLoop body l' id2 = some (body2, l2))
    (g : LoopJ2 P h J f c (fnLv fn) id id2 L B X F) {s : Slots} {b : Blocks} (hs : L id2 s b) :
    Holds P false (fnSize fn) (.block id2 (.loop body2)) (actOf (fnSize fn) s) (heapOf b) (fun e A H => aftJ P h L J body l' id2 e A H (roundK body l' B X (fnK P fn F))) := by
  obtain ⟨y, hy, he⟩ := g.head s b hs
  have e1 : (g.st y).1 = s := congrArg Prod.fst he
  have e2 : (g.st y).2 = b := congrArg Prod.snd he
  have his := g.is
  rw [hfl] at his
  simp only [Option.bind_some, hf2, Option.map_some, Option.some.injEq, Prod.mk.injEq] at his
  have eqX : ∀ (B : Kx) (X : Xk) i s b, (if i = id2 then jIn P h L J f id id2 .normal s b B X F else jIn P h L J f id id2 (.exit i) s b B X F) = (if i = id2 then aftJ P h L J body l' id2 .normal (actOf (fnSize fn) s) (heapOf b) (roundK body l' B X (fnK P fn F)) else aftJ P h L J body l' id2 (.exit i) (actOf (fnSize fn) s) (heapOf b) (roundK body l' B X (fnK P fn F))) := by
    intro B X i s b
    simp only [jIn, hf, hc, hfl]
  have := loop_ruleJ (P := P) (h := h) (J := J) (sz := fnSize fn) hh hmix g.st g.inv g.m (id := id2) (body := body2) (l' := l2) (k := fun e A H => aftJ P h L J body l' id2 e A H (roundK body l' B X (fnK P fn F))) (R := fnK P fn F)
    (fun y hy => by
      obtain ⟨L2, h1, h2⟩ := g.round y hy
      refine ⟨L2, ?_, ptsOK_of body2 (by rw [his.1]; exact g.nd) (fun id3 b3 l3 hf3 => ?_) (fun id3 hi3 hf3 s b hs3 => ?_)⟩
      · unfold jRound2 at h1
        simp only [hf, hc, hfl, hf2, eqX] at h1
        exact h1
      · have := findLoop_ids _ _ _ hf3
        rw [his.2] at this
        cases this
      · have h3 := h2 id3 (by rw [his.1] at hi3; exact hi3) s b hs3
        unfold jIn2 at h3
        simp only [hf, hc, hfl, hf2, eqX] at h3
        exact h3)
    (fun e A H he hR => by subst he; exact aftJ_ret body (findLoop_pt body l' id2 hf2) hR)
    (fun e A H h1 h2 hR => by cases e <;> first | exact h1 rfl | exact h2 rfl | exact hR)
    y hy
  rw [e1, e2] at this
  exact this

theorem loopJ_holds (hh : HandlerOK P h) (hmix : P.follows .mixedOrders = true) {f : FuncId} {fn : Func} {c : Code} (hf : P.funcs[f]? = some fn) (hc : fn.body = some c) {id : Nat} {F : Value → Heap → Prop} {body : Code} {l' : Lv} (hfl : findLoop c (fnLv fn) id = some (body, l'))
    (g : LoopJ P h J f c (fnLv fn) id L F) {s : Slots} {b : Blocks} (hs : L id s b) :
    Holds P false (fnSize fn) (.block id (.loop body)) (actOf (fnSize fn) s) (heapOf b) (fun e A H => aftJ P h L J c (fnLv fn) id e A H (fnK P fn F)) := by
  obtain ⟨y, hy, he⟩ := g.head s b hs
  have e1 : (g.st y).1 = s := congrArg Prod.fst he
  have e2 : (g.st y).2 = b := congrArg Prod.snd he
  have his := g.is
  rw [hfl] at his
  simp only [Option.map_some, Option.some.injEq, Prod.mk.injEq] at his
  have eqX : ∀ i s b, (if i = id then jNext P h L J f id .normal s b F else jNext P h L J f id (.exit i) s b F) = (if i = id then aftJ P h L J c (fnLv fn) id .normal (actOf (fnSize fn) s) (heapOf b) (fnK P fn F) else aftJ P h L J c (fnLv fn) id (.exit i) (actOf (fnSize fn) s) (heapOf b) (fnK P fn F)) := by
    intro i s b
    simp only [jNext, hf, hc]
  have := loop_ruleJ (P := P) (h := h) (J := J) (sz := fnSize fn) hh hmix g.st g.inv g.m (id := id) (body := body) (l' := l') (k := fun e A H => aftJ P h L J c (fnLv fn) id e A H (fnK P fn F)) (R := fnK P fn F)
    (fun y hy => by
      obtain ⟨L2, h1, h2, h3⟩ := g.round y hy
      refine ⟨L2, ?_, ptsOK_of body (by rw [his.1]; exact g.nd) (fun id2 b2 l2 hf2 s b hs2 => ?_) (fun id2 hi2 hf2 s b hs2 => ?_)⟩
      · unfold jRound at h1
        simp only [hf, hc, hfl, eqX] at h1
        exact h1
      · have hm : id2 ∈ g.loops := by rw [← his.2]; exact findLoop_ids _ _ _ hf2
        obtain ⟨g2⟩ := h3 id2 hm
        have := loopJ2_holds hh hmix hf hc hfl hf2 g2 hs2
        simp only [eqX] at this
        exact this
      · have hnl : id2 ∉ g.loops := by
          intro hm
          rw [← his.2] at hm
          have := findLoop_some body l' id2 hm
          rw [hf2] at this
          cases this
        have h4 := h2 id2 (by rw [his.1] at hi2; exact hi2) hnl s b hs2
        unfold jIn at h4
        simp only [hf, hc, hfl, eqX] at h4
        exact h4)
    (fun e A H he hR => by subst he; exact aftJ_ret c (findLoop_pt c _ id hfl) hR)
    (fun e A H h1 h2 hR => by cases e <;> first | exact h1 rfl | exact h2 rfl | exact hR)
    y hy
  rw [e1, e2] at this
  exact this

theorem ptsOK_good (hh : HandlerOK P h) (hmix : P.follows .mixedOrders = true) {f : FuncId} {fn : Func} {c : Code} (hf : P.funcs[f]? = some fn) (hc : fn.body = some c) {F : Value → Heap → Prop} {pts loops : List Nat} (his : (ptIds J c, loopIds c) = (pts, loops)) (hn : nodupB pts = true)
    (hcut : ∀ id ∈ pts, id ∉ loops → ∀ s b, L id s b → jNext P h L J f id .normal s b F)
    (hl : ∀ id ∈ loops, Nonempty (LoopJ P h J f c (fnLv fn) id L F)) : ptsOK P h L J (fnSize fn) c (fnLv fn) (fnK P fn F) := by
  simp only [Prod.mk.injEq] at his
  refine ptsOK_of c (by rw [his.1]; exact hn) (fun id body l' hfl s b hs => ?_) (fun id hi hfl s b hs => ?_)
  · obtain ⟨g⟩ := hl id (by rw [← his.2]; exact findLoop_ids _ _ _ hfl)
    exact loopJ_holds hh hmix hf hc hfl g hs
  · have hnl : id ∉ loops := by
      intro hm
      rw [← his.2] at hm
      have := findLoop_some c (fnLv fn) id hm
      rw [hfl] at this
      cases this
    have h4 := hcut id (by rw [his.1] at hi; exact hi) hnl s b hs
    unfold jNext at h4
    simp only [hf, hc] at h4
    exact h4

/-- A FUNCTION IS PROVED, with cuts and loops within loops: a contract in data. -/
theorem con_J (hh : HandlerOK P h) (hmix : P.follows .mixedOrders = true) (J : List Nat) {L : AtLoop} {f : FuncId} {fn : Func} {c : Code} (hf : P.funcs[f]? = some fn) (hc : fn.body = some c) {ds rs : List D} (hcount : countV ds ≤ 400) (hsz : ds.length = fn.params.size) {pts loops : List Nat} (his : (ptIds J c, loopIds c) = (pts, loops)) (hn : nodupB pts = true)
    (hk : ∀ caps, capsL 40 (layVals caps 500 ds).1 → jFn P h L J f (layVals caps 500 ds).1.toArray (heapOf (layVals caps 500 ds).2) (dataK (· = rs)))
    (hcut : ∀ id ∈ pts, id ∉ loops → ∀ s b, L id s b → jNext P h L J f id .normal s b (dataK (· = rs)))
    (hl : ∀ id ∈ loops, Nonempty (LoopJ P h J f c (fnLv fn) id L (dataK (· = rs)))) : Con P f ds rs := by
  intro w args hr
  obtain ⟨caps, ρ, hst, g, ha⟩ := lay_gam hr hcount
  have hsz2 : max (layVals caps 500 ds).1.toArray.size fn.ntmps = fnSize fn := by simp [fnSize, layVals_len, hsz]
  refine callsIn_wide.1 ((jFn_run hh hmix hf hc (hk caps (capsL_of 40 ha)) (by rw [hsz2]; exact ptsOK_good hh hmix hf hc his hn hcut hl) g 0 (by simpa using ha)).mono ?_)
  rintro e w' ⟨v, H', ρ', v', hkv, rfl, hv, g'⟩
  obtain ⟨vs, ds', u, rfl, h1, rfl⟩ := dataK_out g' hv hkv
  exact ⟨⟨vs, u, rfl, h1⟩, g'.below.below hst⟩
/-- A FUNCTION IS PROVED, with cuts and loops within loops: by what it does to the blocks that it reaches. -/
theorem callS_J (hh : HandlerOK P h) (hmix : P.follows .mixedOrders = true) (J : List Nat) {L : AtLoop} {f : FuncId} {fn : Func} {c : Code} (hf : P.funcs[f]? = some fn) (hc : fn.body = some c) {args : List Value} {bs : Blocks} {K : Value → Blocks → Prop} (hsz : args.length = fn.params.size) {pts loops : List Nat} (his : (ptIds J c, loopIds c) = (pts, loops)) (hn : nodupB pts = true)
    (hk : jFn P h L J f args.toArray (heapOf bs) (stateK K))
    (hcut : ∀ id ∈ pts, id ∉ loops → ∀ s b, L id s b → jNext P h L J f id .normal s b (stateK K))
    (hl : ∀ id ∈ loops, Nonempty (LoopJ P h J f c (fnLv fn) id L (stateK K))) : CallS P f args bs K := by
  intro w0 ρ w args' n g ha
  have hsz2 : max args.toArray.size fn.ntmps = fnSize fn := by simp [fnSize, hsz]
  refine (jFn_run hh hmix hf hc hk (by rw [hsz2]; exact ptsOK_good hh hmix hf hc his hn hcut hl) g n (by simpa using ha)).mono ?_
  rintro e w' ⟨v, H', ρ', v', hkv, rfl, hv, g'⟩
  obtain ⟨v2, bs', ρ2, h1, h2, h3⟩ := stateK_out g' hv hkv
  exact ⟨v2, bs', ρ2, v', h1, rfl, h2, h3⟩
end Go.Abs

/- What is left to show of each function, written out; the kernel reckons it. -/
namespace Go.Proofs.C1R
open Go Go.Abs Go.Proofs
set_option maxRecDepth 100000
set_option linter.unusedVariables false
abbrev Ct := FuncId → List D → List D → Prop
abbrev hV (C : Ct) : Handler := handlerN Tryz.prog C (fun g => [6, 17, 18, 20, 21, 22, 23, 24, 25, 46, 47, 49, 68, 69, 70, 85, 91, 92].contains g) 8 6
abbrev Bx := Slots → Blocks → Prop
abbrev Xx := Nat → Slots → Blocks → Prop
abbrev vRu (a b c d e f g h i : Int) : Value := .agg #[.int .i64 a, .int .i64 b, .int .i64 c, .int .i64 d, .int .i64 e, .int .i64 f, .int .i64 g, .int .i64 h, .int .i64 i]
abbrev I500 (l : List Value) : Nat × AObj := (500, .sym l false 4)
abbrev Q500 (l : List Value) : Nat × AObj := (500, .sym l false 1)
abbrev S500 (n cap : Nat) : Value := .slice (some ⟨500, 0, none⟩) n cap
def g20 (C : Ct) (L : AtLoop) (a b c d e f g h i : Int) (k : List D → Prop) : Prop := wpFn Tryz.prog (hV C) L 0 20 #[vRu a b c d e f g h i] (heapOf []) (dataK k)
theorem g20_text (C : Ct) (L : AtLoop) (a : Int) (b : Int) (c : Int) (d : Int) (e : Int) (f : Int) (g : Int) (h : Int) (i : Int) (k : List D → Prop) : g20 C L a b c d e f g h i k =
 (bcase (decide (0 ≤ a))
 (bcase (decide (a ≤ 7))
 (bcase (decide (0 ≤ b))
 (bcase (decide (b ≤ 300000))
 (bcase (decide (0 ≤ c))
 (bcase (decide (c ≤ 300000))
 (bcase (decide (0 ≤ d))
 (bcase (decide (d ≤ 300000))
 (bcase (decide (0 ≤ e))
 (bcase (decide (e ≤ 99))
 (bcase (decide (0 ≤ f))
 (bcase (decide (f ≤ 70000))
 (bcase (decide (0 ≤ g))
 (bcase (decide (g ≤ 10000))
 (bcase (decide (0 ≤ h))
 (bcase (decide (h ≤ 10000))
 (bcase (decide (0 ≤ i))
 (bcase (decide (i ≤ 10000))
 (k [(D.val (Go.Value.int Go.IntKind.i64 (0 : Int)))])
 (k [(D.val (Go.Value.int Go.IntKind.i64 (2 : Int)))]))
 (k [(D.val (Go.Value.int Go.IntKind.i64 (2 : Int)))]))
 (k [(D.val (Go.Value.int Go.IntKind.i64 (2 : Int)))]))
 (k [(D.val (Go.Value.int Go.IntKind.i64 (2 : Int)))]))
 (k [(D.val (Go.Value.int Go.IntKind.i64 (2 : Int)))]))
 (k [(D.val (Go.Value.int Go.IntKind.i64 (2 : Int)))]))
 (k [(D.val (Go.Value.int Go.IntKind.i64 (2 : Int)))]))
 (k [(D.val (Go.Value.int Go.IntKind.i64 (2 : Int)))]))
 (k [(D.val (Go.Value.int Go.IntKind.i64 (2 : Int)))]))
 (k [(D.val (Go.Value.int Go.IntKind.i64 (2 : Int)))]))
 (k [(D.val (Go.Value.int Go.IntKind.i64 (2 : Int)))]))
 (k [(D.val (Go.Value.int Go.IntKind.i64 (2 : Int)))]))
 (k [(D.val (Go.Value.int Go.IntKind.i64 (2 : Int)))]))
 (k [(D.val (Go.Value.int Go.IntKind.i64 (2 : Int)))]))
 (k [(D.val (Go.Value.int Go.IntKind.i64 (2 : Int)))]))
 (k [(D.val (Go.Value.int Go.IntKind.i64 (2 : Int)))]))
 (k [(D.val (Go.Value.int Go.IntKind.i64 (2 : Int)))]))
 (k [(D.val (Go.Value.int Go.IntKind.i64 (2 : Int)))])) := by kernel_rfl
def g21 (C : Ct) (L : AtLoop) (a b c d e f g h i : Int) (k : List D → Prop) : Prop := wpFn Tryz.prog (hV C) L 0 21 #[vRu a b c d e f g h i] (heapOf []) (dataK k)
theorem g21_text (C : Ct) (L : AtLoop) (a : Int) (b : Int) (c : Int) (d : Int) (e : Int) (f : Int) (g : Int) (h : Int) (i : Int) (k : List D → Prop) : g21 C L a b c d e f g h i k =
 (bcase (decide (a < 0))
 (k [(D.val (Go.Value.int Go.IntKind.i64 (2 : Int)))])
 (bcase (decide (a > 7))
 (k [(D.val (Go.Value.int Go.IntKind.i64 (2 : Int)))])
 (bcase (decide (b < 0))
 (k [(D.val (Go.Value.int Go.IntKind.i64 (2 : Int)))])
 (bcase (decide (b > 300000))
 (k [(D.val (Go.Value.int Go.IntKind.i64 (2 : Int)))])
 (bcase (decide (c < 0))
 (k [(D.val (Go.Value.int Go.IntKind.i64 (2 : Int)))])
 (bcase (decide (c > 300000))
 (k [(D.val (Go.Value.int Go.IntKind.i64 (2 : Int)))])
 (bcase (decide (d < 0))
 (k [(D.val (Go.Value.int Go.IntKind.i64 (2 : Int)))])
 (bcase (decide (d > 300000))
 (k [(D.val (Go.Value.int Go.IntKind.i64 (2 : Int)))])
 (bcase (decide (e < 0))
 (k [(D.val (Go.Value.int Go.IntKind.i64 (2 : Int)))])
 (bcase (decide (e > 99))
 (k [(D.val (Go.Value.int Go.IntKind.i64 (2 : Int)))])
 (bcase (decide (f < 0))
 (k [(D.val (Go.Value.int Go.IntKind.i64 (2 : Int)))])
 (bcase (decide (f > 70000))
 (k [(D.val (Go.Value.int Go.IntKind.i64 (2 : Int)))])
 (bcase (decide (g < 0))
 (k [(D.val (Go.Value.int Go.IntKind.i64 (2 : Int)))])
 (bcase (decide (g > 10000))
 (k [(D.val (Go.Value.int Go.IntKind.i64 (2 : Int)))])
 (bcase (decide (h < 0))
 (k [(D.val (Go.Value.int Go.IntKind.i64 (2 : Int)))])
 (bcase (decide (h > 10000))
 (k [(D.val (Go.Value.int Go.IntKind.i64 (2 : Int)))])
 (bcase (decide (i < 0))
 (k [(D.val (Go.Value.int Go.IntKind.i64 (2 : Int)))])
 (bcase (decide (i > 10000))
 (k [(D.val (Go.Value.int Go.IntKind.i64 (2 : Int)))])
 (k [(D.val (Go.Value.int Go.IntKind.i64 (0 : Int)))]))))))))))))))))))) := by kernel_rfl
def g46 (C : Ct) (L : AtLoop) (n cap : Nat) (l : List Value) (k : List D → Prop) : Prop := wpFn Tryz.prog (hV C) L 0 46 #[S500 n cap] (heapOf [I500 l]) (dataK k)
theorem g46_text (C : Ct) (L : AtLoop) (n : Nat) (cap : Nat) (l : List Go.Value) (k : List D → Prop) : g46 C L n cap l k =
 (bcase ((↑n : Int) == 0)
 (k [(D.val (Go.Value.int Go.IntKind.i64 (10 : Int)))])
 (bcase (decide ((↑n : Int) > 7))
 (k [(D.val (Go.Value.int Go.IntKind.i64 (8 : Int)))])
 (L 0 [(Prod.mk 0 (Go.Value.slice (Option.some (Go.Addr.mk 500 0 Option.none)) (n) (cap))), (Prod.mk 3 (Go.Value.int Go.IntKind.i64 (0 : Int)))] [(Prod.mk 500 (AObj.sym (l) false 4))]))) := by kernel_rfl
def g85 (C : Ct) (L : AtLoop) (n cap : Nat) (l : List Value) (k : List D → Prop) : Prop := wpFn Tryz.prog (hV C) L 0 85 #[S500 n cap] (heapOf [I500 l]) (dataK k)
theorem g85_text (C : Ct) (L : AtLoop) (n : Nat) (cap : Nat) (l : List Go.Value) (k : List D → Prop) : g85 C L n cap l k =
 (bcase ((↑n : Int) == 0)
 (k [(D.val (Go.Value.int Go.IntKind.i64 (10 : Int)))])
 (bcase (decide ((↑n : Int) > 7))
 (k [(D.val (Go.Value.int Go.IntKind.i64 (8 : Int)))])
 (L 1 [(Prod.mk 13 (Go.Value.slice (Option.some (Go.Addr.mk 500 0 Option.none)) (n) (cap))), (Prod.mk 14 (Go.Value.int Go.IntKind.i64 ((↑n : Int)))), (Prod.mk 15 (Go.Value.int Go.IntKind.i64 (0 : Int)))] [(Prod.mk 500 (AObj.sym (l) false 4))]))) := by kernel_rfl
def g17 (C : Ct) (L : AtLoop) (n cap : Nat) (l : List Value) (k : List D → Prop) : Prop := wpFn Tryz.prog (hV C) L 0 17 #[S500 n cap] (heapOf [I500 l]) (dataK k)
theorem g17_text (C : Ct) (L : AtLoop) (n : Nat) (cap : Nat) (l : List Go.Value) (k : List D → Prop) : g17 C L n cap l k =
 (bcase (decide (0 + n * 4 ≤ List.length l))
 (bcase (n == 0)
 (((0 = 0) ∧
 (0 = 0)) ∧
 (k [(D.sl 0 4 [])]))
 (bcase (decide (0 < 0 + n))
 (bcase (decide ((2 * (0 + n) + 768) * 32 ≤ 281474976710656))
 (bcase (decide (0 + n ≤ 1099511627776))
 ((((0 + n) = (0 + n)) ∧
 ((List.length (List.take 0 (List.drop 0 []) ++ List.take (n * 4) (List.drop 0 l))) = ((0 + n) * 4))) ∧
 (k [(D.sl (0 + n) 4 ([] ++ (List.take (n * 4) (List.drop 0 l))))]))
 False)
 False)
 False))
 False) := by kernel_rfl
def g18 (C : Ct) (L : AtLoop) (n cap : Nat) (l : List Value) (k : List D → Prop) : Prop := wpFn Tryz.prog (hV C) L 0 18 #[S500 n cap] (heapOf [Q500 l]) (dataK k)
theorem g18_text (C : Ct) (L : AtLoop) (n : Nat) (cap : Nat) (l : List Go.Value) (k : List D → Prop) : g18 C L n cap l k =
 (bcase (decide (0 + n * 1 ≤ List.length l))
 (bcase (n == 0)
 (((0 = 0) ∧
 (0 = 0)) ∧
 (k [(D.sl 0 1 [])]))
 (bcase (decide (0 < 0 + n))
 (bcase (decide ((2 * (0 + n) + 768) * 8 ≤ 281474976710656))
 (bcase (decide (0 + n ≤ 1099511627776))
 ((((0 + n) = (0 + n)) ∧
 ((List.length (List.take 0 (List.drop 0 []) ++ List.take (n * 1) (List.drop 0 l))) = ((0 + n) * 1))) ∧
 (k [(D.sl (0 + n) 1 ([] ++ (List.take (n * 1) (List.drop 0 l))))]))
 False)
 False)
 False))
 False) := by kernel_rfl
def g92 (C : Ct) (L : AtLoop) (n cap : Nat) (l : List Value) (x : Int) (k : List D → Prop) : Prop := wpFn Tryz.prog (hV C) L 0 92 #[S500 n cap, .int .i64 x] (heapOf [Q500 l]) (dataK k)
theorem g92_text (C : Ct) (L : AtLoop) (n : Nat) (cap : Nat) (l : List Go.Value) (x : Int) (k : List D → Prop) : g92 C L n cap l x k =
 (L 0 [(Prod.mk 0 (Go.Value.slice (Option.some (Go.Addr.mk 500 0 Option.none)) (n) (cap))), (Prod.mk 1 (Go.Value.int Go.IntKind.i64 (x))), (Prod.mk 7 (Go.Value.int Go.IntKind.i64 ((↑n : Int)))), (Prod.mk 8 (Go.Value.int Go.IntKind.i64 (0 : Int)))] [(Prod.mk 500 (AObj.sym (l) false 1))]) := by kernel_rfl
def g69 (C : Ct) (L : AtLoop) (n cap : Nat) (l : List Value) (x : Int) (k : List D → Prop) : Prop := wpFn Tryz.prog (hV C) L 0 69 #[S500 n cap, .int .i64 x] (heapOf [Q500 l]) (dataK k)
theorem g69_text (C : Ct) (L : AtLoop) (n : Nat) (cap : Nat) (l : List Go.Value) (x : Int) (k : List D → Prop) : g69 C L n cap l x k =
 (bcase (decide (0 + n * 1 ≤ List.length l))
 (∃ n1 : Int,
 ((Says C 92 [(D.sl (n) 1 (List.take (n * 1) (List.drop 0 l))), (D.val (Go.Value.int Go.IntKind.i64 (x)))] [(D.val (Go.Value.int Go.IntKind.i64 (n1)))]) ∧
 (bcase (decide (n1 ≥ 0))
 (k [(D.val (Go.Value.bool true))])
 (k [(D.val (Go.Value.bool false))]))))
 False) := by kernel_rfl
def g47 (C : Ct) (L : AtLoop) (n cap : Nat) (l : List Value) (x : Int) (k : List D → Prop) : Prop := wpFn Tryz.prog (hV C) L 0 47 #[S500 n cap, .int .i64 x] (heapOf [Q500 l]) (dataK k)
theorem g47_text (C : Ct) (L : AtLoop) (n : Nat) (cap : Nat) (l : List Go.Value) (x : Int) (k : List D → Prop) : g47 C L n cap l x k =
 (L 0 [(Prod.mk 0 (Go.Value.slice (Option.some (Go.Addr.mk 500 0 Option.none)) (n) (cap))), (Prod.mk 1 (Go.Value.int Go.IntKind.i64 (x))), (Prod.mk 5 (Go.Value.int Go.IntKind.i64 (0 : Int)))] [(Prod.mk 500 (AObj.sym (l) false 1))]) := by kernel_rfl
abbrev Q501 (l : List Value) : Nat × AObj := (501, .sym l false 1)
abbrev S501 (n cap : Nat) : Value := .slice (some ⟨501, 0, none⟩) n cap
def g23 (C : Ct) (L : AtLoop) (n cap : Nat) (l : List Value) (m cap2 : Nat) (q : List Value) (k : List D → Prop) : Prop := wpFn Tryz.prog (hV C) L 0 23 #[S500 n cap, S501 m cap2] (heapOf [I500 l, Q501 q]) (dataK k)
theorem g23_text (C : Ct) (L : AtLoop) (n : Nat) (cap : Nat) (l : List Go.Value) (m : Nat) (cap2 : Nat) (q : List Go.Value) (k : List D → Prop) : g23 C L n cap l m cap2 q k =
 (L 0 [(Prod.mk 0 (Go.Value.slice (Option.some (Go.Addr.mk 500 0 Option.none)) (n) (cap))), (Prod.mk 1 (Go.Value.slice (Option.some (Go.Addr.mk 501 0 Option.none)) (m) (cap2))), (Prod.mk 5 (Go.Value.int Go.IntKind.i64 (0 : Int)))] [(Prod.mk 500 (AObj.sym (l) false 4)), (Prod.mk 501 (AObj.sym (q) false 1))]) := by kernel_rfl
def g24 (C : Ct) (L : AtLoop) (a b c d e f g h i : Int) (n cap : Nat) (l : List Value) (m cap2 : Nat) (q : List Value) (k : List D → Prop) : Prop := wpFn Tryz.prog (hV C) L 0 24 #[vRu a b c d e f g h i, S500 n cap, S501 m cap2] (heapOf [I500 l, Q501 q]) (dataK k)
theorem g24_text (C : Ct) (L : AtLoop) (a : Int) (b : Int) (c : Int) (d : Int) (e : Int) (f : Int) (g : Int) (h : Int) (i : Int) (n : Nat) (cap : Nat) (l : List Go.Value) (m : Nat) (cap2 : Nat) (q : List Go.Value) (k : List D → Prop) : g24 C L a b c d e f g h i n cap l m cap2 q k =
 (L 0 [(Prod.mk 1 (Go.Value.slice (Option.some (Go.Addr.mk 500 0 Option.none)) (n) (cap))), (Prod.mk 2 (Go.Value.slice (Option.some (Go.Addr.mk 501 0 Option.none)) (m) (cap2))), (Prod.mk 3 (Go.Value.pointer (Option.some (Go.Addr.mk 1000 0 Option.none)))), (Prod.mk 6 (Go.Value.pointer (Option.some (Go.Addr.mk 1001 0 Option.none)))), (Prod.mk 8 (Go.Value.int Go.IntKind.i64 (0 : Int))), (Prod.mk 9 (Go.Value.int Go.IntKind.i64 (0 : Int)))] [(Prod.mk 500 (AObj.sym (l) false 4)), (Prod.mk 501 (AObj.sym (q) false 1)), (Prod.mk 1000 (AObj.cells [(Go.Value.int Go.IntKind.i64 (a)), (Go.Value.int Go.IntKind.i64 (b)), (Go.Value.int Go.IntKind.i64 (c)), (Go.Value.int Go.IntKind.i64 (d)), (Go.Value.int Go.IntKind.i64 (e)), (Go.Value.int Go.IntKind.i64 (f)), (Go.Value.int Go.IntKind.i64 (g)), (Go.Value.int Go.IntKind.i64 (h)), (Go.Value.int Go.IntKind.i64 (i))] 42 false 1)), (Prod.mk 1001 (AObj.cells [(Go.Value.int Go.IntKind.i64 (0 : Int)), (Go.Value.int Go.IntKind.i64 (0 : Int))] 47 false 2))]) := by kernel_rfl
def g25 (C : Ct) (L : AtLoop) (a b c d e f g h i : Int) (n cap : Nat) (l : List Value) (m cap2 : Nat) (q : List Value) (k : List D → Prop) : Prop := wpFn Tryz.prog (hV C) L 0 25 #[vRu a b c d e f g h i, S500 n cap, S501 m cap2] (heapOf [I500 l, Q501 q]) (dataK k)
theorem g25_text (C : Ct) (L : AtLoop) (a : Int) (b : Int) (c : Int) (d : Int) (e : Int) (f : Int) (g : Int) (h : Int) (i : Int) (n : Nat) (cap : Nat) (l : List Go.Value) (m : Nat) (cap2 : Nat) (q : List Go.Value) (k : List D → Prop) : g25 C L a b c d e f g h i n cap l m cap2 q k =
 (L 0 [(Prod.mk 1 (Go.Value.slice (Option.some (Go.Addr.mk 500 0 Option.none)) (n) (cap))), (Prod.mk 2 (Go.Value.slice (Option.some (Go.Addr.mk 501 0 Option.none)) (m) (cap2))), (Prod.mk 3 (Go.Value.pointer (Option.some (Go.Addr.mk 1000 0 Option.none)))), (Prod.mk 7 (Go.Value.int Go.IntKind.i64 (0 : Int))), (Prod.mk 8 (Go.Value.int Go.IntKind.i64 (1 : Int)))] [(Prod.mk 500 (AObj.sym (l) false 4)), (Prod.mk 501 (AObj.sym (q) false 1)), (Prod.mk 1000 (AObj.cells [(Go.Value.int Go.IntKind.i64 (a)), (Go.Value.int Go.IntKind.i64 (b)), (Go.Value.int Go.IntKind.i64 (c)), (Go.Value.int Go.IntKind.i64 (d)), (Go.Value.int Go.IntKind.i64 (e)), (Go.Value.int Go.IntKind.i64 (f)), (Go.Value.int Go.IntKind.i64 (g)), (Go.Value.int Go.IntKind.i64 (h)), (Go.Value.int Go.IntKind.i64 (i))] 42 false 1))]) := by kernel_rfl
abbrev vMix (a b c d e f g h i : Int) (s : Value) : Value := .agg #[.int .i64 a, .int .i64 b, .int .i64 c, .int .i64 d, .int .i64 e, .int .i64 f, .int .i64 g, .int .i64 h, .int .i64 i, s]
def g70 (C : Ct) (L : AtLoop) (a b c d e f g h i : Int) (n cap : Nat) (l : List Value) (m cap2 : Nat) (q : List Value) (p : Int) (k : List D → Prop) : Prop := wpFn Tryz.prog (hV C) L 0 70 #[vMix a b c d e f g h i (S500 n cap), S501 m cap2, .int .i64 p] (heapOf [I500 l, Q501 q]) (dataK k)
theorem g70_text (C : Ct) (L : AtLoop) (a : Int) (b : Int) (c : Int) (d : Int) (e : Int) (f : Int) (g : Int) (h : Int) (i : Int) (n : Nat) (cap : Nat) (l : List Go.Value) (m : Nat) (cap2 : Nat) (q : List Go.Value) (p : Int) (k : List D → Prop) : g70 C L a b c d e f g h i n cap l m cap2 q p k =
 (bcase (decide (0 ≤ Go.IntKind.wrap Go.IntKind.i64 (p + 1)))
 (bcase (decide (Go.IntKind.wrap Go.IntKind.i64 (p + 1) ≤ (↑cap2 : Int)))
 (L 0 [(Prod.mk 1 (Go.Value.slice (Option.some (Go.Addr.mk 501 0 Option.none)) (m) (cap2))), (Prod.mk 2 (Go.Value.int Go.IntKind.i64 (p))), (Prod.mk 3 (Go.Value.pointer (Option.some (Go.Addr.mk 1000 0 Option.none)))), (Prod.mk 6 (Go.Value.pointer (Option.some (Go.Addr.mk 1001 0 Option.none)))), (Prod.mk 7 (Go.Value.pointer (Option.some (Go.Addr.mk 1002 0 Option.none)))), (Prod.mk 8 (Go.Value.int Go.IntKind.i64 (0 : Int))), (Prod.mk 17 (Go.Value.slice (Option.some (Go.Addr.mk 501 0 Option.none)) (Int.toNat (Go.IntKind.wrap Go.IntKind.i64 (p + 1)) - 0) (cap2 - 0))), (Prod.mk 18 (Go.Value.int Go.IntKind.i64 ((↑(Int.toNat (Go.IntKind.wrap Go.IntKind.i64 (p + 1)) - 0) : Int)))), (Prod.mk 19 (Go.Value.int Go.IntKind.i64 (0 : Int)))] [(Prod.mk 501 (AObj.sym (q) false 1)), (Prod.mk 1000 (AObj.cells [(Go.Value.int Go.IntKind.i64 (a)), (Go.Value.int Go.IntKind.i64 (b)), (Go.Value.int Go.IntKind.i64 (c)), (Go.Value.int Go.IntKind.i64 (d)), (Go.Value.int Go.IntKind.i64 (e)), (Go.Value.int Go.IntKind.i64 (f)), (Go.Value.int Go.IntKind.i64 (g)), (Go.Value.int Go.IntKind.i64 (h)), (Go.Value.int Go.IntKind.i64 (i)), (Go.Value.slice (Option.some (Go.Addr.mk 500 0 Option.none)) (n) (cap))] 82 false 1)), (Prod.mk 1001 (AObj.cells [(Go.Value.bool false), (Go.Value.bool false), (Go.Value.bool false), (Go.Value.bool false), (Go.Value.bool false)] 116 false 1)), (Prod.mk 1002 (AObj.cells [(Go.Value.bool false), (Go.Value.bool false), (Go.Value.bool false), (Go.Value.bool false), (Go.Value.bool false)] 116 false 1)), (Prod.mk 500 (AObj.sym (l) false 4))])
 False)
 False) := by kernel_rfl
def g43 (C : Ct) (L : AtLoop) (a b c d e f g h i : Int) (n cap : Nat) (l : List Value) (m cap2 : Nat) (q : List Value) (K : Value → Blocks → Prop) : Prop := wpFn Tryz.prog (hV C) L 0 43 #[vRu a b c d e f g h i, S500 n cap, S501 m cap2] (heapOf [I500 l, Q501 q]) (stateK K)
theorem g43_text (C : Ct) (L : AtLoop) (a : Int) (b : Int) (c : Int) (d : Int) (e : Int) (f : Int) (g : Int) (h : Int) (i : Int) (n : Nat) (cap : Nat) (l : List Go.Value) (m : Nat) (cap2 : Nat) (q : List Go.Value) (K : Go.Value → Blocks → Prop) : g43 C L a b c d e f g h i n cap l m cap2 q K =
 (∃ n1 : Int,
 ((Says C 21 [(D.agg [(D.val (Go.Value.int Go.IntKind.i64 (a))), (D.val (Go.Value.int Go.IntKind.i64 (b))), (D.val (Go.Value.int Go.IntKind.i64 (c))), (D.val (Go.Value.int Go.IntKind.i64 (d))), (D.val (Go.Value.int Go.IntKind.i64 (e))), (D.val (Go.Value.int Go.IntKind.i64 (f))), (D.val (Go.Value.int Go.IntKind.i64 (g))), (D.val (Go.Value.int Go.IntKind.i64 (h))), (D.val (Go.Value.int Go.IntKind.i64 (i)))])] [(D.val (Go.Value.int Go.IntKind.i64 (n1)))]) ∧
 (bcase (decide (0 + n * 4 ≤ List.length l))
 (∃ n2 : Int,
 ((Says C 85 [(D.sl (n) 4 (List.take (n * 4) (List.drop 0 l)))] [(D.val (Go.Value.int Go.IntKind.i64 (n2)))]) ∧
 (bcase (n1 != 0)
 (bcase (n1 != 0)
 (bcase (n1 != 0)
 (K (Go.Value.tuple [(Go.Value.agg [(Go.Value.int Go.IntKind.i64 (0 : Int)), (Go.Value.int Go.IntKind.i64 (0 : Int)), (Go.Value.int Go.IntKind.i64 (0 : Int)), (Go.Value.int Go.IntKind.i64 (0 : Int)), (Go.Value.int Go.IntKind.i64 (0 : Int)), (Go.Value.int Go.IntKind.i64 (0 : Int)), (Go.Value.int Go.IntKind.i64 (0 : Int)), (Go.Value.int Go.IntKind.i64 (0 : Int)), (Go.Value.int Go.IntKind.i64 (0 : Int)), (Go.Value.slice Option.none 0 0)].toArray), (Go.Value.int Go.IntKind.i64 (n1))].toArray) [])
 (L 0 [(Prod.mk 1 (Go.Value.slice (Option.some (Go.Addr.mk 500 0 Option.none)) (n) (cap))), (Prod.mk 2 (Go.Value.slice (Option.some (Go.Addr.mk 501 0 Option.none)) (m) (cap2))), (Prod.mk 6 (Go.Value.pointer (Option.some (Go.Addr.mk 1000 0 Option.none)))), (Prod.mk 8 (Go.Value.pointer (Option.some (Go.Addr.mk 1001 0 Option.none)))), (Prod.mk 22 (Go.Value.slice (Option.some (Go.Addr.mk 501 0 Option.none)) (m) (cap2))), (Prod.mk 23 (Go.Value.int Go.IntKind.i64 ((↑m : Int)))), (Prod.mk 24 (Go.Value.int Go.IntKind.i64 (0 : Int)))] [(Prod.mk 500 (AObj.sym (l) false 4)), (Prod.mk 501 (AObj.sym (q) false 1)), (Prod.mk 1000 (AObj.cells [(Go.Value.int Go.IntKind.i64 (0 : Int)), (Go.Value.int Go.IntKind.i64 (0 : Int)), (Go.Value.int Go.IntKind.i64 (0 : Int)), (Go.Value.int Go.IntKind.i64 (0 : Int)), (Go.Value.int Go.IntKind.i64 (0 : Int)), (Go.Value.int Go.IntKind.i64 (0 : Int)), (Go.Value.int Go.IntKind.i64 (0 : Int)), (Go.Value.int Go.IntKind.i64 (0 : Int)), (Go.Value.int Go.IntKind.i64 (0 : Int)), (Go.Value.slice Option.none 0 0)] 82 false 10)), (Prod.mk 1001 (AObj.cells [(Go.Value.int Go.IntKind.i64 (0 : Int)), (Go.Value.int Go.IntKind.i64 (0 : Int)), (Go.Value.int Go.IntKind.i64 (0 : Int)), (Go.Value.int Go.IntKind.i64 (0 : Int)), (Go.Value.int Go.IntKind.i64 (0 : Int)), (Go.Value.int Go.IntKind.i64 (0 : Int)), (Go.Value.int Go.IntKind.i64 (0 : Int)), (Go.Value.int Go.IntKind.i64 (0 : Int)), (Go.Value.int Go.IntKind.i64 (0 : Int)), (Go.Value.slice Option.none 0 0)] 82 false 10))]))
 (L 0 [(Prod.mk 1 (Go.Value.slice (Option.some (Go.Addr.mk 500 0 Option.none)) (n) (cap))), (Prod.mk 2 (Go.Value.slice (Option.some (Go.Addr.mk 501 0 Option.none)) (m) (cap2))), (Prod.mk 6 (Go.Value.pointer (Option.some (Go.Addr.mk 1000 0 Option.none)))), (Prod.mk 8 (Go.Value.pointer (Option.some (Go.Addr.mk 1001 0 Option.none)))), (Prod.mk 22 (Go.Value.slice (Option.some (Go.Addr.mk 501 0 Option.none)) (m) (cap2))), (Prod.mk 23 (Go.Value.int Go.IntKind.i64 ((↑m : Int)))), (Prod.mk 24 (Go.Value.int Go.IntKind.i64 (0 : Int)))] [(Prod.mk 500 (AObj.sym (l) false 4)), (Prod.mk 501 (AObj.sym (q) false 1)), (Prod.mk 1000 (AObj.cells [(Go.Value.int Go.IntKind.i64 (0 : Int)), (Go.Value.int Go.IntKind.i64 (0 : Int)), (Go.Value.int Go.IntKind.i64 (0 : Int)), (Go.Value.int Go.IntKind.i64 (0 : Int)), (Go.Value.int Go.IntKind.i64 (0 : Int)), (Go.Value.int Go.IntKind.i64 (0 : Int)), (Go.Value.int Go.IntKind.i64 (0 : Int)), (Go.Value.int Go.IntKind.i64 (0 : Int)), (Go.Value.int Go.IntKind.i64 (0 : Int)), (Go.Value.slice Option.none 0 0)] 82 false 10)), (Prod.mk 1001 (AObj.cells [(Go.Value.int Go.IntKind.i64 (a)), (Go.Value.int Go.IntKind.i64 (b)), (Go.Value.int Go.IntKind.i64 (c)), (Go.Value.int Go.IntKind.i64 (d)), (Go.Value.int Go.IntKind.i64 (e)), (Go.Value.int Go.IntKind.i64 (f)), (Go.Value.int Go.IntKind.i64 (g)), (Go.Value.int Go.IntKind.i64 (h)), (Go.Value.int Go.IntKind.i64 (i)), (Go.Value.slice (Option.some (Go.Addr.mk 500 0 Option.none)) (n) (cap))] 82 false 10))]))
 (bcase (n2 != 0)
 (bcase (n2 != 0)
 (bcase (n2 != 0)
 (K (Go.Value.tuple [(Go.Value.agg [(Go.Value.int Go.IntKind.i64 (0 : Int)), (Go.Value.int Go.IntKind.i64 (0 : Int)), (Go.Value.int Go.IntKind.i64 (0 : Int)), (Go.Value.int Go.IntKind.i64 (0 : Int)), (Go.Value.int Go.IntKind.i64 (0 : Int)), (Go.Value.int Go.IntKind.i64 (0 : Int)), (Go.Value.int Go.IntKind.i64 (0 : Int)), (Go.Value.int Go.IntKind.i64 (0 : Int)), (Go.Value.int Go.IntKind.i64 (0 : Int)), (Go.Value.slice Option.none 0 0)].toArray), (Go.Value.int Go.IntKind.i64 (n2))].toArray) [])
 (L 0 [(Prod.mk 1 (Go.Value.slice (Option.some (Go.Addr.mk 500 0 Option.none)) (n) (cap))), (Prod.mk 2 (Go.Value.slice (Option.some (Go.Addr.mk 501 0 Option.none)) (m) (cap2))), (Prod.mk 6 (Go.Value.pointer (Option.some (Go.Addr.mk 1000 0 Option.none)))), (Prod.mk 8 (Go.Value.pointer (Option.some (Go.Addr.mk 1001 0 Option.none)))), (Prod.mk 22 (Go.Value.slice (Option.some (Go.Addr.mk 501 0 Option.none)) (m) (cap2))), (Prod.mk 23 (Go.Value.int Go.IntKind.i64 ((↑m : Int)))), (Prod.mk 24 (Go.Value.int Go.IntKind.i64 (0 : Int)))] [(Prod.mk 500 (AObj.sym (l) false 4)), (Prod.mk 501 (AObj.sym (q) false 1)), (Prod.mk 1000 (AObj.cells [(Go.Value.int Go.IntKind.i64 (0 : Int)), (Go.Value.int Go.IntKind.i64 (0 : Int)), (Go.Value.int Go.IntKind.i64 (0 : Int)), (Go.Value.int Go.IntKind.i64 (0 : Int)), (Go.Value.int Go.IntKind.i64 (0 : Int)), (Go.Value.int Go.IntKind.i64 (0 : Int)), (Go.Value.int Go.IntKind.i64 (0 : Int)), (Go.Value.int Go.IntKind.i64 (0 : Int)), (Go.Value.int Go.IntKind.i64 (0 : Int)), (Go.Value.slice Option.none 0 0)] 82 false 10)), (Prod.mk 1001 (AObj.cells [(Go.Value.int Go.IntKind.i64 (0 : Int)), (Go.Value.int Go.IntKind.i64 (0 : Int)), (Go.Value.int Go.IntKind.i64 (0 : Int)), (Go.Value.int Go.IntKind.i64 (0 : Int)), (Go.Value.int Go.IntKind.i64 (0 : Int)), (Go.Value.int Go.IntKind.i64 (0 : Int)), (Go.Value.int Go.IntKind.i64 (0 : Int)), (Go.Value.int Go.IntKind.i64 (0 : Int)), (Go.Value.int Go.IntKind.i64 (0 : Int)), (Go.Value.slice Option.none 0 0)] 82 false 10))]))
 (L 0 [(Prod.mk 1 (Go.Value.slice (Option.some (Go.Addr.mk 500 0 Option.none)) (n) (cap))), (Prod.mk 2 (Go.Value.slice (Option.some (Go.Addr.mk 501 0 Option.none)) (m) (cap2))), (Prod.mk 6 (Go.Value.pointer (Option.some (Go.Addr.mk 1000 0 Option.none)))), (Prod.mk 8 (Go.Value.pointer (Option.some (Go.Addr.mk 1001 0 Option.none)))), (Prod.mk 22 (Go.Value.slice (Option.some (Go.Addr.mk 501 0 Option.none)) (m) (cap2))), (Prod.mk 23 (Go.Value.int Go.IntKind.i64 ((↑m : Int)))), (Prod.mk 24 (Go.Value.int Go.IntKind.i64 (0 : Int)))] [(Prod.mk 500 (AObj.sym (l) false 4)), (Prod.mk 501 (AObj.sym (q) false 1)), (Prod.mk 1000 (AObj.cells [(Go.Value.int Go.IntKind.i64 (0 : Int)), (Go.Value.int Go.IntKind.i64 (0 : Int)), (Go.Value.int Go.IntKind.i64 (0 : Int)), (Go.Value.int Go.IntKind.i64 (0 : Int)), (Go.Value.int Go.IntKind.i64 (0 : Int)), (Go.Value.int Go.IntKind.i64 (0 : Int)), (Go.Value.int Go.IntKind.i64 (0 : Int)), (Go.Value.int Go.IntKind.i64 (0 : Int)), (Go.Value.int Go.IntKind.i64 (0 : Int)), (Go.Value.slice Option.none 0 0)] 82 false 10)), (Prod.mk 1001 (AObj.cells [(Go.Value.int Go.IntKind.i64 (a)), (Go.Value.int Go.IntKind.i64 (b)), (Go.Value.int Go.IntKind.i64 (c)), (Go.Value.int Go.IntKind.i64 (d)), (Go.Value.int Go.IntKind.i64 (e)), (Go.Value.int Go.IntKind.i64 (f)), (Go.Value.int Go.IntKind.i64 (g)), (Go.Value.int Go.IntKind.i64 (h)), (Go.Value.int Go.IntKind.i64 (i)), (Go.Value.slice (Option.some (Go.Addr.mk 500 0 Option.none)) (n) (cap))] 82 false 10))]))
 (L 0 [(Prod.mk 1 (Go.Value.slice (Option.some (Go.Addr.mk 500 0 Option.none)) (n) (cap))), (Prod.mk 2 (Go.Value.slice (Option.some (Go.Addr.mk 501 0 Option.none)) (m) (cap2))), (Prod.mk 6 (Go.Value.pointer (Option.some (Go.Addr.mk 1000 0 Option.none)))), (Prod.mk 8 (Go.Value.pointer (Option.some (Go.Addr.mk 1001 0 Option.none)))), (Prod.mk 22 (Go.Value.slice (Option.some (Go.Addr.mk 501 0 Option.none)) (m) (cap2))), (Prod.mk 23 (Go.Value.int Go.IntKind.i64 ((↑m : Int)))), (Prod.mk 24 (Go.Value.int Go.IntKind.i64 (0 : Int)))] [(Prod.mk 500 (AObj.sym (l) false 4)), (Prod.mk 501 (AObj.sym (q) false 1)), (Prod.mk 1000 (AObj.cells [(Go.Value.int Go.IntKind.i64 (0 : Int)), (Go.Value.int Go.IntKind.i64 (0 : Int)), (Go.Value.int Go.IntKind.i64 (0 : Int)), (Go.Value.int Go.IntKind.i64 (0 : Int)), (Go.Value.int Go.IntKind.i64 (0 : Int)), (Go.Value.int Go.IntKind.i64 (0 : Int)), (Go.Value.int Go.IntKind.i64 (0 : Int)), (Go.Value.int Go.IntKind.i64 (0 : Int)), (Go.Value.int Go.IntKind.i64 (0 : Int)), (Go.Value.slice Option.none 0 0)] 82 false 10)), (Prod.mk 1001 (AObj.cells [(Go.Value.int Go.IntKind.i64 (a)), (Go.Value.int Go.IntKind.i64 (b)), (Go.Value.int Go.IntKind.i64 (c)), (Go.Value.int Go.IntKind.i64 (d)), (Go.Value.int Go.IntKind.i64 (e)), (Go.Value.int Go.IntKind.i64 (f)), (Go.Value.int Go.IntKind.i64 (g)), (Go.Value.int Go.IntKind.i64 (h)), (Go.Value.int Go.IntKind.i64 (i)), (Go.Value.slice (Option.some (Go.Addr.mk 500 0 Option.none)) (n) (cap))] 82 false 10))])))))
 False))) := by kernel_rfl
abbrev s46 (n cap : Nat) (i : Int) : Slots := [(0, S500 n cap), (3, .int .i64 i)]
def r46 (C : Ct) (L : AtLoop) (n cap : Nat) (l : List Value) (i : Int) (B : Bx) (X : Xx) (k : List D → Prop) : Prop := wpRound Tryz.prog (hV C) L 46 0 (s46 n cap i) [I500 l] B X (dataK k)
theorem r46_text (C : Ct) (L : AtLoop) (n : Nat) (cap : Nat) (l : List Go.Value) (i : Int) (B : Bx) (X : Xx) (k : List D → Prop) : r46 C L n cap l i B X k =
 (bcase (decide (i < (↑n : Int)))
 (bcase (decide (0 ≤ i))
 (bcase (decide (i < (↑n : Int)))
 (∃ n1 : Int,
 ((At (l) (0 + Int.toNat i * 4) 1 [(Go.Value.int Go.IntKind.i64 (n1))]) ∧
 (bcase (decide (500 ≤ n1))
 (bcase (decide (n1 ≤ 2500))
 (bcase (decide (0 ≤ i))
 (bcase (decide (i < (↑n : Int)))
 (∃ n2 : Int,
 ((At (l) (Go.Addr.off { block := 500, off := 0 + Int.toNat i * 4 } + 1) 1 [(Go.Value.int Go.IntKind.i64 (n2))]) ∧
 (bcase (decide (1 ≤ n2))
 (bcase (decide (n2 ≤ 300000))
 (bcase (decide (0 ≤ i))
 (bcase (decide (i < (↑n : Int)))
 (∃ n3 : Int,
 ((At (l) (Go.Addr.off { block := 500, off := 0 + Int.toNat i * 4 } + 2) 1 [(Go.Value.int Go.IntKind.i64 (n3))]) ∧
 (bcase (decide (1 ≤ n3))
 (bcase (decide (n3 ≤ 99))
 (bcase (decide (0 ≤ i))
 (bcase (decide (i < (↑n : Int)))
 (∃ n4 : Int,
 ((At (l) (Go.Addr.off { block := 500, off := 0 + Int.toNat i * 4 } + 3) 1 [(Go.Value.int Go.IntKind.i64 (n4))]) ∧
 (bcase (decide (1 ≤ n4))
 (bcase (decide (n4 ≤ 10000))
 (B [(Prod.mk 0 (Go.Value.slice (Option.some (Go.Addr.mk 500 0 Option.none)) (n) (cap))), (Prod.mk 3 (Go.Value.int Go.IntKind.i64 (Go.IntKind.wrap Go.IntKind.i64 (i + 1))))] [(Prod.mk 500 (AObj.sym (l) false 4))])
 (k [(D.val (Go.Value.int Go.IntKind.i64 (2 : Int)))]))
 (k [(D.val (Go.Value.int Go.IntKind.i64 (2 : Int)))]))))
 False)
 False)
 (k [(D.val (Go.Value.int Go.IntKind.i64 (2 : Int)))]))
 (k [(D.val (Go.Value.int Go.IntKind.i64 (2 : Int)))]))))
 False)
 False)
 (k [(D.val (Go.Value.int Go.IntKind.i64 (2 : Int)))]))
 (k [(D.val (Go.Value.int Go.IntKind.i64 (2 : Int)))]))))
 False)
 False)
 (k [(D.val (Go.Value.int Go.IntKind.i64 (2 : Int)))]))
 (k [(D.val (Go.Value.int Go.IntKind.i64 (2 : Int)))]))))
 False)
 False)
 (X 0 [] [])) := by kernel_rfl
def n46 (C : Ct) (L : AtLoop) (k : List D → Prop) : Prop := wpNext Tryz.prog (hV C) L 46 0 .normal [] [] (dataK k)
theorem n46_text (C : Ct) (L : AtLoop) (k : List D → Prop) : n46 C L k =
 (k [(D.val (Go.Value.int Go.IntKind.i64 (0 : Int)))]) := by kernel_rfl
abbrev s85 (n cap : Nat) (i : Int) : Slots := [(13, S500 n cap), (14, .int .i64 (n : Int)), (15, .int .i64 i)]
def r85 (C : Ct) (L : AtLoop) (n cap : Nat) (l : List Value) (i : Int) (B : Bx) (X : Xx) (k : List D → Prop) : Prop := wpRound Tryz.prog (hV C) L 85 1 (s85 n cap i) [I500 l] B X (dataK k)
theorem r85_text (C : Ct) (L : AtLoop) (n : Nat) (cap : Nat) (l : List Go.Value) (i : Int) (B : Bx) (X : Xx) (k : List D → Prop) : r85 C L n cap l i B X k =
 (bcase (decide (i < (↑n : Int)))
 (bcase (decide (0 ≤ i))
 (bcase (decide (i < (↑n : Int)))
 (∃ n1 : Int,
 (∃ n2 : Int,
 (∃ n3 : Int,
 (∃ n4 : Int,
 ((At (l) (0 + Int.toNat i * 4) 4 [(Go.Value.int Go.IntKind.i64 (n1)), (Go.Value.int Go.IntKind.i64 (n2)), (Go.Value.int Go.IntKind.i64 (n3)), (Go.Value.int Go.IntKind.i64 (n4))]) ∧
 (bcase (decide (n1 < 500))
 (k [(D.val (Go.Value.int Go.IntKind.i64 (2 : Int)))])
 (bcase (decide (n1 > 2500))
 (k [(D.val (Go.Value.int Go.IntKind.i64 (2 : Int)))])
 (bcase (decide (n2 < 1))
 (k [(D.val (Go.Value.int Go.IntKind.i64 (2 : Int)))])
 (bcase (decide (n2 > 300000))
 (k [(D.val (Go.Value.int Go.IntKind.i64 (2 : Int)))])
 (bcase (decide (n3 < 1))
 (k [(D.val (Go.Value.int Go.IntKind.i64 (2 : Int)))])
 (bcase (decide (n3 > 99))
 (k [(D.val (Go.Value.int Go.IntKind.i64 (2 : Int)))])
 (bcase (decide (n4 < 1))
 (k [(D.val (Go.Value.int Go.IntKind.i64 (2 : Int)))])
 (bcase (decide (n4 > 10000))
 (k [(D.val (Go.Value.int Go.IntKind.i64 (2 : Int)))])
 (B [(Prod.mk 13 (Go.Value.slice (Option.some (Go.Addr.mk 500 0 Option.none)) (n) (cap))), (Prod.mk 14 (Go.Value.int Go.IntKind.i64 ((↑n : Int)))), (Prod.mk 15 (Go.Value.int Go.IntKind.i64 (Go.IntKind.wrap Go.IntKind.i64 (i + 1))))] [(Prod.mk 500 (AObj.sym (l) false 4))]))))))))))))))
 False)
 False)
 (X 1 [] [])) := by kernel_rfl
def n85 (C : Ct) (L : AtLoop) (k : List D → Prop) : Prop := wpNext Tryz.prog (hV C) L 85 1 .normal [] [] (dataK k)
theorem n85_text (C : Ct) (L : AtLoop) (k : List D → Prop) : n85 C L k =
 (k [(D.val (Go.Value.int Go.IntKind.i64 (0 : Int)))]) := by kernel_rfl
abbrev s92 (n cap : Nat) (x i : Int) : Slots := [(0, S500 n cap), (1, .int .i64 x), (7, .int .i64 (n : Int)), (8, .int .i64 i)]
def r92 (C : Ct) (L : AtLoop) (n cap : Nat) (l : List Value) (x i : Int) (B : Bx) (X : Xx) (k : List D → Prop) : Prop := wpRound Tryz.prog (hV C) L 92 0 (s92 n cap x i) [Q500 l] B X (dataK k)
theorem r92_text (C : Ct) (L : AtLoop) (n : Nat) (cap : Nat) (l : List Go.Value) (x : Int) (i : Int) (B : Bx) (X : Xx) (k : List D → Prop) : r92 C L n cap l x i B X k =
 (bcase (decide (i < (↑n : Int)))
 (bcase (decide (0 ≤ i))
 (bcase (decide (i < (↑n : Int)))
 (∃ n1 : Int,
 ((At (l) (0 + Int.toNat i * 1) 1 [(Go.Value.int Go.IntKind.i64 (n1))]) ∧
 (bcase (x == n1)
 (k [(D.val (Go.Value.int Go.IntKind.i64 (i)))])
 (B [(Prod.mk 0 (Go.Value.slice (Option.some (Go.Addr.mk 500 0 Option.none)) (n) (cap))), (Prod.mk 1 (Go.Value.int Go.IntKind.i64 (x))), (Prod.mk 7 (Go.Value.int Go.IntKind.i64 ((↑n : Int)))), (Prod.mk 8 (Go.Value.int Go.IntKind.i64 (Go.IntKind.wrap Go.IntKind.i64 (i + 1))))] [(Prod.mk 500 (AObj.sym (l) false 1))]))))
 False)
 False)
 (X 0 [] [])) := by kernel_rfl
def n92 (C : Ct) (L : AtLoop) (k : List D → Prop) : Prop := wpNext Tryz.prog (hV C) L 92 0 .normal [] [] (dataK k)
theorem n92_text (C : Ct) (L : AtLoop) (k : List D → Prop) : n92 C L k =
 (k [(D.val (Go.Value.int Go.IntKind.i64 (-(0 + 1) : Int)))]) := by kernel_rfl
abbrev s47 (n cap : Nat) (x i : Int) : Slots := [(0, S500 n cap), (1, .int .i64 x), (5, .int .i64 i)]
def r47 (C : Ct) (L : AtLoop) (n cap : Nat) (l : List Value) (x i : Int) (B : Bx) (X : Xx) (k : List D → Prop) : Prop := wpRound Tryz.prog (hV C) L 47 0 (s47 n cap x i) [Q500 l] B X (dataK k)
theorem r47_text (C : Ct) (L : AtLoop) (n : Nat) (cap : Nat) (l : List Go.Value) (x : Int) (i : Int) (B : Bx) (X : Xx) (k : List D → Prop) : r47 C L n cap l x i B X k =
 (bcase (decide (i < (↑n : Int)))
 (bcase (decide (0 ≤ i))
 (bcase (decide (i < (↑n : Int)))
 (∃ n1 : Int,
 ((At (l) (0 + Int.toNat i * 1) 1 [(Go.Value.int Go.IntKind.i64 (n1))]) ∧
 (bcase (n1 == x)
 (k [(D.val (Go.Value.bool true))])
 (B [(Prod.mk 0 (Go.Value.slice (Option.some (Go.Addr.mk 500 0 Option.none)) (n) (cap))), (Prod.mk 1 (Go.Value.int Go.IntKind.i64 (x))), (Prod.mk 5 (Go.Value.int Go.IntKind.i64 (Go.IntKind.wrap Go.IntKind.i64 (i + 1))))] [(Prod.mk 500 (AObj.sym (l) false 1))]))))
 False)
 False)
 (X 0 [] [])) := by kernel_rfl
def n47 (C : Ct) (L : AtLoop) (k : List D → Prop) : Prop := wpNext Tryz.prog (hV C) L 47 0 .normal [] [] (dataK k)
theorem n47_text (C : Ct) (L : AtLoop) (k : List D → Prop) : n47 C L k =
 (k [(D.val (Go.Value.bool false))]) := by kernel_rfl
abbrev s23 (n cap m cap2 : Nat) (i : Int) : Slots := [(0, S500 n cap), (1, S501 m cap2), (5, .int .i64 i)]
def r23 (C : Ct) (L : AtLoop) (n cap : Nat) (l : List Value) (m cap2 : Nat) (q : List Value) (i : Int) (B : Bx) (X : Xx) (k : List D → Prop) : Prop := wpRound Tryz.prog (hV C) L 23 0 (s23 n cap m cap2 i) [I500 l, Q501 q] B X (dataK k)
theorem r23_text (C : Ct) (L : AtLoop) (n : Nat) (cap : Nat) (l : List Go.Value) (m : Nat) (cap2 : Nat) (q : List Go.Value) (i : Int) (B : Bx) (X : Xx) (k : List D → Prop) : r23 C L n cap l m cap2 q i B X k =
 (bcase (decide (i < (↑m : Int)))
 (bcase (decide (0 ≤ i))
 (bcase (decide (i < (↑m : Int)))
 (∃ n1 : Int,
 ((At (q) (0 + Int.toNat i * 1) 1 [(Go.Value.int Go.IntKind.i64 (n1))]) ∧
 (bcase (decide (0 ≤ n1))
 (bcase (decide (n1 ≤ Go.IntKind.wrap Go.IntKind.i64 ((↑n : Int) - 1)))
 (bcase (decide (0 ≤ i))
 (bcase (decide (i ≤ (↑cap2 : Int)))
 (bcase (decide (0 ≤ i))
 (bcase (decide (i < (↑m : Int)))
 (∃ n2 : Int,
 ((At (q) (0 + Int.toNat i * 1) 1 [(Go.Value.int Go.IntKind.i64 (n2))]) ∧
 (((∃ n3 : Int,
 ((At (q) (0 + Int.toNat i * 1) 1 [(Go.Value.int Go.IntKind.i64 (n3))]) ∧
 ((Go.Value.int Go.IntKind.i64 (n3)) = (Go.Value.int Go.IntKind.i64 (n2))))) ∧
 ((bcase (decide (0 ≤ i))
 (bcase (decide (i < (↑m : Int)))
 ((Go.Value.pointer (Option.some (Go.Addr.mk 501 (0 + Int.toNat i * 1) Option.none))) = (Go.Value.pointer (Option.some (Go.Addr.mk 501 (0 + Int.toNat i * 1) Option.none))))
 False)
 False) ∧
 (((Go.Value.int Go.IntKind.i64 (i)) = (Go.Value.int Go.IntKind.i64 (i))) ∧
 (((Go.Value.slice (Option.some (Go.Addr.mk 501 0 Option.none)) (m) (cap2)) = (Go.Value.slice (Option.some (Go.Addr.mk 501 0 Option.none)) (m) (cap2))) ∧
 ((bcase (decide (0 ≤ i))
 (bcase (decide (i ≤ (↑cap2 : Int)))
 ((Go.Value.slice (Option.some (Go.Addr.mk 501 0 Option.none)) (Int.toNat i - 0) (cap2 - 0)) = (Go.Value.slice (Option.some (Go.Addr.mk 501 0 Option.none)) (Int.toNat i - 0) (cap2 - 0)))
 False)
 False) ∧
 (((Go.Value.int Go.IntKind.i64 (i)) = (Go.Value.int Go.IntKind.i64 (i))) ∧
 (((Go.Value.slice (Option.some (Go.Addr.mk 501 0 Option.none)) (m) (cap2)) = (Go.Value.slice (Option.some (Go.Addr.mk 501 0 Option.none)) (m) (cap2))) ∧
 True))))))) ∧
 (bcase (decide (0 + (Int.toNat i - 0) * 1 ≤ List.length q))
 (((Says C 47 [(D.sl (Int.toNat i - 0) 1 (List.take ((Int.toNat i - 0) * 1) (List.drop 0 q))), (D.val (Go.Value.int Go.IntKind.i64 (n2)))] [(D.val (Go.Value.bool true))]) ∧
 (((bcase (decide (0 ≤ i))
 (bcase (decide (i < (↑m : Int)))
 ((Go.Value.pointer (Option.some (Go.Addr.mk 501 (0 + Int.toNat i * 1) Option.none))) = (Go.Value.pointer (Option.some (Go.Addr.mk 501 (0 + Int.toNat i * 1) Option.none))))
 False)
 False) ∧
 (((Go.Value.int Go.IntKind.i64 (i)) = (Go.Value.int Go.IntKind.i64 (i))) ∧
 (((Go.Value.slice (Option.some (Go.Addr.mk 501 0 Option.none)) (m) (cap2)) = (Go.Value.slice (Option.some (Go.Addr.mk 501 0 Option.none)) (m) (cap2))) ∧
 (((Go.Value.int Go.IntKind.i64 (i)) = (Go.Value.int Go.IntKind.i64 (i))) ∧
 (((Go.Value.slice (Option.some (Go.Addr.mk 501 0 Option.none)) (m) (cap2)) = (Go.Value.slice (Option.some (Go.Addr.mk 501 0 Option.none)) (m) (cap2))) ∧
 True))))) ∧
 (k [(D.val (Go.Value.int Go.IntKind.i64 (23 : Int)))]))) ∨
 ((Says C 47 [(D.sl (Int.toNat i - 0) 1 (List.take ((Int.toNat i - 0) * 1) (List.drop 0 q))), (D.val (Go.Value.int Go.IntKind.i64 (n2)))] [(D.val (Go.Value.bool false))]) ∧
 (((bcase (decide (0 ≤ i))
 (bcase (decide (i < (↑m : Int)))
 ((Go.Value.pointer (Option.some (Go.Addr.mk 501 (0 + Int.toNat i * 1) Option.none))) = (Go.Value.pointer (Option.some (Go.Addr.mk 501 (0 + Int.toNat i * 1) Option.none))))
 False)
 False) ∧
 (((Go.Value.int Go.IntKind.i64 (i)) = (Go.Value.int Go.IntKind.i64 (i))) ∧
 (((Go.Value.slice (Option.some (Go.Addr.mk 501 0 Option.none)) (m) (cap2)) = (Go.Value.slice (Option.some (Go.Addr.mk 501 0 Option.none)) (m) (cap2))) ∧
 (((Go.Value.int Go.IntKind.i64 (i)) = (Go.Value.int Go.IntKind.i64 (i))) ∧
 (((Go.Value.slice (Option.some (Go.Addr.mk 501 0 Option.none)) (m) (cap2)) = (Go.Value.slice (Option.some (Go.Addr.mk 501 0 Option.none)) (m) (cap2))) ∧
 True))))) ∧
 (B [(Prod.mk 0 (Go.Value.slice (Option.some (Go.Addr.mk 500 0 Option.none)) (n) (cap))), (Prod.mk 1 (Go.Value.slice (Option.some (Go.Addr.mk 501 0 Option.none)) (m) (cap2))), (Prod.mk 5 (Go.Value.int Go.IntKind.i64 (Go.IntKind.wrap Go.IntKind.i64 (i + 1))))] [(Prod.mk 500 (AObj.sym (l) false 4)), (Prod.mk 501 (AObj.sym (q) false 1))]))))
 False))))
 False)
 False)
 False)
 False)
 (k [(D.val (Go.Value.int Go.IntKind.i64 (6 : Int)))]))
 (k [(D.val (Go.Value.int Go.IntKind.i64 (6 : Int)))]))))
 False)
 False)
 (X 0 [] [])) := by kernel_rfl
def n23 (C : Ct) (L : AtLoop) (k : List D → Prop) : Prop := wpNext Tryz.prog (hV C) L 23 0 .normal [] [] (dataK k)
theorem n23_text (C : Ct) (L : AtLoop) (k : List D → Prop) : n23 C L k =
 (k [(D.val (Go.Value.int Go.IntKind.i64 (0 : Int)))]) := by kernel_rfl
abbrev M1000 (a b c d e f g h i : Int) (s : Value) : Nat × AObj := (1000, .cells [.int .i64 a, .int .i64 b, .int .i64 c, .int .i64 d, .int .i64 e, .int .i64 f, .int .i64 g, .int .i64 h, .int .i64 i, s] 82 false 1)
abbrev B5 (i : Nat) (a b c d e : Bool) : Nat × AObj := (i, .cells [.bool a, .bool b, .bool c, .bool d, .bool e] 116 false 1)
abbrev s70 (m cap2 : Nat) (p : Int) (mt : Int) (z cap3 : Nat) (i : Int) : Slots := [(1, S501 m cap2), (2, .int .i64 p), (3, .pointer (some (Addr.mk 1000 0 none))), (6, .pointer (some (Addr.mk 1001 0 none))), (7, .pointer (some (Addr.mk 1002 0 none))), (8, .int .i64 mt), (17, S501 z cap3), (18, .int .i64 (z : Int)), (19, .int .i64 i)]
def r70 (C : Ct) (L : AtLoop) (a b c d e f g h i : Int) (n cap : Nat) (l : List Value) (m cap2 : Nat) (q : List Value) (p mt : Int) (z cap3 : Nat) (j : Int) (B : Bx) (X : Xx) (k : List D → Prop) : Prop := wpRound Tryz.prog (hV C) L 70 0 (s70 m cap2 p mt z cap3 j) [Q501 q, M1000 a b c d e f g h i (S500 n cap), B5 1001 false false false false false, B5 1002 false false false false false, I500 l] B X (dataK k)
theorem r70_text (C : Ct) (L : AtLoop) (a : Int) (b : Int) (c : Int) (d : Int) (e : Int) (f : Int) (g : Int) (h : Int) (i : Int) (n : Nat) (cap : Nat) (l : List Go.Value) (m : Nat) (cap2 : Nat) (q : List Go.Value) (p : Int) (mt : Int) (z : Nat) (cap3 : Nat) (j : Int) (B : Bx) (X : Xx) (k : List D → Prop) : r70 C L a b c d e f g h i n cap l m cap2 q p mt z cap3 j B X k =
 (bcase (decide (j < (↑z : Int)))
 (bcase (decide (0 ≤ j))
 (bcase (decide (j < (↑z : Int)))
 (∃ n1 : Int,
 ((At (q) (0 + Int.toNat j * 1) 1 [(Go.Value.int Go.IntKind.i64 (n1))]) ∧
 (bcase (decide (0 ≤ n1))
 (bcase (decide (n1 < (↑n : Int)))
 (∃ n2 : Int,
 ((At (l) (Go.Addr.off { block := 500, off := 0 + Int.toNat n1 * 4 } + 3) 1 [(Go.Value.int Go.IntKind.i64 (n2))]) ∧
 (B [(Prod.mk 1 (Go.Value.slice (Option.some (Go.Addr.mk 501 0 Option.none)) (m) (cap2))), (Prod.mk 2 (Go.Value.int Go.IntKind.i64 (p))), (Prod.mk 3 (Go.Value.pointer (Option.some (Go.Addr.mk 1000 0 Option.none)))), (Prod.mk 6 (Go.Value.pointer (Option.some (Go.Addr.mk 1001 0 Option.none)))), (Prod.mk 7 (Go.Value.pointer (Option.some (Go.Addr.mk 1002 0 Option.none)))), (Prod.mk 8 (Go.Value.int Go.IntKind.i64 (Go.IntKind.wrap Go.IntKind.i64 (mt + n2)))), (Prod.mk 17 (Go.Value.slice (Option.some (Go.Addr.mk 501 0 Option.none)) (z) (cap3))), (Prod.mk 18 (Go.Value.int Go.IntKind.i64 ((↑z : Int)))), (Prod.mk 19 (Go.Value.int Go.IntKind.i64 (Go.IntKind.wrap Go.IntKind.i64 (j + 1))))] [(Prod.mk 501 (AObj.sym (q) false 1)), (Prod.mk 1000 (AObj.cells [(Go.Value.int Go.IntKind.i64 (a)), (Go.Value.int Go.IntKind.i64 (b)), (Go.Value.int Go.IntKind.i64 (c)), (Go.Value.int Go.IntKind.i64 (d)), (Go.Value.int Go.IntKind.i64 (e)), (Go.Value.int Go.IntKind.i64 (f)), (Go.Value.int Go.IntKind.i64 (g)), (Go.Value.int Go.IntKind.i64 (h)), (Go.Value.int Go.IntKind.i64 (i)), (Go.Value.slice (Option.some (Go.Addr.mk 500 0 Option.none)) (n) (cap))] 82 false 1)), (Prod.mk 1001 (AObj.cells [(Go.Value.bool false), (Go.Value.bool false), (Go.Value.bool false), (Go.Value.bool false), (Go.Value.bool false)] 116 false 1)), (Prod.mk 1002 (AObj.cells [(Go.Value.bool false), (Go.Value.bool false), (Go.Value.bool false), (Go.Value.bool false), (Go.Value.bool false)] 116 false 1)), (Prod.mk 500 (AObj.sym (l) false 4))])))
 False)
 False)))
 False)
 False)
 (X 0 [(Prod.mk 1 (Go.Value.slice (Option.some (Go.Addr.mk 501 0 Option.none)) (m) (cap2))), (Prod.mk 2 (Go.Value.int Go.IntKind.i64 (p))), (Prod.mk 3 (Go.Value.pointer (Option.some (Go.Addr.mk 1000 0 Option.none)))), (Prod.mk 6 (Go.Value.pointer (Option.some (Go.Addr.mk 1001 0 Option.none)))), (Prod.mk 7 (Go.Value.pointer (Option.some (Go.Addr.mk 1002 0 Option.none)))), (Prod.mk 8 (Go.Value.int Go.IntKind.i64 (mt)))] [(Prod.mk 501 (AObj.sym (q) false 1)), (Prod.mk 1000 (AObj.cells [(Go.Value.int Go.IntKind.i64 (a)), (Go.Value.int Go.IntKind.i64 (b)), (Go.Value.int Go.IntKind.i64 (c)), (Go.Value.int Go.IntKind.i64 (d)), (Go.Value.int Go.IntKind.i64 (e)), (Go.Value.int Go.IntKind.i64 (f)), (Go.Value.int Go.IntKind.i64 (g)), (Go.Value.int Go.IntKind.i64 (h)), (Go.Value.int Go.IntKind.i64 (i)), (Go.Value.slice (Option.some (Go.Addr.mk 500 0 Option.none)) (n) (cap))] 82 false 1)), (Prod.mk 1001 (AObj.cells [(Go.Value.bool false), (Go.Value.bool false), (Go.Value.bool false), (Go.Value.bool false), (Go.Value.bool false)] 116 false 1)), (Prod.mk 1002 (AObj.cells [(Go.Value.bool false), (Go.Value.bool false), (Go.Value.bool false), (Go.Value.bool false), (Go.Value.bool false)] 116 false 1)), (Prod.mk 500 (AObj.sym (l) false 4))])) := by kernel_rfl
def g22 (C : Ct) (L : AtLoop) (a b c d e f g h i : Int) (n cap : Nat) (l : List Value) (k : List D → Prop) : Prop := wpFn Tryz.prog (hV C) L 0 22 #[vRu a b c d e f g h i, S500 n cap] (heapOf [I500 l]) (dataK k)
theorem g22_text (C : Ct) (L : AtLoop) (a : Int) (b : Int) (c : Int) (d : Int) (e : Int) (f : Int) (g : Int) (h : Int) (i : Int) (n : Nat) (cap : Nat) (l : List Go.Value) (k : List D → Prop) : g22 C L a b c d e f g h i n cap l k =
 (∃ n1 : Int,
 ((Says C 20 [(D.agg [(D.val (Go.Value.int Go.IntKind.i64 (a))), (D.val (Go.Value.int Go.IntKind.i64 (b))), (D.val (Go.Value.int Go.IntKind.i64 (c))), (D.val (Go.Value.int Go.IntKind.i64 (d))), (D.val (Go.Value.int Go.IntKind.i64 (e))), (D.val (Go.Value.int Go.IntKind.i64 (f))), (D.val (Go.Value.int Go.IntKind.i64 (g))), (D.val (Go.Value.int Go.IntKind.i64 (h))), (D.val (Go.Value.int Go.IntKind.i64 (i)))])] [(D.val (Go.Value.int Go.IntKind.i64 (n1)))]) ∧
 (bcase (n1 != 0)
 (k [(D.val (Go.Value.int Go.IntKind.i64 (n1)))])
 (bcase (decide (0 + n * 4 ≤ List.length l))
 (∃ n2 : Int,
 ((Says C 46 [(D.sl (n) 4 (List.take (n * 4) (List.drop 0 l)))] [(D.val (Go.Value.int Go.IntKind.i64 (n2)))]) ∧
 (k [(D.val (Go.Value.int Go.IntKind.i64 (n2)))])))
 False)))) := by kernel_rfl
def g91 (C : Ct) (L : AtLoop) (a : Int) (k : List D → Prop) : Prop := wpFn Tryz.prog (hV C) L 0 91 #[.int .i64 a] (heapOf []) (dataK k)
theorem g91_text (C : Ct) (L : AtLoop) (a : Int) (k : List D → Prop) : g91 C L a k =
 (k [(D.val (Go.Value.int Go.IntKind.i64 (if Go.IntKind.wrap Go.IntKind.i64 (0 - a) > a then Go.IntKind.wrap Go.IntKind.i64 (0 - a) else a)))]) := by kernel_rfl
def g48 (C : Ct) (L : AtLoop) (a : Int) (k : List D → Prop) : Prop := wpFn Tryz.prog (hV C) L 0 48 #[.int .i64 a] (heapOf []) (dataK k)
theorem g48_text (C : Ct) (L : AtLoop) (a : Int) (k : List D → Prop) : g48 C L a k =
 (k [(D.val (Go.Value.int Go.IntKind.i64 (if Go.IntKind.wrap Go.IntKind.i64 (0 - a) > a then Go.IntKind.wrap Go.IntKind.i64 (0 - a) else a)))]) := by kernel_rfl
abbrev vIt (a b c d : Int) : Value := .agg #[.int .i64 a, .int .i64 b, .int .i64 c, .int .i64 d]
def g49 (C : Ct) (L : AtLoop) (a b c d e f g h i p1 p2 p3 p4 q1 q2 q3 q4 : Int) (k : List D → Prop) : Prop := wpFn Tryz.prog (hV C) L 0 49 #[vRu a b c d e f g h i, vIt p1 p2 p3 p4, vIt q1 q2 q3 q4] (heapOf []) (dataK k)
theorem g49_text (C : Ct) (L : AtLoop) (a : Int) (b : Int) (c : Int) (d : Int) (e : Int) (f : Int) (g : Int) (h : Int) (i : Int) (p1 : Int) (p2 : Int) (p3 : Int) (p4 : Int) (q1 : Int) (q2 : Int) (q3 : Int) (q4 : Int) (k : List D → Prop) : g49 C L a b c d e f g h i p1 p2 p3 p4 q1 q2 q3 q4 k =
 ((((Go.Value.int Go.IntKind.i64 (Go.IntKind.wrap Go.IntKind.i64 (p3 - q3))) = (Go.Value.int Go.IntKind.i64 (Go.IntKind.wrap Go.IntKind.i64 (p3 - q3)))) ∧
 (((Go.Value.int Go.IntKind.i64 (q3)) = (Go.Value.int Go.IntKind.i64 (q3))) ∧
 (((Go.Value.pointer (Option.some (Go.Addr.mk 1002 2 Option.none))) = (Go.Value.pointer (Option.some (Go.Addr.mk 1002 2 Option.none)))) ∧
 (((Go.Value.int Go.IntKind.i64 (p3)) = (Go.Value.int Go.IntKind.i64 (p3))) ∧
 (((Go.Value.pointer (Option.some (Go.Addr.mk 1001 2 Option.none))) = (Go.Value.pointer (Option.some (Go.Addr.mk 1001 2 Option.none)))) ∧
 (((Go.Value.int Go.IntKind.i64 (i)) = (Go.Value.int Go.IntKind.i64 (i))) ∧
 (((Go.Value.pointer (Option.some (Go.Addr.mk 1000 8 Option.none))) = (Go.Value.pointer (Option.some (Go.Addr.mk 1000 8 Option.none)))) ∧
 (((Go.Value.int Go.IntKind.i64 (Go.IntKind.wrap Go.IntKind.i64 (p2 - q2))) = (Go.Value.int Go.IntKind.i64 (Go.IntKind.wrap Go.IntKind.i64 (p2 - q2)))) ∧
 (((Go.Value.int Go.IntKind.i64 (q2)) = (Go.Value.int Go.IntKind.i64 (q2))) ∧
 (((Go.Value.pointer (Option.some (Go.Addr.mk 1002 1 Option.none))) = (Go.Value.pointer (Option.some (Go.Addr.mk 1002 1 Option.none)))) ∧
 (((Go.Value.int Go.IntKind.i64 (p2)) = (Go.Value.int Go.IntKind.i64 (p2))) ∧
 (((Go.Value.pointer (Option.some (Go.Addr.mk 1001 1 Option.none))) = (Go.Value.pointer (Option.some (Go.Addr.mk 1001 1 Option.none)))) ∧
 (((Go.Value.int Go.IntKind.i64 (h)) = (Go.Value.int Go.IntKind.i64 (h))) ∧
 (((Go.Value.pointer (Option.some (Go.Addr.mk 1000 7 Option.none))) = (Go.Value.pointer (Option.some (Go.Addr.mk 1000 7 Option.none)))) ∧
 (((Go.Value.int Go.IntKind.i64 (Go.IntKind.wrap Go.IntKind.i64 (p1 - q1))) = (Go.Value.int Go.IntKind.i64 (Go.IntKind.wrap Go.IntKind.i64 (p1 - q1)))) ∧
 (((Go.Value.int Go.IntKind.i64 (q1)) = (Go.Value.int Go.IntKind.i64 (q1))) ∧
 (((Go.Value.pointer (Option.some (Go.Addr.mk 1002 0 Option.none))) = (Go.Value.pointer (Option.some (Go.Addr.mk 1002 0 Option.none)))) ∧
 (((Go.Value.int Go.IntKind.i64 (p1)) = (Go.Value.int Go.IntKind.i64 (p1))) ∧
 (((Go.Value.pointer (Option.some (Go.Addr.mk 1001 0 Option.none))) = (Go.Value.pointer (Option.some (Go.Addr.mk 1001 0 Option.none)))) ∧
 (((Go.Value.int Go.IntKind.i64 (g)) = (Go.Value.int Go.IntKind.i64 (g))) ∧
 (((Go.Value.pointer (Option.some (Go.Addr.mk 1000 6 Option.none))) = (Go.Value.pointer (Option.some (Go.Addr.mk 1000 6 Option.none)))) ∧
 True))))))))))))))))))))) ∧
 ((((Go.Value.int Go.IntKind.i64 (Go.IntKind.wrap Go.IntKind.i64 (g * if Go.IntKind.wrap Go.IntKind.i64 (0 - Go.IntKind.wrap Go.IntKind.i64 (p1 - q1)) > Go.IntKind.wrap Go.IntKind.i64 (p1 - q1) then Go.IntKind.wrap Go.IntKind.i64 (0 - Go.IntKind.wrap Go.IntKind.i64 (p1 - q1)) else Go.IntKind.wrap Go.IntKind.i64 (p1 - q1)))) = (Go.Value.int Go.IntKind.i64 (Go.IntKind.wrap Go.IntKind.i64 (g * if Go.IntKind.wrap Go.IntKind.i64 (0 - Go.IntKind.wrap Go.IntKind.i64 (p1 - q1)) > Go.IntKind.wrap Go.IntKind.i64 (p1 - q1) then Go.IntKind.wrap Go.IntKind.i64 (0 - Go.IntKind.wrap Go.IntKind.i64 (p1 - q1)) else Go.IntKind.wrap Go.IntKind.i64 (p1 - q1))))) ∧
 (((Go.Value.int Go.IntKind.i64 (Go.IntKind.wrap Go.IntKind.i64 (p3 - q3))) = (Go.Value.int Go.IntKind.i64 (Go.IntKind.wrap Go.IntKind.i64 (p3 - q3)))) ∧
 (((Go.Value.int Go.IntKind.i64 (q3)) = (Go.Value.int Go.IntKind.i64 (q3))) ∧
 (((Go.Value.pointer (Option.some (Go.Addr.mk 1002 2 Option.none))) = (Go.Value.pointer (Option.some (Go.Addr.mk 1002 2 Option.none)))) ∧
 (((Go.Value.int Go.IntKind.i64 (p3)) = (Go.Value.int Go.IntKind.i64 (p3))) ∧
 (((Go.Value.pointer (Option.some (Go.Addr.mk 1001 2 Option.none))) = (Go.Value.pointer (Option.some (Go.Addr.mk 1001 2 Option.none)))) ∧
 (((Go.Value.int Go.IntKind.i64 (i)) = (Go.Value.int Go.IntKind.i64 (i))) ∧
 (((Go.Value.pointer (Option.some (Go.Addr.mk 1000 8 Option.none))) = (Go.Value.pointer (Option.some (Go.Addr.mk 1000 8 Option.none)))) ∧
 (((Go.Value.int Go.IntKind.i64 (Go.IntKind.wrap Go.IntKind.i64 (p2 - q2))) = (Go.Value.int Go.IntKind.i64 (Go.IntKind.wrap Go.IntKind.i64 (p2 - q2)))) ∧
 (((Go.Value.int Go.IntKind.i64 (q2)) = (Go.Value.int Go.IntKind.i64 (q2))) ∧
 (((Go.Value.pointer (Option.some (Go.Addr.mk 1002 1 Option.none))) = (Go.Value.pointer (Option.some (Go.Addr.mk 1002 1 Option.none)))) ∧
 (((Go.Value.int Go.IntKind.i64 (p2)) = (Go.Value.int Go.IntKind.i64 (p2))) ∧
 (((Go.Value.pointer (Option.some (Go.Addr.mk 1001 1 Option.none))) = (Go.Value.pointer (Option.some (Go.Addr.mk 1001 1 Option.none)))) ∧
 (((Go.Value.int Go.IntKind.i64 (h)) = (Go.Value.int Go.IntKind.i64 (h))) ∧
 (((Go.Value.pointer (Option.some (Go.Addr.mk 1000 7 Option.none))) = (Go.Value.pointer (Option.some (Go.Addr.mk 1000 7 Option.none)))) ∧
 (((Go.Value.int Go.IntKind.i64 (q1)) = (Go.Value.int Go.IntKind.i64 (q1))) ∧
 (((Go.Value.pointer (Option.some (Go.Addr.mk 1002 0 Option.none))) = (Go.Value.pointer (Option.some (Go.Addr.mk 1002 0 Option.none)))) ∧
 (((Go.Value.int Go.IntKind.i64 (p1)) = (Go.Value.int Go.IntKind.i64 (p1))) ∧
 (((Go.Value.pointer (Option.some (Go.Addr.mk 1001 0 Option.none))) = (Go.Value.pointer (Option.some (Go.Addr.mk 1001 0 Option.none)))) ∧
 (((Go.Value.int Go.IntKind.i64 (g)) = (Go.Value.int Go.IntKind.i64 (g))) ∧
 (((Go.Value.pointer (Option.some (Go.Addr.mk 1000 6 Option.none))) = (Go.Value.pointer (Option.some (Go.Addr.mk 1000 6 Option.none)))) ∧
 True))))))))))))))))))))) ∧
 ((((Go.Value.int Go.IntKind.i64 (Go.IntKind.wrap Go.IntKind.i64 (Go.IntKind.wrap Go.IntKind.i64 (g * if Go.IntKind.wrap Go.IntKind.i64 (0 - Go.IntKind.wrap Go.IntKind.i64 (p1 - q1)) > Go.IntKind.wrap Go.IntKind.i64 (p1 - q1) then Go.IntKind.wrap Go.IntKind.i64 (0 - Go.IntKind.wrap Go.IntKind.i64 (p1 - q1)) else Go.IntKind.wrap Go.IntKind.i64 (p1 - q1)) + Go.IntKind.wrap Go.IntKind.i64 (h * if Go.IntKind.wrap Go.IntKind.i64 (0 - Go.IntKind.wrap Go.IntKind.i64 (p2 - q2)) > Go.IntKind.wrap Go.IntKind.i64 (p2 - q2) then Go.IntKind.wrap Go.IntKind.i64 (0 - Go.IntKind.wrap Go.IntKind.i64 (p2 - q2)) else Go.IntKind.wrap Go.IntKind.i64 (p2 - q2))))) = (Go.Value.int Go.IntKind.i64 (Go.IntKind.wrap Go.IntKind.i64 (Go.IntKind.wrap Go.IntKind.i64 (g * if Go.IntKind.wrap Go.IntKind.i64 (0 - Go.IntKind.wrap Go.IntKind.i64 (p1 - q1)) > Go.IntKind.wrap Go.IntKind.i64 (p1 - q1) then Go.IntKind.wrap Go.IntKind.i64 (0 - Go.IntKind.wrap Go.IntKind.i64 (p1 - q1)) else Go.IntKind.wrap Go.IntKind.i64 (p1 - q1)) + Go.IntKind.wrap Go.IntKind.i64 (h * if Go.IntKind.wrap Go.IntKind.i64 (0 - Go.IntKind.wrap Go.IntKind.i64 (p2 - q2)) > Go.IntKind.wrap Go.IntKind.i64 (p2 - q2) then Go.IntKind.wrap Go.IntKind.i64 (0 - Go.IntKind.wrap Go.IntKind.i64 (p2 - q2)) else Go.IntKind.wrap Go.IntKind.i64 (p2 - q2)))))) ∧
 (((Go.Value.int Go.IntKind.i64 (Go.IntKind.wrap Go.IntKind.i64 (h * if Go.IntKind.wrap Go.IntKind.i64 (0 - Go.IntKind.wrap Go.IntKind.i64 (p2 - q2)) > Go.IntKind.wrap Go.IntKind.i64 (p2 - q2) then Go.IntKind.wrap Go.IntKind.i64 (0 - Go.IntKind.wrap Go.IntKind.i64 (p2 - q2)) else Go.IntKind.wrap Go.IntKind.i64 (p2 - q2)))) = (Go.Value.int Go.IntKind.i64 (Go.IntKind.wrap Go.IntKind.i64 (h * if Go.IntKind.wrap Go.IntKind.i64 (0 - Go.IntKind.wrap Go.IntKind.i64 (p2 - q2)) > Go.IntKind.wrap Go.IntKind.i64 (p2 - q2) then Go.IntKind.wrap Go.IntKind.i64 (0 - Go.IntKind.wrap Go.IntKind.i64 (p2 - q2)) else Go.IntKind.wrap Go.IntKind.i64 (p2 - q2))))) ∧
 (((Go.Value.int Go.IntKind.i64 (Go.IntKind.wrap Go.IntKind.i64 (g * if Go.IntKind.wrap Go.IntKind.i64 (0 - Go.IntKind.wrap Go.IntKind.i64 (p1 - q1)) > Go.IntKind.wrap Go.IntKind.i64 (p1 - q1) then Go.IntKind.wrap Go.IntKind.i64 (0 - Go.IntKind.wrap Go.IntKind.i64 (p1 - q1)) else Go.IntKind.wrap Go.IntKind.i64 (p1 - q1)))) = (Go.Value.int Go.IntKind.i64 (Go.IntKind.wrap Go.IntKind.i64 (g * if Go.IntKind.wrap Go.IntKind.i64 (0 - Go.IntKind.wrap Go.IntKind.i64 (p1 - q1)) > Go.IntKind.wrap Go.IntKind.i64 (p1 - q1) then Go.IntKind.wrap Go.IntKind.i64 (0 - Go.IntKind.wrap Go.IntKind.i64 (p1 - q1)) else Go.IntKind.wrap Go.IntKind.i64 (p1 - q1))))) ∧
 (((Go.Value.int Go.IntKind.i64 (Go.IntKind.wrap Go.IntKind.i64 (p3 - q3))) = (Go.Value.int Go.IntKind.i64 (Go.IntKind.wrap Go.IntKind.i64 (p3 - q3)))) ∧
 (((Go.Value.int Go.IntKind.i64 (q3)) = (Go.Value.int Go.IntKind.i64 (q3))) ∧
 (((Go.Value.pointer (Option.some (Go.Addr.mk 1002 2 Option.none))) = (Go.Value.pointer (Option.some (Go.Addr.mk 1002 2 Option.none)))) ∧
 (((Go.Value.int Go.IntKind.i64 (p3)) = (Go.Value.int Go.IntKind.i64 (p3))) ∧
 (((Go.Value.pointer (Option.some (Go.Addr.mk 1001 2 Option.none))) = (Go.Value.pointer (Option.some (Go.Addr.mk 1001 2 Option.none)))) ∧
 (((Go.Value.int Go.IntKind.i64 (i)) = (Go.Value.int Go.IntKind.i64 (i))) ∧
 (((Go.Value.pointer (Option.some (Go.Addr.mk 1000 8 Option.none))) = (Go.Value.pointer (Option.some (Go.Addr.mk 1000 8 Option.none)))) ∧
 (((Go.Value.int Go.IntKind.i64 (q2)) = (Go.Value.int Go.IntKind.i64 (q2))) ∧
 (((Go.Value.pointer (Option.some (Go.Addr.mk 1002 1 Option.none))) = (Go.Value.pointer (Option.some (Go.Addr.mk 1002 1 Option.none)))) ∧
 (((Go.Value.int Go.IntKind.i64 (p2)) = (Go.Value.int Go.IntKind.i64 (p2))) ∧
 (((Go.Value.pointer (Option.some (Go.Addr.mk 1001 1 Option.none))) = (Go.Value.pointer (Option.some (Go.Addr.mk 1001 1 Option.none)))) ∧
 (((Go.Value.int Go.IntKind.i64 (h)) = (Go.Value.int Go.IntKind.i64 (h))) ∧
 (((Go.Value.pointer (Option.some (Go.Addr.mk 1000 7 Option.none))) = (Go.Value.pointer (Option.some (Go.Addr.mk 1000 7 Option.none)))) ∧
 (((Go.Value.int Go.IntKind.i64 (q1)) = (Go.Value.int Go.IntKind.i64 (q1))) ∧
 (((Go.Value.pointer (Option.some (Go.Addr.mk 1002 0 Option.none))) = (Go.Value.pointer (Option.some (Go.Addr.mk 1002 0 Option.none)))) ∧
 (((Go.Value.int Go.IntKind.i64 (p1)) = (Go.Value.int Go.IntKind.i64 (p1))) ∧
 (((Go.Value.pointer (Option.some (Go.Addr.mk 1001 0 Option.none))) = (Go.Value.pointer (Option.some (Go.Addr.mk 1001 0 Option.none)))) ∧
 (((Go.Value.int Go.IntKind.i64 (g)) = (Go.Value.int Go.IntKind.i64 (g))) ∧
 (((Go.Value.pointer (Option.some (Go.Addr.mk 1000 6 Option.none))) = (Go.Value.pointer (Option.some (Go.Addr.mk 1000 6 Option.none)))) ∧
 True)))))))))))))))))))))) ∧
 ((((Go.Value.int Go.IntKind.i64 (Go.IntKind.wrap Go.IntKind.i64 (Go.IntKind.wrap Go.IntKind.i64 (Go.IntKind.wrap Go.IntKind.i64 (g * if Go.IntKind.wrap Go.IntKind.i64 (0 - Go.IntKind.wrap Go.IntKind.i64 (p1 - q1)) > Go.IntKind.wrap Go.IntKind.i64 (p1 - q1) then Go.IntKind.wrap Go.IntKind.i64 (0 - Go.IntKind.wrap Go.IntKind.i64 (p1 - q1)) else Go.IntKind.wrap Go.IntKind.i64 (p1 - q1)) + Go.IntKind.wrap Go.IntKind.i64 (h * if Go.IntKind.wrap Go.IntKind.i64 (0 - Go.IntKind.wrap Go.IntKind.i64 (p2 - q2)) > Go.IntKind.wrap Go.IntKind.i64 (p2 - q2) then Go.IntKind.wrap Go.IntKind.i64 (0 - Go.IntKind.wrap Go.IntKind.i64 (p2 - q2)) else Go.IntKind.wrap Go.IntKind.i64 (p2 - q2))) + Go.IntKind.wrap Go.IntKind.i64 (i * if Go.IntKind.wrap Go.IntKind.i64 (0 - Go.IntKind.wrap Go.IntKind.i64 (p3 - q3)) > Go.IntKind.wrap Go.IntKind.i64 (p3 - q3) then Go.IntKind.wrap Go.IntKind.i64 (0 - Go.IntKind.wrap Go.IntKind.i64 (p3 - q3)) else Go.IntKind.wrap Go.IntKind.i64 (p3 - q3))))) = (Go.Value.int Go.IntKind.i64 (Go.IntKind.wrap Go.IntKind.i64 (Go.IntKind.wrap Go.IntKind.i64 (Go.IntKind.wrap Go.IntKind.i64 (g * if Go.IntKind.wrap Go.IntKind.i64 (0 - Go.IntKind.wrap Go.IntKind.i64 (p1 - q1)) > Go.IntKind.wrap Go.IntKind.i64 (p1 - q1) then Go.IntKind.wrap Go.IntKind.i64 (0 - Go.IntKind.wrap Go.IntKind.i64 (p1 - q1)) else Go.IntKind.wrap Go.IntKind.i64 (p1 - q1)) + Go.IntKind.wrap Go.IntKind.i64 (h * if Go.IntKind.wrap Go.IntKind.i64 (0 - Go.IntKind.wrap Go.IntKind.i64 (p2 - q2)) > Go.IntKind.wrap Go.IntKind.i64 (p2 - q2) then Go.IntKind.wrap Go.IntKind.i64 (0 - Go.IntKind.wrap Go.IntKind.i64 (p2 - q2)) else Go.IntKind.wrap Go.IntKind.i64 (p2 - q2))) + Go.IntKind.wrap Go.IntKind.i64 (i * if Go.IntKind.wrap Go.IntKind.i64 (0 - Go.IntKind.wrap Go.IntKind.i64 (p3 - q3)) > Go.IntKind.wrap Go.IntKind.i64 (p3 - q3) then Go.IntKind.wrap Go.IntKind.i64 (0 - Go.IntKind.wrap Go.IntKind.i64 (p3 - q3)) else Go.IntKind.wrap Go.IntKind.i64 (p3 - q3)))))) ∧
 (((Go.Value.int Go.IntKind.i64 (Go.IntKind.wrap Go.IntKind.i64 (i * if Go.IntKind.wrap Go.IntKind.i64 (0 - Go.IntKind.wrap Go.IntKind.i64 (p3 - q3)) > Go.IntKind.wrap Go.IntKind.i64 (p3 - q3) then Go.IntKind.wrap Go.IntKind.i64 (0 - Go.IntKind.wrap Go.IntKind.i64 (p3 - q3)) else Go.IntKind.wrap Go.IntKind.i64 (p3 - q3)))) = (Go.Value.int Go.IntKind.i64 (Go.IntKind.wrap Go.IntKind.i64 (i * if Go.IntKind.wrap Go.IntKind.i64 (0 - Go.IntKind.wrap Go.IntKind.i64 (p3 - q3)) > Go.IntKind.wrap Go.IntKind.i64 (p3 - q3) then Go.IntKind.wrap Go.IntKind.i64 (0 - Go.IntKind.wrap Go.IntKind.i64 (p3 - q3)) else Go.IntKind.wrap Go.IntKind.i64 (p3 - q3))))) ∧
 (((Go.Value.int Go.IntKind.i64 (Go.IntKind.wrap Go.IntKind.i64 (Go.IntKind.wrap Go.IntKind.i64 (g * if Go.IntKind.wrap Go.IntKind.i64 (0 - Go.IntKind.wrap Go.IntKind.i64 (p1 - q1)) > Go.IntKind.wrap Go.IntKind.i64 (p1 - q1) then Go.IntKind.wrap Go.IntKind.i64 (0 - Go.IntKind.wrap Go.IntKind.i64 (p1 - q1)) else Go.IntKind.wrap Go.IntKind.i64 (p1 - q1)) + Go.IntKind.wrap Go.IntKind.i64 (h * if Go.IntKind.wrap Go.IntKind.i64 (0 - Go.IntKind.wrap Go.IntKind.i64 (p2 - q2)) > Go.IntKind.wrap Go.IntKind.i64 (p2 - q2) then Go.IntKind.wrap Go.IntKind.i64 (0 - Go.IntKind.wrap Go.IntKind.i64 (p2 - q2)) else Go.IntKind.wrap Go.IntKind.i64 (p2 - q2))))) = (Go.Value.int Go.IntKind.i64 (Go.IntKind.wrap Go.IntKind.i64 (Go.IntKind.wrap Go.IntKind.i64 (g * if Go.IntKind.wrap Go.IntKind.i64 (0 - Go.IntKind.wrap Go.IntKind.i64 (p1 - q1)) > Go.IntKind.wrap Go.IntKind.i64 (p1 - q1) then Go.IntKind.wrap Go.IntKind.i64 (0 - Go.IntKind.wrap Go.IntKind.i64 (p1 - q1)) else Go.IntKind.wrap Go.IntKind.i64 (p1 - q1)) + Go.IntKind.wrap Go.IntKind.i64 (h * if Go.IntKind.wrap Go.IntKind.i64 (0 - Go.IntKind.wrap Go.IntKind.i64 (p2 - q2)) > Go.IntKind.wrap Go.IntKind.i64 (p2 - q2) then Go.IntKind.wrap Go.IntKind.i64 (0 - Go.IntKind.wrap Go.IntKind.i64 (p2 - q2)) else Go.IntKind.wrap Go.IntKind.i64 (p2 - q2)))))) ∧
 (((Go.Value.int Go.IntKind.i64 (Go.IntKind.wrap Go.IntKind.i64 (h * if Go.IntKind.wrap Go.IntKind.i64 (0 - Go.IntKind.wrap Go.IntKind.i64 (p2 - q2)) > Go.IntKind.wrap Go.IntKind.i64 (p2 - q2) then Go.IntKind.wrap Go.IntKind.i64 (0 - Go.IntKind.wrap Go.IntKind.i64 (p2 - q2)) else Go.IntKind.wrap Go.IntKind.i64 (p2 - q2)))) = (Go.Value.int Go.IntKind.i64 (Go.IntKind.wrap Go.IntKind.i64 (h * if Go.IntKind.wrap Go.IntKind.i64 (0 - Go.IntKind.wrap Go.IntKind.i64 (p2 - q2)) > Go.IntKind.wrap Go.IntKind.i64 (p2 - q2) then Go.IntKind.wrap Go.IntKind.i64 (0 - Go.IntKind.wrap Go.IntKind.i64 (p2 - q2)) else Go.IntKind.wrap Go.IntKind.i64 (p2 - q2))))) ∧
 (((Go.Value.int Go.IntKind.i64 (Go.IntKind.wrap Go.IntKind.i64 (g * if Go.IntKind.wrap Go.IntKind.i64 (0 - Go.IntKind.wrap Go.IntKind.i64 (p1 - q1)) > Go.IntKind.wrap Go.IntKind.i64 (p1 - q1) then Go.IntKind.wrap Go.IntKind.i64 (0 - Go.IntKind.wrap Go.IntKind.i64 (p1 - q1)) else Go.IntKind.wrap Go.IntKind.i64 (p1 - q1)))) = (Go.Value.int Go.IntKind.i64 (Go.IntKind.wrap Go.IntKind.i64 (g * if Go.IntKind.wrap Go.IntKind.i64 (0 - Go.IntKind.wrap Go.IntKind.i64 (p1 - q1)) > Go.IntKind.wrap Go.IntKind.i64 (p1 - q1) then Go.IntKind.wrap Go.IntKind.i64 (0 - Go.IntKind.wrap Go.IntKind.i64 (p1 - q1)) else Go.IntKind.wrap Go.IntKind.i64 (p1 - q1))))) ∧
 (((Go.Value.int Go.IntKind.i64 (q3)) = (Go.Value.int Go.IntKind.i64 (q3))) ∧
 (((Go.Value.pointer (Option.some (Go.Addr.mk 1002 2 Option.none))) = (Go.Value.pointer (Option.some (Go.Addr.mk 1002 2 Option.none)))) ∧
 (((Go.Value.int Go.IntKind.i64 (p3)) = (Go.Value.int Go.IntKind.i64 (p3))) ∧
 (((Go.Value.pointer (Option.some (Go.Addr.mk 1001 2 Option.none))) = (Go.Value.pointer (Option.some (Go.Addr.mk 1001 2 Option.none)))) ∧
 (((Go.Value.int Go.IntKind.i64 (i)) = (Go.Value.int Go.IntKind.i64 (i))) ∧
 (((Go.Value.pointer (Option.some (Go.Addr.mk 1000 8 Option.none))) = (Go.Value.pointer (Option.some (Go.Addr.mk 1000 8 Option.none)))) ∧
 (((Go.Value.int Go.IntKind.i64 (q2)) = (Go.Value.int Go.IntKind.i64 (q2))) ∧
 (((Go.Value.pointer (Option.some (Go.Addr.mk 1002 1 Option.none))) = (Go.Value.pointer (Option.some (Go.Addr.mk 1002 1 Option.none)))) ∧
 (((Go.Value.int Go.IntKind.i64 (p2)) = (Go.Value.int Go.IntKind.i64 (p2))) ∧
 (((Go.Value.pointer (Option.some (Go.Addr.mk 1001 1 Option.none))) = (Go.Value.pointer (Option.some (Go.Addr.mk 1001 1 Option.none)))) ∧
 (((Go.Value.int Go.IntKind.i64 (h)) = (Go.Value.int Go.IntKind.i64 (h))) ∧
 (((Go.Value.pointer (Option.some (Go.Addr.mk 1000 7 Option.none))) = (Go.Value.pointer (Option.some (Go.Addr.mk 1000 7 Option.none)))) ∧
 (((Go.Value.int Go.IntKind.i64 (q1)) = (Go.Value.int Go.IntKind.i64 (q1))) ∧
 (((Go.Value.pointer (Option.some (Go.Addr.mk 1002 0 Option.none))) = (Go.Value.pointer (Option.some (Go.Addr.mk 1002 0 Option.none)))) ∧
 (((Go.Value.int Go.IntKind.i64 (p1)) = (Go.Value.int Go.IntKind.i64 (p1))) ∧
 (((Go.Value.pointer (Option.some (Go.Addr.mk 1001 0 Option.none))) = (Go.Value.pointer (Option.some (Go.Addr.mk 1001 0 Option.none)))) ∧
 (((Go.Value.int Go.IntKind.i64 (g)) = (Go.Value.int Go.IntKind.i64 (g))) ∧
 (((Go.Value.pointer (Option.some (Go.Addr.mk 1000 6 Option.none))) = (Go.Value.pointer (Option.some (Go.Addr.mk 1000 6 Option.none)))) ∧
 True))))))))))))))))))))))) ∧
 (True ∧
 (k [(D.val (Go.Value.int Go.IntKind.i64 (Go.IntKind.wrap Go.IntKind.i64 (Go.IntKind.wrap Go.IntKind.i64 (Go.IntKind.wrap Go.IntKind.i64 (g * if Go.IntKind.wrap Go.IntKind.i64 (0 - Go.IntKind.wrap Go.IntKind.i64 (p1 - q1)) > Go.IntKind.wrap Go.IntKind.i64 (p1 - q1) then Go.IntKind.wrap Go.IntKind.i64 (0 - Go.IntKind.wrap Go.IntKind.i64 (p1 - q1)) else Go.IntKind.wrap Go.IntKind.i64 (p1 - q1)) + Go.IntKind.wrap Go.IntKind.i64 (h * if Go.IntKind.wrap Go.IntKind.i64 (0 - Go.IntKind.wrap Go.IntKind.i64 (p2 - q2)) > Go.IntKind.wrap Go.IntKind.i64 (p2 - q2) then Go.IntKind.wrap Go.IntKind.i64 (0 - Go.IntKind.wrap Go.IntKind.i64 (p2 - q2)) else Go.IntKind.wrap Go.IntKind.i64 (p2 - q2))) + Go.IntKind.wrap Go.IntKind.i64 (i * if Go.IntKind.wrap Go.IntKind.i64 (0 - Go.IntKind.wrap Go.IntKind.i64 (p3 - q3)) > Go.IntKind.wrap Go.IntKind.i64 (p3 - q3) then Go.IntKind.wrap Go.IntKind.i64 (0 - Go.IntKind.wrap Go.IntKind.i64 (p3 - q3)) else Go.IntKind.wrap Go.IntKind.i64 (p3 - q3))))))])))))) := by kernel_rfl
abbrev R1000 (a b c d e f g h i : Int) : Nat × AObj := (1000, .cells [.int .i64 a, .int .i64 b, .int .i64 c, .int .i64 d, .int .i64 e, .int .i64 f, .int .i64 g, .int .i64 h, .int .i64 i] 42 false 1)
abbrev s25 (n cap m cap2 : Nat) (x y : Int) : Slots := [(1, S500 n cap), (2, S501 m cap2), (3, .pointer (some (Addr.mk 1000 0 none))), (7, .int .i64 x), (8, .int .i64 y)]
def r25 (C : Ct) (L : AtLoop) (a b c d e f g h i : Int) (n cap : Nat) (l : List Value) (m cap2 : Nat) (q : List Value) (x y : Int) (B : Bx) (X : Xx) (k : List D → Prop) : Prop := wpRound Tryz.prog (hV C) L 25 0 (s25 n cap m cap2 x y) [I500 l, Q501 q, R1000 a b c d e f g h i] B X (dataK k)
theorem r25_text (C : Ct) (L : AtLoop) (a : Int) (b : Int) (c : Int) (d : Int) (e : Int) (f : Int) (g : Int) (h : Int) (i : Int) (n : Nat) (cap : Nat) (l : List Go.Value) (m : Nat) (cap2 : Nat) (q : List Go.Value) (x : Int) (y : Int) (B : Bx) (X : Xx) (k : List D → Prop) : r25 C L a b c d e f g h i n cap l m cap2 q x y B X k =
 (bcase (decide (y < (↑m : Int)))
 (bcase (decide (0 ≤ Go.IntKind.wrap Go.IntKind.i64 (y - 1)))
 (bcase (decide (Go.IntKind.wrap Go.IntKind.i64 (y - 1) < (↑m : Int)))
 (∃ n1 : Int,
 ((At (q) (0 + Int.toNat (Go.IntKind.wrap Go.IntKind.i64 (y - 1)) * 1) 1 [(Go.Value.int Go.IntKind.i64 (n1))]) ∧
 (bcase (decide (0 ≤ n1))
 (bcase (decide (n1 < (↑n : Int)))
 (∃ n2 : Int,
 (∃ n3 : Int,
 (∃ n4 : Int,
 (∃ n5 : Int,
 ((At (l) (0 + Int.toNat n1 * 4) 4 [(Go.Value.int Go.IntKind.i64 (n2)), (Go.Value.int Go.IntKind.i64 (n3)), (Go.Value.int Go.IntKind.i64 (n4)), (Go.Value.int Go.IntKind.i64 (n5))]) ∧
 (bcase (decide (0 ≤ y))
 (bcase (decide (y < (↑m : Int)))
 (∃ n6 : Int,
 ((At (q) (0 + Int.toNat y * 1) 1 [(Go.Value.int Go.IntKind.i64 (n6))]) ∧
 (bcase (decide (0 ≤ n6))
 (bcase (decide (n6 < (↑n : Int)))
 (∃ n7 : Int,
 (∃ n8 : Int,
 (∃ n9 : Int,
 (∃ n10 : Int,
 ((At (l) (0 + Int.toNat n6 * 4) 4 [(Go.Value.int Go.IntKind.i64 (n7)), (Go.Value.int Go.IntKind.i64 (n8)), (Go.Value.int Go.IntKind.i64 (n9)), (Go.Value.int Go.IntKind.i64 (n10))]) ∧
 (((∃ n11 : Int,
 (∃ n12 : Int,
 (∃ n13 : Int,
 (∃ n14 : Int,
 ((At (l) (0 + Int.toNat n6 * 4) 4 [(Go.Value.int Go.IntKind.i64 (n11)), (Go.Value.int Go.IntKind.i64 (n12)), (Go.Value.int Go.IntKind.i64 (n13)), (Go.Value.int Go.IntKind.i64 (n14))]) ∧
 ((Go.Value.agg [(Go.Value.int Go.IntKind.i64 (n11)), (Go.Value.int Go.IntKind.i64 (n12)), (Go.Value.int Go.IntKind.i64 (n13)), (Go.Value.int Go.IntKind.i64 (n14))].toArray) = (Go.Value.agg [(Go.Value.int Go.IntKind.i64 (n7)), (Go.Value.int Go.IntKind.i64 (n8)), (Go.Value.int Go.IntKind.i64 (n9)), (Go.Value.int Go.IntKind.i64 (n10))].toArray))))))) ∧
 ((bcase (decide (0 ≤ n6))
 (bcase (decide (n6 < (↑n : Int)))
 ((Go.Value.pointer (Option.some (Go.Addr.mk 500 (0 + Int.toNat n6 * 4) Option.none))) = (Go.Value.pointer (Option.some (Go.Addr.mk 500 (0 + Int.toNat n6 * 4) Option.none))))
 False)
 False) ∧
 ((∃ n11 : Int,
 ((At (q) (0 + Int.toNat y * 1) 1 [(Go.Value.int Go.IntKind.i64 (n11))]) ∧
 ((Go.Value.int Go.IntKind.i64 (n11)) = (Go.Value.int Go.IntKind.i64 (n6))))) ∧
 ((bcase (decide (0 ≤ y))
 (bcase (decide (y < (↑m : Int)))
 ((Go.Value.pointer (Option.some (Go.Addr.mk 501 (0 + Int.toNat y * 1) Option.none))) = (Go.Value.pointer (Option.some (Go.Addr.mk 501 (0 + Int.toNat y * 1) Option.none))))
 False)
 False) ∧
 (((Go.Value.int Go.IntKind.i64 (y)) = (Go.Value.int Go.IntKind.i64 (y))) ∧
 (((Go.Value.slice (Option.some (Go.Addr.mk 501 0 Option.none)) (m) (cap2)) = (Go.Value.slice (Option.some (Go.Addr.mk 501 0 Option.none)) (m) (cap2))) ∧
 (((Go.Value.slice (Option.some (Go.Addr.mk 500 0 Option.none)) (n) (cap)) = (Go.Value.slice (Option.some (Go.Addr.mk 500 0 Option.none)) (n) (cap))) ∧
 ((∃ n11 : Int,
 (∃ n12 : Int,
 (∃ n13 : Int,
 (∃ n14 : Int,
 ((At (l) (0 + Int.toNat n1 * 4) 4 [(Go.Value.int Go.IntKind.i64 (n11)), (Go.Value.int Go.IntKind.i64 (n12)), (Go.Value.int Go.IntKind.i64 (n13)), (Go.Value.int Go.IntKind.i64 (n14))]) ∧
 ((Go.Value.agg [(Go.Value.int Go.IntKind.i64 (n11)), (Go.Value.int Go.IntKind.i64 (n12)), (Go.Value.int Go.IntKind.i64 (n13)), (Go.Value.int Go.IntKind.i64 (n14))].toArray) = (Go.Value.agg [(Go.Value.int Go.IntKind.i64 (n2)), (Go.Value.int Go.IntKind.i64 (n3)), (Go.Value.int Go.IntKind.i64 (n4)), (Go.Value.int Go.IntKind.i64 (n5))].toArray))))))) ∧
 ((bcase (decide (0 ≤ n1))
 (bcase (decide (n1 < (↑n : Int)))
 ((Go.Value.pointer (Option.some (Go.Addr.mk 500 (0 + Int.toNat n1 * 4) Option.none))) = (Go.Value.pointer (Option.some (Go.Addr.mk 500 (0 + Int.toNat n1 * 4) Option.none))))
 False)
 False) ∧
 ((∃ n11 : Int,
 ((At (q) (0 + Int.toNat (Go.IntKind.wrap Go.IntKind.i64 (y - 1)) * 1) 1 [(Go.Value.int Go.IntKind.i64 (n11))]) ∧
 ((Go.Value.int Go.IntKind.i64 (n11)) = (Go.Value.int Go.IntKind.i64 (n1))))) ∧
 ((bcase (decide (0 ≤ Go.IntKind.wrap Go.IntKind.i64 (y - 1)))
 (bcase (decide (Go.IntKind.wrap Go.IntKind.i64 (y - 1) < (↑m : Int)))
 ((Go.Value.pointer (Option.some (Go.Addr.mk 501 (0 + Int.toNat (Go.IntKind.wrap Go.IntKind.i64 (y - 1)) * 1) Option.none))) = (Go.Value.pointer (Option.some (Go.Addr.mk 501 (0 + Int.toNat (Go.IntKind.wrap Go.IntKind.i64 (y - 1)) * 1) Option.none))))
 False)
 False) ∧
 (((Go.Value.int Go.IntKind.i64 (Go.IntKind.wrap Go.IntKind.i64 (y - 1))) = (Go.Value.int Go.IntKind.i64 (Go.IntKind.wrap Go.IntKind.i64 (y - 1)))) ∧
 (((Go.Value.int Go.IntKind.i64 (y)) = (Go.Value.int Go.IntKind.i64 (y))) ∧
 (((Go.Value.slice (Option.some (Go.Addr.mk 501 0 Option.none)) (m) (cap2)) = (Go.Value.slice (Option.some (Go.Addr.mk 501 0 Option.none)) (m) (cap2))) ∧
 (((Go.Value.slice (Option.some (Go.Addr.mk 500 0 Option.none)) (n) (cap)) = (Go.Value.slice (Option.some (Go.Addr.mk 500 0 Option.none)) (n) (cap))) ∧
 (((Go.Value.agg [(Go.Value.int Go.IntKind.i64 (a)), (Go.Value.int Go.IntKind.i64 (b)), (Go.Value.int Go.IntKind.i64 (c)), (Go.Value.int Go.IntKind.i64 (d)), (Go.Value.int Go.IntKind.i64 (e)), (Go.Value.int Go.IntKind.i64 (f)), (Go.Value.int Go.IntKind.i64 (g)), (Go.Value.int Go.IntKind.i64 (h)), (Go.Value.int Go.IntKind.i64 (i))].toArray) = (Go.Value.agg [(Go.Value.int Go.IntKind.i64 (a)), (Go.Value.int Go.IntKind.i64 (b)), (Go.Value.int Go.IntKind.i64 (c)), (Go.Value.int Go.IntKind.i64 (d)), (Go.Value.int Go.IntKind.i64 (e)), (Go.Value.int Go.IntKind.i64 (f)), (Go.Value.int Go.IntKind.i64 (g)), (Go.Value.int Go.IntKind.i64 (h)), (Go.Value.int Go.IntKind.i64 (i))].toArray)) ∧
 (((Go.Value.int Go.IntKind.i64 (x)) = (Go.Value.int Go.IntKind.i64 (x))) ∧
 True))))))))))))))))) ∧
 (∃ n11 : Int,
 ((Says C 49 [(D.agg [(D.val (Go.Value.int Go.IntKind.i64 (a))), (D.val (Go.Value.int Go.IntKind.i64 (b))), (D.val (Go.Value.int Go.IntKind.i64 (c))), (D.val (Go.Value.int Go.IntKind.i64 (d))), (D.val (Go.Value.int Go.IntKind.i64 (e))), (D.val (Go.Value.int Go.IntKind.i64 (f))), (D.val (Go.Value.int Go.IntKind.i64 (g))), (D.val (Go.Value.int Go.IntKind.i64 (h))), (D.val (Go.Value.int Go.IntKind.i64 (i)))]), (D.agg [(D.val (Go.Value.int Go.IntKind.i64 (n2))), (D.val (Go.Value.int Go.IntKind.i64 (n3))), (D.val (Go.Value.int Go.IntKind.i64 (n4))), (D.val (Go.Value.int Go.IntKind.i64 (n5)))]), (D.agg [(D.val (Go.Value.int Go.IntKind.i64 (n7))), (D.val (Go.Value.int Go.IntKind.i64 (n8))), (D.val (Go.Value.int Go.IntKind.i64 (n9))), (D.val (Go.Value.int Go.IntKind.i64 (n10)))])] [(D.val (Go.Value.int Go.IntKind.i64 (n11)))]) ∧
 ((((Go.Value.int Go.IntKind.i64 (Go.IntKind.wrap Go.IntKind.i64 (x + n11))) = (Go.Value.int Go.IntKind.i64 (Go.IntKind.wrap Go.IntKind.i64 (x + n11)))) ∧
 ((bcase (decide (0 ≤ n6))
 (bcase (decide (n6 < (↑n : Int)))
 ((Go.Value.pointer (Option.some (Go.Addr.mk 500 (0 + Int.toNat n6 * 4) Option.none))) = (Go.Value.pointer (Option.some (Go.Addr.mk 500 (0 + Int.toNat n6 * 4) Option.none))))
 False)
 False) ∧
 ((∃ n12 : Int,
 ((At (q) (0 + Int.toNat y * 1) 1 [(Go.Value.int Go.IntKind.i64 (n12))]) ∧
 ((Go.Value.int Go.IntKind.i64 (n12)) = (Go.Value.int Go.IntKind.i64 (n6))))) ∧
 ((bcase (decide (0 ≤ y))
 (bcase (decide (y < (↑m : Int)))
 ((Go.Value.pointer (Option.some (Go.Addr.mk 501 (0 + Int.toNat y * 1) Option.none))) = (Go.Value.pointer (Option.some (Go.Addr.mk 501 (0 + Int.toNat y * 1) Option.none))))
 False)
 False) ∧
 (((Go.Value.int Go.IntKind.i64 (y)) = (Go.Value.int Go.IntKind.i64 (y))) ∧
 (((Go.Value.slice (Option.some (Go.Addr.mk 501 0 Option.none)) (m) (cap2)) = (Go.Value.slice (Option.some (Go.Addr.mk 501 0 Option.none)) (m) (cap2))) ∧
 (((Go.Value.slice (Option.some (Go.Addr.mk 500 0 Option.none)) (n) (cap)) = (Go.Value.slice (Option.some (Go.Addr.mk 500 0 Option.none)) (n) (cap))) ∧
 ((bcase (decide (0 ≤ n1))
 (bcase (decide (n1 < (↑n : Int)))
 ((Go.Value.pointer (Option.some (Go.Addr.mk 500 (0 + Int.toNat n1 * 4) Option.none))) = (Go.Value.pointer (Option.some (Go.Addr.mk 500 (0 + Int.toNat n1 * 4) Option.none))))
 False)
 False) ∧
 ((∃ n12 : Int,
 ((At (q) (0 + Int.toNat (Go.IntKind.wrap Go.IntKind.i64 (y - 1)) * 1) 1 [(Go.Value.int Go.IntKind.i64 (n12))]) ∧
 ((Go.Value.int Go.IntKind.i64 (n12)) = (Go.Value.int Go.IntKind.i64 (n1))))) ∧
 ((bcase (decide (0 ≤ Go.IntKind.wrap Go.IntKind.i64 (y - 1)))
 (bcase (decide (Go.IntKind.wrap Go.IntKind.i64 (y - 1) < (↑m : Int)))
 ((Go.Value.pointer (Option.some (Go.Addr.mk 501 (0 + Int.toNat (Go.IntKind.wrap Go.IntKind.i64 (y - 1)) * 1) Option.none))) = (Go.Value.pointer (Option.some (Go.Addr.mk 501 (0 + Int.toNat (Go.IntKind.wrap Go.IntKind.i64 (y - 1)) * 1) Option.none))))
 False)
 False) ∧
 (((Go.Value.int Go.IntKind.i64 (Go.IntKind.wrap Go.IntKind.i64 (y - 1))) = (Go.Value.int Go.IntKind.i64 (Go.IntKind.wrap Go.IntKind.i64 (y - 1)))) ∧
 (((Go.Value.int Go.IntKind.i64 (y)) = (Go.Value.int Go.IntKind.i64 (y))) ∧
 (((Go.Value.slice (Option.some (Go.Addr.mk 501 0 Option.none)) (m) (cap2)) = (Go.Value.slice (Option.some (Go.Addr.mk 501 0 Option.none)) (m) (cap2))) ∧
 (((Go.Value.slice (Option.some (Go.Addr.mk 500 0 Option.none)) (n) (cap)) = (Go.Value.slice (Option.some (Go.Addr.mk 500 0 Option.none)) (n) (cap))) ∧
 (((Go.Value.int Go.IntKind.i64 (x)) = (Go.Value.int Go.IntKind.i64 (x))) ∧
 True))))))))))))))) ∧
 (True ∧
 (B [(Prod.mk 1 (Go.Value.slice (Option.some (Go.Addr.mk 500 0 Option.none)) (n) (cap))), (Prod.mk 2 (Go.Value.slice (Option.some (Go.Addr.mk 501 0 Option.none)) (m) (cap2))), (Prod.mk 3 (Go.Value.pointer (Option.some (Go.Addr.mk 1000 0 Option.none)))), (Prod.mk 7 (Go.Value.int Go.IntKind.i64 (Go.IntKind.wrap Go.IntKind.i64 (x + n11)))), (Prod.mk 8 (Go.Value.int Go.IntKind.i64 (Go.IntKind.wrap Go.IntKind.i64 (y + 1))))] [(Prod.mk 500 (AObj.sym (l) false 4)), (Prod.mk 501 (AObj.sym (q) false 1)), (Prod.mk 1000 (AObj.cells [(Go.Value.int Go.IntKind.i64 (a)), (Go.Value.int Go.IntKind.i64 (b)), (Go.Value.int Go.IntKind.i64 (c)), (Go.Value.int Go.IntKind.i64 (d)), (Go.Value.int Go.IntKind.i64 (e)), (Go.Value.int Go.IntKind.i64 (f)), (Go.Value.int Go.IntKind.i64 (g)), (Go.Value.int Go.IntKind.i64 (h)), (Go.Value.int Go.IntKind.i64 (i))] 42 false 1))])))))))))))
 False)
 False)))
 False)
 False))))))
 False)
 False)))
 False)
 False)
 (X 0 [(Prod.mk 7 (Go.Value.int Go.IntKind.i64 (x)))] [])) := by kernel_rfl
def n25 (C : Ct) (L : AtLoop) (x : Int) (k : List D → Prop) : Prop := wpNext Tryz.prog (hV C) L 25 0 .normal [(7, .int .i64 x)] [] (dataK k)
theorem n25_text (C : Ct) (L : AtLoop) (x : Int) (k : List D → Prop) : n25 C L x k =
 (k [(D.val (Go.Value.int Go.IntKind.i64 (x)))]) := by kernel_rfl
def g68 (C : Ct) (L : AtLoop) (a b c d e f g h i : Int) (n cap : Nat) (l : List Value) (x y : Int) (k : List D → Prop) : Prop := wpFn Tryz.prog (hV C) L 0 68 #[vMix a b c d e f g h i (S500 n cap), .int .i64 x, .int .i64 y] (heapOf [I500 l]) (dataK k)
theorem g68_text (C : Ct) (L : AtLoop) (a : Int) (b : Int) (c : Int) (d : Int) (e : Int) (f : Int) (g : Int) (h : Int) (i : Int) (n : Nat) (cap : Nat) (l : List Go.Value) (x : Int) (y : Int) (k : List D → Prop) : g68 C L a b c d e f g h i n cap l x y k =
 (bcase (decide (0 ≤ x))
 (bcase (decide (x < (↑n : Int)))
 (∃ n1 : Int,
 (∃ n2 : Int,
 (∃ n3 : Int,
 (∃ n4 : Int,
 ((At (l) (0 + Int.toNat x * 4) 4 [(Go.Value.int Go.IntKind.i64 (n1)), (Go.Value.int Go.IntKind.i64 (n2)), (Go.Value.int Go.IntKind.i64 (n3)), (Go.Value.int Go.IntKind.i64 (n4))]) ∧
 (bcase (decide (0 ≤ y))
 (bcase (decide (y < (↑n : Int)))
 (∃ n5 : Int,
 (∃ n6 : Int,
 (∃ n7 : Int,
 (∃ n8 : Int,
 ((At (l) (0 + Int.toNat y * 4) 4 [(Go.Value.int Go.IntKind.i64 (n5)), (Go.Value.int Go.IntKind.i64 (n6)), (Go.Value.int Go.IntKind.i64 (n7)), (Go.Value.int Go.IntKind.i64 (n8))]) ∧
 (((((Go.Value.pointer (Option.some (Go.Addr.mk 1002 0 Option.none))) = (Go.Value.pointer (Option.some (Go.Addr.mk 1002 0 Option.none)))) ∧
 ((Option.some (AObj.cells [(Go.Value.int Go.IntKind.i64 (0 : Int)), (Go.Value.int Go.IntKind.i64 (0 : Int)), (Go.Value.int Go.IntKind.i64 (0 : Int)), (Go.Value.int Go.IntKind.i64 (0 : Int))] 90 false 4)) = (Option.some (AObj.cells [(Go.Value.int Go.IntKind.i64 (0 : Int)), (Go.Value.int Go.IntKind.i64 (0 : Int)), (Go.Value.int Go.IntKind.i64 (0 : Int)), (Go.Value.int Go.IntKind.i64 (0 : Int))] 90 false 4)))) ∧
 ((((Go.Value.pointer (Option.some (Go.Addr.mk 1001 0 Option.none))) = (Go.Value.pointer (Option.some (Go.Addr.mk 1001 0 Option.none)))) ∧
 ((Option.some (AObj.cells [(Go.Value.int Go.IntKind.i64 (0 : Int)), (Go.Value.int Go.IntKind.i64 (0 : Int)), (Go.Value.int Go.IntKind.i64 (0 : Int)), (Go.Value.int Go.IntKind.i64 (0 : Int))] 90 false 4)) = (Option.some (AObj.cells [(Go.Value.int Go.IntKind.i64 (0 : Int)), (Go.Value.int Go.IntKind.i64 (0 : Int)), (Go.Value.int Go.IntKind.i64 (0 : Int)), (Go.Value.int Go.IntKind.i64 (0 : Int))] 90 false 4)))) ∧
 ((∃ n9 : Int,
 (∃ n10 : Int,
 (∃ n11 : Int,
 (∃ n12 : Int,
 ((At (l) (0 + Int.toNat y * 4) 4 [(Go.Value.int Go.IntKind.i64 (n9)), (Go.Value.int Go.IntKind.i64 (n10)), (Go.Value.int Go.IntKind.i64 (n11)), (Go.Value.int Go.IntKind.i64 (n12))]) ∧
 ((Go.Value.agg [(Go.Value.int Go.IntKind.i64 (n9)), (Go.Value.int Go.IntKind.i64 (n10)), (Go.Value.int Go.IntKind.i64 (n11)), (Go.Value.int Go.IntKind.i64 (n12))].toArray) = (Go.Value.agg [(Go.Value.int Go.IntKind.i64 (n5)), (Go.Value.int Go.IntKind.i64 (n6)), (Go.Value.int Go.IntKind.i64 (n7)), (Go.Value.int Go.IntKind.i64 (n8))].toArray))))))) ∧
 ((bcase (decide (0 ≤ y))
 (bcase (decide (y < (↑n : Int)))
 ((Go.Value.pointer (Option.some (Go.Addr.mk 500 (0 + Int.toNat y * 4) Option.none))) = (Go.Value.pointer (Option.some (Go.Addr.mk 500 (0 + Int.toNat y * 4) Option.none))))
 False)
 False) ∧
 (((Go.Value.int Go.IntKind.i64 (y)) = (Go.Value.int Go.IntKind.i64 (y))) ∧
 (((Go.Value.slice (Option.some (Go.Addr.mk 500 0 Option.none)) (n) (cap)) = (Go.Value.slice (Option.some (Go.Addr.mk 500 0 Option.none)) (n) (cap))) ∧
 (((Go.Value.pointer (Option.some (Go.Addr.mk 1000 9 Option.none))) = (Go.Value.pointer (Option.some (Go.Addr.mk 1000 9 Option.none)))) ∧
 ((∃ n9 : Int,
 (∃ n10 : Int,
 (∃ n11 : Int,
 (∃ n12 : Int,
 ((At (l) (0 + Int.toNat x * 4) 4 [(Go.Value.int Go.IntKind.i64 (n9)), (Go.Value.int Go.IntKind.i64 (n10)), (Go.Value.int Go.IntKind.i64 (n11)), (Go.Value.int Go.IntKind.i64 (n12))]) ∧
 ((Go.Value.agg [(Go.Value.int Go.IntKind.i64 (n9)), (Go.Value.int Go.IntKind.i64 (n10)), (Go.Value.int Go.IntKind.i64 (n11)), (Go.Value.int Go.IntKind.i64 (n12))].toArray) = (Go.Value.agg [(Go.Value.int Go.IntKind.i64 (n1)), (Go.Value.int Go.IntKind.i64 (n2)), (Go.Value.int Go.IntKind.i64 (n3)), (Go.Value.int Go.IntKind.i64 (n4))].toArray))))))) ∧
 ((bcase (decide (0 ≤ x))
 (bcase (decide (x < (↑n : Int)))
 ((Go.Value.pointer (Option.some (Go.Addr.mk 500 (0 + Int.toNat x * 4) Option.none))) = (Go.Value.pointer (Option.some (Go.Addr.mk 500 (0 + Int.toNat x * 4) Option.none))))
 False)
 False) ∧
 (((Go.Value.int Go.IntKind.i64 (x)) = (Go.Value.int Go.IntKind.i64 (x))) ∧
 (((Go.Value.slice (Option.some (Go.Addr.mk 500 0 Option.none)) (n) (cap)) = (Go.Value.slice (Option.some (Go.Addr.mk 500 0 Option.none)) (n) (cap))) ∧
 (((Go.Value.pointer (Option.some (Go.Addr.mk 1000 9 Option.none))) = (Go.Value.pointer (Option.some (Go.Addr.mk 1000 9 Option.none)))) ∧
 True)))))))))))) ∧
 (((∃ n9 : Int,
 (∃ n10 : Int,
 (∃ n11 : Int,
 (∃ n12 : Int,
 ((At (l) (0 + Int.toNat y * 4) 4 [(Go.Value.int Go.IntKind.i64 (n9)), (Go.Value.int Go.IntKind.i64 (n10)), (Go.Value.int Go.IntKind.i64 (n11)), (Go.Value.int Go.IntKind.i64 (n12))]) ∧
 ((Go.Value.agg [(Go.Value.int Go.IntKind.i64 (n9)), (Go.Value.int Go.IntKind.i64 (n10)), (Go.Value.int Go.IntKind.i64 (n11)), (Go.Value.int Go.IntKind.i64 (n12))].toArray) = (Go.Value.agg [(Go.Value.int Go.IntKind.i64 (n5)), (Go.Value.int Go.IntKind.i64 (n6)), (Go.Value.int Go.IntKind.i64 (n7)), (Go.Value.int Go.IntKind.i64 (n8))].toArray))))))) ∧
 ((bcase (decide (0 ≤ y))
 (bcase (decide (y < (↑n : Int)))
 ((Go.Value.pointer (Option.some (Go.Addr.mk 500 (0 + Int.toNat y * 4) Option.none))) = (Go.Value.pointer (Option.some (Go.Addr.mk 500 (0 + Int.toNat y * 4) Option.none))))
 False)
 False) ∧
 (((Go.Value.int Go.IntKind.i64 (y)) = (Go.Value.int Go.IntKind.i64 (y))) ∧
 (((Go.Value.slice (Option.some (Go.Addr.mk 500 0 Option.none)) (n) (cap)) = (Go.Value.slice (Option.some (Go.Addr.mk 500 0 Option.none)) (n) (cap))) ∧
 (((Go.Value.pointer (Option.some (Go.Addr.mk 1000 9 Option.none))) = (Go.Value.pointer (Option.some (Go.Addr.mk 1000 9 Option.none)))) ∧
 True))))) ∧
 (True ∧
 ((((Go.Value.int Go.IntKind.i64 (Go.IntKind.wrap Go.IntKind.i64 (n3 - n7))) = (Go.Value.int Go.IntKind.i64 (Go.IntKind.wrap Go.IntKind.i64 (n3 - n7)))) ∧
 (((Go.Value.int Go.IntKind.i64 (n7)) = (Go.Value.int Go.IntKind.i64 (n7))) ∧
 (((Go.Value.pointer (Option.some (Go.Addr.mk 1002 2 Option.none))) = (Go.Value.pointer (Option.some (Go.Addr.mk 1002 2 Option.none)))) ∧
 (((Go.Value.int Go.IntKind.i64 (n3)) = (Go.Value.int Go.IntKind.i64 (n3))) ∧
 (((Go.Value.pointer (Option.some (Go.Addr.mk 1001 2 Option.none))) = (Go.Value.pointer (Option.some (Go.Addr.mk 1001 2 Option.none)))) ∧
 (((Go.Value.int Go.IntKind.i64 (i)) = (Go.Value.int Go.IntKind.i64 (i))) ∧
 (((Go.Value.pointer (Option.some (Go.Addr.mk 1000 8 Option.none))) = (Go.Value.pointer (Option.some (Go.Addr.mk 1000 8 Option.none)))) ∧
 (((Go.Value.pointer (Option.some (Go.Addr.mk 1000 0 Option.none))) = (Go.Value.pointer (Option.some (Go.Addr.mk 1000 0 Option.none)))) ∧
 (((Go.Value.int Go.IntKind.i64 (Go.IntKind.wrap Go.IntKind.i64 (n2 - n6))) = (Go.Value.int Go.IntKind.i64 (Go.IntKind.wrap Go.IntKind.i64 (n2 - n6)))) ∧
 (((Go.Value.int Go.IntKind.i64 (n6)) = (Go.Value.int Go.IntKind.i64 (n6))) ∧
 (((Go.Value.pointer (Option.some (Go.Addr.mk 1002 1 Option.none))) = (Go.Value.pointer (Option.some (Go.Addr.mk 1002 1 Option.none)))) ∧
 (((Go.Value.int Go.IntKind.i64 (n2)) = (Go.Value.int Go.IntKind.i64 (n2))) ∧
 (((Go.Value.pointer (Option.some (Go.Addr.mk 1001 1 Option.none))) = (Go.Value.pointer (Option.some (Go.Addr.mk 1001 1 Option.none)))) ∧
 (((Go.Value.int Go.IntKind.i64 (h)) = (Go.Value.int Go.IntKind.i64 (h))) ∧
 (((Go.Value.pointer (Option.some (Go.Addr.mk 1000 7 Option.none))) = (Go.Value.pointer (Option.some (Go.Addr.mk 1000 7 Option.none)))) ∧
 (((Go.Value.pointer (Option.some (Go.Addr.mk 1000 0 Option.none))) = (Go.Value.pointer (Option.some (Go.Addr.mk 1000 0 Option.none)))) ∧
 (((Go.Value.int Go.IntKind.i64 (Go.IntKind.wrap Go.IntKind.i64 (n1 - n5))) = (Go.Value.int Go.IntKind.i64 (Go.IntKind.wrap Go.IntKind.i64 (n1 - n5)))) ∧
 (((Go.Value.int Go.IntKind.i64 (n5)) = (Go.Value.int Go.IntKind.i64 (n5))) ∧
 (((Go.Value.pointer (Option.some (Go.Addr.mk 1002 0 Option.none))) = (Go.Value.pointer (Option.some (Go.Addr.mk 1002 0 Option.none)))) ∧
 (((Go.Value.int Go.IntKind.i64 (n1)) = (Go.Value.int Go.IntKind.i64 (n1))) ∧
 (((Go.Value.pointer (Option.some (Go.Addr.mk 1001 0 Option.none))) = (Go.Value.pointer (Option.some (Go.Addr.mk 1001 0 Option.none)))) ∧
 (((Go.Value.int Go.IntKind.i64 (g)) = (Go.Value.int Go.IntKind.i64 (g))) ∧
 (((Go.Value.pointer (Option.some (Go.Addr.mk 1000 6 Option.none))) = (Go.Value.pointer (Option.some (Go.Addr.mk 1000 6 Option.none)))) ∧
 (((Go.Value.pointer (Option.some (Go.Addr.mk 1000 0 Option.none))) = (Go.Value.pointer (Option.some (Go.Addr.mk 1000 0 Option.none)))) ∧
 True)))))))))))))))))))))))) ∧
 (∃ n9 : Int,
 ((Says C 91 [(D.val (Go.Value.int Go.IntKind.i64 (Go.IntKind.wrap Go.IntKind.i64 (n1 - n5))))] [(D.val (Go.Value.int Go.IntKind.i64 (n9)))]) ∧
 ((((Go.Value.int Go.IntKind.i64 (Go.IntKind.wrap Go.IntKind.i64 (g * n9))) = (Go.Value.int Go.IntKind.i64 (Go.IntKind.wrap Go.IntKind.i64 (g * n9)))) ∧
 (((Go.Value.int Go.IntKind.i64 (Go.IntKind.wrap Go.IntKind.i64 (n3 - n7))) = (Go.Value.int Go.IntKind.i64 (Go.IntKind.wrap Go.IntKind.i64 (n3 - n7)))) ∧
 (((Go.Value.int Go.IntKind.i64 (n7)) = (Go.Value.int Go.IntKind.i64 (n7))) ∧
 (((Go.Value.pointer (Option.some (Go.Addr.mk 1002 2 Option.none))) = (Go.Value.pointer (Option.some (Go.Addr.mk 1002 2 Option.none)))) ∧
 (((Go.Value.int Go.IntKind.i64 (n3)) = (Go.Value.int Go.IntKind.i64 (n3))) ∧
 (((Go.Value.pointer (Option.some (Go.Addr.mk 1001 2 Option.none))) = (Go.Value.pointer (Option.some (Go.Addr.mk 1001 2 Option.none)))) ∧
 (((Go.Value.int Go.IntKind.i64 (i)) = (Go.Value.int Go.IntKind.i64 (i))) ∧
 (((Go.Value.pointer (Option.some (Go.Addr.mk 1000 8 Option.none))) = (Go.Value.pointer (Option.some (Go.Addr.mk 1000 8 Option.none)))) ∧
 (((Go.Value.pointer (Option.some (Go.Addr.mk 1000 0 Option.none))) = (Go.Value.pointer (Option.some (Go.Addr.mk 1000 0 Option.none)))) ∧
 (((Go.Value.int Go.IntKind.i64 (Go.IntKind.wrap Go.IntKind.i64 (n2 - n6))) = (Go.Value.int Go.IntKind.i64 (Go.IntKind.wrap Go.IntKind.i64 (n2 - n6)))) ∧
 (((Go.Value.int Go.IntKind.i64 (n6)) = (Go.Value.int Go.IntKind.i64 (n6))) ∧
 (((Go.Value.pointer (Option.some (Go.Addr.mk 1002 1 Option.none))) = (Go.Value.pointer (Option.some (Go.Addr.mk 1002 1 Option.none)))) ∧
 (((Go.Value.int Go.IntKind.i64 (n2)) = (Go.Value.int Go.IntKind.i64 (n2))) ∧
 (((Go.Value.pointer (Option.some (Go.Addr.mk 1001 1 Option.none))) = (Go.Value.pointer (Option.some (Go.Addr.mk 1001 1 Option.none)))) ∧
 (((Go.Value.int Go.IntKind.i64 (h)) = (Go.Value.int Go.IntKind.i64 (h))) ∧
 (((Go.Value.pointer (Option.some (Go.Addr.mk 1000 7 Option.none))) = (Go.Value.pointer (Option.some (Go.Addr.mk 1000 7 Option.none)))) ∧
 (((Go.Value.pointer (Option.some (Go.Addr.mk 1000 0 Option.none))) = (Go.Value.pointer (Option.some (Go.Addr.mk 1000 0 Option.none)))) ∧
 (((Go.Value.int Go.IntKind.i64 (n5)) = (Go.Value.int Go.IntKind.i64 (n5))) ∧
 (((Go.Value.pointer (Option.some (Go.Addr.mk 1002 0 Option.none))) = (Go.Value.pointer (Option.some (Go.Addr.mk 1002 0 Option.none)))) ∧
 (((Go.Value.int Go.IntKind.i64 (n1)) = (Go.Value.int Go.IntKind.i64 (n1))) ∧
 (((Go.Value.pointer (Option.some (Go.Addr.mk 1001 0 Option.none))) = (Go.Value.pointer (Option.some (Go.Addr.mk 1001 0 Option.none)))) ∧
 (((Go.Value.int Go.IntKind.i64 (g)) = (Go.Value.int Go.IntKind.i64 (g))) ∧
 (((Go.Value.pointer (Option.some (Go.Addr.mk 1000 6 Option.none))) = (Go.Value.pointer (Option.some (Go.Addr.mk 1000 6 Option.none)))) ∧
 (((Go.Value.pointer (Option.some (Go.Addr.mk 1000 0 Option.none))) = (Go.Value.pointer (Option.some (Go.Addr.mk 1000 0 Option.none)))) ∧
 True)))))))))))))))))))))))) ∧
 (∃ n10 : Int,
 ((Says C 91 [(D.val (Go.Value.int Go.IntKind.i64 (Go.IntKind.wrap Go.IntKind.i64 (n2 - n6))))] [(D.val (Go.Value.int Go.IntKind.i64 (n10)))]) ∧
 ((((Go.Value.int Go.IntKind.i64 (Go.IntKind.wrap Go.IntKind.i64 (Go.IntKind.wrap Go.IntKind.i64 (g * n9) + Go.IntKind.wrap Go.IntKind.i64 (h * n10)))) = (Go.Value.int Go.IntKind.i64 (Go.IntKind.wrap Go.IntKind.i64 (Go.IntKind.wrap Go.IntKind.i64 (g * n9) + Go.IntKind.wrap Go.IntKind.i64 (h * n10))))) ∧
 (((Go.Value.int Go.IntKind.i64 (Go.IntKind.wrap Go.IntKind.i64 (h * n10))) = (Go.Value.int Go.IntKind.i64 (Go.IntKind.wrap Go.IntKind.i64 (h * n10)))) ∧
 (((Go.Value.int Go.IntKind.i64 (Go.IntKind.wrap Go.IntKind.i64 (g * n9))) = (Go.Value.int Go.IntKind.i64 (Go.IntKind.wrap Go.IntKind.i64 (g * n9)))) ∧
 (((Go.Value.int Go.IntKind.i64 (Go.IntKind.wrap Go.IntKind.i64 (n3 - n7))) = (Go.Value.int Go.IntKind.i64 (Go.IntKind.wrap Go.IntKind.i64 (n3 - n7)))) ∧
 (((Go.Value.int Go.IntKind.i64 (n7)) = (Go.Value.int Go.IntKind.i64 (n7))) ∧
 (((Go.Value.pointer (Option.some (Go.Addr.mk 1002 2 Option.none))) = (Go.Value.pointer (Option.some (Go.Addr.mk 1002 2 Option.none)))) ∧
 (((Go.Value.int Go.IntKind.i64 (n3)) = (Go.Value.int Go.IntKind.i64 (n3))) ∧
 (((Go.Value.pointer (Option.some (Go.Addr.mk 1001 2 Option.none))) = (Go.Value.pointer (Option.some (Go.Addr.mk 1001 2 Option.none)))) ∧
 (((Go.Value.int Go.IntKind.i64 (i)) = (Go.Value.int Go.IntKind.i64 (i))) ∧
 (((Go.Value.pointer (Option.some (Go.Addr.mk 1000 8 Option.none))) = (Go.Value.pointer (Option.some (Go.Addr.mk 1000 8 Option.none)))) ∧
 (((Go.Value.pointer (Option.some (Go.Addr.mk 1000 0 Option.none))) = (Go.Value.pointer (Option.some (Go.Addr.mk 1000 0 Option.none)))) ∧
 (((Go.Value.int Go.IntKind.i64 (n6)) = (Go.Value.int Go.IntKind.i64 (n6))) ∧
 (((Go.Value.pointer (Option.some (Go.Addr.mk 1002 1 Option.none))) = (Go.Value.pointer (Option.some (Go.Addr.mk 1002 1 Option.none)))) ∧
 (((Go.Value.int Go.IntKind.i64 (n2)) = (Go.Value.int Go.IntKind.i64 (n2))) ∧
 (((Go.Value.pointer (Option.some (Go.Addr.mk 1001 1 Option.none))) = (Go.Value.pointer (Option.some (Go.Addr.mk 1001 1 Option.none)))) ∧
 (((Go.Value.int Go.IntKind.i64 (h)) = (Go.Value.int Go.IntKind.i64 (h))) ∧
 (((Go.Value.pointer (Option.some (Go.Addr.mk 1000 7 Option.none))) = (Go.Value.pointer (Option.some (Go.Addr.mk 1000 7 Option.none)))) ∧
 (((Go.Value.pointer (Option.some (Go.Addr.mk 1000 0 Option.none))) = (Go.Value.pointer (Option.some (Go.Addr.mk 1000 0 Option.none)))) ∧
 (((Go.Value.int Go.IntKind.i64 (n5)) = (Go.Value.int Go.IntKind.i64 (n5))) ∧
 (((Go.Value.pointer (Option.some (Go.Addr.mk 1002 0 Option.none))) = (Go.Value.pointer (Option.some (Go.Addr.mk 1002 0 Option.none)))) ∧
 (((Go.Value.int Go.IntKind.i64 (n1)) = (Go.Value.int Go.IntKind.i64 (n1))) ∧
 (((Go.Value.pointer (Option.some (Go.Addr.mk 1001 0 Option.none))) = (Go.Value.pointer (Option.some (Go.Addr.mk 1001 0 Option.none)))) ∧
 (((Go.Value.int Go.IntKind.i64 (g)) = (Go.Value.int Go.IntKind.i64 (g))) ∧
 (((Go.Value.pointer (Option.some (Go.Addr.mk 1000 6 Option.none))) = (Go.Value.pointer (Option.some (Go.Addr.mk 1000 6 Option.none)))) ∧
 (((Go.Value.pointer (Option.some (Go.Addr.mk 1000 0 Option.none))) = (Go.Value.pointer (Option.some (Go.Addr.mk 1000 0 Option.none)))) ∧
 True))))))))))))))))))))))))) ∧
 (∃ n11 : Int,
 ((Says C 91 [(D.val (Go.Value.int Go.IntKind.i64 (Go.IntKind.wrap Go.IntKind.i64 (n3 - n7))))] [(D.val (Go.Value.int Go.IntKind.i64 (n11)))]) ∧
 ((((Go.Value.int Go.IntKind.i64 (Go.IntKind.wrap Go.IntKind.i64 (Go.IntKind.wrap Go.IntKind.i64 (Go.IntKind.wrap Go.IntKind.i64 (g * n9) + Go.IntKind.wrap Go.IntKind.i64 (h * n10)) + Go.IntKind.wrap Go.IntKind.i64 (i * n11)))) = (Go.Value.int Go.IntKind.i64 (Go.IntKind.wrap Go.IntKind.i64 (Go.IntKind.wrap Go.IntKind.i64 (Go.IntKind.wrap Go.IntKind.i64 (g * n9) + Go.IntKind.wrap Go.IntKind.i64 (h * n10)) + Go.IntKind.wrap Go.IntKind.i64 (i * n11))))) ∧
 (((Go.Value.int Go.IntKind.i64 (Go.IntKind.wrap Go.IntKind.i64 (i * n11))) = (Go.Value.int Go.IntKind.i64 (Go.IntKind.wrap Go.IntKind.i64 (i * n11)))) ∧
 (((Go.Value.int Go.IntKind.i64 (Go.IntKind.wrap Go.IntKind.i64 (Go.IntKind.wrap Go.IntKind.i64 (g * n9) + Go.IntKind.wrap Go.IntKind.i64 (h * n10)))) = (Go.Value.int Go.IntKind.i64 (Go.IntKind.wrap Go.IntKind.i64 (Go.IntKind.wrap Go.IntKind.i64 (g * n9) + Go.IntKind.wrap Go.IntKind.i64 (h * n10))))) ∧
 (((Go.Value.int Go.IntKind.i64 (Go.IntKind.wrap Go.IntKind.i64 (h * n10))) = (Go.Value.int Go.IntKind.i64 (Go.IntKind.wrap Go.IntKind.i64 (h * n10)))) ∧
 (((Go.Value.int Go.IntKind.i64 (Go.IntKind.wrap Go.IntKind.i64 (g * n9))) = (Go.Value.int Go.IntKind.i64 (Go.IntKind.wrap Go.IntKind.i64 (g * n9)))) ∧
 (((Go.Value.int Go.IntKind.i64 (n7)) = (Go.Value.int Go.IntKind.i64 (n7))) ∧
 (((Go.Value.pointer (Option.some (Go.Addr.mk 1002 2 Option.none))) = (Go.Value.pointer (Option.some (Go.Addr.mk 1002 2 Option.none)))) ∧
 (((Go.Value.int Go.IntKind.i64 (n3)) = (Go.Value.int Go.IntKind.i64 (n3))) ∧
 (((Go.Value.pointer (Option.some (Go.Addr.mk 1001 2 Option.none))) = (Go.Value.pointer (Option.some (Go.Addr.mk 1001 2 Option.none)))) ∧
 (((Go.Value.int Go.IntKind.i64 (i)) = (Go.Value.int Go.IntKind.i64 (i))) ∧
 (((Go.Value.pointer (Option.some (Go.Addr.mk 1000 8 Option.none))) = (Go.Value.pointer (Option.some (Go.Addr.mk 1000 8 Option.none)))) ∧
 (((Go.Value.pointer (Option.some (Go.Addr.mk 1000 0 Option.none))) = (Go.Value.pointer (Option.some (Go.Addr.mk 1000 0 Option.none)))) ∧
 (((Go.Value.int Go.IntKind.i64 (n6)) = (Go.Value.int Go.IntKind.i64 (n6))) ∧
 (((Go.Value.pointer (Option.some (Go.Addr.mk 1002 1 Option.none))) = (Go.Value.pointer (Option.some (Go.Addr.mk 1002 1 Option.none)))) ∧
 (((Go.Value.int Go.IntKind.i64 (n2)) = (Go.Value.int Go.IntKind.i64 (n2))) ∧
 (((Go.Value.pointer (Option.some (Go.Addr.mk 1001 1 Option.none))) = (Go.Value.pointer (Option.some (Go.Addr.mk 1001 1 Option.none)))) ∧
 (((Go.Value.int Go.IntKind.i64 (h)) = (Go.Value.int Go.IntKind.i64 (h))) ∧
 (((Go.Value.pointer (Option.some (Go.Addr.mk 1000 7 Option.none))) = (Go.Value.pointer (Option.some (Go.Addr.mk 1000 7 Option.none)))) ∧
 (((Go.Value.pointer (Option.some (Go.Addr.mk 1000 0 Option.none))) = (Go.Value.pointer (Option.some (Go.Addr.mk 1000 0 Option.none)))) ∧
 (((Go.Value.int Go.IntKind.i64 (n5)) = (Go.Value.int Go.IntKind.i64 (n5))) ∧
 (((Go.Value.pointer (Option.some (Go.Addr.mk 1002 0 Option.none))) = (Go.Value.pointer (Option.some (Go.Addr.mk 1002 0 Option.none)))) ∧
 (((Go.Value.int Go.IntKind.i64 (n1)) = (Go.Value.int Go.IntKind.i64 (n1))) ∧
 (((Go.Value.pointer (Option.some (Go.Addr.mk 1001 0 Option.none))) = (Go.Value.pointer (Option.some (Go.Addr.mk 1001 0 Option.none)))) ∧
 (((Go.Value.int Go.IntKind.i64 (g)) = (Go.Value.int Go.IntKind.i64 (g))) ∧
 (((Go.Value.pointer (Option.some (Go.Addr.mk 1000 6 Option.none))) = (Go.Value.pointer (Option.some (Go.Addr.mk 1000 6 Option.none)))) ∧
 (((Go.Value.pointer (Option.some (Go.Addr.mk 1000 0 Option.none))) = (Go.Value.pointer (Option.some (Go.Addr.mk 1000 0 Option.none)))) ∧
 True)))))))))))))))))))))))))) ∧
 (True ∧
 (k [(D.val (Go.Value.int Go.IntKind.i64 (Go.IntKind.wrap Go.IntKind.i64 (Go.IntKind.wrap Go.IntKind.i64 (Go.IntKind.wrap Go.IntKind.i64 (g * n9) + Go.IntKind.wrap Go.IntKind.i64 (h * n10)) + Go.IntKind.wrap Go.IntKind.i64 (i * n11)))))]))))))))))))))))))))
 False)
 False))))))
 False)
 False) := by kernel_rfl
def g45 (C : Ct) (L : AtLoop) (a b c d e f g h i : Int) (n cap : Nat) (l : List Value) (m cap2 : Nat) (q : List Value) (k : List D → Prop) : Prop := wpFn Tryz.prog (hV C) L 0 45 #[vMix a b c d e f g h i (S500 n cap), S501 m cap2] (heapOf [I500 l, Q501 q]) (dataK k)
theorem g45_text (C : Ct) (L : AtLoop) (a : Int) (b : Int) (c : Int) (d : Int) (e : Int) (f : Int) (g : Int) (h : Int) (i : Int) (n : Nat) (cap : Nat) (l : List Go.Value) (m : Nat) (cap2 : Nat) (q : List Go.Value) (k : List D → Prop) : g45 C L a b c d e f g h i n cap l m cap2 q k =
 (L 0 [(Prod.mk 1 (Go.Value.slice (Option.some (Go.Addr.mk 501 0 Option.none)) (m) (cap2))), (Prod.mk 2 (Go.Value.pointer (Option.some (Go.Addr.mk 1000 0 Option.none)))), (Prod.mk 5 (Go.Value.int Go.IntKind.i64 (0 : Int))), (Prod.mk 6 (Go.Value.int Go.IntKind.i64 (1 : Int)))] [(Prod.mk 501 (AObj.sym (q) false 1)), (Prod.mk 1000 (AObj.cells [(Go.Value.int Go.IntKind.i64 (a)), (Go.Value.int Go.IntKind.i64 (b)), (Go.Value.int Go.IntKind.i64 (c)), (Go.Value.int Go.IntKind.i64 (d)), (Go.Value.int Go.IntKind.i64 (e)), (Go.Value.int Go.IntKind.i64 (f)), (Go.Value.int Go.IntKind.i64 (g)), (Go.Value.int Go.IntKind.i64 (h)), (Go.Value.int Go.IntKind.i64 (i)), (Go.Value.slice (Option.some (Go.Addr.mk 500 0 Option.none)) (n) (cap))] 82 false 1)), (Prod.mk 500 (AObj.sym (l) false 4))]) := by kernel_rfl
abbrev s45 (m cap2 : Nat) (x y : Int) : Slots := [(1, S501 m cap2), (2, .pointer (some (Addr.mk 1000 0 none))), (5, .int .i64 x), (6, .int .i64 y)]
def r45 (C : Ct) (L : AtLoop) (a b c d e f g h i : Int) (n cap : Nat) (l : List Value) (m cap2 : Nat) (q : List Value) (x y : Int) (B : Bx) (X : Xx) (k : List D → Prop) : Prop := wpRound Tryz.prog (hV C) L 45 0 (s45 m cap2 x y) [Q501 q, M1000 a b c d e f g h i (S500 n cap), I500 l] B X (dataK k)
theorem r45_text (C : Ct) (L : AtLoop) (a : Int) (b : Int) (c : Int) (d : Int) (e : Int) (f : Int) (g : Int) (h : Int) (i : Int) (n : Nat) (cap : Nat) (l : List Go.Value) (m : Nat) (cap2 : Nat) (q : List Go.Value) (x : Int) (y : Int) (B : Bx) (X : Xx) (k : List D → Prop) : r45 C L a b c d e f g h i n cap l m cap2 q x y B X k =
 (bcase (decide (y < (↑m : Int)))
 (bcase (decide (0 ≤ Go.IntKind.wrap Go.IntKind.i64 (y - 1)))
 (bcase (decide (Go.IntKind.wrap Go.IntKind.i64 (y - 1) < (↑m : Int)))
 (∃ n1 : Int,
 ((At (q) (0 + Int.toNat (Go.IntKind.wrap Go.IntKind.i64 (y - 1)) * 1) 1 [(Go.Value.int Go.IntKind.i64 (n1))]) ∧
 (bcase (decide (0 ≤ y))
 (bcase (decide (y < (↑m : Int)))
 (∃ n2 : Int,
 ((At (q) (0 + Int.toNat y * 1) 1 [(Go.Value.int Go.IntKind.i64 (n2))]) ∧
 (((∃ n3 : Int,
 ((At (q) (0 + Int.toNat y * 1) 1 [(Go.Value.int Go.IntKind.i64 (n3))]) ∧
 ((Go.Value.int Go.IntKind.i64 (n3)) = (Go.Value.int Go.IntKind.i64 (n2))))) ∧
 ((bcase (decide (0 ≤ y))
 (bcase (decide (y < (↑m : Int)))
 ((Go.Value.pointer (Option.some (Go.Addr.mk 501 (0 + Int.toNat y * 1) Option.none))) = (Go.Value.pointer (Option.some (Go.Addr.mk 501 (0 + Int.toNat y * 1) Option.none))))
 False)
 False) ∧
 (((Go.Value.int Go.IntKind.i64 (y)) = (Go.Value.int Go.IntKind.i64 (y))) ∧
 (((Go.Value.slice (Option.some (Go.Addr.mk 501 0 Option.none)) (m) (cap2)) = (Go.Value.slice (Option.some (Go.Addr.mk 501 0 Option.none)) (m) (cap2))) ∧
 ((∃ n3 : Int,
 ((At (q) (0 + Int.toNat (Go.IntKind.wrap Go.IntKind.i64 (y - 1)) * 1) 1 [(Go.Value.int Go.IntKind.i64 (n3))]) ∧
 ((Go.Value.int Go.IntKind.i64 (n3)) = (Go.Value.int Go.IntKind.i64 (n1))))) ∧
 ((bcase (decide (0 ≤ Go.IntKind.wrap Go.IntKind.i64 (y - 1)))
 (bcase (decide (Go.IntKind.wrap Go.IntKind.i64 (y - 1) < (↑m : Int)))
 ((Go.Value.pointer (Option.some (Go.Addr.mk 501 (0 + Int.toNat (Go.IntKind.wrap Go.IntKind.i64 (y - 1)) * 1) Option.none))) = (Go.Value.pointer (Option.some (Go.Addr.mk 501 (0 + Int.toNat (Go.IntKind.wrap Go.IntKind.i64 (y - 1)) * 1) Option.none))))
 False)
 False) ∧
 (((Go.Value.int Go.IntKind.i64 (Go.IntKind.wrap Go.IntKind.i64 (y - 1))) = (Go.Value.int Go.IntKind.i64 (Go.IntKind.wrap Go.IntKind.i64 (y - 1)))) ∧
 (((Go.Value.int Go.IntKind.i64 (y)) = (Go.Value.int Go.IntKind.i64 (y))) ∧
 (((Go.Value.slice (Option.some (Go.Addr.mk 501 0 Option.none)) (m) (cap2)) = (Go.Value.slice (Option.some (Go.Addr.mk 501 0 Option.none)) (m) (cap2))) ∧
 (((Go.Value.agg [(Go.Value.int Go.IntKind.i64 (a)), (Go.Value.int Go.IntKind.i64 (b)), (Go.Value.int Go.IntKind.i64 (c)), (Go.Value.int Go.IntKind.i64 (d)), (Go.Value.int Go.IntKind.i64 (e)), (Go.Value.int Go.IntKind.i64 (f)), (Go.Value.int Go.IntKind.i64 (g)), (Go.Value.int Go.IntKind.i64 (h)), (Go.Value.int Go.IntKind.i64 (i)), (Go.Value.slice (Option.some (Go.Addr.mk 500 0 Option.none)) (n) (cap))].toArray) = (Go.Value.agg [(Go.Value.int Go.IntKind.i64 (a)), (Go.Value.int Go.IntKind.i64 (b)), (Go.Value.int Go.IntKind.i64 (c)), (Go.Value.int Go.IntKind.i64 (d)), (Go.Value.int Go.IntKind.i64 (e)), (Go.Value.int Go.IntKind.i64 (f)), (Go.Value.int Go.IntKind.i64 (g)), (Go.Value.int Go.IntKind.i64 (h)), (Go.Value.int Go.IntKind.i64 (i)), (Go.Value.slice (Option.some (Go.Addr.mk 500 0 Option.none)) (n) (cap))].toArray)) ∧
 (((Go.Value.int Go.IntKind.i64 (x)) = (Go.Value.int Go.IntKind.i64 (x))) ∧
 True))))))))))) ∧
 (bcase (decide (0 + n * 4 ≤ List.length l))
 (∃ n3 : Int,
 ((Says C 68 [(D.agg [(D.val (Go.Value.int Go.IntKind.i64 (a))), (D.val (Go.Value.int Go.IntKind.i64 (b))), (D.val (Go.Value.int Go.IntKind.i64 (c))), (D.val (Go.Value.int Go.IntKind.i64 (d))), (D.val (Go.Value.int Go.IntKind.i64 (e))), (D.val (Go.Value.int Go.IntKind.i64 (f))), (D.val (Go.Value.int Go.IntKind.i64 (g))), (D.val (Go.Value.int Go.IntKind.i64 (h))), (D.val (Go.Value.int Go.IntKind.i64 (i))), (D.sl (n) 4 (List.take (n * 4) (List.drop 0 l)))]), (D.val (Go.Value.int Go.IntKind.i64 (n1))), (D.val (Go.Value.int Go.IntKind.i64 (n2)))] [(D.val (Go.Value.int Go.IntKind.i64 (n3)))]) ∧
 ((((Go.Value.int Go.IntKind.i64 (Go.IntKind.wrap Go.IntKind.i64 (x + n3))) = (Go.Value.int Go.IntKind.i64 (Go.IntKind.wrap Go.IntKind.i64 (x + n3)))) ∧
 ((bcase (decide (0 ≤ y))
 (bcase (decide (y < (↑m : Int)))
 ((Go.Value.pointer (Option.some (Go.Addr.mk 501 (0 + Int.toNat y * 1) Option.none))) = (Go.Value.pointer (Option.some (Go.Addr.mk 501 (0 + Int.toNat y * 1) Option.none))))
 False)
 False) ∧
 (((Go.Value.int Go.IntKind.i64 (y)) = (Go.Value.int Go.IntKind.i64 (y))) ∧
 (((Go.Value.slice (Option.some (Go.Addr.mk 501 0 Option.none)) (m) (cap2)) = (Go.Value.slice (Option.some (Go.Addr.mk 501 0 Option.none)) (m) (cap2))) ∧
 ((bcase (decide (0 ≤ Go.IntKind.wrap Go.IntKind.i64 (y - 1)))
 (bcase (decide (Go.IntKind.wrap Go.IntKind.i64 (y - 1) < (↑m : Int)))
 ((Go.Value.pointer (Option.some (Go.Addr.mk 501 (0 + Int.toNat (Go.IntKind.wrap Go.IntKind.i64 (y - 1)) * 1) Option.none))) = (Go.Value.pointer (Option.some (Go.Addr.mk 501 (0 + Int.toNat (Go.IntKind.wrap Go.IntKind.i64 (y - 1)) * 1) Option.none))))
 False)
 False) ∧
 (((Go.Value.int Go.IntKind.i64 (Go.IntKind.wrap Go.IntKind.i64 (y - 1))) = (Go.Value.int Go.IntKind.i64 (Go.IntKind.wrap Go.IntKind.i64 (y - 1)))) ∧
 (((Go.Value.int Go.IntKind.i64 (y)) = (Go.Value.int Go.IntKind.i64 (y))) ∧
 (((Go.Value.slice (Option.some (Go.Addr.mk 501 0 Option.none)) (m) (cap2)) = (Go.Value.slice (Option.some (Go.Addr.mk 501 0 Option.none)) (m) (cap2))) ∧
 (((Go.Value.int Go.IntKind.i64 (x)) = (Go.Value.int Go.IntKind.i64 (x))) ∧
 True))))))))) ∧
 (True ∧
 (B [(Prod.mk 1 (Go.Value.slice (Option.some (Go.Addr.mk 501 0 Option.none)) (m) (cap2))), (Prod.mk 2 (Go.Value.pointer (Option.some (Go.Addr.mk 1000 0 Option.none)))), (Prod.mk 5 (Go.Value.int Go.IntKind.i64 (Go.IntKind.wrap Go.IntKind.i64 (x + n3)))), (Prod.mk 6 (Go.Value.int Go.IntKind.i64 (Go.IntKind.wrap Go.IntKind.i64 (y + 1))))] [(Prod.mk 501 (AObj.sym (q) false 1)), (Prod.mk 1000 (AObj.cells [(Go.Value.int Go.IntKind.i64 (a)), (Go.Value.int Go.IntKind.i64 (b)), (Go.Value.int Go.IntKind.i64 (c)), (Go.Value.int Go.IntKind.i64 (d)), (Go.Value.int Go.IntKind.i64 (e)), (Go.Value.int Go.IntKind.i64 (f)), (Go.Value.int Go.IntKind.i64 (g)), (Go.Value.int Go.IntKind.i64 (h)), (Go.Value.int Go.IntKind.i64 (i)), (Go.Value.slice (Option.some (Go.Addr.mk 500 0 Option.none)) (n) (cap))] 82 false 1)), (Prod.mk 500 (AObj.sym (l) false 4))])))))
 False))))
 False)
 False)))
 False)
 False)
 (X 0 [(Prod.mk 5 (Go.Value.int Go.IntKind.i64 (x)))] [])) := by kernel_rfl
def n45 (C : Ct) (L : AtLoop) (x : Int) (k : List D → Prop) : Prop := wpNext Tryz.prog (hV C) L 45 0 .normal [(5, .int .i64 x)] [] (dataK k)
theorem n45_text (C : Ct) (L : AtLoop) (x : Int) (k : List D → Prop) : n45 C L x k =
 (k [(D.val (Go.Value.int Go.IntKind.i64 (x)))]) := by kernel_rfl
end Go.Proofs.C1R

/- Chapter 1: rules, items, sequences, as they are specified. -/
namespace Go.Proofs.C1
open Go Go.Abs
/-- An item: width, thickness, hardness, metres. -/
structure It where
  w : Int
  t : Int
  h : Int
  m : Int
/-- Rules: nine numbers. -/
structure Ru where
  op : Int
  wu : Int
  wd : Int
  tj : Int
  hj : Int
  me : Int
  wp : Int
  tp : Int
  hp : Int
/-- items as cells -/
def vq : List It → List Value
  | [] => []
  | p :: r => .int .i64 p.w :: .int .i64 p.t :: .int .i64 p.h :: .int .i64 p.m :: vq r
@[simp] theorem vq_length : ∀ l : List It, (vq l).length = l.length * 4
  | [] => rfl
  | p :: r => by simp only [vq, List.length_cons, vq_length r]; omega
theorem vq_drop : ∀ (l : List It) (i : Nat), (vq l).drop (i * 4) = vq (l.drop i)
  | l, 0 => by simp
  | [], i + 1 => by simp [vq]
  | p :: r, i + 1 => by
    rw [Nat.add_mul]
    simp only [vq, Nat.one_mul, List.drop_succ_cons]
    exact vq_drop r i
theorem vq_four (l : List It) (i : Nat) (h : i < l.length) : At (vq l) (0 + i * 4) 4 [.int .i64 l[i].w, .int .i64 l[i].t, .int .i64 l[i].h, .int .i64 l[i].m] := by
  refine ⟨by rw [vq_length]; omega, ?_⟩
  rw [Nat.zero_add, vq_drop, List.drop_eq_getElem_cons h]
  rfl
theorem vq_one (l : List It) (i : Nat) (h : i < l.length) : At (vq l) (0 + i * 4) 1 [.int .i64 l[i].w] := by
  refine ⟨by rw [vq_length]; omega, ?_⟩
  rw [Nat.zero_add, vq_drop, List.drop_eq_getElem_cons h]
  rfl
theorem vq_two (l : List It) (i : Nat) (h : i < l.length) : At (vq l) (0 + i * 4 + 1) 1 [.int .i64 l[i].t] := by
  refine ⟨by rw [vq_length]; omega, ?_⟩
  rw [Nat.zero_add, ← List.drop_drop, vq_drop, List.drop_eq_getElem_cons h]
  rfl
theorem vq_thr (l : List It) (i : Nat) (h : i < l.length) : At (vq l) (0 + i * 4 + 2) 1 [.int .i64 l[i].h] := by
  refine ⟨by rw [vq_length]; omega, ?_⟩
  rw [Nat.zero_add, ← List.drop_drop, vq_drop, List.drop_eq_getElem_cons h]
  rfl
theorem vq_last (l : List It) (i : Nat) (h : i < l.length) : At (vq l) (0 + i * 4 + 3) 1 [.int .i64 l[i].m] := by
  refine ⟨by rw [vq_length]; omega, ?_⟩
  rw [Nat.zero_add, ← List.drop_drop, vq_drop, List.drop_eq_getElem_cons h]
  rfl
theorem vq_whole (l : List It) : List.take (l.length * 4) (List.drop 0 (vq l)) = vq l := by simp [List.take_of_length_le]

structure RuOk (r : Ru) : Prop where
  op : 0 ≤ r.op ∧ r.op ≤ 7
  wu : 0 ≤ r.wu ∧ r.wu ≤ 300000
  wd : 0 ≤ r.wd ∧ r.wd ≤ 300000
  tj : 0 ≤ r.tj ∧ r.tj ≤ 300000
  hj : 0 ≤ r.hj ∧ r.hj ≤ 99
  me : 0 ≤ r.me ∧ r.me ≤ 70000
  wp : 0 ≤ r.wp ∧ r.wp ≤ 10000
  tp : 0 ≤ r.tp ∧ r.tp ≤ 10000
  hp : 0 ≤ r.hp ∧ r.hp ≤ 10000
abbrev ruOk (r : Ru) : Prop := (0 ≤ r.op ∧ r.op ≤ 7) ∧ (0 ≤ r.wu ∧ r.wu ≤ 300000) ∧ (0 ≤ r.wd ∧ r.wd ≤ 300000) ∧ (0 ≤ r.tj ∧ r.tj ≤ 300000) ∧ (0 ≤ r.hj ∧ r.hj ≤ 99) ∧ (0 ≤ r.me ∧ r.me ≤ 70000) ∧ (0 ≤ r.wp ∧ r.wp ≤ 10000) ∧ (0 ≤ r.tp ∧ r.tp ≤ 10000) ∧ 0 ≤ r.hp ∧ r.hp ≤ 10000
def ruE (r : Ru) : Int := if ruOk r then 0 else 2
abbrev itOk (x : It) : Prop := (500 ≤ x.w ∧ x.w ≤ 2500) ∧ (1 ≤ x.t ∧ x.t ≤ 300000) ∧ (1 ≤ x.h ∧ x.h ≤ 99) ∧ 1 ≤ x.m ∧ x.m ≤ 10000
def itsE (l : List It) : Int := if l.length = 0 then 10 else if 7 < l.length then 8 else if ∀ x ∈ l, itOk x then 0 else 2
/-- the error of a sequence, from an index on -/
def seqE (n : Nat) (q : List Int) : List Int → Int
  | [] => 0
  | i :: r => if 0 ≤ i ∧ i ≤ (n : Int) - 1 then (if i ∈ q then 23 else seqE n (q ++ [i]) r) else 6
end Go.Proofs.C1
