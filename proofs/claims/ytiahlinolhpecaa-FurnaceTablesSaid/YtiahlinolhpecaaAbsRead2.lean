/- An argument that is a list of pairs of whole numbers reads as data. -/
import Derived.Test.YtiahlinolhpecaaAbsRead
import Derived.ChangeArms
import Derived.ChangeSame
import Derived.DataReads
namespace Go.Abs
open Go.RowKit Go.ChangeShapes Go.WideShapes Go.ChangeAt
variable {H : Type} {enc : TypeId × Value → H} {P : Program} {W : World}
theorem reads_pairs {t e : TypeId} {f0 f1 : Field} {k : IntKind} {r : Reach} {base base0 : Nat} {sp : Nat → Bool} {held : Bool} {fuel : Nat} {v : Value} {x : DataW H × List MemPlace} (ht : P.underlying t = some (.slice e)) (he : P.underlying e = some (.struct #[f0, f1]))
    (hk0 : P.underlying f0.type = some (.int k)) (hk1 : P.underlying f1.type = some (.int k)) (hc : P.cellsOf e = 2) (hc0 : P.cellsOf f0.type = 1) (hc1 : P.cellsOf f1.type = 1) (ho0 : f0.offset = 0) (ho1 : f1.offset = 1)
    (hok : Cell.okWide P W r base t v) (h : DataW.trod enc P W base0 sp held fuel t [v] = some x) :
    (v = .slice none 0 0 ∧ Reads W .nil v) ∨ ∃ (ps : List (Int × Int)), ps.length ≤ maxLen ∧ Reads W (.sl ps.length 2 (ps.flatMap fun p => [Value.int k p.1, Value.int k p.2])) v := by
  rcases DataW.trod_slice ht h with ⟨h1, _⟩ | ⟨a, len, cap, elems, rest, n, _, h1, _, hb, hl, hm, hlen, hel, _, _⟩
  · left
    simp only [List.cons.injEq, and_true] at h1
    subst h1
    exact ⟨rfl, .nil⟩
  · right
    simp only [List.cons.injEq, and_true] at h1
    subst h1
    simp only [Cell.okWide, Cell.ok, ht] at hok
    obtain ⟨b, o, rfl, c, ty, fz, hbb, ho⟩ := has_block hok.2.2
    have each : ∀ i, i < len → ∃ p : Int × Int, c[o + i * 2]? = some (.int k p.1) ∧ c[o + i * 2 + 1]? = some (.int k p.2) := by
      intro i hi
      have h2 := hel i hi
      rw [List.getElem?_eq_getElem (by omega), hc, Option.bind_eq_some_iff] at h2
      obtain ⟨cs, hcs, hy⟩ := h2
      obtain ⟨_, hn, hg⟩ := World.cells?_some hcs
      obtain ⟨y0, y1, m, _, _, t0, t1⟩ := trod_struct2 he hy
      rw [ho0, hc0] at t0
      rw [ho1, hc1] at t1
      obtain ⟨k0, e0, _, _⟩ := DataW.trod_int hk0 t0
      obtain ⟨k1, e1, _, _⟩ := DataW.trod_int hk1 t1
      match cs, hn with
      | [c0, c1], _ =>
        obtain rfl : c0 = .int k k0 := by simpa using e0
        obtain rfl : c1 = .int k k1 := by simpa using e1
        have g0 := hg 0 (by omega)
        have g1 := hg 1 (by omega)
        simp only [addr_add, World.cell?, hbb] at g0 g1
        exact ⟨(k0, k1), by simpa using g0, by simpa using g1⟩
    have all : ∀ m, m ≤ len → ∃ ps : List (Int × Int), ps.length = m ∧ ∀ i (h : i < ps.length), c[o + i * 2]? = some (.int k ps[i].1) ∧ c[o + i * 2 + 1]? = some (.int k ps[i].2) := by
      intro m
      induction m with
      | zero => intro _; exact ⟨[], rfl, fun i h => by simp at h⟩
      | succ m ih =>
        intro hm'
        obtain ⟨ps, hp, hq⟩ := ih (by omega)
        obtain ⟨p, h3, h4⟩ := each m (by omega)
        refine ⟨ps ++ [p], by simp [hp], fun i hi => ?_⟩
        by_cases h : i < ps.length
        · rw [List.getElem_append_left h]; exact hq i h
        · have : i = m := by simp at hi; omega
          subst this
          rw [List.getElem_append_right (by omega)]
          simp only [List.getElem_singleton]
          exact ⟨h3, h4⟩
    obtain ⟨ps, hp, hq⟩ := all len (Nat.le_refl _)
    have hfl : ∀ l : List (Int × Int), (l.flatMap fun p => [Value.int k p.1, Value.int k p.2]).length = l.length * 2 := by
      intro l
      induction l with
      | nil => rfl
      | cons p l ih => simp only [List.flatMap_cons, List.length_append, List.length_cons, List.length_nil, ih]; omega
    have hsz : o + len * 2 ≤ c.size := by
      by_cases h0 : len = 0
      · omega
      · have := (hq (len - 1) (by omega)).2
        have := (Array.getElem?_eq_some_iff.1 this).1
        omega
    have hread : ∀ (l : List (Int × Int)) (s : Nat), (∀ i (h : i < l.length), c[s + i * 2]? = some (.int k l[i].1) ∧ c[s + i * 2 + 1]? = some (.int k l[i].2)) → (c.toList.drop s).take (l.length * 2) = l.flatMap fun p => [Value.int k p.1, Value.int k p.2] := by
      intro l
      induction l with
      | nil => intro s _; simp
      | cons p l ih =>
        intro s hs
        have h0 := hs 0 (by simp)
        simp only [Nat.zero_mul, Nat.add_zero, List.getElem_cons_zero] at h0
        obtain ⟨g0, e0⟩ := Array.getElem?_eq_some_iff.1 h0.1
        obtain ⟨g1, e1⟩ := Array.getElem?_eq_some_iff.1 h0.2
        have d0 : c.toList.drop s = .int k p.1 :: .int k p.2 :: c.toList.drop (s + 2) := by
          rw [List.drop_eq_getElem_cons (by simpa using g0), List.drop_eq_getElem_cons (by simpa using g1)]
          simp [e0, e1]
        rw [d0, List.length_cons, Nat.add_mul, Nat.one_mul]
        simp only [List.take_succ_cons, List.flatMap_cons, List.cons_append, List.nil_append]
        rw [ih (s + 2) (fun i hi => by
          have := hs (i + 1) (by simpa using hi)
          simp only [List.getElem_cons_succ] at this
          rw [show s + 2 + i * 2 = s + (i + 1) * 2 by omega]
          exact this)]
    refine ⟨ps, by omega, ?_⟩
    rw [hp]
    refine .sl len 2 _ b o cap c ty fz hbb (by rw [hfl, hp]; exact hsz) ?_ (by rw [hfl, hp]) (fun v hv => ?_)
    · rw [hfl]
      exact hread ps o hq
    · obtain ⟨p, _, hv⟩ := List.mem_flatMap.1 hv
      simp only [List.mem_cons, List.not_mem_nil, or_false] at hv
      rcases hv with rfl | rfl <;> rfl
end Go.Abs
