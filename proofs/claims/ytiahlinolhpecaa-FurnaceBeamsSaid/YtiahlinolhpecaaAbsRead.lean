/- What is handed to a law reads as data. -/
import Derived.Test.YtiahlinolhpecaaAbsLaw
namespace Go.Abs
open Go.RowKit Go.ChangeShapes Go.WideShapes Go.ChangeAt
variable {H : Type} {enc : TypeId × Value → H} {P : Program} {W : World}

theorem rowAt_le {fits : TypeId → Bool} : ∀ (d : Nat) {e : TypeId} {count off n : Nat}, rowAt P fits d e count off n = true → off ≤ count * P.cellsOf e
  | 0, _, _, _, _, h => by simp [rowAt] at h
  | d + 1, e, count, off, n, h => by
    unfold rowAt at h
    simp only at h
    split at h
    · cases h
    · rename_i hs
      simp only [Bool.or_eq_true, Bool.and_eq_true, beq_iff_eq, decide_eq_true_eq] at h
      have hdm := Nat.div_add_mod off (P.cellsOf e)
      rcases h with ⟨⟨h1, h2⟩, _⟩ | ⟨h1, _⟩
      · rw [h1, Nat.add_zero] at hdm
        rw [← hdm, Nat.mul_comm]
        exact Nat.mul_le_mul_right _ (by omega)
      · have hlt := Nat.mod_lt off (Nat.pos_of_ne_zero hs)
        have : P.cellsOf e * (off / P.cellsOf e + 1) ≤ P.cellsOf e * count := Nat.mul_le_mul_left _ h1
        rw [Nat.mul_add, Nat.mul_one] at this
        rw [Nat.mul_comm count]
        omega
theorem liesAt_le : ∀ (d : Nat) {e : TypeId} {count off : Nat} {u : TypeId} {n : Nat}, liesAt P d e count off u n = true → off ≤ count * P.cellsOf e
  | 0, _, _, _, _, _, h => by simp [liesAt] at h
  | d + 1, e, count, off, u, n, h => by
    unfold liesAt at h
    simp only [Bool.or_eq_true] at h
    rcases h with h | h
    · exact rowAt_le _ h
    · split at h
      · exact liesAt_le d h
      · cases h
theorem has_block {r : Reach} {base : Nat} {a : Addr} {e : TypeId} {n : Nat} (h : W.has P r base a e n) : ∃ b o, a = ⟨b, o, none⟩ ∧ ∃ c ty fz, W.heap[b]? = some (.cells c ty fz) ∧ o ≤ c.size := by
  obtain ⟨_, hsp, row, cells, hsh, hl⟩ := h
  obtain ⟨b, o, sp⟩ := a
  simp only at hsp
  subst hsp
  refine ⟨b, o, rfl, ?_⟩
  have hle := liesAt_le _ hl
  have hmul : cells / P.cellsOf row * P.cellsOf row ≤ cells := Nat.div_mul_le_self _ _
  unfold World.shape? at hsh
  simp only at hsh
  split at hsh
  · rename_i c ty fz hb
    simp only [Option.some.injEq, Prod.mk.injEq] at hsh
    obtain ⟨_, rfl⟩ := hsh
    exact ⟨c, ty, fz, hb, Nat.le_trans hle hmul⟩
  all_goals cases hsh

theorem reads_ints {t e : TypeId} {k : IntKind} {r : Reach} {base base0 : Nat} {sp : Nat → Bool} {held : Bool} {fuel : Nat} {v : Value} {x : DataW H × List MemPlace} (ht : P.underlying t = some (.slice e)) (he : P.underlying e = some (.int k)) (hc : P.cellsOf e = 1)
    (hok : Cell.okWide P W r base t v) (h : DataW.trod enc P W base0 sp held fuel t [v] = some x) :
    (v = .slice none 0 0 ∧ Reads W .nil v) ∨ ∃ (ps : List Int), ps.length ≤ maxLen ∧ (∀ n ∈ ps, (Lit.int k n).wf = true) ∧ Reads W (.sl ps.length 1 (ps.map (Value.int k))) v := by
  rcases open_ints ht he hc h with ⟨h1, _⟩ | ⟨a, len, cap, zs, h1, h2, h3, h4, h5, h6, h7, h8⟩
  · left
    simp only [List.cons.injEq, and_true] at h1
    subst h1
    exact ⟨rfl, .nil⟩
  · right
    simp only [List.cons.injEq, and_true] at h1
    subst h1
    simp only [Cell.okWide, Cell.ok, ht] at hok
    obtain ⟨b, o, rfl, c, ty, fz, hb, ho⟩ := has_block hok.2.2
    have hlen : len ≤ zs.length := by rw [h5]; split <;> omega
    have hcell : ∀ i, i < zs.length → c[o + i]? = some (.int k (zs.getD i 0)) := by
      intro i hi
      have := h7 i hi
      rw [addr_add] at this
      simpa [World.cell?, hb] using this
    have hl : (zs.take len).length = len := by simp; omega
    refine ⟨zs.take len, by rw [hl]; omega, fun n hn => h8 n (List.mem_of_mem_take hn), ?_⟩
    have hsz : o + len ≤ c.size := by
      by_cases h0 : len = 0
      · omega
      · have := hcell (len - 1) (by omega)
        have := (Array.getElem?_eq_some_iff.1 this).1
        omega
    rw [hl]
    refine .sl len 1 ((zs.take len).map (Value.int k)) b o cap c ty fz hb (by rw [List.length_map, hl]; exact hsz) ?_ (by rw [List.length_map, hl, Nat.mul_one]) (fun v hv => ?_)
    · rw [List.length_map, hl]
      apply List.ext_getElem?
      intro j
      by_cases hj : j < len
      · have := hcell j (by omega)
        rw [List.getElem?_take, if_pos hj, List.getElem?_drop, Array.getElem?_toList, this]
        simp [hj, List.getD_eq_getElem?_getD, show j < zs.length by omega]
      · rw [List.getElem?_take, if_neg hj, List.getElem?_eq_none (by simp; omega)]
    · obtain ⟨n, _, rfl⟩ := List.mem_map.1 hv
      rfl
end Go.Abs
