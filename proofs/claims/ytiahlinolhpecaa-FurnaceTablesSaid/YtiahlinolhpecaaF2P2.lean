/- Tables: the program's own check. -/
import Derived.Test.YtiahlinolhpecaaF2P
namespace Go.Proofs
open Go Go.Abs
set_option maxRecDepth 100000
theorem fst0_two (a b : Int) : fst0 [a, b] = if a = 0 then b else a := by
  simp only [fst0]
  split
  · split
    · omega
    · rfl
  · rfl
theorem tErr_or (a : Int) : tErr a = 0 ∨ tErr a = 2 := by unfold tErr; split <;> simp
theorem con16 (ps : List (Int × Int)) (hlen : ps.length < 1000000000) : Con Try.prog 16 [dTab ps] (tabRes ps) := by
  let inv : Nat × Nat → Prop := fun x => x.1 ≤ ps.length ∧ tabRes ps = tchk (ps.drop x.1) (prev ps x.1) x.1
  let st : Nat × Nat → Slots × Blocks := fun x => (s16 ps.length x.2 x.1, tb ps.length x.2 (vp ps))
  refine con_of (L := fun _ s b => ∃ x, inv x ∧ st x = (s, b)) hokT mixed Try.func16 rfl (by show 1 ≤ 500; omega) rfl (ids := [1]) (by kernel_rfl) rfl (fun caps => ?_) (fun id hid => ?_)
  · show g16 _ _ ps.length (caps 500) (vp ps) _
    rw [g16_text]
    refine bc_beq (fun h => ?_) (fun h0 => bc_dec (fun h => ?_) (fun h5 => ?_))
    · show _ = _; rw [tabRes, if_pos (by omega)]
    · show _ = _; rw [tabRes, if_neg (by omega), if_pos (by omega)]
    · exact ⟨(0, caps 500), ⟨by simp, by rw [tabRes, if_neg (by omega), if_neg (by omega)]; rfl⟩, rfl⟩
  · obtain rfl := List.mem_singleton.1 hid
    refine ⟨Nat × Nat, st, inv, fun x => ps.length - x.1, ⟨fun s b h => h, by kernel_rfl, ?_⟩⟩
    rintro ⟨i, cap⟩ ⟨hi, hr⟩
    simp only at hi hr
    show r16 _ _ ps.length cap (vp ps) i _ _ _
    rw [r16_text]
    refine bc_dec (fun h => ?_) (fun h => ?_)
    · have hi' : i < ps.length := by omega
      rw [List.drop_eq_getElem_cons hi', tchk_cons] at hr
      obtain ⟨e0, he0⟩ : ∃ e, e = fst0 [tErr ps[i].1, tErr ps[i].2] := ⟨_, rfl⟩
      have c88 : Con Try.prog 88 [.sl 2 1 [.int .i64 (tErr ps[i].1), .int .i64 (tErr ps[i].2)]] [dI e0] := by rw [he0]; exact con88 [tErr ps[i].1, tErr ps[i].2] (by simp)
      rw [fst0_two] at he0
      have hbad : e0 ≠ 0 → [dI i, dI e0] = tabRes ps := fun hb => by
        have h1 : ¬ (tErr ps[i].1 = 0 ∧ tErr ps[i].2 = 0) := by
          rintro ⟨h1, h2⟩
          rw [if_pos h1] at he0
          omega
        have h2 : e0 = 2 := by
          have := tErr_or ps[i].1
          have := tErr_or ps[i].2
          split at he0 <;> omega
        rw [hr, if_neg h1, h2]
      have hgood : e0 = 0 → tErr ps[i].1 = 0 ∧ tErr ps[i].2 = 0 := fun hb => by
        split at he0
        · rename_i h; exact ⟨h, by omega⟩
        · rename_i h; omega
      refine bc_yes (by omega) (bc_yes h ⟨_, _, vp_two ps i hi', ?_⟩)
      simp only [eq_self, true_and]
      have c88a : ¬ (0 ≤ ps[i].2 ∧ ps[i].2 ≤ 20000) → Con Try.prog 88 [.sl 2 1 [.int .i64 (tErr ps[i].1), .int .i64 2]] [dI e0] := fun hn => by
        rw [show tErr ps[i].2 = 2 from if_neg hn] at c88; exact c88
      have c88b : (0 ≤ ps[i].2 ∧ ps[i].2 ≤ 20000) → Con Try.prog 88 [.sl 2 1 [.int .i64 (tErr ps[i].1), .int .i64 0]] [dI e0] := fun hn => by
        rw [show tErr ps[i].2 = 0 from if_pos hn] at c88; exact c88
      refine ⟨tErr ps[i].1, ⟨con89 _⟩, bc_dec (fun h2 => ⟨e0, ⟨c88a (by omega)⟩, ?_⟩) (fun h2 => bc_dec (fun h3 => ⟨e0, ⟨c88a (by omega)⟩, ?_⟩) (fun h3 => ⟨e0, ⟨c88b (by omega)⟩, ?_⟩))⟩
      all_goals
        cases i with
        | zero =>
          refine bc_no (by omega) (bc_bne hbad (fun hz => ?_))
          have h12 := hgood hz
          rw [if_pos h12] at hr
          refine ⟨(1, cap), ⟨by show 1 ≤ ps.length; omega, ?_⟩, by show ps.length - 1 < ps.length - 0; omega, ?_⟩
          · rw [hr]; simp only [prev, List.getElem?_eq_getElem hi']; rfl
          · rw [w64 (by omega) (by omega)]; rfl
        | succ j =>
          have hj : j < ps.length := by omega
          have hw : IntKind.wrap .i64 (((j + 1 : Nat) : Int) - 1) = (j : Int) := by rw [w64 (by omega) (by omega)]; omega
          have hp : prev ps (j + 1) = some ps[j] := List.getElem?_eq_getElem hj
          simp only [hp] at hr
          have hz0 : (0 : Int) ≤ (j : Int) := by omega
          have hz1 : (j : Int) < (ps.length : Int) := by omega
          simp only [hw]
          refine bc_yes (by omega) (bc_yes hz0 (bc_yes hz1 ⟨_, _, vp_two ps j hj, ?_⟩))
          simp only [load2 (vp_two ps j hj), Int.toNat_natCast, bc_t hz0, bc_t hz1, true_and]
          refine ⟨rise ps[j] ps[j + 1], ⟨con91 _ _⟩, fst0 [e0, rise ps[j] ps[j + 1]], ⟨con88 [e0, rise ps[j] ps[j + 1]] (by simp)⟩, bc_bne (fun hne => ?_) (fun hz => ?_)⟩
          · show [dI _, dI _] = tabRes ps
            rw [fst0_two] at hne ⊢
            by_cases h0 : e0 = 0
            · rw [if_pos h0] at hne ⊢
              rw [if_pos (hgood h0), if_neg hne] at hr
              exact hr.symm
            · rw [if_neg h0]; exact hbad h0
          · rw [fst0_two] at hz
            by_cases h0 : e0 = 0
            · rw [if_pos h0] at hz
              rw [if_pos (hgood h0), if_pos hz] at hr
              refine ⟨(j + 1 + 1, cap), ⟨by show j + 1 + 1 ≤ ps.length; omega, ?_⟩, by show ps.length - (j + 1 + 1) < ps.length - (j + 1); omega, ?_⟩
              · rw [hr]; simp only [prev, List.getElem?_eq_getElem hi']; rfl
              · rw [w64 (by omega) (by omega)]; rfl
            · rw [if_neg h0] at hz; exact absurd hz h0
    · show (if 1 = 1 then _ else _)
      rw [if_pos rfl]
      show n16 _ _ _
      rw [n16_text]
      have : i = ps.length := by omega
      rw [this, List.drop_length] at hr
      exact hr.symm
end Go.Proofs
