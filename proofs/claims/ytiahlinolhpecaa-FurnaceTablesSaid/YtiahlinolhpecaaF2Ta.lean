/- FurnaceTables in data. -/
import Derived.Test.YtiahlinolhpecaaF2R2
import Derived.Test.YtiahlinolhpecaaF2Awake
namespace Go.Proofs
open Go Go.Abs
set_option maxRecDepth 100000
theorem con18 {ps : List (Int × Int)} (hlen : ps.length < 1000000000) {a e : Int} (hr : tabRes ps = [dI a, dI e]) (hv : e = 0 → VT ps) (tm : Int) :
    Con Try.prog 18 [dTab ps, dI tm] (if fst0 [e, tErr tm] = 0 then [dI (radV tm ps), dI 0] else [dI 0, dI (fst0 [e, tErr tm])]) := by
  refine con_flat hokT mixed Try.func18 rfl (by show 1 ≤ 500; omega) rfl (by kernel_rfl) (fun caps => ?_)
  show g18 _ _ ps.length (caps 500) (vp ps) tm _
  rw [g18_text]
  simp only [vp_whole, vp_length]
  have hle : 0 + ps.length * 2 ≤ ps.length * 2 := by omega
  refine bc_yes hle ⟨a, e, ⟨by rw [← hr]; exact con16 ps hlen⟩, tErr tm, ⟨con89 tm⟩, fst0 [e, tErr tm], ⟨con88 [e, tErr tm] (by simp)⟩, bc_bne (fun h => ?_) (fun h => ?_)⟩
  · rw [if_neg h]
  · have he : e = 0 := by
      rw [fst0_two] at h
      by_cases h0 : e = 0
      · exact h0
      · rw [if_neg h0] at h; exact absurd h h0
    refine bc_yes hle ⟨radV tm ps, ⟨con92 (hv he) tm⟩, ?_⟩
    rw [if_pos h]
theorem con19n : Con Try.prog 19 [.agg [.nil]] [dI 0, dI 10] := by
  let inv : Unit → Prop := fun _ => False
  let st : Unit → Slots × Blocks := fun _ => (default, [])
  refine con_of (L := fun _ s b => ∃ x, inv x ∧ st x = (s, b)) hokT mixed Try.func19 rfl (by show 0 ≤ 500; omega) rfl (ids := [0]) (by kernel_rfl) rfl (fun caps => ?_) (fun id hid => ?_)
  · show g19n _ _ _
    rw [g19n_text]
  · obtain rfl := List.mem_singleton.1 hid
    exact ⟨_, st, inv, fun _ => 0, ⟨fun s b h => h, by kernel_rfl, fun x h => h.elim⟩⟩
theorem con3 (ps : List (Int × Int)) (hl : ps.length < 1000000000) (tm : Int) : Con Try.prog 3 [dTab ps, dI tm] [.val (.bool true)] := by
  refine con_flat hokTS mixed Try.func3 rfl (by show 1 ≤ 500; omega) rfl (by kernel_rfl) (fun caps => ?_)
  show g3 _ _ ps.length (caps 500) (vp ps) tm _
  rw [g3_text]
  refine .inl ⟨⟨con14⟩, ?_⟩
  simp only [vp_whole, vp_length]
  have hle : 0 + ps.length * 2 ≤ ps.length * 2 := by omega
  obtain ⟨a, e, hr, hv⟩ := tab_shape ps
  have c16 := con16 ps hl
  have c19 := con19 ps hl
  rw [hr] at c16 c19
  have c17 : Says (Con Try.prog) 17 [dTab ps] [dTab ps] := ⟨con17 ps hl⟩
  have c18 := con18 hl hr hv tm
  refine bc_dec (fun hn => ?_) (fun _ => trivial)
  refine bc_yes hle ⟨c17, bc_yes hle ⟨a, e, ⟨c16⟩, bc_yes hle ⟨c17, bc_yes hle ?_⟩⟩⟩
  rw [fst0_two] at c18
  by_cases he : e = 0
  · subst he
    rw [if_pos rfl] at c18
    by_cases ht : 0 ≤ tm ∧ tm ≤ 20000
    · rw [show tErr tm = 0 from if_pos ht, if_pos rfl] at c18
      refine ⟨radV tm ps, 0, ⟨c18⟩, bc_yes hle ⟨a, 0, ⟨c19⟩, bc_false (by simp) (bc_false (by simp) (bc_true rfl (bc_yes ht.1 (bc_yes ht.2 (bc_true rfl (bc_yes hle ⟨_, ⟨con21 (hv rfl) tm⟩, bc_true (by simp) trivial⟩))))))⟩⟩
    · rw [show tErr tm = 2 from if_neg ht, if_neg (by omega)] at c18
      refine ⟨0, 2, ⟨c18⟩, bc_yes hle ⟨a, 0, ⟨c19⟩, bc_false (by simp) (bc_false (by simp) (bc_true rfl (bc_dec (fun h1 => bc_dec (fun h2 => absurd ⟨h1, h2⟩ ht) (fun _ => ?_)) (fun _ => ?_))))⟩⟩
      all_goals exact bc_true rfl (bc_true rfl trivial)
  · rw [if_neg he, if_neg he] at c18
    refine ⟨0, e, ⟨c18⟩, bc_yes hle ⟨a, e, ⟨c19⟩, bc_false (by simp) (bc_false (by simp) (bc_false (by simpa using he) (bc_true (by simpa using he) (bc_true (by simp) (bc_true rfl trivial)))))⟩⟩
theorem con3n (tm : Int) : Con Try.prog 3 [.agg [.nil], dI tm] [.val (.bool true)] := by
  refine con_flat hokT mixed Try.func3 rfl (by show 0 ≤ 500; omega) rfl (by kernel_rfl) (fun caps => ?_)
  show g3n _ _ tm _
  rw [g3n_text]
  have c16 : Con Try.prog 16 [dTab []] [dI 0, dI 10] := con16 [] (by simp)
  have c18 : Con Try.prog 18 [dTab [], dI tm] [dI 0, dI 10] := con18 (ps := []) (a := 0) (e := 10) (by simp) rfl (fun h => by omega) tm
  exact .inl ⟨⟨con14⟩, .inr ⟨0, [], ⟨con17n⟩, bc_yes (by simp) ⟨0, 10, ⟨c16⟩, .inr ⟨0, [], ⟨con17n⟩, bc_yes (by simp) ⟨0, 10, ⟨c18⟩, 0, 10, ⟨con19n⟩, bc_false (by simp) (bc_false (by simp) (bc_false (by simp) (bc_true (by simp) (bc_true (by simp) (bc_true (by simp) rfl)))))⟩⟩⟩⟩⟩
#print axioms con3
end Go.Proofs
