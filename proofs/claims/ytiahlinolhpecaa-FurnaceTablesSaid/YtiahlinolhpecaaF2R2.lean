/- Tables: the radiance of both. -/
import Derived.Test.YtiahlinolhpecaaF2R
namespace Go.Proofs
open Go Go.Abs
set_option maxRecDepth 100000
theorem bc_n {a b : Int} {x y : Prop} (h : a ≠ b) : bcase (a != b) x y = x := by rw [show (a != b) = true by simpa using h]; rfl
theorem radV_le {ps : List (Int × Int)} (h : 0 < ps.length) {x : Int} (hx : x ≤ ps[0].1) : radV x ps = ps[0].2 := by
  cases ps with
  | nil => simp at h
  | cons p r => exact if_pos hx
theorem radV_gt {ps : List (Int × Int)} (h : 0 < ps.length) {x : Int} (hx : ¬ x ≤ ps[0].1) : radV x ps = radGo x ps[0] (ps.drop 1) := by
  cases ps with
  | nil => simp at h
  | cons p r => exact if_neg hx
theorem con21 {ps : List (Int × Int)} (hv : VT ps) (x : Int) : Con Try.prog 21 [dTab ps, dI x] [dI (radV x ps)] := by
  have hlen := hv.few
  have hpos := hv.some
  let inv : Nat × Nat → Prop := fun y => 0 < y.1 ∧ y.1 ≤ ps.length ∧ ∀ h : y.1 - 1 < ps.length, radV x ps = radGo x ps[y.1 - 1] (ps.drop y.1)
  let st : Nat × Nat → Slots × Blocks := fun y => (s21 ps.length y.2 x y.1, [B500 (vp ps)])
  refine con_of (L := fun _ s b => ∃ x, inv x ∧ st x = (s, b)) hokT mixed Try.func21 rfl (by show 1 ≤ 500; omega) rfl (ids := [0]) (by kernel_rfl) rfl (fun caps => ?_) (fun id hid => ?_)
  · show g21 _ _ ps.length (caps 500) (vp ps) x _
    rw [g21_text]
    refine bc_yes (by omega) ⟨_, vp_one ps 0 hpos, bc_dec (fun hx => ?_) (fun hx => ?_)⟩
    · refine bc_yes (by omega) ⟨_, vp_snd ps 0 hpos, ?_⟩
      show [dI _] = [dI _]
      rw [radV_le hpos hx]
    · refine ⟨(1, caps 500), ⟨by show 0 < 1; omega, by show 1 ≤ ps.length; omega, fun _ => ?_⟩, rfl⟩
      exact radV_gt hpos hx
  · obtain rfl := List.mem_singleton.1 hid
    refine ⟨Nat × Nat, st, inv, fun x => ps.length - x.1, ⟨fun s b h => h, by kernel_rfl, ?_⟩⟩
    rintro ⟨i, cap⟩ ⟨hi0, hi, hr⟩
    simp only at hi0 hi hr
    obtain ⟨j, rfl⟩ : ∃ j, i = j + 1 := ⟨i - 1, by omega⟩
    have hj : j < ps.length := by omega
    have hr := hr hj
    simp only [Nat.add_sub_cancel] at hr
    have hw : IntKind.wrap .i64 (((j + 1 : Nat) : Int) - 1) = (j : Int) := by rw [w64 (by omega) (by omega)]; omega
    have hz0 : (0 : Int) ≤ (j : Int) := by omega
    have hz1 : (j : Int) < (ps.length : Int) := by omega
    show r21 _ _ ps.length cap (vp ps) x ((j + 1 : Nat) : Int) _ _ _
    rw [r21_text]
    refine bc_dec (fun h => ?_) (fun h => ?_)
    · have hi' : j + 1 < ps.length := by omega
      have hy0 : (0 : Int) ≤ ((j + 1 : Nat) : Int) := by omega
      rw [List.drop_eq_getElem_cons hi', radGo] at hr
      refine bc_yes (by omega) (bc_yes h ⟨_, vp_one ps (j + 1) hi', bc_dec (fun hx => ?_) (fun hx => ?_)⟩)
      · rw [if_pos hx] at hr
        have hd : IntKind.wrap .i64 (ps[j + 1].1 - ps[j].1) ≠ 0 := by
          have h1 := hv.lo ps[j] (List.getElem_mem hj)
          have h2 := hv.lo ps[j + 1] (List.getElem_mem hi')
          have h3 := hv.up j hi'
          rw [w64 (by omega) (by omega)]
          omega
        simp only [hw]
        refine bc_yes hz0 (bc_yes hz1 ⟨_, _, vp_two ps j hj, bc_yes hy0 (bc_yes h ⟨_, _, vp_two ps (j + 1) hi', ?_⟩)⟩)
        simp only [load2 (vp_two ps j hj), load2 (vp_two ps (j + 1) hi'), Int.toNat_natCast, bc_t hz0, bc_t hz1, bc_t hy0, bc_t h, bc_n hd, true_and]
        show [dI _] = [dI _]
        rw [hr]; rfl
      · rw [if_neg hx] at hr
        refine ⟨(j + 1 + 1, cap), ⟨by show 0 < j + 1 + 1; omega, by show j + 1 + 1 ≤ ps.length; omega, fun _ => hr⟩, by show ps.length - (j + 1 + 1) < ps.length - (j + 1); omega, ?_⟩
        rw [w64 (by omega) (by omega)]; rfl
    · show (if 0 = 0 then _ else _)
      rw [if_pos rfl]
      show n21 _ _ ps.length cap (vp ps) _
      have he : j + 1 = ps.length := by omega
      have hwl : IntKind.wrap .i64 ((ps.length : Int) - 1) = (j : Int) := by rw [← he]; exact hw
      rw [n21_text]
      simp only [hwl]
      rw [List.drop_eq_nil_of_le (by omega)] at hr
      refine bc_yes hz0 (bc_yes hz1 ⟨_, vp_snd ps j hj, ?_⟩)
      show [dI _] = [dI _]
      rw [hr]; rfl
theorem line_comm (p q : Int × Int) (x : Int) : IntKind.wrap .i64 (p.2 + IntKind.wrap .i64 (Int.tdiv (IntKind.wrap .i64 (IntKind.wrap .i64 (q.2 - p.2) * IntKind.wrap .i64 (x - p.1))) (IntKind.wrap .i64 (q.1 - p.1)))) = line p q x := by
  rw [line, Int.mul_comm]
theorem con92 {ps : List (Int × Int)} (hv : VT ps) (x : Int) : Con Try.prog 92 [dTab ps, dI x] [dI (radV x ps)] := by
  have hlen := hv.few
  have hpos := hv.some
  let at_ : Nat → Prop := fun i => match i with
    | 0 => True
    | j + 1 => ∀ h : j < ps.length, radV x ps = radGo x ps[j] (ps.drop (j + 1))
  let inv : Nat × Nat → Prop := fun y => y.1 ≤ ps.length ∧ at_ y.1
  let st : Nat × Nat → Slots × Blocks := fun y => (s92 x y.1, tb ps.length y.2 (vp ps))
  refine con_of (L := fun _ s b => ∃ x, inv x ∧ st x = (s, b)) hokT mixed Try.func92 rfl (by show 1 ≤ 500; omega) rfl (ids := [0]) (by kernel_rfl) rfl (fun caps => ?_) (fun id hid => ?_)
  · show g92 _ _ ps.length (caps 500) (vp ps) x _
    rw [g92_text]
    exact ⟨(0, caps 500), ⟨by simp, trivial⟩, rfl⟩
  · obtain rfl := List.mem_singleton.1 hid
    refine ⟨Nat × Nat, st, inv, fun x => ps.length - x.1, ⟨fun s b h => h, by kernel_rfl, ?_⟩⟩
    rintro ⟨i, cap⟩ ⟨hi, hr⟩
    simp only at hi hr
    have out : (∀ h : i < ps.length, x ≤ ps[i].1) → n92 (Con Try.prog) (fun _ s b => ∃ x, inv x ∧ st x = (s, b)) ps.length cap (vp ps) x i (· = [dI (radV x ps)]) := by
      intro hx
      rw [n92_text]
      cases i with
      | zero =>
        refine bc_true (by simp) (bc_yes (by omega) ⟨_, vp_snd ps 0 hpos, ?_⟩)
        show [dI _] = [dI _]
        rw [radV_le hpos (hx hpos)]
      | succ j =>
        have hj : j < ps.length := by omega
        have hr := hr hj
        have hw : IntKind.wrap .i64 (((j + 1 : Nat) : Int) - 1) = (j : Int) := by rw [w64 (by omega) (by omega)]; omega
        have hz0 : (0 : Int) ≤ (j : Int) := by omega
        have hz1 : (j : Int) < (ps.length : Int) := by omega
        simp only [hw]
        refine bc_false (by simp; omega) (bc_beq (fun he => ?_) (fun hne => ?_))
        · refine bc_yes hz0 (bc_yes hz1 ⟨_, vp_snd ps j hj, ?_⟩)
          rw [List.drop_eq_nil_of_le (by omega)] at hr
          show [dI _] = [dI _]
          rw [hr]; rfl
        · have hi' : j + 1 < ps.length := by omega
          have hy0 : (0 : Int) ≤ ((j + 1 : Nat) : Int) := by omega
          have hy1 : ((j + 1 : Nat) : Int) < (ps.length : Int) := by omega
          rw [List.drop_eq_getElem_cons hi', radGo, if_pos (hx hi')] at hr
          have hd : IntKind.wrap .i64 (ps[j + 1].1 - ps[j].1) ≠ 0 := by
            have h1 := hv.lo ps[j] (List.getElem_mem hj)
            have h2 := hv.lo ps[j + 1] (List.getElem_mem hi')
            have h3 := hv.up j hi'
            rw [w64 (by omega) (by omega)]
            omega
          refine bc_yes hz0 (bc_yes hz1 ⟨_, _, vp_two ps j hj, bc_yes hy0 (bc_yes hy1 ⟨_, _, vp_two ps (j + 1) hi', ?_⟩)⟩)
          simp only [load2 (vp_two ps j hj), load2 (vp_two ps (j + 1) hi'), Int.toNat_natCast, bc_t hz0, bc_t hz1, bc_t hy0, bc_t hy1, bc_n hd, true_and]
          show [dI _] = [dI _]
          rw [hr, line_comm]
    show r92 _ _ ps.length cap (vp ps) x i _ _ _
    rw [r92_text]
    refine bc_dec (fun h => ?_) (fun h => ?_)
    · have hi' : i < ps.length := by omega
      refine bc_yes (by omega) (bc_yes h ⟨_, vp_one ps i hi', bc_dec (fun hx => ?_) (fun hx => ?_)⟩)
      · refine ⟨(i + 1, cap), ⟨by show i + 1 ≤ ps.length; omega, ?_⟩, by show ps.length - (i + 1) < ps.length - i; omega, ?_⟩
        · intro _
          cases i with
          | zero =>
            exact radV_gt hpos (by omega)
          | succ j =>
            have hr := hr (show j < ps.length by omega)
            rw [List.drop_eq_getElem_cons hi', radGo, if_neg (by omega)] at hr
            exact hr
        · rw [w64 (by omega) (by omega)]; rfl
      · show (if 0 = 0 then _ else _)
        rw [if_pos rfl]
        exact out (fun _ => by omega)
    · show (if 0 = 0 then _ else _)
      rw [if_pos rfl]
      exact out (fun h' => by omega)
end Go.Proofs
