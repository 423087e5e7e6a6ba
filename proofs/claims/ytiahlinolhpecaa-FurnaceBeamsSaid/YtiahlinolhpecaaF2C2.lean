/- Contracts of chapter 2: beams. -/
import Derived.Test.YtiahlinolhpecaaF2C
namespace Go.Proofs
open Go Go.Abs
set_option maxRecDepth 100000

structure ValidBeam (ps : List Int) (beat : Int) : Prop where
  some : 0 < ps.length
  few : ps.length ≤ 5
  b1 : 1 ≤ beat
  b2 : beat ≤ 1000
  all : ∀ p ∈ ps, 1 ≤ p ∧ p ≤ 200
def bErr (ps : List Int) (beat : Int) : Int :=
  if ps.length = 0 then 10 else if 5 < ps.length then 8 else if 1 ≤ beat ∧ beat ≤ 1000 then (if ∀ p ∈ ps, 1 ≤ p ∧ p ≤ 200 then 0 else 2) else 2
theorem chk_shape : ∀ (l : List Int) (i : Int), ∃ a, chk l i = [dI a, dI (if ∀ p ∈ l, 1 ≤ p ∧ p ≤ 200 then 0 else 2)]
  | [], i => ⟨0, by simp [chk]⟩
  | p :: r, i => by
    rw [chk]
    by_cases h : 1 ≤ p ∧ p ≤ 200
    · obtain ⟨a, ha⟩ := chk_shape r (i + 1)
      refine ⟨a, ?_⟩
      rw [if_pos h, ha]
      simp [h]
    · refine ⟨i, ?_⟩
      rw [if_neg h]
      simp [h]
theorem beamRes_shape (ps : List Int) (beat : Int) : ∃ a, beamRes ps beat = [dI a, dI (bErr ps beat)] := by
  unfold beamRes bErr
  split
  · exact ⟨0, rfl⟩
  · split
    · exact ⟨0, rfl⟩
    · split
      · exact chk_shape ps 0
      · exact ⟨0, rfl⟩
theorem bErr_valid {ps : List Int} {beat : Int} (h : bErr ps beat = 0) : ValidBeam ps beat := by
  unfold bErr at h
  split at h
  · omega
  · split at h
    · omega
    · split at h
      · rename_i h1 h2 h3
        split at h
        · rename_i h4; exact ⟨by omega, by omega, h3.1, h3.2, h4⟩
        · omega
      · omega

theorem con71 (ps : List Int) (beat : Int) (hlen : ps.length < 1000000000) : Con Try.prog 71 [dBeam ps beat] [dI (bErr ps beat)] := by
  refine con_flat hok mixed Try.func71 rfl (by show 1 ≤ 500; omega) rfl (by kernel_rfl) (fun caps => ?_)
  show g71 _ _ ps.length (caps 500) (vi ps) beat _
  rw [g71_text]
  obtain ⟨a, ha⟩ := beamRes_shape ps beat
  refine bc_yes (by simp) ⟨a, bErr ps beat, ⟨?_⟩, rfl⟩
  rw [vi_whole, ← ha]
  exact con66 ps beat hlen

theorem con61 {ps : List Int} {beat : Int} (hv : ValidBeam ps beat) : Con Try.prog 61 [dBeam ps beat] [dI 0, dI 0] := by
  have hf := hv.few
  let inv : Nat × Nat → Prop := fun x => x.1 ≤ ps.length
  let st : Nat × Nat → Slots × Blocks := fun x => (s61 ps.length x.2 x.1, [A500 (vi ps)])
  refine con_of (L := fun _ s b => ∃ x, inv x ∧ st x = (s, b)) hok mixed Try.func61 rfl (by show 1 ≤ 500; omega) rfl (ids := [1]) (by kernel_rfl) rfl (fun caps => ?_) (fun id hid => ?_)
  · show g61 _ _ ps.length (caps 500) (vi ps) beat _
    rw [g61_text]
    have h0 := hv.some
    refine bc_beq (fun h => absurd h (by omega)) (fun _ => bc_no (by omega) ?_)
    simp only [true_and, and_true]
    exact bc_no (by have := hv.b1; omega) (bc_no (by have := hv.b2; omega) ⟨(0, caps 500), Nat.zero_le _, rfl⟩)
  · obtain rfl := List.mem_singleton.1 hid
    refine ⟨Nat × Nat, st, inv, fun x => ps.length - x.1, ⟨fun s b h => h, by kernel_rfl, ?_⟩⟩
    rintro ⟨i, cap⟩ hi
    have hi : i ≤ ps.length := hi
    show r61 _ _ ps.length cap (vi ps) i _ _ _
    rw [r61_text]
    refine bc_dec (fun h => ?_) (fun h => ?_)
    · have hi' : i < ps.length := by omega
      have hp := hv.all ps[i] (List.getElem_mem hi')
      refine bc_yes (by omega) (bc_yes h ⟨ps[i], vi_at ps i hi', bc_no (by omega) (bc_no (by omega) ?_)⟩)
      refine ⟨(i + 1, cap), by show i + 1 ≤ ps.length; omega, by show ps.length - (i + 1) < ps.length - i; omega, ?_⟩
      rw [w64 (by omega) (by omega)]; rfl
    · show (if 1 = 1 then _ else _)
      rw [if_pos rfl]
      show n61 _ _ _
      rw [n61_text]

theorem con37 (ps : List Int) (hlen : ps.length < 1000000000) : Con Try.prog 37 [.sl ps.length 1 (vi ps)] [.sl ps.length 1 (vi ps)] := by
  refine con_flat hok mixed Try.func37 rfl (by show 1 ≤ 500; omega) rfl (by kernel_rfl) (fun caps => ?_)
  show g37 _ _ ps.length (caps 500) (vi ps) _
  rw [g37_text]
  refine bc_yes (by simp) (bc_beq (fun h => ?_) (fun h => bc_yes (by omega) (bc_yes (by omega) (bc_yes (by omega) ?_))))
  · refine ⟨⟨rfl, rfl⟩, ?_⟩
    have : ps = [] := List.length_eq_zero_iff.1 h
    subst this
    rfl
  · refine ⟨⟨rfl, by simp⟩, ?_⟩
    simp [List.take_of_length_le]

theorem con62 (ps : List Int) (beat : Int) (hlen : ps.length < 1000000000) : Con Try.prog 62 [dBeam ps beat] [dBeam ps beat] := by
  refine con_flat hok mixed Try.func62 rfl (by show 1 ≤ 500; omega) rfl (by kernel_rfl) (fun caps => ?_)
  show g62 _ _ ps.length (caps 500) (vi ps) beat _
  rw [g62_text]
  simp only [true_and, and_true]
  refine bc_yes (by simp) (.inr ⟨ps.length, vi ps, ⟨?_⟩, by simp, rfl⟩)
  rw [vi_whole]
  exact con37 ps hlen

/-- The zone of a position. -/
def zone : List Int → Int → Int → List D
  | [], _, _ => [dI 0, dI 12]
  | p :: r, pos, i => if pos < p then [dI i, dI 0] else zone r (pos - p) (i + 1)
theorem con64 {ps : List Int} {beat ch tk : Int} (hv : ValidBeam ps beat) (h1 : 0 ≤ ch) (h2 : ch ≤ 1000000000000) (h3 : 0 ≤ tk) (h4 : tk ≤ 1000000000000) (h5 : ch ≤ tk) :
    Con Try.prog 64 [dBeam ps beat, dI ch, dI tk] (zone ps ((tk - ch) / beat) 0) := by
  have hf := hv.few
  let rs := zone ps ((tk - ch) / beat) 0
  have hb := hv.b1
  have hq0 : 0 ≤ (tk - ch) / beat := Int.ediv_nonneg (by omega) (by omega)
  have hq1 : (tk - ch) / beat ≤ tk - ch := Int.ediv_le_self _ (by omega)
  let inv : (Nat × Int) × Nat → Prop := fun x => x.1.1 ≤ ps.length ∧ 0 ≤ x.1.2 ∧ x.1.2 ≤ 1000000000000 ∧ rs = zone (ps.drop x.1.1) x.1.2 x.1.1
  let st : (Nat × Int) × Nat → Slots × Blocks := fun x => (s64 ps.length x.2 x.1.2 x.1.1, [A500 (vi ps)])
  refine con_of (L := fun _ s b => ∃ x, inv x ∧ st x = (s, b)) hok mixed Try.func64 rfl (by show 1 ≤ 500; omega) rfl (ids := [0]) (by kernel_rfl) rfl (fun caps => ?_) (fun id hid => ?_)
  · show g64 _ _ ps.length (caps 500) (vi ps) beat ch tk _
    rw [g64_text]
    refine bc_yes (by simp) ⟨0, 0, ⟨by rw [vi_whole]; exact con61 hv⟩, ?_⟩
    refine bc_no (by omega) (bc_no (by omega) (bc_no (by omega) (bc_no (by omega) (bc_false (by simp) (bc_no (by omega) (bc_true (by simp; omega) ?_))))))
    refine ⟨((0, (tk - ch) / beat), caps 500), ⟨Nat.zero_le _, hq0, by show (tk - ch) / beat ≤ _; omega, rfl⟩, ?_⟩
    rw [w64 (z := tk - ch) (by omega) (by omega), Int.tdiv_eq_ediv_of_nonneg (by omega), w64 (by omega) (by omega)]
    rfl
  · obtain rfl := List.mem_singleton.1 hid
    refine ⟨_, st, inv, fun x => ps.length - x.1.1, ⟨fun s b h => h, by kernel_rfl, ?_⟩⟩
    rintro ⟨⟨i, pos⟩, cap⟩ ⟨hi, hp0, hp1, hr⟩
    show r64 _ _ ps.length cap (vi ps) pos i _ _ _
    rw [r64_text]
    refine bc_dec (fun h => ?_) (fun h => ?_)
    · have hi' : i < ps.length := by omega
      have hp := hv.all ps[i] (List.getElem_mem hi')
      have hd : ps.drop i = ps[i] :: ps.drop (i + 1) := List.drop_eq_getElem_cons hi'
      simp only at hr hp0 hp1
      rw [hd, zone] at hr
      refine bc_yes (by omega) (bc_yes h ⟨ps[i], vi_at ps i hi', bc_dec (fun hc => ?_) (fun hc => ?_)⟩)
      · rw [if_pos hc] at hr; exact hr.symm
      · rw [if_neg hc] at hr
        refine ⟨((i + 1, pos - ps[i]), cap), ⟨by show i + 1 ≤ ps.length; omega, by show 0 ≤ pos - ps[i]; omega, by show pos - ps[i] ≤ _; omega, by rw [hr]; rfl⟩, by show ps.length - (i + 1) < ps.length - i; omega, ?_⟩
        rw [w64 (z := pos - ps[i]) (by omega) (by omega), w64 (by omega) (by omega)]; rfl
    · show (if 0 = 0 then _ else _)
      rw [if_pos rfl]
      show n64 _ _ _
      rw [n64_text]
      have : i = ps.length := by simp only at hi; omega
      simp only at hr
      rw [this, List.drop_length] at hr
      exact hr.symm

/-- What is left of a time before all positions. -/
def before (beat : Int) : List Int → Int → Int
  | [], c => c
  | p :: r, c => before beat r (c - p * beat)
theorem con65 {ps : List Int} {beat d : Int} (hv : ValidBeam ps beat) (h1 : 0 ≤ d) (h2 : d ≤ 1000000000000) :
    Con Try.prog 65 [dBeam ps beat, dI d] (if before beat ps d < 0 then [dI 0, dI 12] else [dI (before beat ps d), dI 0]) := by
  have hf := hv.few
  have hb := hv.b1
  have hb2 := hv.b2
  let inv : (Nat × Int) × Nat → Prop := fun x => x.1.1 ≤ ps.length ∧ -(1000000 * x.1.1) ≤ x.1.2 ∧ x.1.2 ≤ 1000000000000 ∧ before beat ps d = before beat (ps.drop x.1.1) x.1.2
  let st : (Nat × Int) × Nat → Slots × Blocks := fun x => (s65 ps.length x.2 x.1.2 x.1.1, bxB ps.length x.2 (vi ps) beat)
  refine con_of (L := fun _ s b => ∃ x, inv x ∧ st x = (s, b)) hok mixed Try.func65 rfl (by show 1 ≤ 500; omega) rfl (ids := [0]) (by kernel_rfl) rfl (fun caps => ?_) (fun id hid => ?_)
  · show g65 _ _ ps.length (caps 500) (vi ps) beat d _
    rw [g65_text]
    refine bc_yes (by simp) ⟨0, 0, ⟨by rw [vi_whole]; exact con61 hv⟩, ?_⟩
    refine bc_no (by omega) (bc_no (by omega) (bc_false (by simp) ?_))
    exact ⟨((0, d), caps 500), ⟨Nat.zero_le _, by simp; omega, h2, rfl⟩, rfl⟩
  · obtain rfl := List.mem_singleton.1 hid
    refine ⟨_, st, inv, fun x => ps.length - x.1.1, ⟨fun s b h => h, by kernel_rfl, ?_⟩⟩
    rintro ⟨⟨i, c⟩, cap⟩ ⟨hi, hp0, hp1, hr⟩
    simp only at hi hp0 hp1 hr
    show r65 _ _ ps.length cap (vi ps) beat c i _ _ _
    rw [r65_text]
    refine bc_dec (fun h => ?_) (fun h => ?_)
    · have hi' : i < ps.length := by omega
      have hp := hv.all ps[i] (List.getElem_mem hi')
      have hd : ps.drop i = ps[i] :: ps.drop (i + 1) := List.drop_eq_getElem_cons hi'
      rw [hd, before] at hr
      have hm0 : 0 ≤ ps[i] * beat := Int.mul_nonneg (by omega) (by omega)
      have hm1 : ps[i] * beat ≤ 200 * 1000 := Int.mul_le_mul hp.2 hb2 (by omega) (by omega)
      refine bc_yes (by omega) (bc_yes h ⟨ps[i], vi_at ps i hi', ?_⟩)
      refine ⟨((i + 1, c - ps[i] * beat), cap), ⟨by show i + 1 ≤ ps.length; omega, by show -(1000000 * ((i + 1 : Nat) : Int)) ≤ c - ps[i] * beat; omega, by show c - ps[i] * beat ≤ _; omega, by rw [hr]⟩, by show ps.length - (i + 1) < ps.length - i; omega, ?_⟩
      rw [w64 (z := ps[i] * beat) (by omega) (by omega), w64 (z := c - ps[i] * beat) (by omega) (by omega), w64 (by omega) (by omega)]; rfl
    · show (if 0 = 0 then _ else _)
      rw [if_pos rfl]
      show n65 _ _ c _
      rw [n65_text]
      have : i = ps.length := by omega
      rw [this, List.drop_length, before] at hr
      rw [hr]
      exact bc_dec (fun hc => by rw [if_pos hc]) (fun hc => by rw [if_neg hc])
#print axioms con65
end Go.Proofs
