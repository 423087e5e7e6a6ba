/- Beams: the zone at a tick and the latest charge, whatever the numbers are. -/
import Derived.Test.YtiahlinolhpecaaF2B2
namespace Go.Proofs.B
open Go Go.Abs Go.Proofs
set_option maxRecDepth 100000
/-- (valid beams) -/
def zoneV (ps : List Int) (beat ch tk : Int) : List D :=
  if tick ch ∧ tick tk then (if tk < ch then [dI 0, dI 9] else zone ps ((tk - ch) / beat) 0) else [dI 0, dI 2]
def zoneP (ps : List Int) (beat ch tk : Int) : List D := if bErr ps beat ≠ 0 then [dI 0, dI (bErr ps beat)] else zoneV ps beat ch tk
def chargeV (ps : List Int) (beat d : Int) : List D :=
  if tick d then (if d - tot ps * beat < 0 then [dI 0, dI 12] else [dI (d - tot ps * beat), dI 0]) else [dI 0, dI 2]
def chargeP (ps : List Int) (beat d : Int) : List D := if bErr ps beat ≠ 0 then [dI 0, dI (bErr ps beat)] else chargeV ps beat d

theorem con64g (ps : List Int) (beat ch tk : Int) (hlen : ps.length < 1000000000) : Con Try.prog 64 [dBeam ps beat, dI ch, dI tk] (zoneP ps beat ch tk) := by
  let rs := zoneP ps beat ch tk
  let inv : (Nat × Int) × Nat → Prop := fun x => ValidBeam ps beat ∧ x.1.1 ≤ ps.length ∧ 0 ≤ x.1.2 ∧ x.1.2 ≤ 1000000000000 ∧ rs = zone (ps.drop x.1.1) x.1.2 x.1.1
  let st : (Nat × Int) × Nat → Slots × Blocks := fun x => (s64 ps.length x.2 x.1.2 x.1.1, [A500 (vi ps)])
  refine con_of (L := fun _ s b => ∃ x, inv x ∧ st x = (s, b)) hokB mixed Try.func64 rfl (by show 1 ≤ 500; omega) rfl (ids := [0]) (by kernel_rfl) rfl (fun caps => ?_) (fun id hid => ?_)
  · show g64 _ _ ps.length (caps 500) (vi ps) beat ch tk _
    rw [g64_text]
    obtain ⟨a, ha⟩ := beamRes_shape ps beat
    have h61 := con61g ps beat hlen
    rw [ha] at h61
    refine bc_yes (by simp) ⟨a, bErr ps beat, ⟨by rw [vi_whole]; exact h61⟩, _, ⟨con122b ch tk⟩, _, ⟨con88b _ _⟩, ?_⟩
    by_cases hb : bErr ps beat = 0
    · have hv := bErr_valid hb
      have hb1 := hv.b1
      rw [if_neg (by simpa using hb)]
      by_cases ht : tick ch ∧ tick tk
      · rw [if_pos ht]
        refine bc_false (by decide) (bc_dec (fun h => ?_) (fun h => bc_true (by simp; omega) ?_))
        · rw [zoneP, if_neg (by simpa using hb), zoneV, if_pos ht, if_pos h]
        · have h1 := ht.1.1; have h2 := ht.1.2; have h3 := ht.2.1; have h4 := ht.2.2
          have hq0 : 0 ≤ (tk - ch) / beat := Int.ediv_nonneg (by omega) (by omega)
          have hq1 : (tk - ch) / beat ≤ tk - ch := Int.ediv_le_self _ (by omega)
          refine ⟨((0, (tk - ch) / beat), caps 500), ⟨hv, Nat.zero_le _, hq0, by show (tk - ch) / beat ≤ _; omega, ?_⟩, ?_⟩
          · show zoneP ps beat ch tk = _
            rw [zoneP, if_neg (by simpa using hb), zoneV, if_pos ht, if_neg h]; rfl
          · rw [w64 (z := tk - ch) (by omega) (by omega), Int.tdiv_eq_ediv_of_nonneg (by omega), w64 (by omega) (by omega)]; rfl
      · rw [if_neg ht]
        refine bc_true (by decide) ?_
        rw [zoneP, if_neg (by simpa using hb), zoneV, if_neg ht]
    · rw [if_pos hb]
      refine bc_true (by simpa using hb) ?_
      rw [zoneP, if_pos hb]
  · obtain rfl := List.mem_singleton.1 hid
    refine ⟨_, st, inv, fun x => ps.length - x.1.1, ⟨fun s b h => h, by kernel_rfl, ?_⟩⟩
    rintro ⟨⟨i, pos⟩, cap⟩ ⟨hv, hi, hp0, hp1, hr⟩
    have hf := hv.few
    show r64 _ _ ps.length cap (vi ps) pos i _ _ _
    rw [r64_text]
    simp only at hr hp0 hp1 hi
    refine bc_dec (fun h => ?_) (fun h => ?_)
    · have hi' : i < ps.length := by omega
      have hp := hv.all ps[i] (List.getElem_mem hi')
      have hd : ps.drop i = ps[i] :: ps.drop (i + 1) := List.drop_eq_getElem_cons hi'
      rw [hd, zone] at hr
      refine bc_yes (by omega) (bc_yes h ⟨ps[i], vi_at ps i hi', bc_dec (fun hc => ?_) (fun hc => ?_)⟩)
      · rw [if_pos hc] at hr; exact hr.symm
      · rw [if_neg hc] at hr
        refine ⟨((i + 1, pos - ps[i]), cap), ⟨hv, by show i + 1 ≤ ps.length; omega, by show 0 ≤ pos - ps[i]; omega, by show pos - ps[i] ≤ _; omega, by rw [hr]; rfl⟩, by show ps.length - (i + 1) < ps.length - i; omega, ?_⟩
        rw [w64 (z := pos - ps[i]) (by omega) (by omega), w64 (by omega) (by omega)]; rfl
    · show (if 0 = 0 then _ else _)
      rw [if_pos rfl]
      show n64 _ _ _
      rw [n64_text]
      have : i = ps.length := by omega
      rw [this, List.drop_length] at hr
      exact hr.symm

theorem con65g (ps : List Int) (beat d : Int) (hlen : ps.length < 1000000000) : Con Try.prog 65 [dBeam ps beat, dI d] (chargeP ps beat d) := by
  let inv : (Nat × Int) × Nat → Prop := fun x => ValidBeam ps beat ∧ tick d ∧ x.1.1 ≤ ps.length ∧ -(1000000 * x.1.1) ≤ x.1.2 ∧ x.1.2 ≤ 1000000000000 ∧ before beat ps d = before beat (ps.drop x.1.1) x.1.2
  let st : (Nat × Int) × Nat → Slots × Blocks := fun x => (s65 ps.length x.2 x.1.2 x.1.1, bxB ps.length x.2 (vi ps) beat)
  refine con_of (L := fun _ s b => ∃ x, inv x ∧ st x = (s, b)) hokB mixed Try.func65 rfl (by show 1 ≤ 500; omega) rfl (ids := [0]) (by kernel_rfl) rfl (fun caps => ?_) (fun id hid => ?_)
  · show g65 _ _ ps.length (caps 500) (vi ps) beat d _
    rw [g65_text]
    obtain ⟨a, ha⟩ := beamRes_shape ps beat
    have h61 := con61g ps beat hlen
    rw [ha] at h61
    refine bc_yes (by simp) ⟨a, bErr ps beat, ⟨by rw [vi_whole]; exact h61⟩, _, ⟨con122a d⟩, _, ⟨con88b _ _⟩, ?_⟩
    by_cases hb : bErr ps beat = 0
    · have hv := bErr_valid hb
      rw [if_neg (by simpa using hb)]
      by_cases ht : tick d
      · rw [if_pos ht]
        exact bc_false (by decide) ⟨((0, d), caps 500), ⟨hv, ht, Nat.zero_le _, by have := ht.1; simp; omega, ht.2, rfl⟩, rfl⟩
      · rw [if_neg ht]
        refine bc_true (by decide) ?_
        rw [chargeP, if_neg (by simpa using hb), chargeV, if_neg ht]
    · rw [if_pos hb]
      refine bc_true (by simpa using hb) ?_
      rw [chargeP, if_pos hb]
  · obtain rfl := List.mem_singleton.1 hid
    refine ⟨_, st, inv, fun x => ps.length - x.1.1, ⟨fun s b h => h, by kernel_rfl, ?_⟩⟩
    rintro ⟨⟨i, c⟩, cap⟩ ⟨hv, ht, hi, hp0, hp1, hr⟩
    have hf := hv.few
    have hb := hv.b1
    have hb2 := hv.b2
    simp only at hi hp0 hp1 hr
    show r65 _ _ ps.length cap (vi ps) beat c i _ _ _
    rw [r65_text]
    refine bc_dec (fun h => ?_) (fun h => ?_)
    · have hi' : i < ps.length := by omega
      have hp := hv.all ps[i] (List.getElem_mem hi')
      have hd : ps.drop i = ps[i] :: ps.drop (i + 1) := List.drop_eq_getElem_cons hi'
      rw [hd, before] at hr
      have hm0 : 0 ≤ ps[i] * beat := Int.mul_nonneg (by omega) (by omega)
      have hm1 : ps[i] * beat ≤ 200 * 1000 := Int.mul_le_mul hp.2 hb2 (by omega) (by omega)
      refine bc_yes (by omega) (bc_yes h ⟨ps[i], vi_at ps i hi', ?_⟩)
      refine ⟨((i + 1, c - ps[i] * beat), cap), ⟨hv, ht, by show i + 1 ≤ ps.length; omega, by show -(1000000 * ((i + 1 : Nat) : Int)) ≤ c - ps[i] * beat; omega, by show c - ps[i] * beat ≤ _; omega, by rw [hr]⟩, by show ps.length - (i + 1) < ps.length - i; omega, ?_⟩
      rw [w64 (z := ps[i] * beat) (by omega) (by omega), w64 (z := c - ps[i] * beat) (by omega) (by omega), w64 (by omega) (by omega)]; rfl
    · show (if 0 = 0 then _ else _)
      rw [if_pos rfl]
      show n65 _ _ c _
      rw [n65_text]
      have : i = ps.length := by omega
      rw [this, List.drop_length, before, before_tot] at hr
      have hbe : bErr ps beat = 0 := by
        unfold bErr
        rw [if_neg (by have := hv.some; omega), if_neg (by omega), if_pos ⟨hb, hb2⟩, if_pos hv.all]
      rw [chargeP, if_neg (by simpa using hbe), chargeV, if_pos ht, hr]
      exact bc_dec (fun hc => by rw [if_pos hc]) (fun hc => by rw [if_neg hc])

theorem con124 {ps : List Int} {beat : Int} (hv : ValidBeam ps beat) : Con Try.prog 124 [dBeam ps beat] [dI (tot ps * beat)] := by
  have hf := hv.few
  have hb := hv.b1
  have hb2 := hv.b2
  let inv : (Nat × Int) × Nat → Prop := fun x => x.1.1 ≤ ps.length ∧ 0 ≤ x.1.2 ∧ x.1.2 ≤ 1000000 * x.1.1 ∧ tot ps * beat = x.1.2 + tot (ps.drop x.1.1) * beat
  let st : (Nat × Int) × Nat → Slots × Blocks := fun x => (s124 x.1.2 x.1.1, bxB ps.length x.2 (vi ps) beat)
  refine con_of (L := fun _ s b => ∃ x, inv x ∧ st x = (s, b)) hokB mixed Try.func124 rfl (by show 1 ≤ 500; omega) rfl (ids := [0]) (by kernel_rfl) rfl (fun caps => ?_) (fun id hid => ?_)
  · show g124 _ _ ps.length (caps 500) (vi ps) beat _
    rw [g124_text]
    exact ⟨((0, 0), caps 500), ⟨Nat.zero_le _, by show (0 : Int) ≤ 0; omega, by simp, by simp⟩, rfl⟩
  · obtain rfl := List.mem_singleton.1 hid
    refine ⟨_, st, inv, fun x => ps.length - x.1.1, ⟨fun s b h => h, by kernel_rfl, ?_⟩⟩
    rintro ⟨⟨i, c⟩, cap⟩ ⟨hi, hp0, hp1, hr⟩
    simp only at hi hp0 hp1 hr
    show r124 _ _ ps.length cap (vi ps) beat c i _ _ _
    rw [r124_text]
    refine bc_dec (fun h => ?_) (fun h => ?_)
    · have hi' : i < ps.length := by omega
      have hp := hv.all ps[i] (List.getElem_mem hi')
      have hd : ps.drop i = ps[i] :: ps.drop (i + 1) := List.drop_eq_getElem_cons hi'
      rw [hd] at hr
      have e : tot (ps[i] :: ps.drop (i + 1)) = ps[i] + tot (ps.drop (i + 1)) := rfl
      rw [e, Int.add_mul] at hr
      have hm0 : 0 ≤ ps[i] * beat := Int.mul_nonneg (by omega) (by omega)
      have hm1 : ps[i] * beat ≤ 200 * 1000 := Int.mul_le_mul hp.2 hb2 (by omega) (by omega)
      refine bc_yes (by omega) (bc_yes h ⟨ps[i], vi_at ps i hi', ?_⟩)
      rw [w64 (z := ps[i] * beat) (by omega) (by omega), w64 (z := c + ps[i] * beat) (by omega) (by omega)]
      refine ⟨⟨rfl, rfl, rfl, rfl, ⟨_, vi_at ps i hi', rfl⟩, bc_yes (by omega) (bc_yes h rfl), rfl, rfl, rfl, rfl, trivial⟩, trivial, ?_⟩
      refine ⟨((i + 1, c + ps[i] * beat), cap), ⟨by show i + 1 ≤ ps.length; omega, by show 0 ≤ c + ps[i] * beat; omega, by show c + ps[i] * beat ≤ 1000000 * ((i + 1 : Nat) : Int); omega, by show tot ps * beat = c + ps[i] * beat + tot (ps.drop (i + 1)) * beat; rw [hr]; omega⟩, by show ps.length - (i + 1) < ps.length - i; omega, ?_⟩
      rw [w64 (by omega) (by omega)]; rfl
    · show (if 0 = 0 then _ else _)
      rw [if_pos rfl]
      show n124 _ _ c _
      rw [n124_text]
      have : i = ps.length := by omega
      rw [this, List.drop_length] at hr
      have e0 : tot ([] : List Int) = 0 := rfl
      rw [e0] at hr
      rw [show c = tot ps * beat by omega]
theorem tot_le : ∀ {ps : List Int}, (∀ p ∈ ps, 1 ≤ p ∧ p ≤ 200) → tot ps ≤ 200 * ps.length
  | [], _ => by simp [tot]
  | p :: r, h => by
    have h1 := h p (List.mem_cons_self ..)
    have h2 := tot_le (fun q hq => h q (List.mem_cons_of_mem _ hq))
    show p + tot r ≤ _
    simp only [List.length_cons]
    omega
theorem whole_le {ps : List Int} {beat : Int} (hv : ValidBeam ps beat) : 0 ≤ tot ps * beat ∧ tot ps * beat ≤ 1000 * 1000 := by
  have h1 := tot_le hv.all
  have h0 := tot_nonneg (fun p hp => (hv.all p hp).1)
  have h5 := hv.few
  have hb := hv.b1
  have hb2 := hv.b2
  exact ⟨Int.mul_nonneg h0 (by omega), Int.mul_le_mul (by omega) hb2 (by omega) (by omega)⟩
theorem con69 {ps : List Int} {beat : Int} (hv : ValidBeam ps beat) (d : Int) : Con Try.prog 69 [dBeam ps beat, dI d] (chargeV ps beat d) := by
  refine con_flat hokB mixed Try.func69 rfl (by show 1 ≤ 500; omega) rfl (by kernel_rfl) (fun caps => ?_)
  show g69 _ _ ps.length (caps 500) (vi ps) beat d _
  rw [g69_text]
  have hw := whole_le hv
  have h := con124 hv
  unfold chargeV
  refine bc_dec (fun h0 => bc_dec (fun h1 => bc_yes (by simp) ⟨_, ⟨by rw [vi_whole]; exact h⟩, ?_⟩) (fun h1 => by rw [if_neg (by omega)])) (fun h0 => by rw [if_neg (by omega)])
  rw [if_pos ⟨h0, h1⟩]
  refine bc_dec (fun hc => by rw [if_pos (by omega)]) (fun hc => ?_)
  rw [if_neg (by omega)]
  refine bc_yes (by simp) ⟨_, ⟨by rw [vi_whole]; exact h⟩, ?_⟩
  rw [w64 (by omega) (by omega)]
theorem con68 {ps : List Int} {beat : Int} (hv : ValidBeam ps beat) (ch tk : Int) : Con Try.prog 68 [dBeam ps beat, dI ch, dI tk] (zoneV ps beat ch tk) := by
  have hf := hv.few
  have hb := hv.b1
  have hb2 := hv.b2
  let inv : (Nat × Int) × Nat → Prop := fun x => tick ch ∧ tick tk ∧ ch ≤ tk ∧ x.1.1 ≤ ps.length ∧ 0 ≤ x.1.2 ∧ x.1.2 ≤ 200 * x.1.1 ∧ zone ps ((tk - ch) / beat) 0 = zone (ps.drop x.1.1) ((tk - ch) / beat - x.1.2) x.1.1
  let st : (Nat × Int) × Nat → Slots × Blocks := fun x => (s68 tk (ch + x.1.2 * beat) x.1.1, bxB ps.length x.2 (vi ps) beat)
  refine con_of (L := fun _ s b => ∃ x, inv x ∧ st x = (s, b)) hokB mixed Try.func68 rfl (by show 1 ≤ 500; omega) rfl (ids := [0]) (by kernel_rfl) rfl (fun caps => ?_) (fun id hid => ?_)
  · show g68 _ _ ps.length (caps 500) (vi ps) beat ch tk _
    rw [g68_text]
    unfold zoneV
    refine bc_dec (fun a0 => ?_) (fun a0 => by rw [if_neg (by omega)])
    refine bc_dec (fun a1 => ?_) (fun a1 => by rw [if_neg (by omega)])
    refine bc_dec (fun a2 => ?_) (fun a2 => by rw [if_neg (by omega)])
    refine bc_dec (fun a3 => ?_) (fun a3 => by rw [if_neg (by omega)])
    rw [if_pos ⟨⟨a0, a1⟩, a2, a3⟩]
    refine bc_dec (fun hc => by rw [if_pos hc]) (fun hc => ?_)
    refine ⟨((0, 0), caps 500), ⟨⟨a0, a1⟩, ⟨a2, a3⟩, by omega, Nat.zero_le _, by show (0 : Int) ≤ 0; omega, by simp, by simp⟩, ?_⟩
    show (s68 tk (ch + 0 * beat) 0, _) = _
    rw [Int.zero_mul, Int.add_zero]; rfl
  · obtain rfl := List.mem_singleton.1 hid
    refine ⟨_, st, inv, fun x => ps.length - x.1.1, ⟨fun s b h => h, by kernel_rfl, ?_⟩⟩
    rintro ⟨⟨i, c⟩, cap⟩ ⟨t1, t2, hle, hi, hp0, hp1, hr⟩
    simp only at hi hp0 hp1 hr
    have t11 := t1.1; have t12 := t1.2; have t21 := t2.1; have t22 := t2.2
    have hzv : zoneV ps beat ch tk = zone ps ((tk - ch) / beat) 0 := by rw [zoneV, if_pos ⟨t1, t2⟩, if_neg (by omega)]
    show r68 _ _ ps.length cap (vi ps) beat tk (ch + c * beat) i _ _ _
    rw [r68_text]
    refine bc_dec (fun h => ?_) (fun h => ?_)
    · have hi' : i < ps.length := by omega
      have hp := hv.all ps[i] (List.getElem_mem hi')
      have hd : ps.drop i = ps[i] :: ps.drop (i + 1) := List.drop_eq_getElem_cons hi'
      rw [hd, zone] at hr
      have hm0 : 0 ≤ ps[i] * beat := Int.mul_nonneg (by omega) (by omega)
      have hm1 : ps[i] * beat ≤ 200 * 1000 := Int.mul_le_mul hp.2 hb2 (by omega) (by omega)
      have hc0 : 0 ≤ c * beat := Int.mul_nonneg hp0 (by omega)
      have hc1 : c * beat ≤ 1000 * 1000 := Int.mul_le_mul (by omega) hb2 (by omega) (by omega)
      have key : tk < ch + c * beat + ps[i] * beat ↔ (tk - ch) / beat - c < ps[i] := by
        have h1 : (tk - ch) / beat < c + ps[i] ↔ tk - ch < (c + ps[i]) * beat := Int.ediv_lt_iff_lt_mul (by omega)
        rw [Int.add_mul] at h1
        omega
      refine bc_yes (by omega) (bc_yes h ⟨ps[i], vi_at ps i hi', ?_⟩)
      rw [w64 (z := ps[i] * beat) (by omega) (by omega), w64 (z := ch + c * beat + ps[i] * beat) (by omega) (by omega)]
      refine ⟨⟨rfl, rfl, rfl, rfl, ⟨_, vi_at ps i hi', rfl⟩, bc_yes (by omega) (bc_yes h rfl), rfl, rfl, rfl, rfl, trivial⟩, trivial, bc_dec (fun hk => ?_) (fun hk => ?_)⟩
      · rw [if_pos (key.1 hk)] at hr
        rw [hzv, hr]
      · rw [if_neg (fun h => hk (key.2 h))] at hr
        refine ⟨((i + 1, c + ps[i]), cap), ⟨t1, t2, hle, by show i + 1 ≤ ps.length; omega, by show 0 ≤ c + ps[i]; omega, by show c + ps[i] ≤ 200 * ((i + 1 : Nat) : Int); omega, ?_⟩, by show ps.length - (i + 1) < ps.length - i; omega, ?_⟩
        · rw [hr]
          show _ = zone (ps.drop (i + 1)) ((tk - ch) / beat - (c + ps[i])) ((i + 1 : Nat) : Int)
          rw [show (tk - ch) / beat - (c + ps[i]) = (tk - ch) / beat - c - ps[i] by omega]; rfl
        · rw [w64 (by omega) (by omega)]
          show (s68 tk (ch + (c + ps[i]) * beat) _, _) = _
          rw [Int.add_mul, ← Int.add_assoc]; rfl
    · show (if 0 = 0 then _ else _)
      rw [if_pos rfl]
      show n68 _ _ _
      rw [n68_text]
      have : i = ps.length := by omega
      rw [this, List.drop_length] at hr
      rw [hzv, hr]; rfl
end Go.Proofs.B
