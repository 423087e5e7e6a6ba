/- In time: what the law does, in data. -/
import Derived.Test.YtiahlinolhpecaaF2Z
import Derived.Test.YtiahlinolhpecaaF2G
import Derived.Test.YtiahlinolhpecaaF2Awake
namespace Go.Proofs
open Go Go.Abs
set_option maxRecDepth 100000
theorem hokS : HandlerOK Try.prog (hS (Con Try.prog)) := handlerS_ok (fun _ _ _ h => h) hok
theorem con66nil (beat : Int) : Con Try.prog 66 [.agg [.nil, dI beat]] [dI 0, dI 10] := by
  let inv : Unit → Prop := fun _ => False
  let st : Unit → Slots × Blocks := fun _ => (default, [])
  refine con_of (L := fun _ s b => ∃ x, inv x ∧ st x = (s, b)) hok mixed Try.func66 rfl (by show 0 ≤ 500; omega) rfl (ids := [0]) (by kernel_rfl) rfl (fun caps => ?_) (fun id hid => ?_)
  · show g66n _ _ beat _
    rw [g66n_text]
  · obtain rfl := List.mem_singleton.1 hid
    exact ⟨_, st, inv, fun _ => 0, ⟨fun s b h => h, by kernel_rfl, fun x h => h.elim⟩⟩
theorem con71nil (beat : Int) : Con Try.prog 71 [.agg [.nil, dI beat]] [dI 10] := by
  refine con_flat hok mixed Try.func71 rfl (by show 0 ≤ 500; omega) rfl (by kernel_rfl) (fun caps => ?_)
  show g71n _ _ beat _
  rw [g71n_text]
  exact ⟨0, 10, ⟨con66nil beat⟩, rfl⟩
theorem con11nil (beat d after : Int) : Con Try.prog 11 [.agg [.nil, dI beat], dI d, dI after] [.val (.bool true)] := by
  refine con_flat hokS mixed Try.func11 rfl (by show 0 ≤ 500; omega) rfl (by kernel_rfl) (fun caps => ?_)
  show g11n _ _ beat d after _
  rw [g11n_text]
  exact .inl ⟨⟨con14⟩, 10, ⟨con71nil beat⟩, bc_true (by decide) rfl⟩

theorem div_last {S b : Int} (hb : 1 ≤ b) : (S * b - 1) / b = S - 1 := by
  rw [show S * b - 1 = (b - 1) + (S - 1) * b by rw [Int.sub_mul]; omega, Int.add_mul_ediv_right _ _ (by omega), Int.ediv_eq_zero_of_lt (by omega) (by omega)]
  omega
theorem div_step {a b : Int} (hb : 1 ≤ b) : (a + 1) / b = a / b ∨ (a + 1) / b = a / b + 1 := by
  have h1 := Int.emod_nonneg a (show b ≠ 0 by omega)
  have h2 := Int.emod_lt_of_pos a (show 0 < b by omega)
  have h3 := Int.emod_add_mul_ediv a b
  have h4 : a + 1 = (a % b + 1) + (a / b) * b := by rw [Int.mul_comm (a / b) b]; omega
  rw [h4, Int.add_mul_ediv_right _ _ (by omega)]
  by_cases h : a % b + 1 < b
  · left; rw [Int.ediv_eq_zero_of_lt (by omega) h]; omega
  · right
    rw [show a % b + 1 = b by omega, Int.ediv_self (by omega)]
    omega

theorem con11 (ps : List Int) (beat d after : Int) : Con Try.prog 11 [.agg [.sl ps.length 1 (vi ps), dI beat], dI d, dI after] [.val (.bool true)] := by
  refine con_flat hokS mixed Try.func11 rfl (by show 1 ≤ 500; omega) rfl (by kernel_rfl) (fun caps => ?_)
  show j11 _ _ ps.length (caps 500) (vi ps) beat d after _
  rw [j11_text]
  refine .inl ⟨⟨con14⟩, bc_dec (fun _ => rfl) (fun hfew => bc_yes (by simp) ?_)⟩
  have hlen : ps.length < 1000000000 := by omega
  simp only [vi_whole, vi_length]
  refine ⟨bErr ps beat, ⟨con71 ps beat hlen⟩, bc_bne (fun _ => trivial) (fun hv0 => ?_)⟩
  have hv := bErr_valid hv0
  have hb := hv.b1
  have hps : ∀ p ∈ ps, 1 ≤ p := fun p hp => (hv.all p hp).1
  have hS := tot_pos hps hv.some
  have hSb : 1 ≤ tot ps * beat := by
    have := Int.mul_le_mul hS hb (by omega) (by omega)
    omega
  refine bc_dec (fun hd0 => bc_dec (fun hd1 => bc_dec (fun ha0 => bc_dec (fun ha1 => ?_) (fun _ => trivial)) (fun _ => trivial)) (fun _ => trivial)) (fun _ => trivial)
  have c62 : Says (Con Try.prog) 62 [dBeam ps beat] [dBeam ps beat] := ⟨con62 ps beat hlen⟩
  have hle : 0 + ps.length * 1 ≤ ps.length := by omega
  have hc65 := con65 (d := d) hv hd0 (by omega)
  refine bc_yes hle ⟨c62, bc_yes hle ?_⟩
  rw [before_tot] at hc65
  by_cases hneg : d - tot ps * beat < 0
  · -- no charge
    rw [if_pos hneg] at hc65
    refine ⟨0, 12, ⟨hc65⟩, bc_true (by decide) (bc_yes hle ⟨c62, bc_yes hle ?_⟩)⟩
    obtain ⟨z, h1, _, _⟩ := zone_in (ps := ps) (pos := (d - 0) / beat) (i := 0) (Int.ediv_nonneg (by omega) (by omega)) (Int.ediv_lt_of_lt_mul (by omega) (by omega))
    have h64 := con64 (ch := 0) (tk := d) hv (by omega) (by omega) hd0 (by omega) hd0
    rw [h1] at h64
    exact ⟨z, 0, ⟨h64⟩, bc_true (by decide) (bc_true (by decide) (bc_true (by decide) trivial))⟩
  rw [if_neg hneg] at hc65
  refine ⟨d - tot ps * beat, 0, ⟨hc65⟩, bc_false (by decide) (bc_yes (by omega) (bc_yes ?_ ?_))⟩
  · rw [w64 (by omega) (by omega)]; omega
  have hc0 : 0 ≤ d - tot ps * beat := by omega
  generalize hcd : d - tot ps * beat = c at *
  -- one tick before
  have ha := con64 (ch := c) (tk := d - 1) hv hc0 (by omega) (by omega) (by omega) (by omega)
  rw [show d - 1 - c = tot ps * beat - 1 by omega, div_last hb, zone_last hps hv.some] at ha
  refine bc_yes hle ⟨c62, bc_yes hle ⟨_, 0, ⟨by rw [w64 (z := d - 1) (by omega) (by omega)]; exact ha⟩, ?_⟩⟩
  -- at the delivery
  have hg := con64 (ch := c) (tk := d) hv hc0 (by omega) hd0 (by omega) (by omega)
  rw [show d - c = tot ps * beat by omega, Int.mul_ediv_cancel _ (by omega), zone_out hps (Int.le_refl _)] at hg
  refine bc_yes hle ⟨c62, bc_yes hle ⟨0, 12, ⟨hg⟩, ?_⟩⟩
  -- one tick later
  have hh := con64 (ch := c + 1) (tk := d) hv (by omega) (by omega) hd0 (by omega) (by omega)
  rw [show d - (c + 1) = tot ps * beat - 1 by omega, div_last hb, zone_last hps hv.some] at hh
  refine bc_yes hle ⟨c62, bc_yes hle ⟨_, 0, ⟨by rw [w64 (z := c + 1) (by omega) (by omega)]; exact hh⟩, ?_⟩⟩
  refine bc_false (by decide) (bc_false ?_ (bc_false (by decide) (bc_false (by decide) ?_)))
  · rw [w64 (by omega) (by omega)]
    have : (0 : Int) + ps.length - 1 = ps.length - 1 := by omega
    rw [this]
    simp
  simp only [w64 (z := c + after) (by omega) (by omega), w64 (z := c + after + 1) (by omega) (by omega)]
  refine bc_dec (fun _ => trivial) (fun ht => ?_)
  have hpos := Int.ediv_nonneg ha0 (show 0 ≤ beat by omega)
  have hlt : after / beat < tot ps := Int.ediv_lt_of_lt_mul (by omega) (by omega)
  have hx := con64 (ch := c) (tk := c + after) hv hc0 (by omega) (by omega) (by omega) (by omega)
  have hy := con64 (ch := c) (tk := c + after + 1) hv hc0 (by omega) (by omega) (by omega) (by omega)
  rw [show c + after - c = after by omega] at hx
  rw [show c + after + 1 - c = after + 1 by omega] at hy
  by_cases hend : c + after + 1 = d
  · -- the last tick
    obtain ⟨z, h1, h2, h3⟩ := zone_in (i := 0) hpos hlt
    rw [h1] at hx
    have : (after + 1) / beat = tot ps := by rw [show after + 1 = tot ps * beat by omega]; exact Int.mul_ediv_cancel _ (by omega)
    rw [this, zone_out hps (Int.le_refl _)] at hy
    refine bc_yes hle ⟨c62, bc_yes hle ⟨z, 0, ⟨hx⟩, bc_yes hle ⟨c62, bc_yes hle ⟨0, 12, ⟨hy⟩, ?_⟩⟩⟩⟩
    exact bc_true (by decide) (bc_yes h2 (bc_yes h3 (bc_false (by decide) (bc_true (by simp [hend]) (bc_true (by decide) trivial)))))
  · have hlt' : (after + 1) / beat < tot ps := Int.ediv_lt_of_lt_mul (by omega) (by omega)
    have key : ∃ z z', zone ps (after / beat) 0 = [dI z, dI 0] ∧ zone ps ((after + 1) / beat) 0 = [dI z', dI 0] ∧ 0 ≤ z ∧ z ≤ 0 + ps.length - 1 ∧ z ≤ z' ∧ z' ≤ z + 1 := by
      rcases div_step (a := after) hb with h | h
      · rw [h]
        obtain ⟨z, h1, h2, h3⟩ := zone_in (i := 0) hpos hlt
        exact ⟨z, z, h1, h1, h2, h3, by omega, by omega⟩
      · rw [h] at hlt' ⊢
        exact zone_step hps hpos hlt'
    obtain ⟨z, z', h1, h2, h3, h4, h5, h6⟩ := key
    rw [h1] at hx
    rw [h2] at hy
    refine bc_yes hle ⟨c62, bc_yes hle ⟨z, 0, ⟨hx⟩, bc_yes hle ⟨c62, bc_yes hle ⟨z', 0, ⟨hy⟩, ?_⟩⟩⟩⟩
    exact bc_true (by decide) (bc_yes h3 (bc_yes h4 (bc_true (by decide) (bc_yes h5 (bc_yes (by rw [w64 (by omega) (by omega)]; exact h6) trivial)))))
#print axioms con11
end Go.Proofs
