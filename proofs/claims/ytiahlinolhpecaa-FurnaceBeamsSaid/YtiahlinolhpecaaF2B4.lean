/- FurnaceBeams, in data. -/
import Derived.Test.YtiahlinolhpecaaF2B3
namespace Go.Proofs.B
open Go Go.Abs Go.Proofs
set_option maxRecDepth 100000
theorem con62n (beat : Int) : Con Try.prog 62 [.agg [.nil, dI beat]] [dBeam [] beat] := by
  refine con_flat hokF mixed Try.func62 rfl (by show 0 ≤ 500; omega) rfl (by kernel_rfl) (fun caps => ?_)
  show g62n _ _ beat _
  rw [g62n_text]
  simp only [true_and]
  exact ⟨⟨con37n⟩, rfl⟩
theorem con67z {ps : List Int} {beat : Int} (hv : ValidBeam ps beat) : Con Try.prog 67 [dBeam ps beat, .nil] [.nil, dI 10] := by
  have h5 := hv.some
  refine con_of (L := fun _ _ _ => False) hokB mixed Try.func67 rfl (by show 1 ≤ 500; omega) rfl (ids := [0, 2]) (by kernel_rfl) rfl (fun caps => ?_) (fun id hid => ?_)
  · show g67z _ _ ps.length (caps 500) (vi ps) beat _
    rw [g67z_text]
    exact bc_bne (fun _ => rfl) (fun h => absurd h (by omega))
  · have hid' : id = 0 ∨ id = 2 := by simpa using hid
    rcases hid' with rfl | rfl <;> exact ⟨Unit, fun _ => (default, []), fun _ => False, fun _ => 0, ⟨fun s b h => h.elim, by kernel_rfl, fun x h => h.elim⟩⟩
theorem zone_shape : ∀ (ps : List Int) (q i : Int), ∃ z e, zone ps q i = [dI z, dI e]
  | [], _, _ => ⟨0, 12, rfl⟩
  | p :: r, q, i => by
    rw [zone]
    split
    · exact ⟨i, 0, rfl⟩
    · exact zone_shape r _ _
theorem zoneV_shape (ps : List Int) (beat ch tk : Int) : ∃ z e, zoneV ps beat ch tk = [dI z, dI e] := by
  unfold zoneV
  split
  · split
    · exact ⟨0, 9, rfl⟩
    · exact zone_shape _ _ _
  · exact ⟨0, 2, rfl⟩
theorem chargeV_shape (ps : List Int) (beat d : Int) : ∃ z e, chargeV ps beat d = [dI z, dI e] := by
  unfold chargeV
  split
  · split
    · exact ⟨0, 12, rfl⟩
    · exact ⟨_, 0, rfl⟩
  · exact ⟨0, 2, rfl⟩
theorem refRoute_shape {ps ss : List Int} {beat : Int} : (∃ e, refRoute ps ss beat = [.nil, dI e]) ∨ ∃ zs : List (Int × Int), zs.length = ps.length ∧ refRoute ps ss beat = [.sl zs.length 2 (vp zs), dI 0] := by
  unfold refRoute
  split
  · exact .inl ⟨10, rfl⟩
  · rename_i hl
    split
    · exact .inl ⟨2, rfl⟩
    · cases h : rt ps ss beat with
      | none => exact .inl ⟨8, rfl⟩
      | some l =>
        have := rt_len h (by omega)
        exact .inr ⟨l, this, by rw [rtRes, this]; rfl⟩

theorem con10 (ps ss : List Int) (beat ch tk d : Int) : Con Try.prog 10 [dBeam ps beat, .agg [.sl ss.length 1 (vi ss), dI ch, dI tk, dI d]] [.val (.bool true)] := by
  refine con_flat hokF mixed Try.func10 rfl (by show 2 ≤ 500; omega) rfl (by kernel_rfl) (fun caps => ?_)
  show g10 _ _ ps.length (caps 500) (vi ps) beat ss.length (caps 501) (vi ss) ch tk d _
  rw [g10_text]
  simp only [true_and, and_true, vi_whole, vi_length]
  refine .inl ⟨⟨con14⟩, bc_dec (fun _ => trivial) (fun hn => bc_dec (fun _ => trivial) (fun hm => ?_))⟩
  have hlen : ps.length < 1000000000 := by omega
  have hle : 0 + ps.length * 1 ≤ ps.length := by omega
  have hle2 : 0 + ss.length * 1 ≤ ss.length := by omega
  obtain ⟨a, ha⟩ := beamRes_shape ps beat
  have h61 := con61g ps beat hlen
  have h66 := con66 ps beat hlen
  rw [ha] at h61 h66
  have h62 := con62 ps beat hlen
  have h37 := con37 ss (by omega)
  have h63 := con63 (ps := ps) (ss := ss) (beat := beat) hlen
  have h64 := con64g ps beat ch tk hlen
  have h65 := con65g ps beat d hlen
  refine bc_yes hle ⟨⟨h62⟩, bc_yes hle ⟨_, _, ⟨h61⟩, bc_yes hle ⟨⟨h62⟩, bc_yes hle2 ⟨⟨h37⟩, bc_yes hle (bc_yes hle2 ?_)⟩⟩⟩⟩
  by_cases hb : bErr ps beat = 0
  · have hv := bErr_valid hb
    have e63 : routeP ps ss beat = refRoute ps ss beat := by rw [routeP, if_neg (by simpa using hb)]; rfl
    have e64 : zoneP ps beat ch tk = zoneV ps beat ch tk := by rw [zoneP, if_neg (by simpa using hb)]
    have e65 : chargeP ps beat d = chargeV ps beat d := by rw [chargeP, if_neg (by simpa using hb)]
    have h67 := con67 (ss := ss) hv
    have h68 := con68 hv ch tk
    have h69 := con69 hv d
    obtain ⟨z, ze, hz⟩ := zoneV_shape ps beat ch tk
    obtain ⟨c, ce, hc⟩ := chargeV_shape ps beat d
    rw [e63] at h63
    rw [e64, hz] at h64
    rw [e65, hc] at h65
    rw [hz] at h68
    rw [hc] at h69
    rw [hb] at h66 ⊢
    rcases refRoute_shape (ps := ps) (ss := ss) (beat := beat) with ⟨e, hr⟩ | ⟨zs, hzl, hr⟩
    · rw [hr] at h63 h67
      refine .inl ⟨_, ⟨h63⟩, bc_yes hle ⟨⟨h62⟩, bc_yes hle ⟨_, _, ⟨h64⟩, bc_yes hle ⟨⟨h62⟩, bc_yes hle ⟨_, _, ⟨h65⟩, bc_yes hle ⟨_, _, ⟨h66⟩, ?_⟩⟩⟩⟩⟩⟩
      refine bc_false (by simp) (bc_false (by simp) (bc_false (by simp) (bc_yes hle (bc_yes hle2 ?_))))
      exact .inl ⟨_, ⟨h67⟩, bc_yes hle ⟨_, _, ⟨h68⟩, bc_yes hle ⟨_, _, ⟨h69⟩, bc_true (by simp) (.inl ⟨⟨con70n⟩, bc_true (by simp) (bc_true (by simp) (bc_true (by simp) (bc_true (by simp) trivial)))⟩)⟩⟩⟩
    · rw [hr] at h63 h67
      have h70 := con70 zs (by omega)
      have hzw : 0 + zs.length * 2 ≤ (vp zs).length := by rw [vp_length]; omega
      refine .inr ⟨_, _, _, ⟨h63⟩, bc_yes hle ⟨⟨h62⟩, bc_yes hle ⟨_, _, ⟨h64⟩, bc_yes hle ⟨⟨h62⟩, bc_yes hle ⟨_, _, ⟨h65⟩, bc_yes hle ⟨_, _, ⟨h66⟩, ?_⟩⟩⟩⟩⟩⟩
      refine bc_false (by simp) (bc_false (by simp) (bc_false (by simp) (bc_yes hle (bc_yes hle2 ?_))))
      refine .inr ⟨_, _, _, ⟨h67⟩, bc_yes hle ⟨_, _, ⟨h68⟩, bc_yes hle ⟨_, _, ⟨h69⟩, bc_true (by simp) (bc_yes hzw (bc_yes hzw ?_))⟩⟩⟩
      rw [vp_whole]
      exact .inl ⟨⟨h70⟩, bc_true (by simp) (bc_true (by simp) (bc_true (by simp) (bc_true (by simp) trivial)))⟩
  · rw [routeP, if_pos hb] at h63
    rw [zoneP, if_pos hb] at h64
    rw [chargeP, if_pos hb] at h65
    refine .inl ⟨_, ⟨h63⟩, bc_yes hle ⟨⟨h62⟩, bc_yes hle ⟨_, _, ⟨h64⟩, bc_yes hle ⟨⟨h62⟩, bc_yes hle ⟨_, _, ⟨h65⟩, bc_yes hle ⟨_, _, ⟨h66⟩, ?_⟩⟩⟩⟩⟩⟩
    exact bc_false (by simp) (bc_false (by simp) (bc_true (by simpa using hb) (bc_true (by simp) (bc_true (by simp) (bc_true (by simp) (bc_true (by simp) (bc_true (by simp) trivial)))))))
theorem con10b (ps : List Int) (beat ch tk d : Int) : Con Try.prog 10 [dBeam ps beat, .agg [.nil, dI ch, dI tk, dI d]] [.val (.bool true)] := by
  refine con_flat hokF mixed Try.func10 rfl (by show 1 ≤ 500; omega) rfl (by kernel_rfl) (fun caps => ?_)
  show g10b _ _ ps.length (caps 500) (vi ps) beat ch tk d _
  rw [g10b_text]
  simp only [true_and, and_true, vi_whole, vi_length]
  refine .inl ⟨⟨con14⟩, bc_dec (fun _ => trivial) (fun hn => ?_)⟩
  have hlen : ps.length < 1000000000 := by omega
  have hle : 0 + ps.length * 1 ≤ ps.length := by omega
  obtain ⟨a, ha⟩ := beamRes_shape ps beat
  have h61 := con61g ps beat hlen
  have h66 := con66 ps beat hlen
  rw [ha] at h61 h66
  have h62 := con62 ps beat hlen
  have h63 := con63 (ps := ps) (ss := []) (beat := beat) hlen
  have h64 := con64g ps beat ch tk hlen
  have h65 := con65g ps beat d hlen
  refine bc_yes hle ⟨⟨h62⟩, bc_yes hle ⟨_, _, ⟨h61⟩, bc_yes hle ⟨⟨h62⟩, ⟨con37n⟩, bc_yes hle ?_⟩⟩⟩
  by_cases hb : bErr ps beat = 0
  · have hv := bErr_valid hb
    have hs := hv.some
    have e63 : routeP ps [] beat = [.nil, dI 10] := by rw [routeP, if_neg (by simpa using hb), if_pos (by simp only [List.length_nil]; omega)]
    have e64 : zoneP ps beat ch tk = zoneV ps beat ch tk := by rw [zoneP, if_neg (by simpa using hb)]
    have e65 : chargeP ps beat d = chargeV ps beat d := by rw [chargeP, if_neg (by simpa using hb)]
    have h67 := con67z hv
    have h68 := con68 hv ch tk
    have h69 := con69 hv d
    obtain ⟨z, ze, hz⟩ := zoneV_shape ps beat ch tk
    obtain ⟨c, ce, hc⟩ := chargeV_shape ps beat d
    rw [e63] at h63
    rw [e64, hz] at h64
    rw [e65, hc] at h65
    rw [hz] at h68
    rw [hc] at h69
    rw [hb] at h66 ⊢
    refine .inl ⟨_, ⟨h63⟩, bc_yes hle ⟨⟨h62⟩, bc_yes hle ⟨_, _, ⟨h64⟩, bc_yes hle ⟨⟨h62⟩, bc_yes hle ⟨_, _, ⟨h65⟩, bc_yes hle ⟨_, _, ⟨h66⟩, ?_⟩⟩⟩⟩⟩⟩
    refine bc_false (by simp) (bc_false (by simp) (bc_false (by simp) (bc_yes hle ?_)))
    exact .inl ⟨_, ⟨h67⟩, bc_yes hle ⟨_, _, ⟨h68⟩, bc_yes hle ⟨_, _, ⟨h69⟩, bc_true (by simp) (.inl ⟨⟨con70n⟩, bc_true (by simp) (bc_true (by simp) (bc_true (by simp) (bc_true (by simp) trivial)))⟩)⟩⟩⟩
  · rw [routeP, if_pos hb] at h63
    rw [zoneP, if_pos hb] at h64
    rw [chargeP, if_pos hb] at h65
    refine .inl ⟨_, ⟨h63⟩, bc_yes hle ⟨⟨h62⟩, bc_yes hle ⟨_, _, ⟨h64⟩, bc_yes hle ⟨⟨h62⟩, bc_yes hle ⟨_, _, ⟨h65⟩, bc_yes hle ⟨_, _, ⟨h66⟩, ?_⟩⟩⟩⟩⟩⟩
    exact bc_false (by simp) (bc_false (by simp) (bc_true (by simpa using hb) (bc_true (by simp) (bc_true (by simp) (bc_true (by simp) (bc_true (by simp) (bc_true (by simp) trivial)))))))
theorem con10a (ss : List Int) (beat ch tk d : Int) : Con Try.prog 10 [.agg [.nil, dI beat], .agg [.sl ss.length 1 (vi ss), dI ch, dI tk, dI d]] [.val (.bool true)] := by
  refine con_flat hokF mixed Try.func10 rfl (by show 1 ≤ 500; omega) rfl (by kernel_rfl) (fun caps => ?_)
  show g10a _ _ beat ss.length (caps 500) (vi ss) ch tk d _
  rw [g10a_text]
  simp only [true_and, and_true, vi_whole, vi_length]
  refine .inl ⟨⟨con14⟩, bc_dec (fun _ => trivial) (fun hm => ?_)⟩
  have hle2 : 0 + ss.length * 1 ≤ ss.length := by omega
  have h61 : Con Try.prog 61 [dBeam [] beat] [dI 0, dI 10] := con61g [] beat (by simp)
  have h62 := con62n beat
  have h37 := con37 ss (by omega)
  have h63 : Con Try.prog 63 [dBeam [] beat, .sl ss.length 1 (vi ss)] [.nil, dI 10] := con63 (ps := []) (ss := ss) (beat := beat) (by simp)
  have h64 : Con Try.prog 64 [dBeam [] beat, dI ch, dI tk] [dI 0, dI 10] := con64g [] beat ch tk (by simp)
  have h65 : Con Try.prog 65 [dBeam [] beat, dI d] [dI 0, dI 10] := con65g [] beat d (by simp)
  have h66 := con66nil beat
  refine ⟨⟨h62⟩, _, _, ⟨h61⟩, ⟨h62⟩, bc_yes hle2 ⟨⟨h37⟩, bc_yes hle2 (.inl ⟨_, ⟨h63⟩, ⟨h62⟩, _, _, ⟨h64⟩, ⟨h62⟩, _, _, ⟨h65⟩, _, _, ⟨h66⟩, ?_⟩)⟩⟩
  exact bc_false (by decide) (bc_false (by decide) (bc_true (by decide) (bc_true (by decide) (bc_true (by decide) (bc_true (by decide) (bc_true (by decide) (bc_true (by decide) trivial)))))))
theorem con10c (beat ch tk d : Int) : Con Try.prog 10 [.agg [.nil, dI beat], .agg [.nil, dI ch, dI tk, dI d]] [.val (.bool true)] := by
  refine con_flat hokF mixed Try.func10 rfl (by show 0 ≤ 500; omega) rfl (by kernel_rfl) (fun caps => ?_)
  show g10c _ _ beat ch tk d _
  rw [g10c_text]
  simp only [true_and, and_true]
  have h61 : Con Try.prog 61 [dBeam [] beat] [dI 0, dI 10] := con61g [] beat (by simp)
  have h62 := con62n beat
  have h63 : Con Try.prog 63 [dBeam [] beat, .sl 0 1 []] [.nil, dI 10] := con63 (ps := []) (ss := []) (beat := beat) (by simp)
  have h64 : Con Try.prog 64 [dBeam [] beat, dI ch, dI tk] [dI 0, dI 10] := con64g [] beat ch tk (by simp)
  have h65 : Con Try.prog 65 [dBeam [] beat, dI d] [dI 0, dI 10] := con65g [] beat d (by simp)
  have h66 := con66nil beat
  refine .inl ⟨⟨con14⟩, ⟨h62⟩, _, _, ⟨h61⟩, ⟨h62⟩, ⟨con37n⟩, .inl ⟨_, ⟨h63⟩, ⟨h62⟩, _, _, ⟨h64⟩, ⟨h62⟩, _, _, ⟨h65⟩, _, _, ⟨h66⟩, ?_⟩⟩
  exact bc_false (by decide) (bc_false (by decide) (bc_true (by decide) (bc_true (by decide) (bc_true (by decide) (bc_true (by decide) (bc_true (by decide) (bc_true (by decide) trivial)))))))
#print axioms con10
end Go.Proofs.B
