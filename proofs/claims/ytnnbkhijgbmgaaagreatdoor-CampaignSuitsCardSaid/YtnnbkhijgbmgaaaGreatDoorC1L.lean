/- Chapter 1: CampaignSuits and CampaignVolume, in data. -/
import Derived.Test.YtnnbkhijgbmgaaaGreatDoorC1D
namespace Go.Proofs.C1
open Go Go.Abs Go.Proofs
set_option maxRecDepth 100000
theorem eq2 {a b : Int} : (if Bool.false = Bool.true then !(a == a && (b == b && Bool.true)) else a == a && (b == b && Bool.true)) = true := by simp
theorem con3 (s : ByteArray) (g t w l : Int) (s' : ByteArray) (g' t' tol w' lo hi due : Int) :
    Con Tryz.prog 3 [dSlab s g t w l, dOrder s' g' t' tol w' lo hi due] [dB true] := by
  refine con_flat hok mixed Tryz.func3 rfl (by show 0 ≤ 500; omega) rfl (by kernel_rfl) (fun caps => ?_)
  show g3 _ _ s g t w l s' g' t' tol w' lo hi due _
  rw [g3_text]
  have h7 := con7 s g t w l s' g' t' tol w' lo hi due
  have h8 := con8 s g t w l s' g' t' tol w' lo hi due
  have h9 := con9 s g t w l
  have h10 := con10 s' g' t' tol w' lo hi due
  simp only [true_and, and_true]
  refine .inl ⟨⟨con6⟩, bc_dec (fun _ => trivial) (fun _ => bc_dec (fun _ => trivial) (fun _ => ?_))⟩
  by_cases hs0 : slabE s g t w l = 0
  · by_cases ho0 : orderE s' g' t' tol w' lo hi due = 0
    · have hb : bothE s g t w l s' g' t' tol w' lo hi due = 0 := by unfold bothE; rw [if_neg (by simpa using hs0), ho0]
      have so := slab_ok hs0
      have oo := order_ok ho0
      have h11 := con11 (s := s) (s' := s') (lo := lo) (hi := hi) (due := due) so oo
      have h12 := con12 (s := s) (s' := s') (lo := lo) (hi := hi) (due := due) so oo
      rw [hb, show ((0 : Int) == 0) = true from rfl] at h7 h8
      simp only [cond_true] at h7 h8
      rw [hs0] at h9
      rw [ho0] at h10
      cases hsu : suitB g w g' w' with
      | true =>
        rw [hsu] at h7 h8 h11
        simp only [cond_true] at h8
        refine .inl ⟨0, ⟨h7⟩, _, _, 0, ⟨h8⟩, 0, ⟨h9⟩, bc_true rfl ⟨0, ⟨h10⟩, bc_false rfl (bc_false rfl (.inl ⟨⟨h11⟩, bc_true rfl ⟨bc_true rfl trivial, _, _, ⟨h12⟩, bc_true eq2 ⟨bc_true eq2 trivial, bc_true rfl trivial⟩⟩⟩))⟩⟩
      | false =>
        rw [hsu] at h7 h8 h11
        simp only [cond_false] at h8
        exact .inr ⟨0, ⟨h7⟩, 0, 0, 13, ⟨h8⟩, 0, ⟨h9⟩, bc_true rfl ⟨0, ⟨h10⟩, bc_false rfl (bc_false rfl (.inr ⟨⟨h11⟩, bc_true rfl (bc_true rfl trivial)⟩))⟩⟩
    · have hb : bothE s g t w l s' g' t' tol w' lo hi due = orderE s' g' t' tol w' lo hi due := by unfold bothE; rw [if_neg (by simpa using hs0)]
      have hb0 : (bothE s g t w l s' g' t' tol w' lo hi due == 0) = false := by rw [hb]; simpa using ho0
      rw [hb0] at h7 h8
      simp only [cond_false] at h7 h8
      rw [hs0] at h9
      rw [hb] at h7 h8
      exact .inr ⟨_, ⟨h7⟩, 0, 0, _, ⟨h8⟩, 0, ⟨h9⟩, bc_true rfl ⟨_, ⟨h10⟩, bc_true (by simpa using ho0) (bc_true (by simp) (bc_true (by simp) (bc_true eq2 trivial)))⟩⟩
  · have hb : bothE s g t w l s' g' t' tol w' lo hi due = slabE s g t w l := by unfold bothE; rw [if_pos hs0]
    have hb0 : (bothE s g t w l s' g' t' tol w' lo hi due == 0) = false := by rw [hb]; simpa using hs0
    rw [hb0] at h7 h8
    simp only [cond_false] at h7 h8
    rw [hb] at h7 h8
    exact .inr ⟨_, ⟨h7⟩, 0, 0, _, ⟨h8⟩, _, ⟨h9⟩, bc_false (by simpa using hs0) (bc_true (by simpa using hs0) (bc_true (by simp) (bc_true (by simp) (bc_true eq2 trivial))))⟩

theorem lo_mul {V a : Int} (ha : 0 < a) : loOf V a * a ≤ V ∧ V < (loOf V a + 1) * a := by
  have h1 := Int.emod_nonneg V (show a ≠ 0 by omega)
  have h2 := Int.emod_lt_of_pos V ha
  have h3 := Int.emod_add_mul_ediv V a
  unfold loOf
  rw [Int.add_mul, Int.mul_comm (V / a) a]
  omega
theorem hi_mul {V a : Int} (_ : 0 ≤ V) (ha : 0 < a) : V ≤ hiOf V a * a := by
  have h1 := lo_mul (V := V + a - 1) ha
  unfold loOf at h1
  unfold hiOf
  rw [Int.add_mul] at h1
  omega
theorem lo_le_of {V a b : Int} (h : V < (b + 1) * a) (ha : 0 < a) : loOf V a ≤ b := by
  have : loOf V a < b + 1 := Int.ediv_lt_of_lt_mul ha h
  omega
theorem hi_sub {V a : Int} (h : 0 ≤ V) (ha : 0 < a) : loOf V a ≤ hiOf V a ∧ hiOf V a ≤ loOf V a + 1 := by
  have hc := hi_ceil h ha
  unfold loOf
  split at hc <;> omega
theorem lo_mono_V {V W a : Int} (h : V ≤ W) (ha : 0 < a) : loOf V a ≤ loOf W a := Int.ediv_le_ediv ha h
theorem hi_mono_V {V W a : Int} (h : V ≤ W) (ha : 0 < a) : hiOf V a ≤ hiOf W a := Int.ediv_le_ediv ha (by omega)
theorem lo_anti {V a b : Int} (hV : 0 ≤ V) (ha : 0 < a) (hab : a ≤ b) : loOf V b ≤ loOf V a := by
  have h1 := lo_mul (V := V) (a := b) (by omega)
  have h2 := lo_le (V := V) (a := b) hV (by omega)
  unfold loOf at *
  refine (Int.le_ediv_iff_mul_le ha).2 ?_
  have := Int.mul_le_mul_of_nonneg_left hab h2.1
  omega
theorem hi_anti {V a b : Int} (hV : 0 ≤ V) (ha : 0 < a) (hab : a ≤ b) : hiOf V b ≤ hiOf V a := by
  have h1 := hi_mul hV ha
  have h2 := hi_le hV ha
  have h3 := Int.mul_le_mul_of_nonneg_left hab h2.1
  unfold hiOf at *
  have : (V + b - 1) / b < (V + a - 1) / a + 1 := by
    refine Int.ediv_lt_of_lt_mul (by omega) ?_
    rw [Int.add_mul]
    omega
  omega

theorem con4 (s : ByteArray) (g t w l : Int) (s' : ByteArray) (g' t' tol w' lo hi due more : Int) :
    Con Tryz.prog 4 [dSlab s g t w l, dOrder s' g' t' tol w' lo hi due, dI more] [dB true] := by
  refine con_flat hok mixed Tryz.func4 rfl (by show 0 ≤ 500; omega) rfl (by kernel_rfl) (fun caps => ?_)
  show g4 _ _ s g t w l s' g' t' tol w' lo hi due more _
  rw [g4_text]
  have h8 := con8 s g t w l s' g' t' tol w' lo hi due
  have h8x := con8 s g t w l s' g' t' 0 w' lo hi due
  have h9 := con9 s g t w l
  have h10 := con10 s' g' t' tol w' lo hi due
  simp only [true_and, and_true]
  refine .inl ⟨⟨con6⟩, slabE s g t w l, ⟨h9⟩, bc_bne (fun _ => trivial) (fun hs0 => ⟨orderE s' g' t' tol w' lo hi due, ⟨h10⟩, bc_bne (fun _ => trivial) (fun ho0 => ?_)⟩)⟩
  have so := slab_ok hs0
  have oo := order_ok ho0
  have h11 := con11 (s := s) (s' := s') (lo := lo) (hi := hi) (due := due) so oo
  cases hsu : suitB g w g' w' with
  | false => rw [hsu] at h11; exact .inr ⟨h11⟩
  | true =>
    have ox0 : orderE s' g' t' 0 w' lo hi due = 0 := by
      have h := ho0
      unfold orderE at h ⊢
      cases hn : nameOk s' <;> rw [hn] at h <;> simp only [cond_true, cond_false] at h ⊢
      · exact h
      · split at h
        · rename_i hc
          rw [if_pos ⟨hc.1, hc.2.1, ⟨by omega, by omega⟩, hc.2.2.2⟩]
          exact h
        · omega
    have ox := order_ok ox0
    have hb : bothE s g t w l s' g' t' tol w' lo hi due = 0 := by unfold bothE; rw [if_neg (by simpa using hs0), ho0]
    have hbx : bothE s g t w l s' g' t' 0 w' lo hi due = 0 := by unfold bothE; rw [if_neg (by simpa using hs0), ox0]
    rw [hb, show ((0 : Int) == 0) = true from rfl, hsu] at h8
    rw [hbx, show ((0 : Int) == 0) = true from rfl, hsu] at h8x
    simp only [cond_true] at h8 h8x
    rw [hsu] at h11
    rw [show t' + 0 = t' by omega, show t' - 0 = t' by omega] at h8x
    obtain ⟨⟨a1, a2⟩, a3, a4⟩ := coil_areas oo.t1 oo.t2 oo.o1 oo.o2 oo.w1 oo.w2
    obtain ⟨b1, b2⟩ := tw_le oo.t1 oo.t2 oo.w1 oo.w2
    obtain ⟨v1, v2, v3, v4⟩ := vol_le ⟨so.t1, so.t2, so.w1, so.w2, so.l1, so.l2⟩
    have hsuit : g = g' ∧ 0 ≤ w - w' ∧ w - w' ≤ 100 := by
      by_cases h : g = g' ∧ 0 ≤ w - w' ∧ w - w' ≤ 100
      · exact h
      · rw [suit_false h] at hsu; cases hsu
    have w1 := so.w1; have w2 := so.w2; have w3 := oo.w1; have w4 := oo.w2
    have t1 := oo.t1; have t2 := oo.t2; have o1 := oo.o1; have o2 := oo.o2
    generalize hV : t * w * l = V at *
    generalize hA : t' * w' = A at *
    have hA1 : (t' - tol) * w' ≤ A := by rw [← hA]; exact Int.mul_le_mul_of_nonneg_right (by omega) (by omega)
    have hA2 : A ≤ (t' + tol) * w' := by rw [← hA]; exact Int.mul_le_mul_of_nonneg_right (by omega) (by omega)
    -- the length is at most five times the greatest
    have hfive : loOf V A ≤ 30000000000 := by
      refine lo_le_of ?_ (by omega)
      have e1 : t * l ≤ 300000 * 20000 := Int.mul_le_mul so.t2 so.l2 (by have := so.l1; omega) (by omega)
      have e0 : 0 ≤ t * l := Int.mul_nonneg (by have := so.t1; omega) (by have := so.l1; omega)
      have e2 : w ≤ 5 * w' := by omega
      have e3 : t * l * w ≤ 6000000000 * (5 * w') := Int.mul_le_mul (by omega) e2 (by omega) (by omega)
      have e4 : V = t * l * w := by rw [← hV, Int.mul_assoc, Int.mul_comm w l, ← Int.mul_assoc]
      have e5 : w' ≤ A := by
        rw [← hA]
        have := Int.mul_le_mul_of_nonneg_right t1 (show 0 ≤ w' by omega)
        omega
      omega
    have hx := hi_sub (V := V) (a := A) (by omega) (by omega)
    have hlm := lo_mul (V := V) (a := A) (by omega)
    have hhm := hi_mul (V := V) (a := A) (by omega) (by omega)
    have hl0 := lo_le (V := V) (a := A) (by omega) (by omega)
    have hr0 := lo_le (V := V) (a := (t' + tol) * w') (by omega) (by omega)
    have hr1 := lo_anti (V := V) (a := A) (b := (t' + tol) * w') (by omega) (by omega) hA2
    have hr2 := hi_anti (V := V) (a := (t' - tol) * w') (b := A) (by omega) (by omega) hA1
    have hmm : hiOf V A * A ≤ V + A := by
      have h := Int.mul_le_mul_of_nonneg_right hx.2 (show 0 ≤ A by omega)
      rw [Int.add_mul] at h
      omega
    have hmm2 : (loOf V A + 1) * A ≤ V + A := by rw [Int.add_mul]; omega
    refine .inl ⟨⟨h11⟩, _, _, 0, ⟨h8⟩, _, _, 0, ⟨h8x⟩, bc_false rfl (bc_false rfl ?_)⟩
    rw [show IntKind.wrap IntKind.i64 (6000000000 * 5) = 30000000000 by rw [w64 (by omega) (by omega)]; rfl]
    rw [w64 (z := hiOf V A - loOf V A) (by omega) (by omega), w64 (z := A) (by omega) (by omega), w64 (z := t * w) (by omega) (by omega), hV, w64 (z := V) (by omega) (by omega),
      w64 (z := loOf V A * A) (by have : 0 ≤ loOf V A * A := Int.mul_nonneg hl0.1 (by omega)
                                  omega) (by omega), w64 (z := hiOf V A * A) (by omega) (by omega), w64 (z := loOf V A + 1) (by omega) (by omega), w64 (z := (loOf V A + 1) * A) (by omega) (by omega)]
    refine bc_yes hr0.1 (bc_yes hr1 (bc_no (by omega) (bc_yes hl0.1 (bc_yes hfive (bc_yes (by omega) (bc_yes (by omega) (bc_no (by omega) (bc_no (by omega) (bc_no (by omega) ?_)))))))))
    have hlast : ∀ l' : Int, 0 ≤ l' - l → l' - l ≤ 99 → ∃ n9, Says (Con Tryz.prog) 9 [dSlab s g t w l'] [dI n9] ∧ bcase (n9 != 0) True
        (∃ n10 n11 n12, Says (Con Tryz.prog) 8 [dSlab s g t w l', dOrder s' g' t' tol w' lo hi due] [.agg [dI n10, dI n11], dI n12] ∧
          bcase (n12 == 0) (bcase (decide (n10 ≥ loOf V ((t' + tol) * w'))) (bcase (decide (n11 ≥ hiOf V ((t' - tol) * w'))) True ([dB false] = [dB true])) ([dB false] = [dB true])) ([dB false] = [dB true])) := by
      intro l' hl1 hl2
      have h9' := con9 s g t w l'
      refine ⟨_, ⟨h9'⟩, bc_bne (fun _ => trivial) (fun hs' => ?_)⟩
      have so' := slab_ok hs'
      have h8' := con8 s g t w l' s' g' t' tol w' lo hi due
      have hb' : bothE s g t w l' s' g' t' tol w' lo hi due = 0 := by unfold bothE; rw [if_neg (by simpa using hs'), ho0]
      rw [hb', show ((0 : Int) == 0) = true from rfl, hsu] at h8'
      simp only [cond_true] at h8'
      have hVV : V ≤ t * w * l' := by
        rw [← hV]
        exact Int.mul_le_mul_of_nonneg_left (by omega) v1
      have m1 := lo_mono_V hVV (show 0 < (t' + tol) * w' by omega)
      have m2 := hi_mono_V hVV (show 0 < (t' - tol) * w' by omega)
      exact ⟨_, _, _, ⟨h8'⟩, bc_true rfl (bc_yes m1 (bc_yes m2 trivial))⟩
    have hl1 := so.l1; have hl2 := so.l2
    have hm1 := Int.emod_nonneg more (show (100 : Int) ≠ 0 by omega)
    have hm2 := Int.emod_lt_of_pos more (show (0 : Int) < 100 by omega)
    have hm3 := Int.lt_tmod_of_pos more (show (0 : Int) < 100 by omega)
    have hm4 := Int.tmod_lt_of_pos more (show (0 : Int) < 100 by omega)
    refine bc_dec (fun hm => ?_) (fun hm => ?_)
    · rw [w64 (z := Int.tmod more 100 + 100) (by omega) (by omega), w64 (z := l + _) (by omega) (by omega)]
      exact hlast _ (by omega) (by omega)
    · rw [w64 (z := l + _) (by omega) (by omega)]
      exact hlast _ (by omega) (by omega)
#print axioms con3
#print axioms con4
end Go.Proofs.C1
