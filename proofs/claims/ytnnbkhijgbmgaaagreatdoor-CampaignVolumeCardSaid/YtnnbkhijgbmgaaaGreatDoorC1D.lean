/- Contracts of chapter 1: whether a slab suits, and the lengths of its coil. -/
import Derived.Test.YtnnbkhijgbmgaaaGreatDoorC1C
namespace Go.Proofs.C1
open Go Go.Abs Go.Proofs
set_option maxRecDepth 100000
theorem tmod10 {a : Int} (h : 0 ≤ a) : Int.tmod a 10 = a % 10 := Int.tmod_eq_emod_of_nonneg h
theorem con10 (s : ByteArray) (g t tol w lo hi due : Int) : Con Tryz.prog 10 [dOrder s g t tol w lo hi due] [dI (orderE s g t tol w lo hi due)] := by
  refine con_flat hok mixed Tryz.func10 rfl (by show 0 ≤ 500; omega) rfl (by kernel_rfl) (fun caps => ?_)
  show g10 _ _ s g t tol w lo hi due _
  rw [g10_text]
  have hc := con39 s
  cases hn : nameOk s with
  | false => exact .inr ⟨⟨by rw [hn] at hc; exact hc⟩, by simp only [orderE, hn, cond_false]⟩
  | true =>
    refine .inl ⟨⟨by rw [hn] at hc; exact hc⟩, ?_⟩
    simp only [orderE, hn, cond_true]
    refine bc_dec (fun _ => ?_) (fun _ => by rw [if_neg (by omega)])
    refine bc_dec (fun _ => ?_) (fun _ => by rw [if_neg (by omega)])
    refine bc_dec (fun _ => ?_) (fun _ => by rw [if_neg (by omega)])
    refine bc_dec (fun _ => ?_) (fun _ => by rw [if_neg (by omega)])
    rw [w64 (z := t - 1) (by omega) (by omega)]
    refine bc_dec (fun _ => ?_) (fun _ => by rw [if_neg (by omega)])
    refine bc_dec (fun _ => ?_) (fun _ => by rw [if_neg (by omega)])
    refine bc_dec (fun _ => ?_) (fun _ => by rw [if_neg (by omega)])
    refine bc_dec (fun _ => ?_) (fun _ => by rw [if_neg (by omega)])
    refine bc_dec (fun _ => ?_) (fun _ => by rw [if_neg (by omega)])
    refine bc_dec (fun _ => ?_) (fun _ => by rw [if_neg (by omega)])
    refine bc_dec (fun _ => ?_) (fun _ => by rw [if_neg (by omega)])
    refine bc_dec (fun _ => ?_) (fun _ => by rw [if_neg (by omega)])
    rw [if_pos (by omega), tmod10 (by omega), tmod10 (by omega)]
    refine bc_dec (fun _ => by rw [if_pos (by omega)]) (fun _ => ?_)
    rw [if_neg (by omega)]
    refine bc_bne (fun _ => by rw [if_pos (by omega)]) (fun _ => bc_bne (fun _ => by rw [if_pos (by omega)]) (fun _ => ?_))
    rw [if_neg (by omega)]
    repeat' first
      | refine bc_dec (fun _ => ?_) (fun _ => ?_)
      | (rw [if_pos (by omega)]; done)
      | (rw [if_neg (by omega)]; done)
theorem con37 (s : ByteArray) (g t tol w lo hi due : Int) : Con Tryz.prog 37 [dOrder s g t tol w lo hi due] [dI (orderE s g t tol w lo hi due)] := by
  refine con_flat hok mixed Tryz.func37 rfl (by show 0 ≤ 500; omega) rfl (by kernel_rfl) (fun caps => ?_)
  show g37 _ _ s g t tol w lo hi due _
  rw [g37_text]
  have hc := con52 s
  cases hn : nameOk s with
  | false => exact .inr ⟨⟨by rw [hn] at hc; exact hc⟩, by simp only [orderE, hn, cond_false]⟩
  | true =>
    refine .inl ⟨⟨by rw [hn] at hc; exact hc⟩, ?_⟩
    simp only [orderE, hn, cond_true]
    refine bc_dec (fun _ => by rw [if_neg (by omega)]) (fun _ => ?_)
    refine bc_dec (fun _ => by rw [if_neg (by omega)]) (fun _ => ?_)
    refine bc_dec (fun _ => by rw [if_neg (by omega)]) (fun _ => ?_)
    refine bc_dec (fun _ => by rw [if_neg (by omega)]) (fun _ => ?_)
    rw [w64 (z := t - 1) (by omega) (by omega)]
    refine bc_dec (fun _ => by rw [if_neg (by omega)]) (fun _ => ?_)
    refine bc_dec (fun _ => by rw [if_neg (by omega)]) (fun _ => ?_)
    refine bc_dec (fun _ => by rw [if_neg (by omega)]) (fun _ => ?_)
    refine bc_dec (fun _ => by rw [if_neg (by omega)]) (fun _ => ?_)
    refine bc_dec (fun _ => by rw [if_neg (by omega)]) (fun _ => ?_)
    refine bc_dec (fun _ => by rw [if_neg (by omega)]) (fun _ => ?_)
    refine bc_dec (fun _ => by rw [if_neg (by omega)]) (fun _ => ?_)
    refine bc_dec (fun _ => by rw [if_neg (by omega)]) (fun _ => ?_)
    rw [if_pos (by omega), tmod10 (by omega), tmod10 (by omega)]
    refine bc_dec (fun _ => by rw [if_pos (by omega)]) (fun _ => ?_)
    rw [if_neg (by omega)]
    refine bc_bne (fun _ => by rw [if_pos (by omega)]) (fun _ => bc_bne (fun _ => by rw [if_pos (by omega)]) (fun _ => ?_))
    rw [if_neg (by omega)]
    repeat' first
      | refine bc_dec (fun _ => ?_) (fun _ => ?_)
      | (rw [if_pos (by omega)]; done)
      | (rw [if_neg (by omega)]; done)

/-- What is known of a valid slab, of a valid order. -/
structure SlabOk (g t w l : Int) : Prop where
  g1 : 1 ≤ g
  g2 : g ≤ 99
  t1 : 1 ≤ t
  t2 : t ≤ 300000
  w1 : 500 ≤ w
  w2 : w ≤ 2500
  l1 : 1 ≤ l
  l2 : l ≤ 20000
structure OrderOk (g t tol w : Int) : Prop where
  g1 : 1 ≤ g
  g2 : g ≤ 99
  t1 : 1 ≤ t
  t2 : t ≤ 300000
  o1 : 0 ≤ tol
  o2 : tol ≤ t - 1
  w1 : 500 ≤ w
  w2 : w ≤ 2500
theorem slab_ok {s : ByteArray} {g t w l : Int} (h : slabE s g t w l = 0) : SlabOk g t w l := by
  unfold slabE at h
  cases hn : nameOk s <;> rw [hn] at h <;> simp only [cond_true, cond_false] at h
  · omega
  · split at h
    · rename_i hc; exact ⟨hc.1.1, hc.1.2, hc.2.1.1, hc.2.1.2, hc.2.2.1.1, hc.2.2.1.2, hc.2.2.2.1, hc.2.2.2.2⟩
    · omega
theorem order_ok {s : ByteArray} {g t tol w lo hi due : Int} (h : orderE s g t tol w lo hi due = 0) : OrderOk g t tol w := by
  unfold orderE at h
  cases hn : nameOk s <;> rw [hn] at h <;> simp only [cond_true, cond_false] at h
  · omega
  · split at h
    · rename_i hc; exact ⟨hc.1.1, hc.1.2, hc.2.1.1, hc.2.1.2, hc.2.2.1.1, hc.2.2.1.2, hc.2.2.2.1.1, hc.2.2.2.1.2⟩
    · omega
/-- The errors of both; whether the slab suits. -/
noncomputable def bothE (s : ByteArray) (g t w l : Int) (s' : ByteArray) (g' t' tol w' lo hi due : Int) : Int :=
  if slabE s g t w l ≠ 0 then slabE s g t w l else orderE s' g' t' tol w' lo hi due
def suitB (g w g' w' : Int) : Bool := decide (g = g' ∧ 0 ≤ w - w' ∧ w - w' ≤ 100)
theorem suit_true {g w g' w' : Int} (h : g = g' ∧ 0 ≤ w - w' ∧ w - w' ≤ 100) : suitB g w g' w' = true := by simp only [suitB, h, and_self, decide_true]
theorem suit_false {g w g' w' : Int} (h : ¬ (g = g' ∧ 0 ≤ w - w' ∧ w - w' ≤ 100)) : suitB g w g' w' = false := by simp only [suitB, h, decide_false]

theorem con7 (s : ByteArray) (g t w l : Int) (s' : ByteArray) (g' t' tol w' lo hi due : Int) :
    Con Tryz.prog 7 [dSlab s g t w l, dOrder s' g' t' tol w' lo hi due] [dB (bif bothE s g t w l s' g' t' tol w' lo hi due == 0 then suitB g w g' w' else false), dI (bothE s g t w l s' g' t' tol w' lo hi due)] := by
  refine con_flat hok mixed Tryz.func7 rfl (by show 0 ≤ 500; omega) rfl (by kernel_rfl) (fun caps => ?_)
  show g7 _ _ s g t w l s' g' t' tol w' lo hi due _
  rw [g7_text]
  simp only [true_and, and_true]
  refine ⟨slabE s g t w l, ⟨con36 s g t w l⟩, orderE s' g' t' tol w' lo hi due, ⟨con37 s' g' t' tol w' lo hi due⟩, ?_⟩
  refine bc_bne (fun h1 => ?_) (fun h1 => ?_)
  · have e : bothE s g t w l s' g' t' tol w' lo hi due = slabE s g t w l := by unfold bothE; rw [if_pos h1]
    have e0 : (slabE s g t w l == 0) = false := by simpa using h1
    rw [e, e0]
    exact bc_true (by simpa using h1) rfl
  · have e : bothE s g t w l s' g' t' tol w' lo hi due = orderE s' g' t' tol w' lo hi due := by unfold bothE; rw [if_neg (by simpa using h1)]
    have so := slab_ok h1
    rw [e]
    refine bc_bne (fun h2 => ?_) (fun h2 => ?_)
    · have e0 : (orderE s' g' t' tol w' lo hi due == 0) = false := by simpa using h2
      rw [e0]
      exact bc_true (by simpa using h2) rfl
    · have oo := order_ok h2
      have e0 : (orderE s' g' t' tol w' lo hi due == 0) = true := by simpa using h2
      have := so.w1; have := so.w2; have := oo.w1; have := oo.w2
      rw [e0, h2, w64 (by omega) (by omega)]
      simp only [cond_true]
      refine bc_beq (fun hg => bc_dec (fun _ => ?_) (fun _ => bc_dec (fun _ => ?_) (fun _ => ?_))) (fun hg => ?_)
      · rw [suit_false (by omega)]
      · rw [suit_false (by omega)]
      · rw [suit_true (by omega)]
      · rw [suit_false (by omega)]
theorem con11 {s : ByteArray} {g t w l : Int} {s' : ByteArray} {g' t' tol w' lo hi due : Int} (so : SlabOk g t w l) (oo : OrderOk g' t' tol w') :
    Con Tryz.prog 11 [dSlab s g t w l, dOrder s' g' t' tol w' lo hi due] [dB (suitB g w g' w')] := by
  refine con_flat hok mixed Tryz.func11 rfl (by show 0 ≤ 500; omega) rfl (by kernel_rfl) (fun caps => ?_)
  show g11 _ _ s g t w l s' g' t' tol w' lo hi due _
  rw [g11_text]
  have := so.w1; have := so.w2; have := oo.w1; have := oo.w2
  rw [w64 (by omega) (by omega)]
  refine bc_beq (fun hg => bc_dec (fun _ => bc_dec (fun _ => ?_) (fun _ => ?_)) (fun _ => ?_)) (fun hg => ?_)
  · rw [suit_true (by omega)]
  · rw [suit_false (by omega)]
  · rw [suit_false (by omega)]
  · rw [suit_false (by omega)]

/-- Both ends of the length. -/
def loOf (V a : Int) : Int := V / a
def hiOf (V a : Int) : Int := (V + a - 1) / a
theorem vol_pos {t w l : Int} (t1 : 1 ≤ t) (w1 : 500 ≤ w) (l1 : 1 ≤ l) : 1 ≤ t * w * l := by
  have h1 : 1 * 1 ≤ t * w := Int.mul_le_mul t1 (by omega) (by omega) (by omega)
  have h2 : 1 * 1 ≤ t * w * l := Int.mul_le_mul (by omega) l1 (by omega) (by omega)
  omega
theorem tw_le {t w a : Int} (t1 : 1 ≤ t) (t2 : t ≤ a) (w1 : 500 ≤ w) (w2 : w ≤ 2500) : 500 ≤ t * w ∧ t * w ≤ a * 2500 := by
  have h1 : 1 * 500 ≤ t * w := Int.mul_le_mul t1 w1 (by omega) (by omega)
  have h2 : t * w ≤ a * 2500 := Int.mul_le_mul t2 w2 (by omega) (by omega)
  omega
theorem vol_le {t w l : Int} (so : 1 ≤ t ∧ t ≤ 300000 ∧ 500 ≤ w ∧ w ≤ 2500 ∧ 1 ≤ l ∧ l ≤ 20000) : 0 ≤ t * w ∧ t * w ≤ 750000000 ∧ 1 ≤ t * w * l ∧ t * w * l ≤ 15000000000000 := by
  obtain ⟨h1, h2⟩ := tw_le so.1 so.2.1 so.2.2.1 so.2.2.2.1
  have h3 : t * w * l ≤ 750000000 * 20000 := Int.mul_le_mul (by omega) so.2.2.2.2.2 (by omega) (by omega)
  have := vol_pos so.1 so.2.2.1 so.2.2.2.2.1
  omega
theorem lo_le {V a : Int} (h : 0 ≤ V) (ha : 0 < a) : 0 ≤ loOf V a ∧ loOf V a ≤ V := ⟨Int.ediv_nonneg h (by omega), Int.ediv_le_self _ h⟩
theorem hi_le {V a : Int} (h : 0 ≤ V) (ha : 0 < a) : 0 ≤ hiOf V a ∧ hiOf V a ≤ V + a := ⟨Int.ediv_nonneg (by omega) (by omega), by
  have := Int.ediv_le_self (a := V + a - 1) a (show 0 ≤ V + a - 1 by omega)
  unfold hiOf; omega⟩
/-- The upper end, as a floor of the negative. -/
theorem hi_ceil {V a : Int} (h : 0 ≤ V) (ha : 0 < a) : hiOf V a = if Int.tmod (-V) a < 0 then V / a + 1 else V / a := by
  rw [Int.neg_tmod, Int.tmod_eq_emod_of_nonneg h]
  have h1 := Int.emod_nonneg V (show a ≠ 0 by omega)
  have h2 := Int.emod_lt_of_pos V ha
  have h3 := Int.emod_add_mul_ediv V a
  unfold hiOf
  split
  · rw [show V + a - 1 = (V % a - 1) + (V / a + 1) * a by rw [Int.add_mul, Int.mul_comm (V / a) a]; omega, Int.add_mul_ediv_right _ _ (by omega), Int.ediv_eq_zero_of_lt (by omega) (by omega)]
    omega
  · rw [show V + a - 1 = (a - 1) + (V / a) * a by rw [Int.mul_comm (V / a) a]; omega, Int.add_mul_ediv_right _ _ (by omega), Int.ediv_eq_zero_of_lt (by omega) (by omega)]
    omega
theorem coil_areas {t' tol w' : Int} (t1 : 1 ≤ t') (t2 : t' ≤ 300000) (o1 : 0 ≤ tol) (o2 : tol ≤ t' - 1) (w1 : 500 ≤ w') (w2 : w' ≤ 2500) :
    (500 ≤ (t' + tol) * w' ∧ (t' + tol) * w' ≤ 600000 * 2500) ∧ 500 ≤ (t' - tol) * w' ∧ (t' - tol) * w' ≤ 300000 * 2500 :=
  ⟨tw_le (by omega) (by omega) w1 w2, tw_le (by omega) (by omega) w1 w2⟩

theorem con8 (s : ByteArray) (g t w l : Int) (s' : ByteArray) (g' t' tol w' lo hi due : Int) :
    Con Tryz.prog 8 [dSlab s g t w l, dOrder s' g' t' tol w' lo hi due]
      (bif bothE s g t w l s' g' t' tol w' lo hi due == 0 then (bif suitB g w g' w' then [.agg [dI (loOf (t * w * l) ((t' + tol) * w')), dI (hiOf (t * w * l) ((t' - tol) * w'))], dI 0] else [.agg [dI 0, dI 0], dI 13])
        else [.agg [dI 0, dI 0], dI (bothE s g t w l s' g' t' tol w' lo hi due)]) := by
  refine con_flat hok mixed Tryz.func8 rfl (by show 0 ≤ 500; omega) rfl (by kernel_rfl) (fun caps => ?_)
  show g8 _ _ s g t w l s' g' t' tol w' lo hi due _
  rw [g8_text]
  have h7 := con7 s g t w l s' g' t' tol w' lo hi due
  simp only [true_and, and_true]
  by_cases hb : bothE s g t w l s' g' t' tol w' lo hi due = 0
  · have hb0 : (bothE s g t w l s' g' t' tol w' lo hi due == 0) = true := by simpa using hb
    have hs0 : slabE s g t w l = 0 := by
      unfold bothE at hb; split at hb
      · contradiction
      · rename_i h; simpa using h
    have ho0 : orderE s' g' t' tol w' lo hi due = 0 := by
      unfold bothE at hb; rw [if_neg (by simpa using hs0)] at hb; exact hb
    have so := slab_ok hs0
    have oo := order_ok ho0
    rw [hb0] at h7 ⊢
    rw [hb] at h7
    simp only [cond_true] at h7 ⊢
    cases hsu : suitB g w g' w' with
    | false => exact .inr ⟨0, ⟨by rw [hsu] at h7; exact h7⟩, bc_false (by decide) rfl⟩
    | true =>
      obtain ⟨⟨a1, a2⟩, a3, a4⟩ := coil_areas oo.t1 oo.t2 oo.o1 oo.o2 oo.w1 oo.w2
      obtain ⟨v1, v2, v3, v4⟩ := vol_le ⟨so.t1, so.t2, so.w1, so.w2, so.l1, so.l2⟩
      have := oo.t1; have := oo.t2; have := oo.o1; have := oo.o2
      rw [w64 (z := t' + tol) (by omega) (by omega), w64 (z := t' - tol) (by omega) (by omega), w64 (z := (t' + tol) * w') (by omega) (by omega), w64 (z := (t' - tol) * w') (by omega) (by omega), w64 (z := t * w) (by omega) (by omega), w64 (z := t * w * l) (by omega) (by omega)]
      rw [w64 (z := t * w * l + (t' - tol) * w') (by omega) (by omega), w64 (z := t * w * l + (t' - tol) * w' - 1) (by omega) (by omega)]
      rw [Int.tdiv_eq_ediv_of_nonneg (by omega), Int.tdiv_eq_ediv_of_nonneg (by omega)]
      have l1 := lo_le (V := t * w * l) (a := (t' + tol) * w') (by omega) (by omega)
      have l2 := hi_le (V := t * w * l) (a := (t' - tol) * w') (by omega) (by omega)
      unfold loOf at l1
      unfold hiOf at l2
      rw [w64 (z := t * w * l / _) (by omega) (by omega), w64 (z := (t * w * l + (t' - tol) * w' - 1) / _) (by omega) (by omega)]
      have n1 : ((t' + tol) * w' != 0) = true := by simp only [bne_iff_ne]; omega
      have n2 : ((t' - tol) * w' != 0) = true := by simp only [bne_iff_ne]; omega
      refine .inl ⟨0, ⟨by rw [hsu] at h7; exact h7⟩, bc_false (by decide) (bc_true n1 (bc_true n2 ⟨⟨bc_true n2 trivial, bc_true n1 trivial⟩, rfl⟩))⟩
  · have hb0 : (bothE s g t w l s' g' t' tol w' lo hi due == 0) = false := by simpa using hb
    rw [hb0] at h7 ⊢
    simp only [cond_false] at h7 ⊢
    exact .inr ⟨_, ⟨h7⟩, bc_true (by simpa using hb) rfl⟩
theorem con12 {s : ByteArray} {g t w l : Int} {s' : ByteArray} {g' t' tol w' lo hi due : Int} (so : SlabOk g t w l) (oo : OrderOk g' t' tol w') :
    Con Tryz.prog 12 [dSlab s g t w l, dOrder s' g' t' tol w' lo hi due] [.agg [dI (loOf (t * w * l) ((t' + tol) * w')), dI (hiOf (t * w * l) ((t' - tol) * w'))]] := by
  refine con_flat hok mixed Tryz.func12 rfl (by show 0 ≤ 500; omega) rfl (by kernel_rfl) (fun caps => ?_)
  show g12 _ _ s g t w l s' g' t' tol w' lo hi due _
  rw [g12_text]
  obtain ⟨⟨a1, a2⟩, a3, a4⟩ := coil_areas oo.t1 oo.t2 oo.o1 oo.o2 oo.w1 oo.w2
  obtain ⟨v1, v2, v3, v4⟩ := vol_le ⟨so.t1, so.t2, so.w1, so.w2, so.l1, so.l2⟩
  have := oo.t1; have := oo.t2; have := oo.o1; have := oo.o2
  simp only [true_and, and_true]
  rw [w64 (z := t' + tol) (by omega) (by omega), w64 (z := t' - tol) (by omega) (by omega), w64 (z := (t' + tol) * w') (by omega) (by omega), w64 (z := (t' - tol) * w') (by omega) (by omega), w64 (z := t * w) (by omega) (by omega), w64 (z := t * w * l) (by omega) (by omega), w64 (z := 0 - t * w * l) (by omega) (by omega)]
  have l1 := lo_le (V := t * w * l) (a := (t' + tol) * w') (by omega) (by omega)
  have l2 := hi_le (V := t * w * l) (a := (t' - tol) * w') (by omega) (by omega)
  have l3 := lo_le (V := t * w * l) (a := (t' - tol) * w') (by omega) (by omega)
  have hc := hi_ceil (V := t * w * l) (a := (t' - tol) * w') (by omega) (by omega)
  unfold loOf at l1 l3 ⊢
  rw [show (0 : Int) - t * w * l = -(t * w * l) by omega, Int.neg_tdiv, Int.tdiv_eq_ediv_of_nonneg (a := t * w * l) (by omega), Int.tdiv_eq_ediv_of_nonneg (a := t * w * l) (by omega)]
  rw [w64 (z := t * w * l / ((t' + tol) * w')) (by omega) (by omega), w64 (z := -(t * w * l / ((t' - tol) * w'))) (by omega) (by omega)]
  rw [w64 (z := -(t * w * l / ((t' - tol) * w')) - 1) (by omega) (by omega), w64 (z := 0 - -(t * w * l / ((t' - tol) * w'))) (by omega) (by omega), w64 (z := 0 - (-(t * w * l / ((t' - tol) * w')) - 1)) (by omega) (by omega)]
  have n1 : ((t' + tol) * w' != 0) = true := by simp only [bne_iff_ne]; omega
  have n2 : ((t' - tol) * w' != 0) = true := by simp only [bne_iff_ne]; omega
  have m1 : ¬ Int.tmod (t * w * l) ((t' + tol) * w') < 0 := by
    rw [Int.tmod_eq_emod_of_nonneg (by omega)]
    have := Int.emod_nonneg (t * w * l) (show (t' + tol) * w' ≠ 0 by omega)
    omega
  refine bc_true n1 (bc_true n1 (bc_no m1 (bc_true n2 (bc_true n2 (bc_dec (fun h => ?_) (fun h => ?_))))))
  · rw [if_pos h] at hc
    rw [hc, show (0 : Int) - (-(t * w * l / ((t' - tol) * w')) - 1) = t * w * l / ((t' - tol) * w') + 1 by omega]
  · rw [if_neg h] at hc
    rw [hc, show (0 : Int) - -(t * w * l / ((t' - tol) * w')) = t * w * l / ((t' - tol) * w') by omega]
end Go.Proofs.C1
