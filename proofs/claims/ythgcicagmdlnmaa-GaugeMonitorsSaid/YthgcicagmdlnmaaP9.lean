/- Texts of the proof, put together: GaM, GaT8, GaL3, GaK3, GaU, GaL4, GaK4, GaL5, GaK5. -/
import Derived.Test.YthgcicagmdlnmaaP7
import Derived.Test.YthgcicagmdlnmaaP6
import Derived.Test.YthgcicagmdlnmaaGaA
import Derived.Test.YthgcicagmdlnmaaP5
/- Chapter 5: differences of mass flows, in data. -/
namespace Go.Proofs.G5a
open Go Go.Abs Go.Proofs Go.Proofs.G5
set_option maxRecDepth 100000
def mfV (l m : List Int) (i : Nat) : Int := IntKind.wrap .i64 (IntKind.wrap .i64 (l.getD i 0 * m.getD i 0) - IntKind.wrap .i64 (l.getD 0 0 * m.getD 0 0))
def mfE (l m : List Int) : Int := if l.length = 0 ∨ m.length ≠ l.length then 10 else if l.length > 8 then 8 else if (∀ z ∈ l, (0 : Int) ≤ z ∧ z ≤ 100000) ∧ (∀ z ∈ m, (1 : Int) ≤ z ∧ z ≤ 100000) then 0 else 2
def mfP (l m : List Int) : List Int × Int := if mfE l m ≠ 0 then ([], mfE l m) else ((List.range l.length).map (mfV l m), 0)
theorem mf_len (l m : List Int) (i : Nat) : ((List.range i).map (mfV l m)).length = i := by simp
theorem mf_ne (l m : List Int) (i : Nat) : (List.range (i + 1)).map (mfV l m) ≠ [] := by intro h; have := congrArg List.length h; simp at this
theorem mf_snoc (l m : List Int) (i : Nat) : vi ((List.range i).map (mfV l m)) ++ [vI (mfV l m i)] = vi ((List.range (i + 1)).map (mfV l m)) := by
  rw [vi_snoc, List.range_succ, List.map_append]; rfl
theorem mf_take (l m : List Int) (i : Nat) : List.take (i * 1) (List.drop 0 (vi ((List.range i).map (mfV l m)))) = vi ((List.range i).map (mfV l m)) := by
  rw [List.drop_zero, List.take_of_length_le (by simp)]
theorem vi_at0 (l : List Int) (h : 0 < l.length) : At (vi l) 0 1 [vI (l.getD 0 0)] := by
  rw [getD_at l 0 h]; exact vi_at l 0 h
theorem vi_atD (l : List Int) (i : Nat) (h : i < l.length) : At (vi l) (0 + i * 1) 1 [vI (l.getD i 0)] := by
  rw [getD_at l i h]; exact vi_at l i h
abbrev mfS (l m : List Int) (c1 c2 : Nat) : Nat → Slots × Blocks
  | 0 => (sMF l.length c1 m.length c2 (.slice none 0 0) 0, [Q500 (vi l), Q501 (vi m)])
  | i + 1 => (sMF l.length c1 m.length c2 (.slice (some ⟨1000, 0, none⟩) (i + 1) (i + 1)) ((i + 1 : Nat) : Int), [Q500 (vi l), Q501 (vi m), (1000, .sym (vi ((List.range (i + 1)).map (mfV l m))) true 1)])
theorem conMF (l m : List Int) (hl : l.length ≤ 1000) (hm : m.length ≤ 1000) : C5 7 [.sl l.length 1 (vi l), .sl m.length 1 (vi m)] (rD (mfP l m)) := by
  let inv : Nat × Nat × Nat → Prop := fun y => y.1 ≤ l.length ∧ mfE l m = 0
  let st : Nat × Nat × Nat → Slots × Blocks := fun y => mfS l m y.2.1 y.2.2 y.1
  refine con_of (L := fun _ s b => ∃ x, inv x ∧ st x = (s, b)) hok mixed Try.func7 rfl (by show 2 ≤ 400; omega) rfl (ids := [0]) (by kernel_rfl) rfl (fun caps => ?_) (fun id hid => ?_)
  · show gMF _ _ l.length (caps 500) (vi l) m.length (caps 501) (vi m) _
    rw [gMF_text]
    have c1 := conCS (l.length : Int) [(m.length : Int)] (by simp)
    refine ⟨_, ⟨c1⟩, _, ⟨conCC _ _⟩, l, rfl, rfl, by omega, _, ⟨rfl⟩, m, rfl, rfl, by omega, _, ⟨rfl⟩, _, ⟨conFE [sameE (l.length : Int) [(m.length : Int)], (if (l.length : Int) = 0 then 10 else if (l.length : Int) > 8 then 8 else 0), witE 0 100000 2 (vi l), witE 1 100000 2 (vi m)] (by simp)⟩, ?_⟩
    have he : fst0 [sameE (l.length : Int) [(m.length : Int)], (if (l.length : Int) = 0 then 10 else if (l.length : Int) > 8 then 8 else 0), witE 0 100000 2 (vi l), witE 1 100000 2 (vi m)] = mfE l m := by
      unfold mfE
      rw [witE_cases l, witE_cases m]
      have hs : sameE (l.length : Int) [(m.length : Int)] = if m.length = l.length then 0 else 10 := by
        simp only [sameE]
        by_cases h1 : m.length = l.length
        · rw [if_pos (show (m.length : Int) = l.length by omega), if_pos h1]
        · rw [if_neg (show ¬ (m.length : Int) = l.length by omega), if_neg h1]
      have hc : (if (l.length : Int) = 0 then (10 : Int) else if (l.length : Int) > 8 then 8 else 0) = if l.length = 0 then 10 else if l.length > 8 then 8 else 0 := by
        repeat' split
        all_goals first | rfl | omega
      rw [hs, hc]
      by_cases h1 : m.length = l.length
      · rw [if_pos h1]
        by_cases h2 : l.length = 0
        · rw [if_pos h2, if_pos (show l.length = 0 ∨ m.length ≠ l.length from .inl h2)]; rfl
        · rw [if_neg h2, if_neg (show ¬ (l.length = 0 ∨ m.length ≠ l.length) by omega)]
          by_cases h3 : l.length > 8
          · rw [if_pos h3, if_pos h3]; rfl
          · rw [if_neg h3, if_neg h3]
            by_cases ha : ∀ z ∈ l, (0 : Int) ≤ z ∧ z ≤ 100000
            · by_cases hb : ∀ z ∈ m, (1 : Int) ≤ z ∧ z ≤ 100000
              · rw [if_pos ha, if_pos hb, if_pos (And.intro ha hb)]; rfl
              · have hn : ¬ ((∀ z ∈ l, (0 : Int) ≤ z ∧ z ≤ 100000) ∧ ∀ z ∈ m, (1 : Int) ≤ z ∧ z ≤ 100000) := fun h => hb h.2
                rw [if_pos ha, if_neg hb, if_neg hn]; rfl
            · have hn : ¬ ((∀ z ∈ l, (0 : Int) ≤ z ∧ z ≤ 100000) ∧ ∀ z ∈ m, (1 : Int) ≤ z ∧ z ≤ 100000) := fun h => ha h.1
              rw [if_neg ha, if_neg hn]; rfl
      · rw [if_neg h1, if_pos (show l.length = 0 ∨ m.length ≠ l.length from .inr h1)]; rfl
    rw [he]
    refine bc_bne (fun h => ?_) (fun h => ?_)
    · show _ = _
      rw [mfP, if_pos h]; rfl
    · exact ⟨(0, caps 500, caps 501), ⟨Nat.zero_le _, h⟩, rfl⟩
  · obtain rfl := List.mem_singleton.1 hid
    refine ⟨Nat × Nat × Nat, st, inv, fun y => l.length - y.1, ⟨fun s b h => h, by kernel_rfl, ?_⟩⟩
    rintro ⟨i, c1, c2⟩ ⟨hi, he⟩
    simp only at hi
    have hlm : m.length = l.length ∧ 0 < l.length := by
      unfold mfE at he
      split at he
      · omega
      · rename_i h; omega
    cases i with
    | zero =>
      show rMF0 _ _ l.length c1 (vi l) m.length c2 (vi m) (0 : Int) _ _ _
      rw [rMF0_text]
      have hi0 : At (vi l) (0 + Int.toNat 0 * 1) 1 [vI (l.getD 0 0)] := vi_atD l 0 hlm.2
      have hm0 : At (vi m) (0 + Int.toNat 0 * 1) 1 [vI (m.getD 0 0)] := vi_atD m 0 (by omega)
      simp only [bc_t (show (0 : Int) < (l.length : Int) by omega), bc_t (show (0 : Int) < (m.length : Int) by omega), bc_t (show (0 : Int) ≤ 0 by omega), at1 hi0, at1 hm0, at1 (vi_at0 l hlm.2), at1 (vi_at0 m (by omega)), eq_self, true_and, and_true]
      refine ⟨(1, c1, c2), ⟨by show 1 ≤ l.length; omega, he⟩, by show l.length - 1 < l.length - 0; omega, ?_⟩
      rfl
    | succ i =>
      show rMF _ _ l.length c1 (vi l) m.length c2 (vi m) (i + 1) (vi ((List.range (i + 1)).map (mfV l m))) ((i + 1 : Nat) : Int) _ _ _
      rw [rMF_text]
      refine bc_dec (fun h => ?_) (fun h => ?_)
      · have h1 : i + 1 < l.length := by omega
        have h2 : i + 1 < m.length := by omega
        simp only [bc_t h, bc_t (show ((i + 1 : Nat) : Int) < (m.length : Int) by omega), bc_t (show (0 : Int) ≤ ((i + 1 : Nat) : Int) by omega), bc_t (show (0 : Int) < (l.length : Int) by omega), bc_t (show (0 : Int) < (m.length : Int) by omega), Int.toNat_natCast, at1 (vi_atD l (i + 1) h1), at1 (vi_atD m (i + 1) h2), at1 (vi_at0 l hlm.2), at1 (vi_at0 m (by omega)), bc_t (show i + 1 < i + 1 + 1 by omega), bc_t (show (2 * (i + 1 + 1) + 768) * 8 ≤ 281474976710656 by omega), bc_t (show i + 1 + 1 ≤ 1099511627776 by omega), bc_t (show 0 + (i + 1) * 1 ≤ (vi ((List.range (i + 1)).map (mfV l m))).length by simp), bc_t (show 0 + (i + 1) * 1 = (vi ((List.range (i + 1)).map (mfV l m))).length by simp), mf_take, eq_self, true_and, and_true]
        refine ⟨(i + 2, c1, c2), ⟨by show i + 2 ≤ l.length; omega, he⟩, by show l.length - (i + 2) < l.length - (i + 1); omega, ?_⟩
        rw [w64 (z := ((i + 1 : Nat) : Int) + 1) (by omega) (by omega)]
        have e := mf_snoc l m (i + 1)
        show (_, [Q500 (vi l), Q501 (vi m), (1000, AObj.sym (vi ((List.range (i + 1 + 1)).map (mfV l m))) true 1)]) = _
        rw [← e]; rfl
      · show (if 0 = 0 then _ else _)
        rw [if_pos rfl]
        show nMF _ _ (i + 1) (vi ((List.range (i + 1)).map (mfV l m))) _
        rw [nMF_text]
        simp only [eq_self, true_and]
        refine ⟨by simp, ?_⟩
        have : i + 1 = l.length := by omega
        show _ = _
        rw [mfP, if_neg (by omega)]
        show _ = [dN _, dI 0]
        rw [← this, dN_ne (mf_ne l m i), mf_len]
theorem conTE (a : Int) : C5 31 [dI a] [dI (rngE 1 100000 2 a)] := by
  refine con_flat hok mixed Try.func31 rfl (by show 0 ≤ 400; omega) rfl (by kernel_rfl) (fun caps => ?_)
  show gTE _ _ a _
  rw [gTE_text]
  by_cases h : (1 : Int) ≤ a ∧ a ≤ 100000
  · exact .inl ⟨sayWt h, by show _ = _; rw [rngE, if_pos h]⟩
  · exact .inr ⟨sayWf h, by show _ = _; rw [rngE_no h]⟩
abbrev rgS (l m : List Int) (c1 c2 : Nat) : Nat → Slots × Blocks
  | 0 => (sRG l.length c1 m.length c2 (.slice none 0 0) 0, [Q500 (vi l), Q501 (vi m)])
  | i + 1 => (sRG l.length c1 m.length c2 (.slice (some ⟨1000, 0, none⟩) (i + 1) (i + 1)) ((i + 1 : Nat) : Int), [Q500 (vi l), Q501 (vi m), (1000, .sym (vi ((List.range (i + 1)).map (mfV l m))) true 1)])
theorem conRF (l m : List Int) (hl : l.length ≤ 1000) (_ : m.length ≤ 1000) : C5 9 [.sl l.length 1 (vi l), .sl m.length 1 (vi m)] (rD (mfP l m)) := by
  let inv0 : Nat × Nat × Nat → Prop := fun y => (m.length = l.length ∧ 0 < l.length ∧ l.length ≤ 8) ∧ y.1 ≤ l.length ∧ ∀ j, j < y.1 → ((0 : Int) ≤ l.getD j 0 ∧ l.getD j 0 ≤ 100000) ∧ ((1 : Int) ≤ m.getD j 0 ∧ m.getD j 0 ≤ 100000)
  let st0 : Nat × Nat × Nat → Slots × Blocks := fun y => (sRF l.length y.2.1 m.length y.2.2 y.1, [Q500 (vi l), Q501 (vi m)])
  let inv : Nat × Nat × Nat → Prop := fun y => y.1 ≤ l.length ∧ mfE l m = 0
  let st : Nat × Nat × Nat → Slots × Blocks := fun y => rgS l m y.2.1 y.2.2 y.1
  refine con_of (L := fun id s b => match id with | 0 => ∃ x, inv0 x ∧ st0 x = (s, b) | _ => ∃ x, inv x ∧ st x = (s, b)) hok mixed Try.func9 rfl (by show 2 ≤ 400; omega) rfl (ids := [0, 2]) (by kernel_rfl) rfl (fun caps => ?_) (fun id hid => ?_)
  · show gRF _ _ l.length (caps 500) (vi l) m.length (caps 501) (vi m) _
    rw [gRF_text]
    refine bc_beq (fun h => ?_) (fun h => bc_bne (fun h2 => ?_) (fun h2 => bc_dec (fun h3 => ?_) (fun h3 => ?_)))
    · have : mfE l m = 10 := by rw [mfE, if_pos (.inl (by omega))]
      show _ = _
      rw [mfP, this, if_pos (by decide)]; rfl
    · have : mfE l m = 10 := by rw [mfE, if_pos (.inr (by omega))]
      show _ = _
      rw [mfP, this, if_pos (by decide)]; rfl
    · have : mfE l m = 8 := by rw [mfE, if_neg (by omega), if_pos (by omega)]
      show _ = _
      rw [mfP, this, if_pos (by decide)]; rfl
    · exact ⟨(0, caps 500, caps 501), ⟨⟨by omega, by omega, by omega⟩, Nat.zero_le _, fun j hj => absurd hj (Nat.not_lt_zero j)⟩, rfl⟩
  · have hid' : id = 0 ∨ id = 2 := by simpa using hid
    rcases hid' with rfl | rfl
    · refine ⟨Nat × Nat × Nat, st0, inv0, fun y => l.length - y.1, ⟨fun s b h => h, by kernel_rfl, ?_⟩⟩
      rintro ⟨i, c1, c2⟩ ⟨⟨hlm, h0, h8⟩, hi, hall⟩
      simp only at hi hall
      have h2 : mfE l m = if (∀ z ∈ l, (0 : Int) ≤ z ∧ z ≤ 100000) ∧ (∀ z ∈ m, (1 : Int) ≤ z ∧ z ≤ 100000) then 0 else 2 := by rw [mfE, if_neg (by omega), if_neg (by omega)]
      show rRF _ _ l.length c1 (vi l) m.length c2 (vi m) (i : Int) _ _ _
      rw [rRF_text]
      refine bc_dec (fun h => ?_) (fun h => ?_)
      · have h1 : i < l.length := by omega
        have h1m : i < m.length := by omega
        simp only [bc_t h, bc_t (show (i : Int) < (m.length : Int) by omega), bc_t (show (0 : Int) ≤ (i : Int) by omega), Int.toNat_natCast, at1 (vi_atD l i h1), at1 (vi_atD m i h1m)]
        by_cases hin : (0 : Int) ≤ l.getD i 0 ∧ l.getD i 0 ≤ 100000
        · refine .inl ⟨sayWt hin, _, ⟨conTE _⟩, bc_bne (fun hc => ?_) (fun hc => ?_)⟩
          · have hn : ¬ ((1 : Int) ≤ m.getD i 0 ∧ m.getD i 0 ≤ 100000) := fun hx => hc ((rngE0 (by decide)).2 hx)
            have : mfE l m = 2 := by
              rw [h2, if_neg]
              rintro ⟨_, hb⟩
              exact hn (by rw [getD_at m i h1m]; exact hb _ (List.getElem_mem h1m))
            show _ = _
            rw [rngE_no hn, mfP, this, if_pos (by decide)]; rfl
          · have hx := (rngE0 (by decide)).1 hc
            refine ⟨(i + 1, c1, c2), ⟨⟨hlm, h0, h8⟩, by show i + 1 ≤ l.length; omega, ?_⟩, by show l.length - (i + 1) < l.length - i; omega, ?_⟩
            · intro j hj
              by_cases he : j = i
              · rw [he]; exact ⟨hin, hx⟩
              · exact hall j (by simp only at hj; omega)
            · rw [w64 (by omega) (by omega)]; rfl
        · refine .inr ⟨sayWf hin, ?_⟩
          have : mfE l m = 2 := by
            rw [h2, if_neg]
            rintro ⟨ha, _⟩
            exact hin (by rw [getD_at l i h1]; exact ha _ (List.getElem_mem h1))
          show _ = _
          rw [mfP, this, if_pos (by decide)]; rfl
      · show (if 0 = 0 then _ else _)
        rw [if_pos rfl]
        show nRF _ _ l.length c1 (vi l) m.length c2 (vi m) _
        rw [nRF_text]
        have he : mfE l m = 0 := by
          rw [h2, if_pos]
          constructor
          · intro z hz
            obtain ⟨j, hj, rfl⟩ := List.mem_iff_getElem.1 hz
            have := (hall j (by omega)).1
            rwa [getD_at l j hj] at this
          · intro z hz
            obtain ⟨j, hj, rfl⟩ := List.mem_iff_getElem.1 hz
            have := (hall j (by omega)).2
            rwa [getD_at m j hj] at this
        exact ⟨(0, c1, c2), ⟨Nat.zero_le _, he⟩, rfl⟩
    · refine ⟨Nat × Nat × Nat, st, inv, fun y => l.length - y.1, ⟨fun s b h => h, by kernel_rfl, ?_⟩⟩
      rintro ⟨i, c1, c2⟩ ⟨hi, he⟩
      simp only at hi
      have hlm : m.length = l.length ∧ 0 < l.length := by
        unfold mfE at he
        split at he
        · omega
        · rename_i h; omega
      cases i with
      | zero =>
        show rRG0 _ _ l.length c1 (vi l) m.length c2 (vi m) (0 : Int) _ _ _
        rw [rRG0_text]
        have hi0 : At (vi l) (0 + Int.toNat 0 * 1) 1 [vI (l.getD 0 0)] := vi_atD l 0 hlm.2
        have hm0 : At (vi m) (0 + Int.toNat 0 * 1) 1 [vI (m.getD 0 0)] := vi_atD m 0 (by omega)
        simp only [bc_t (show (0 : Int) < (l.length : Int) by omega), bc_t (show (0 : Int) < (m.length : Int) by omega), bc_t (show (0 : Int) ≤ 0 by omega), at1 hi0, at1 hm0, at1 (vi_at0 l hlm.2), at1 (vi_at0 m (by omega)), eq_self, true_and, and_true]
        refine ⟨(1, c1, c2), ⟨by show 1 ≤ l.length; omega, he⟩, by show l.length - 1 < l.length - 0; omega, ?_⟩
        rfl
      | succ i =>
        show rRG _ _ l.length c1 (vi l) m.length c2 (vi m) (i + 1) (vi ((List.range (i + 1)).map (mfV l m))) ((i + 1 : Nat) : Int) _ _ _
        rw [rRG_text]
        refine bc_dec (fun h => ?_) (fun h => ?_)
        · have h1 : i + 1 < l.length := by omega
          have h2 : i + 1 < m.length := by omega
          simp only [bc_t h, bc_t (show ((i + 1 : Nat) : Int) < (m.length : Int) by omega), bc_t (show (0 : Int) ≤ ((i + 1 : Nat) : Int) by omega), bc_t (show (0 : Int) < (l.length : Int) by omega), bc_t (show (0 : Int) < (m.length : Int) by omega), Int.toNat_natCast, at1 (vi_atD l (i + 1) h1), at1 (vi_atD m (i + 1) h2), at1 (vi_at0 l hlm.2), at1 (vi_at0 m (by omega)), bc_t (show i + 1 < i + 1 + 1 by omega), bc_t (show (2 * (i + 1 + 1) + 768) * 8 ≤ 281474976710656 by omega), bc_t (show i + 1 + 1 ≤ 1099511627776 by omega), bc_t (show 0 + (i + 1) * 1 ≤ (vi ((List.range (i + 1)).map (mfV l m))).length by simp), bc_t (show 0 + (i + 1) * 1 = (vi ((List.range (i + 1)).map (mfV l m))).length by simp), mf_take, eq_self, true_and, and_true]
          refine ⟨(i + 2, c1, c2), ⟨by show i + 2 ≤ l.length; omega, he⟩, by show l.length - (i + 2) < l.length - (i + 1); omega, ?_⟩
          rw [w64 (z := ((i + 1 : Nat) : Int) + 1) (by omega) (by omega)]
          have e := mf_snoc l m (i + 1)
          show (_, [Q500 (vi l), Q501 (vi m), (1000, AObj.sym (vi ((List.range (i + 1 + 1)).map (mfV l m))) true 1)]) = _
          rw [← e]; rfl
        · show (if 2 = 2 then _ else _)
          rw [if_pos rfl]
          show nRG _ _ (i + 1) (vi ((List.range (i + 1)).map (mfV l m))) _
          rw [nRG_text]
          simp only [eq_self, true_and]
          refine ⟨by simp, ?_⟩
          have : i + 1 = l.length := by omega
          show _ = _
          rw [mfP, if_neg (by omega)]
          show _ = [dN _, dI 0]
          rw [← this, dN_ne (mf_ne l m i), mf_len]
end Go.Proofs.G5a

/- What is left to show of each function, written out; the kernel reckons it. -/
namespace Go.Proofs.G5a
open Go Go.Abs Go.Proofs
set_option maxRecDepth 100000
set_option linter.unusedVariables false
def gCI (C : Ct) (L : AtLoop) (n cap : Nat) (l : List Value) (k : List D → Prop) : Prop := wpFn Try.prog (hE C) L 0 8 #[S500 n cap] (heapOf [Q500 l]) (dataK k)
theorem gCI_text (C : Ct) (L : AtLoop) (n : Nat) (cap : Nat) (l : List Go.Value) (k : List D → Prop) : gCI C L n cap l k =
 (bcase (decide (0 + n * 1 ≤ List.length l))
 (bcase (n == 0)
 (((0 = 0) ∧
 (0 = 0)) ∧
 (k [(D.sl 0 1 [])]))
 (bcase (decide (0 < 0 + n))
 (bcase (decide ((2 * (0 + n) + 768) * 8 ≤ 281474976710656))
 (bcase (decide (0 + n ≤ 1099511627776))
 ((((0 + n) = (0 + n)) ∧
 ((List.length (List.take 0 (List.drop 0 []) ++ List.take (n * 1) (List.drop 0 l))) = ((0 + n) * 1))) ∧
 (k [(D.sl (0 + n) 1 ([] ++ (List.take (n * 1) (List.drop 0 l))))]))
 False)
 False)
 False))
 False) := by kernel_rfl
def gCIn (C : Ct) (L : AtLoop) (k : List D → Prop) : Prop := wpFn Try.prog (hE C) L 0 8 #[.slice none 0 0] (heapOf []) (dataK k)
theorem gCIn_text (C : Ct) (L : AtLoop) (k : List D → Prop) : gCIn C L k =
 (((0 = 0) ∧
 (0 = 0)) ∧
 (k [(D.sl 0 1 [])])) := by kernel_rfl
end Go.Proofs.G5a

/- GaugeFlows in data. -/
namespace Go.Proofs.G5a
open Go Go.Abs Go.Proofs Go.Proofs.G5
set_option maxRecDepth 100000
theorem conCI (l : List Int) (hl : l.length ≤ 1000000) : C5 8 [.sl l.length 1 (vi l)] [.sl l.length 1 (vi l)] := by
  refine con_flat hokE mixed Try.func8 rfl (by show 1 ≤ 400; omega) rfl (by kernel_rfl) (fun caps => ?_)
  show gCI _ _ l.length (caps 500) (vi l) _
  rw [gCI_text]
  refine bc_yes (by simp) (bc_beq (fun h0 => ⟨⟨rfl, rfl⟩, ?_⟩) (fun h0 => bc_yes (by omega) (bc_yes (by omega) (bc_yes (by omega) ⟨⟨rfl, by simp⟩, ?_⟩))))
  · obtain rfl : l = [] := List.length_eq_zero_iff.1 h0
    rfl
  · rw [vi_whole, Nat.zero_add, List.nil_append]
theorem conCIn : C5 8 [.nil] [.sl 0 1 []] := by
  refine con_flat hokE mixed Try.func8 rfl (by show 0 ≤ 400; omega) rfl (by kernel_rfl) (fun caps => ?_)
  show gCIn _ _ _
  rw [gCIn_text]
  exact ⟨⟨rfl, rfl⟩, rfl⟩
theorem conRFa (m : List Int) : C5 9 [.nil, .sl m.length 1 (vi m)] [.nil, dI 10] := by
  refine con_of (L := fun _ _ _ => False) hok mixed Try.func9 rfl (by show 1 ≤ 400; omega) rfl (ids := [0, 2]) (by kernel_rfl) rfl (fun caps => ?_) (fun id hid => ?_)
  · show gRFa _ _ m.length (caps 500) (vi m) _
    rw [gRFa_text]
  · have hid' : id = 0 ∨ id = 2 := by simpa using hid
    rcases hid' with rfl | rfl
    all_goals exact ⟨Unit, fun _ => ([], []), fun _ => False, fun _ => 0, ⟨fun s b h => h.elim, by kernel_rfl, fun _ h => h.elim⟩⟩
theorem conRFb (l : List Int) : C5 9 [.sl l.length 1 (vi l), .nil] [.nil, dI 10] := by
  refine con_of (L := fun _ _ _ => False) hok mixed Try.func9 rfl (by show 1 ≤ 400; omega) rfl (ids := [0, 2]) (by kernel_rfl) rfl (fun caps => ?_) (fun id hid => ?_)
  · show gRFb _ _ l.length (caps 500) (vi l) _
    rw [gRFb_text]
    exact bc_beq (fun _ => rfl) (fun h => bc_bne (fun _ => rfl) (fun h2 => absurd h2.symm h))
  · have hid' : id = 0 ∨ id = 2 := by simpa using hid
    rcases hid' with rfl | rfl
    all_goals exact ⟨Unit, fun _ => ([], []), fun _ => False, fun _ => 0, ⟨fun s b h => h.elim, by kernel_rfl, fun _ h => h.elim⟩⟩
theorem conRFc : C5 9 [.nil, .nil] [.nil, dI 10] := by
  refine con_of (L := fun _ _ _ => False) hok mixed Try.func9 rfl (by show 0 ≤ 400; omega) rfl (ids := [0, 2]) (by kernel_rfl) rfl (fun caps => ?_) (fun id hid => ?_)
  · show gRFc _ _ _
    rw [gRFc_text]
  · have hid' : id = 0 ∨ id = 2 := by simpa using hid
    rcases hid' with rfl | rfl
    all_goals exact ⟨Unit, fun _ => ([], []), fun _ => False, fun _ => 0, ⟨fun s b h => h.elim, by kernel_rfl, fun _ h => h.elim⟩⟩
theorem vle (l : List Int) : 0 + l.length * 1 ≤ l.length := by omega
theorem conII (r : List Int) (h : r.length < 1000000000) : C5 10 [.sl r.length 1 (vi r), .sl r.length 1 (vi r)] [.val (.bool true)] := by
  have := conIn r r h
  rwa [decide_eq_true rfl] at this
theorem mf_short {l m : List Int} (hl : l.length ≤ 10) : (mfP l m).1.length ≤ 10 := by
  unfold mfP
  split
  · simp
  · simpa using hl
theorem con3 (l m : List Int) : C5 3 [.sl l.length 1 (vi l), .sl m.length 1 (vi m)] [.val (.bool true)] := by
  refine con_flat hok mixed Try.func3 rfl (by show 2 ≤ 400; omega) rfl (by kernel_rfl) (fun caps => ?_)
  show g3 _ _ l.length (caps 500) (vi l) m.length (caps 501) (vi m) _
  rw [g3_text]
  refine .inl ⟨⟨con6⟩, bc_dec (fun _ => rfl) (fun h1 => bc_dec (fun _ => rfl) (fun h2 => ?_))⟩
  simp only [vi_whole, vi_length, bc_t (vle l), bc_t (vle m)]
  have c7 := conMF l m (by omega) (by omega)
  have c9 := conRF l m (by omega) (by omega)
  have hs := mf_short (l := l) (m := m) (by omega)
  obtain ⟨r, e, hp⟩ : ∃ r e, mfP l m = (r, e) := ⟨_, _, rfl⟩
  rw [hp] at c7 c9 hs
  refine ⟨⟨conCI l (by omega)⟩, ⟨conCI m (by omega)⟩, ?_⟩
  by_cases hr : r = []
  · subst hr
    exact .inl ⟨e, ⟨c7⟩, .inl ⟨e, ⟨c9⟩, bc_beq (fun _ => .inl ⟨⟨conInN⟩, by first | rfl | trivial⟩) (fun h => absurd rfl h)⟩⟩
  · simp only [rD, dN_ne hr] at c7 c9
    refine .inr ⟨r.length, vi r, e, ⟨c7⟩, .inr ⟨r.length, vi r, e, ⟨c9⟩, bc_beq (fun _ => ?_) (fun h => absurd rfl h)⟩⟩
    simp only [vi_whole, vi_length, bc_t (vle r)]
    exact .inl ⟨⟨conII r (by simp only at hs; omega)⟩, by first | rfl | trivial⟩
theorem mfE_a (m : List Int) : mfE [] m = 10 := by unfold mfE; exact if_pos (Or.inl rfl)
theorem mfE_b (l : List Int) : mfE l [] = 10 := by
  unfold mfE
  by_cases h : l.length = 0
  · rw [if_pos (Or.inl h)]
  · rw [if_pos (Or.inr (by simp only [List.length_nil]; omega))]
theorem mf_a (m : List Int) : mfP [] m = ([], 10) := by rw [mfP, mfE_a, if_pos (by decide)]
theorem mf_b (l : List Int) : mfP l [] = ([], 10) := by rw [mfP, mfE_b, if_pos (by decide)]
theorem con3a (m : List Int) : C5 3 [.nil, .sl m.length 1 (vi m)] [.val (.bool true)] := by
  refine con_flat hok mixed Try.func3 rfl (by show 1 ≤ 400; omega) rfl (by kernel_rfl) (fun caps => ?_)
  show g3a _ _ m.length (caps 500) (vi m) _
  rw [g3a_text]
  refine .inl ⟨⟨con6⟩, bc_dec (fun _ => rfl) (fun h2 => ?_)⟩
  simp only [vi_whole, vi_length, bc_t (vle m)]
  have c7 := conMF [] m (by simp) (by omega)
  rw [mf_a] at c7
  exact ⟨⟨conCIn⟩, ⟨conCI m (by omega)⟩, .inl ⟨10, ⟨c7⟩, .inl ⟨10, ⟨conRFa m⟩, bc_beq (fun _ => .inl ⟨⟨conInN⟩, by first | rfl | trivial⟩) (fun h => absurd rfl h)⟩⟩⟩
theorem con3b (l : List Int) : C5 3 [.sl l.length 1 (vi l), .nil] [.val (.bool true)] := by
  refine con_flat hok mixed Try.func3 rfl (by show 1 ≤ 400; omega) rfl (by kernel_rfl) (fun caps => ?_)
  show g3b _ _ l.length (caps 500) (vi l) _
  rw [g3b_text]
  refine .inl ⟨⟨con6⟩, bc_dec (fun _ => rfl) (fun h2 => ?_)⟩
  simp only [vi_whole, vi_length, bc_t (vle l)]
  have c7 := conMF l [] (by omega) (by simp)
  rw [mf_b] at c7
  exact ⟨⟨conCI l (by omega)⟩, ⟨conCIn⟩, .inl ⟨10, ⟨c7⟩, .inl ⟨10, ⟨conRFb l⟩, bc_beq (fun _ => .inl ⟨⟨conInN⟩, by first | rfl | trivial⟩) (fun h => absurd rfl h)⟩⟩⟩
theorem con3c : C5 3 [.nil, .nil] [.val (.bool true)] := by
  refine con_flat hok mixed Try.func3 rfl (by show 0 ≤ 400; omega) rfl (by kernel_rfl) (fun caps => ?_)
  show g3c _ _ _
  rw [g3c_text]
  have c7 := conMF [] [] (by simp) (by simp)
  rw [mf_a] at c7
  exact .inl ⟨⟨con6⟩, ⟨conCIn⟩, ⟨conCIn⟩, .inl ⟨10, ⟨c7⟩, .inl ⟨10, ⟨conRFc⟩, bc_beq (fun _ => .inl ⟨⟨conInN⟩, by first | rfl | trivial⟩) (fun h => absurd rfl h)⟩⟩⟩
end Go.Proofs.G5a

/- GaugeFlows: whatever the input, it returns true, and the input reads as it did. No condition. -/
namespace Go.Proofs.Ythgcicagmdlnmaa.K
open Go Go.Abs Go.RowKit Go.ChangeShapes Go.WideShapes Go.ChangeAt Go.Proofs Go.Flat Go.Proofs.G5a
set_option maxRecDepth 100000
theorem shapes3 : Try.f3.params.toList.mapM (argSh Try.prog) = some [.one 22, .one 22] := by kernel_rfl
theorem leafI : leaves Try.prog 10 3 = some [.int .i64] := by kernel_rfl
theorem all3 (ds : List D) (h : ShDs Try.prog [.one 22, .one 22] ds) : Con Try.prog 3 ds [.val (.bool true)] := by
  cases h with
  | cons h1 t =>
    cases t with
    | cons h2 t =>
      cases t
      rcases leaf_ints Try.underlying22 leafI h1 with rfl | ⟨l, rfl⟩ <;> rcases leaf_ints Try.underlying22 leafI h2 with rfl | ⟨m, rfl⟩
      · exact con3c
      · exact con3a m
      · exact con3b l
      · exact con3 l m
theorem lifted3 (os : Os) (started : os.Started) (H : Type) (enc : TypeId × Value → H) :
    ReturnsInHanded {} Try.checked os 3 .any (Rows.gaugeFlowsSpec.pre6 enc Try.prog Try.f3 Rows.gaugeFlowsRow.domain false) (Rows.gaugeFlowsSpec.post enc Try.prog Try.f3 false true false false) := by
  refine returnsInHanded_of_change (C := Try.checked) own started (by kernel_rfl) Try.func3
    (ChangeSpec.witness6 (enc := enc) (C := Try.checked) false ⟨#[], #[.slice none 0 0, .slice none 0 0], []⟩ 8 (by kernel_rfl) (by kernel_rfl) (by kernel_rfl) (by kernel_rfl)) ?_
  intro W base args ds gs before hval hW _ _
  exact law_shapes (tb := 4) (s := Rows.gaugeFlowsSpec) shapes3 all3 laidP mapsP slicesP (tsP (by kernel_rfl)) rfl Try.underlying4 rfl (fun ds h => by
    match ds, h with
    | [_, _], _ => exact ⟨rfl, rfl, rfl⟩) hval hW
theorem gaugeFlows_holds : Rows.GaugeFlowsSaid :=
  OpenClaim.holds_of_wide 3 Try.f3 rfl rfl rfl rfl rfl rfl rfl ⟨rfl, rfl, rfl, rfl, rfl⟩ rfl rfl rfl rfl rfl (by kernel_rfl) Try.func3 (by kernel_rfl)
    (of_decide_eq_true (by kernel_rfl)) (by unfold Func.isWrapper; first | (rw [if_pos (by decide +kernel)]; kernel_rfl) | (rw [if_neg (by decide +kernel)]; exact ⟨rfl, rfl⟩))
    (fun os started H enc _ => lifted3 os started H enc)
#print axioms gaugeFlows_holds
end Go.Proofs.Ythgcicagmdlnmaa.K

/- Chapter 5: after how many ticks a monitor rests, by the definition. -/
namespace Go.Proofs.G5a
open Go Go.Abs Go.Proofs Go.Proofs.G5
set_option maxRecDepth 100000
theorem ref_a {D : Nat} {f : Int → Int} {x : Int} (h : outs D f [] 0 (List.replicate 501 x) = none) : restRef D f x = (0, 22) := by unfold restRef; rw [h]
theorem ref_b {D : Nat} {f : Int → Int} {x : Int} {r : List Int} (h : outs D f [] 0 (List.replicate 501 x) = some r) (h2 : outs D f [] 0 (List.replicate (501 + D + 1) x) = none) : restRef D f x = (0, 21) := by unfold restRef; rw [h]; simp only; rw [h2]
theorem ref_c {D : Nat} {f : Int → Int} {x : Int} {r m : List Int} (h : outs D f [] 0 (List.replicate 501 x) = some r) (h2 : outs D f [] 0 (List.replicate (501 + D + 1) x) = some m) (h3 : ∀ t, runAt r 500 ≤ t → t < 501 + D + 1 → m.getD t 0 = r.getD (runAt r 500) 0) : restRef D f x = (((runAt r 500 : Nat) : Int), 0) := by unfold restRef; rw [h]; simp only; rw [h2]; simp only; rw [if_pos h3]
theorem ref_d {D : Nat} {f : Int → Int} {x : Int} {r m : List Int} (h : outs D f [] 0 (List.replicate 501 x) = some r) (h2 : outs D f [] 0 (List.replicate (501 + D + 1) x) = some m) {t : Nat} (h3 : runAt r 500 ≤ t) (h4 : t < 501 + D + 1) (h5 : m.getD t 0 ≠ r.getD (runAt r 500) 0) : restRef D f x = (0, 21) := by unfold restRef; rw [h]; simp only; rw [h2]; simp only; rw [if_neg (fun hh => h5 (hh t h3 h4))]
theorem vi_rep (t : Nat) (x : Int) : vi (List.replicate t x) ++ [vI x] = vi (List.replicate (t + 1) x) := by
  rw [vi_snoc, List.replicate_succ']
theorem take_rep (t : Nat) (x : Int) : List.take (t * 1) (List.drop 0 (vi (List.replicate t x))) = vi (List.replicate t x) := by
  rw [List.drop_zero, List.take_of_length_le (by simp)]
abbrev rrS (D nu de ba x : Int) : Nat → Slots × Blocks
  | 0 => (sRR (.slice none 0 0) x 0, [oN D nu de ba])
  | t + 1 => (sRR (.slice (some ⟨1001, 0, none⟩) (t + 1) (t + 1)) x ((t + 1 : Nat) : Int), [oN D nu de ba, (1001, .sym (vi (List.replicate (t + 1) x)) true 1)])
theorem conRR {D nu de ba : Int} (hm : VM D nu de ba) (x : Int) : C5 16 [.agg [dI D, dI nu, dI de, dI ba], dI x] [dI (reP D nu de ba x).1, dI (reP D nu de ba x).2] := by
  have hD := hm.dl
  obtain ⟨n, rfl⟩ : ∃ n : Nat, D = n := ⟨D.toNat, by omega⟩
  by_cases hin : (-10000 : Int) ≤ x ∧ x ≤ 10000
  · have hrs : reP n nu de ba x = restRef n (tk nu de ba) x := by rw [reP, if_neg (by omega), Int.toNat_natCast, rest_eq]
    rw [hrs]
    let O (r : List Int) : Prop := outs n (tk nu de ba) [] 0 (List.replicate 501 x) = some r ∧ r.length = 501 ∧ r ≠ []
    have hO : ∀ r, outs n (tk nu de ba) [] 0 (List.replicate 501 x) = some r → O r := fun r ho => by
      have hl := (outs_bd (by intro z hz; cases hz) ho).2
      simp at hl
      exact ⟨ho, hl, by intro h0; rw [h0] at hl; simp at hl⟩
    let Mo (m : List Int) : Prop := outs n (tk nu de ba) [] 0 (List.replicate (501 + n + 1) x) = some m ∧ m.length = 501 + n + 1
    let inv0 : Nat → Prop := fun t => t ≤ 501
    let st0 : Nat → Slots × Blocks := fun t => rrS n nu de ba x t
    let inv2 : List Int × Nat → Prop := fun y => O y.1 ∧ y.2 ≤ 500 ∧ runAt y.1 500 = runAt y.1 y.2
    let st2 : List Int × Nat → Slots × Blocks := fun y => (sR2 x 501 y.1.length y.2, [oN n nu de ba, B1 (vi (List.replicate 501 x)), B2 (vi y.1)])
    let inv4 : List Int × Nat → Prop := fun y => O y.1 ∧ 501 ≤ y.2 ∧ y.2 ≤ 501 + n + 1
    let st4 : List Int × Nat → Slots × Blocks := fun y => (sR4 x y.2 y.1.length (runAt y.1 500 : Nat) y.2, [oN n nu de ba, B1 (vi (List.replicate y.2 x)), B2 (vi y.1)])
    let inv6 : (List Int × List Int) × Nat → Prop := fun y => O y.1.1 ∧ Mo y.1.2 ∧ runAt y.1.1 500 ≤ y.2 ∧ y.2 ≤ 501 + n + 1 ∧ ∀ t, runAt y.1.1 500 ≤ t → t < y.2 → y.1.2.getD t 0 = y.1.1.getD (runAt y.1.1 500) 0
    let st6 : (List Int × List Int) × Nat → Slots × Blocks := fun y => (sR6 y.1.1.length y.1.2.length (runAt y.1.1 500 : Nat) y.2, bR6 (vi y.1.1) (vi y.1.2))
    refine con_of (L := fun id s b => match id with | 0 => ∃ y, inv0 y ∧ st0 y = (s, b) | 2 => ∃ y, inv2 y ∧ st2 y = (s, b) | 4 => ∃ y, inv4 y ∧ st4 y = (s, b) | _ => ∃ y, inv6 y ∧ st6 y = (s, b)) hok mixed Try.func16 rfl (by show 0 ≤ 400; omega) rfl (ids := [0, 2, 4, 6]) (by kernel_rfl) rfl (fun caps => ?_) (fun id hid => ?_)
    · show gRR _ _ n nu de ba x _
      rw [gRR_text]
      exact .inl ⟨sayWt hin, 0, Nat.zero_le _, rfl⟩
    · have hid' : id = 0 ∨ id = 2 ∨ id = 4 ∨ id = 6 := by simpa using hid
      rcases hid' with rfl | rfl | rfl | rfl
      · refine ⟨Nat, st0, inv0, fun t => 501 - t, ⟨fun s b h => h, by kernel_rfl, ?_⟩⟩
        intro t ht
        have ht' : t ≤ 501 := ht
        cases t with
        | zero =>
          show rRR0 _ _ n nu de ba x (0 : Int) _ _ _
          rw [rRR0_text]
          refine bc_yes (by omega) ?_
          exact ⟨1, by show (1 : Nat) ≤ 501; omega, by omega, rfl⟩
        | succ t =>
          show rRR _ _ n nu de ba x ((t + 1 : Nat) : Int) (t + 1) (t + 1) (vi (List.replicate (t + 1) x)) _ _ _
          rw [rRR_text]
          refine bc_dec (fun h => ?_) (fun h => ?_)
          · simp only [take_rep, vi_rep]
            refine bc_yes (by omega) (bc_yes (by omega) (bc_yes (by omega) (bc_yes (by simp) (bc_yes (by simp) ?_))))
            refine ⟨t + 2, by show t + 2 ≤ 501; omega, by omega, ?_⟩
            rw [w64 (by omega) (by omega)]; rfl
          · obtain rfl : t = 500 := by omega
            show (if 0 = 0 then _ else _)
            rw [if_pos rfl]
            show nRR _ _ n nu de ba x 501 (vi (List.replicate 501 x)) _
            rw [nRR_text]
            simp only [take_rep]
            refine bc_yes (by simp) ?_
            have c := conRO n hm (List.replicate 501 x) (by simp) (fun z hz => by rw [(List.mem_replicate.1 hz).2]; omega)
            rw [List.length_replicate] at c
            cases ho : outs n (tk nu de ba) [] 0 (List.replicate 501 x) with
            | none =>
              rw [ho] at c
              refine .inl (.inr ⟨⟨c⟩, ?_⟩)
              show _ = _
              rw [ref_a ho]
            | some r =>
              rw [ho] at c
              have hOr := hO r ho
              obtain ⟨_, hl, hne⟩ := hOr
              rw [roD, dN_ne hne] at c
              refine .inr ⟨r.length, vi r, .inl ⟨⟨c⟩, (r, 500), ⟨hO r ho, Nat.le_refl _, rfl⟩, ?_⟩⟩
              rw [w64 (by omega) (by omega)]
              have : ((r.length : Int) - 1) = ((500 : Nat) : Int) := by omega
              rw [this]; rfl
      · refine ⟨List Int × Nat, st2, inv2, fun y => y.2, ⟨fun s b h => h, by kernel_rfl, ?_⟩⟩
        rintro ⟨r, i⟩ ⟨hOr, hi, hrun⟩
        obtain ⟨ho, hl, hne⟩ := hOr
        simp only at hi hrun hl ho
        show rR2 _ _ n nu de ba x 501 (vi (List.replicate 501 x)) r.length (vi r) (i : Int) _ _ _
        rw [rR2_text]
        have after : runAt r 500 = i → (if 2 = 2 then wpNext Try.prog (hG C5) (fun id s b => match id with | 0 => ∃ y, inv0 y ∧ st0 y = (s, b) | 2 => ∃ y, inv2 y ∧ st2 y = (s, b) | 4 => ∃ y, inv4 y ∧ st4 y = (s, b) | _ => ∃ y, inv6 y ∧ st6 y = (s, b)) 16 2 .normal (sR2 x 501 r.length i) [oN n nu de ba, B1 (vi (List.replicate 501 x)), B2 (vi r)] (dataK (· = [dI (restRef n (tk nu de ba) x).1, dI (restRef n (tk nu de ba) x).2])) else wpNext Try.prog (hG C5) (fun id s b => match id with | 0 => ∃ y, inv0 y ∧ st0 y = (s, b) | 2 => ∃ y, inv2 y ∧ st2 y = (s, b) | 4 => ∃ y, inv4 y ∧ st4 y = (s, b) | _ => ∃ y, inv6 y ∧ st6 y = (s, b)) 16 2 (.exit 2) (sR2 x 501 r.length i) [oN n nu de ba, B1 (vi (List.replicate 501 x)), B2 (vi r)] (dataK (· = [dI (restRef n (tk nu de ba) x).1, dI (restRef n (tk nu de ba) x).2]))) := by
          intro hri
          rw [if_pos rfl]
          show nR2 _ _ n nu de ba x 501 (vi (List.replicate 501 x)) r.length (vi r) (i : Int) _
          rw [nR2_text]
          refine ⟨(r, 501), ⟨⟨ho, hl, hne⟩, Nat.le_refl _, by show 501 ≤ 501 + n + 1; omega⟩, ?_⟩
          show (sR4 x 501 r.length (runAt r 500 : Nat) (501 : Nat), _) = _
          rw [hri]
          have : ((501 : Nat) : Int) = (r.length : Int) := by omega
          rw [this]; rfl
        refine bc_dec (fun h => ?_) (fun h => ?_)
        · obtain ⟨k, rfl⟩ : ∃ k, i = k + 1 := ⟨i - 1, by omega⟩
          have hk1 : k < r.length := by omega
          have hk2 : k + 1 < r.length := by omega
          have hw : IntKind.wrap .i64 (((k + 1 : Nat) : Int) - 1) = (k : Int) := by rw [w64 (by omega) (by omega)]; omega
          simp only [hw, bc_t h, bc_t (show (0 : Int) ≤ (k : Int) by omega), bc_t (show (k : Int) < (r.length : Int) by omega), bc_t (show (0 : Int) ≤ ((k + 1 : Nat) : Int) by omega), bc_t (show ((k + 1 : Nat) : Int) < (r.length : Int) by omega), Int.toNat_natCast, at1 (vi_at r k hk1), at1 (vi_at r (k + 1) hk2), eq_self, true_and, and_true]
          have hru : runAt r (k + 1) = if r.getD k 0 = r.getD (k + 1) 0 then runAt r k else k + 1 := rfl
          rw [getD_at r k hk1, getD_at r (k + 1) hk2] at hru
          refine bc_beq (fun hc => ?_) (fun hc => ?_)
          · refine ⟨bc_beq (fun _ => trivial) (fun h' => absurd hc h'), ?_⟩
            rw [if_pos hc] at hru
            exact ⟨(r, k), ⟨⟨ho, hl, hne⟩, by show k ≤ 500; omega, by rw [hrun, hru]⟩, by show k < k + 1; omega, rfl⟩
          · refine ⟨bc_beq (fun h' => absurd h' hc) (fun _ => trivial), ?_⟩
            rw [if_neg hc] at hru
            exact after (by rw [hrun, hru])
        · obtain rfl : i = 0 := by omega
          refine ⟨by rw [bc_f h]; trivial, ?_⟩
          exact after (by rw [hrun]; rfl)
      · refine ⟨List Int × Nat, st4, inv4, fun y => 600 - y.2, ⟨fun s b h => h, by kernel_rfl, ?_⟩⟩
        rintro ⟨r, t⟩ ⟨hOr, ht1, ht2⟩
        obtain ⟨ho, hl, hne⟩ := hOr
        simp only at ht1 ht2 hl ho
        show rR4 _ _ n nu de ba x t (vi (List.replicate t x)) r.length (vi r) (runAt r 500 : Nat) (t : Int) _ _ _
        rw [rR4_text, w64 (z := (r.length : Int) + (n : Int)) (by omega) (by omega)]
        refine bc_dec (fun h => ?_) (fun h => ?_)
        · simp only [take_rep, vi_rep]
          refine bc_yes (by omega) (bc_yes (by omega) (bc_yes (by omega) (bc_yes (by simp) (bc_yes (by simp) ?_))))
          refine ⟨(r, t + 1), ⟨⟨ho, hl, hne⟩, by show 501 ≤ t + 1; omega, by show t + 1 ≤ 501 + n + 1; omega⟩, by show 600 - (t + 1) < 600 - t; omega, ?_⟩
          rw [w64 (by omega) (by omega)]; rfl
        · obtain rfl : t = 501 + n + 1 := by omega
          show (if 4 = 4 then _ else _)
          rw [if_pos rfl]
          show nR4 _ _ n nu de ba (501 + n + 1) (vi (List.replicate (501 + n + 1) x)) r.length (vi r) (runAt r 500 : Nat) _
          rw [nR4_text]
          simp only [take_rep]
          refine bc_yes (by simp) ?_
          have c := conRO n hm (List.replicate (501 + n + 1) x) (by simp; omega) (fun z hz => by rw [(List.mem_replicate.1 hz).2]; omega)
          rw [List.length_replicate] at c
          cases ho2 : outs n (tk nu de ba) [] 0 (List.replicate (501 + n + 1) x) with
          | none =>
            rw [ho2] at c
            refine .inl (.inr ⟨⟨c⟩, ?_⟩)
            show _ = _
            rw [ref_b ho ho2]
          | some m =>
            rw [ho2] at c
            have hlm := (outs_bd (by intro z hz; cases hz) ho2).2
            have hlm : m.length = 501 + n + 1 := by simpa using hlm
            have hmn : m ≠ [] := by intro h0; rw [h0] at hlm; simp at hlm
            rw [roD, dN_ne hmn] at c
            have hle := runAt_le r 500
            exact .inr ⟨m.length, vi m, .inl ⟨⟨c⟩, ((r, m), runAt r 500), ⟨⟨ho, hl, hne⟩, ⟨ho2, hlm⟩, Nat.le_refl _, by show runAt r 500 ≤ 501 + n + 1; omega, fun t h1 h2 => absurd (Nat.lt_of_le_of_lt (show runAt r 500 ≤ t from h1) (show t < runAt r 500 from h2)) (Nat.lt_irrefl _)⟩, rfl⟩⟩
      · refine ⟨(List Int × List Int) × Nat, st6, inv6, fun y => 600 - y.2, ⟨fun s b h => h, by kernel_rfl, ?_⟩⟩
        rintro ⟨⟨r, m⟩, t⟩ ⟨hOr, hMm, ht1, ht2, hall⟩
        obtain ⟨ho, hl, hne⟩ := hOr
        obtain ⟨ho2, hlm⟩ := hMm
        simp only at ht1 ht2 hl ho ho2 hlm hall
        show rR6 _ _ r.length (vi r) m.length (vi m) (runAt r 500 : Nat) (t : Int) _ _ _
        rw [rR6_text]
        have hle := runAt_le r 500
        refine bc_dec (fun h => ?_) (fun h => ?_)
        · have hk1 : t < m.length := by omega
          have hk2 : runAt r 500 < r.length := by omega
          simp only [bc_t h, bc_t (show (0 : Int) ≤ (t : Int) by omega), bc_t (show (0 : Int) ≤ (runAt r 500 : Int) by omega), bc_t (show (runAt r 500 : Int) < (r.length : Int) by omega), Int.toNat_natCast, at1 (vi_at m t hk1), at1 (vi_at r (runAt r 500) hk2), eq_self, true_and, and_true]
          refine bc_bne (fun hc => ?_) (fun hc => ?_)
          · refine ⟨by rw [bc_n hc]; trivial, ?_⟩
            show _ = _
            rw [ref_d ho ho2 ht1 (by omega) (by rw [getD_at m t hk1, getD_at r _ hk2]; exact hc)]
          · refine ⟨bc_bne (fun h' => absurd hc h') (fun _ => trivial), ((r, m), t + 1), ⟨⟨ho, hl, hne⟩, ⟨ho2, hlm⟩, by show runAt r 500 ≤ t + 1; omega, by show t + 1 ≤ 501 + n + 1; omega, ?_⟩, by show 600 - (t + 1) < 600 - t; omega, ?_⟩
            · intro s h1 h2
              by_cases hs : s = t
              · rw [hs, getD_at m t hk1, getD_at r _ hk2]; exact hc
              · exact hall s h1 (by simp only at h2; omega)
            · rw [w64 (by omega) (by omega)]; rfl
        · show (if 6 = 6 then _ else _)
          rw [if_pos rfl]
          show nR6 _ _ (runAt r 500 : Nat) _
          rw [nR6_text]
          show _ = _
          rw [ref_c ho ho2 (fun s h1 h2 => hall s h1 (by omega))]
  · have hrs : reP n nu de ba x = (0, 2) := by rw [reP, if_pos hin]
    rw [hrs]
    let X0 : Unit → Slots × Blocks := fun _ => ([], [])
    refine con_of (L := fun _ _ _ => False) hok mixed Try.func16 rfl (by show 0 ≤ 400; omega) rfl (ids := [0, 2, 4, 6]) (by kernel_rfl) rfl (fun caps => ?_) (fun id hid => ?_)
    · show gRR _ _ n nu de ba x _
      rw [gRR_text]
      exact .inr ⟨sayWf hin, rfl⟩
    · have hid' : id = 0 ∨ id = 2 ∨ id = 4 ∨ id = 6 := by simpa using hid
      rcases hid' with rfl | rfl | rfl | rfl
      all_goals exact ⟨Unit, X0, fun _ => False, fun _ => 0, ⟨fun s b h => h.elim, by kernel_rfl, fun _ h => h.elim⟩⟩
end Go.Proofs.G5a

/- GaugeMonitors in data. -/
namespace Go.Proofs.G5a
open Go Go.Abs Go.Proofs Go.Proofs.G5
set_option maxRecDepth 100000
theorem moP_err {D nu de ba : Int} {l : List Int} (h : mE D nu de ba ≠ 0) : moP D nu de ba l = ([], mE D nu de ba) := by unfold moP; exact if_pos h
theorem moP_ok {D nu de ba : Int} {l : List Int} (h : mE D nu de ba = 0) : moP D nu de ba l = rmP D nu de ba l := by unfold moP; exact if_neg (fun h' => h' h)
theorem raP_err {D nu de ba x : Int} (h : mE D nu de ba ≠ 0) : raP D nu de ba x = (0, mE D nu de ba) := by unfold raP; exact if_pos h
theorem raP_ok {D nu de ba x : Int} (h : mE D nu de ba = 0) : raP D nu de ba x = reP D nu de ba x := by unfold raP; exact if_neg (fun h' => h' h)
theorem rm_len (D nu de ba : Int) (l : List Int) : (rmP D nu de ba l).1.length ≤ l.length := by
  unfold rmP
  split
  · simp
  · split
    · simp
    · cases ho : outs D.toNat (tk nu de ba) [] 0 l with
      | none => simp [oR]
      | some r =>
        have := (outs_bd (by intro z hz; cases hz) ho).2
        simp [oR]; simpa using Nat.le_of_eq this
theorem con4 (D nu de ba : Int) (l : List Int) (x : Int) : C5 4 [.agg [dI D, dI nu, dI de, dI ba], .sl l.length 1 (vi l), dI x] [.val (.bool true)] := by
  refine con_flat hok mixed Try.func4 rfl (by show 1 ≤ 400; omega) rfl (by kernel_rfl) (fun caps => ?_)
  show g4 _ _ D nu de ba l.length (caps 500) (vi l) x _
  rw [g4_text]
  have c11 := conMo D nu de ba l
  have c12 := conRA D nu de ba x
  simp only [vi_whole, vi_length, bc_t (vle l), eq_self, true_and, and_true]
  refine .inl ⟨⟨con6⟩, bc_dec (fun h60 => bc_dec (fun _ => trivial) (fun h500 => bc_dec (fun _ => trivial) (fun h502 => ?_))) (fun h60 => bc_dec (fun _ => trivial) (fun h502 => ?_))⟩
  all_goals
    refine ⟨⟨conCI l (by omega)⟩, ?_⟩
    by_cases hm : mE D nu de ba = 0
    · have vm := mE_ok.1 hm
      have c15 := conRM vm l (by omega)
      have c16 := conRR vm x
      rw [moP_ok hm] at c11
      rw [raP_ok hm] at c12
      obtain ⟨r, e, hp⟩ : ∃ r e, rmP D nu de ba l = (r, e) := ⟨_, _, rfl⟩
      rw [hp] at c11 c15
      by_cases hr : r = []
      · subst hr
        refine .inl ⟨e, ⟨c11⟩, _, _, ⟨c12⟩, _, ⟨conME D nu de ba⟩, _, ⟨conCM D nu de ba⟩, bc_bne (fun h => absurd rfl h) (fun _ => bc_bne (fun h => absurd hm h) (fun _ => ?_))⟩
        exact .inl ⟨e, ⟨c15⟩, _, _, ⟨c16⟩, bc_beq (fun _ => .inl ⟨⟨conInN⟩, bc_beq (fun _ => bc_beq (fun _ => trivial) (fun h => absurd rfl h)) (fun h => absurd rfl h)⟩) (fun h => absurd rfl h)⟩
      · have hlr : r.length < 1000000000 := by
          have h5 : (rmP D nu de ba l).1.length ≤ l.length := rm_len D nu de ba l
          rw [hp] at h5
          simp only at h5
          omega
        simp only [rD, dN_ne hr] at c11 c15
        refine .inr ⟨r.length, vi r, e, ⟨c11⟩, _, _, ⟨c12⟩, _, ⟨conME D nu de ba⟩, _, ⟨conCM D nu de ba⟩, bc_bne (fun h => absurd rfl h) (fun _ => bc_bne (fun h => absurd hm h) (fun _ => ?_))⟩
        refine .inr ⟨r.length, vi r, e, ⟨c15⟩, _, _, ⟨c16⟩, bc_beq (fun _ => ?_) (fun h => absurd rfl h)⟩
        simp only [vi_whole, vi_length, bc_t (vle r)]
        exact .inl ⟨⟨conII r hlr⟩, bc_beq (fun _ => bc_beq (fun _ => trivial) (fun h => absurd rfl h)) (fun h => absurd rfl h)⟩
    · rw [moP_err hm] at c11
      rw [raP_err hm] at c12
      exact .inl ⟨_, ⟨c11⟩, _, _, ⟨c12⟩, _, ⟨conME D nu de ba⟩, _, ⟨conCM D nu de ba⟩, bc_bne (fun h => absurd rfl h) (fun _ => bc_bne (fun _ => bc_beq (fun _ => bc_beq (fun _ => bc_beq (fun _ => trivial) (fun h => absurd rfl h)) (fun h => absurd rfl h)) (fun h => absurd rfl h)) (fun h => absurd h hm))⟩
theorem con4n (D nu de ba x : Int) : C5 4 [.agg [dI D, dI nu, dI de, dI ba], .nil, dI x] [.val (.bool true)] := by
  refine con_flat hok mixed Try.func4 rfl (by show 0 ≤ 400; omega) rfl (by kernel_rfl) (fun caps => ?_)
  show g4n _ _ D nu de ba x _
  rw [g4n_text]
  have c11 := conMo D nu de ba []
  have c12 := conRA D nu de ba x
  simp only [eq_self, true_and, and_true]
  refine .inl ⟨⟨con6⟩, ⟨conCIn⟩, ?_⟩
  by_cases hm : mE D nu de ba = 0
  · have vm := mE_ok.1 hm
    have c16 := conRR vm x
    have c15 := conRMn (D := D) (nu := nu) (de := de) (ba := ba)
    rw [moP_ok hm] at c11
    rw [raP_ok hm] at c12
    obtain ⟨r, e, hp⟩ : ∃ r e, rmP D nu de ba [] = (r, e) := ⟨_, _, rfl⟩
    have h5 : (rmP D nu de ba []).1.length ≤ 0 := rm_len D nu de ba []
    rw [hp] at c11 c15 h5
    obtain rfl : r = [] := List.length_eq_zero_iff.1 (by simp only at h5; omega)
    refine .inl ⟨e, ⟨c11⟩, _, _, ⟨c12⟩, _, ⟨conME D nu de ba⟩, _, ⟨conCM D nu de ba⟩, bc_bne (fun h => absurd rfl h) (fun _ => bc_bne (fun h => absurd hm h) (fun _ => ?_))⟩
    exact .inl ⟨e, ⟨c15⟩, _, _, ⟨c16⟩, bc_beq (fun _ => .inl ⟨⟨conInN⟩, bc_beq (fun _ => bc_beq (fun _ => trivial) (fun h => absurd rfl h)) (fun h => absurd rfl h)⟩) (fun h => absurd rfl h)⟩
  · rw [moP_err hm] at c11
    rw [raP_err hm] at c12
    exact .inl ⟨_, ⟨c11⟩, _, _, ⟨c12⟩, _, ⟨conME D nu de ba⟩, _, ⟨conCM D nu de ba⟩, bc_bne (fun h => absurd rfl h) (fun _ => bc_bne (fun _ => bc_beq (fun _ => bc_beq (fun _ => bc_beq (fun _ => trivial) (fun h => absurd rfl h)) (fun h => absurd rfl h)) (fun h => absurd rfl h)) (fun h => absurd h hm))⟩
end Go.Proofs.G5a

/- GaugeMonitors: whatever the input, it returns true, and the input reads as it did. No condition. -/
namespace Go.Proofs.Ythgcicagmdlnmaa.K
open Go Go.Abs Go.RowKit Go.ChangeShapes Go.WideShapes Go.ChangeAt Go.Proofs Go.Flat Go.Proofs.G5a
set_option maxRecDepth 100000
theorem leafI4 : leaves Try.prog 10 3 = some [.int .i64] := by kernel_rfl
theorem shapes4 : Try.f4.params.toList.mapM (argSh Try.prog) = some [.agg [3, 3, 3, 3], .one 22, .one 3] := by kernel_rfl
theorem leafs4 {ds : List D} (h : LeafsD Try.prog [3, 3, 3, 3] ds) : ∃ a b c d : Int, ds = [dI a, dI b, dI c, dI d] := by
  cases h with | cons h1 t => cases t with | cons h2 t => cases t with | cons h3 t => cases t with | cons h4 t =>
  cases t
  obtain ⟨a, rfl, _⟩ := leaf_int Try.underlying3 h1
  obtain ⟨b, rfl, _⟩ := leaf_int Try.underlying3 h2
  obtain ⟨c, rfl, _⟩ := leaf_int Try.underlying3 h3
  obtain ⟨d, rfl, _⟩ := leaf_int Try.underlying3 h4
  exact ⟨a, b, c, d, rfl⟩
theorem all4 (ds : List D) (h : ShDs Try.prog [.agg [3, 3, 3, 3], .one 22, .one 3] ds) : Con Try.prog 4 ds [.val (.bool true)] := by
  cases h with | cons h1 t => cases t with | cons h2 t => cases t with | cons h3 t =>
  cases t
  obtain ⟨ds1, rfl, h1⟩ := h1
  obtain ⟨a, b, c, d, rfl⟩ := leafs4 h1
  obtain ⟨x, rfl, _⟩ := leaf_int Try.underlying3 h3
  rcases leaf_ints Try.underlying22 leafI4 h2 with rfl | ⟨l, rfl⟩
  · exact con4n a b c d x
  · exact con4 a b c d l x
theorem lifted4 (os : Os) (started : os.Started) (H : Type) (enc : TypeId × Value → H) :
    ReturnsInHanded {} Try.checked os 4 .any (Rows.gaugeMonitorsSpec.pre6 enc Try.prog Try.f4 Rows.gaugeMonitorsRow.domain false) (Rows.gaugeMonitorsSpec.post enc Try.prog Try.f4 false true false false) := by
  refine returnsInHanded_of_change (C := Try.checked) own started (by kernel_rfl) Try.func4
    (ChangeSpec.witness6 (enc := enc) (C := Try.checked) false ⟨#[], #[.agg #[.int .i64 0, .int .i64 0, .int .i64 0, .int .i64 0], .slice none 0 0, .int .i64 0], []⟩ 8 (by kernel_rfl) (by kernel_rfl) (by kernel_rfl) (by kernel_rfl)) ?_
  intro W base args ds gs before hval hW _ _
  exact law_shapes (tb := 4) (s := Rows.gaugeMonitorsSpec) shapes4 all4 laidP mapsP slicesP (tsP (by kernel_rfl)) rfl Try.underlying4 rfl (fun ds h => by
    match ds, h with
    | [_, _, _], _ => exact ⟨rfl, rfl, rfl⟩) hval hW
theorem gaugeMonitors_holds : Rows.GaugeMonitorsSaid :=
  OpenClaim.holds_of_wide 4 Try.f4 rfl rfl rfl rfl rfl rfl rfl ⟨rfl, rfl, rfl, rfl, rfl⟩ rfl rfl rfl rfl rfl (by kernel_rfl) Try.func4 (by kernel_rfl)
    (of_decide_eq_true (by kernel_rfl)) (by unfold Func.isWrapper; first | (rw [if_pos (by decide +kernel)]; kernel_rfl) | (rw [if_neg (by decide +kernel)]; exact ⟨rfl, rfl⟩))
    (fun os started H enc _ => lifted4 os started H enc)
#print axioms gaugeMonitors_holds
end Go.Proofs.Ythgcicagmdlnmaa.K

/- GaugeBands in data. -/
namespace Go.Proofs.G5a
open Go Go.Abs Go.Proofs Go.Proofs.G5
set_option maxRecDepth 100000
theorem bc_ef {a b : Int} {x y : Prop} (h : a ≠ b) : bcase (a == b) x y = y := by rw [show (a == b) = false by simpa using h]; rfl
theorem bc_et {a : Int} {x y : Prop} : bcase (a == a) x y = x := by rw [show (a == a) = true by simp]; rfl
theorem bc_nf {a : Int} {x y : Prop} : bcase (a != a) x y = y := by rw [show (a != a) = false by simp]; rfl
theorem bc_e1 {a b : Int} {x y : Prop} (h : a = b) : bcase (a == b) x y = x := by rw [show (a == b) = true by simpa using h]; rfl
theorem bc_n0 {a b : Int} {x y : Prop} (h : a = b) : bcase (a != b) x y = y := by rw [show (a != b) = false by simpa using h]; rfl
/-- it does not rest, or is not asked -/
theorem con5a {D nu de ba x : Int} (hcase : ¬ (VM D nu de ba ∧ D ≤ 4 ∧ ((-10000 : Int) ≤ x ∧ x ≤ 10000) ∧ (restV D.toNat (tk nu de ba) x).2 = 0)) : C5 5 [.agg [dI D, dI nu, dI de, dI ba], dI x] [.val (.bool true)] := by
  refine con_of (L := fun _ _ _ => False) hok mixed Try.func5 rfl (by show 0 ≤ 400; omega) rfl (ids := [0, 2]) (by kernel_rfl) rfl (fun caps => ?_) (fun id hid => ?_)
  · show g5 _ _ D nu de ba x _
    rw [g5_text]
    simp only [eq_self, and_true]
    refine .inl ⟨⟨con6⟩, _, ⟨conME D nu de ba⟩, bc_bne (fun _ => trivial) (fun h0 => bc_dec (fun _ => trivial) (fun h4 => ?_))⟩
    have vm := mE_ok.1 h0
    by_cases hin : (-10000 : Int) ≤ x ∧ x ≤ 10000
    · have c12 := conRA D nu de ba x
      have e : reP D nu de ba x = restV D.toNat (tk nu de ba) x := by rw [reP, if_neg (fun h => h hin)]
      rw [raP_ok h0, e] at c12
      have hne : (restV D.toNat (tk nu de ba) x).2 ≠ 0 := fun h => hcase ⟨vm, by omega, hin, h⟩
      obtain ⟨h12, hz, hnu⟩ := rest_err hin hne
      refine .inl ⟨sayWt hin, _, _, ⟨c12⟩, ?_⟩
      rw [hz]
      rcases h12 with h | h
      · rw [h]
        simp only [bc_n (show (21 : Int) ≠ 0 by omega), bc_et, bc_n hnu]
      · rw [h]
        simp only [bc_n (show (22 : Int) ≠ 0 by omega), bc_ef (show (22 : Int) ≠ 21 by omega), bc_et, bc_n hnu]
    · exact .inr (sayWf hin)
  · have hid' : id = 0 ∨ id = 2 := by simpa using hid
    rcases hid' with rfl | rfl
    all_goals exact ⟨Unit, fun _ => ([], []), fun _ => False, fun _ => 0, ⟨fun s b h => h.elim, by kernel_rfl, fun _ h => h.elim⟩⟩
abbrev bnS (D nu de ba x n c : Int) : Nat → Slots × Blocks
  | 0 => (sB0 x n c (.slice none 0 0) 0, [oN D nu de ba])
  | t + 1 => (sB0 x n c (.slice (some ⟨1001, 0, none⟩) (t + 1) (t + 1)) ((t + 1 : Nat) : Int), [oN D nu de ba, (1001, .sym (vi (List.replicate (t + 1) x)) true 1)])
/-- it rests -/
theorem con5b {n0 : Nat} {nu de ba x : Int} (vm : VM n0 nu de ba) (hd : (n0 : Int) ≤ 4) (hin : (-10000 : Int) ≤ x ∧ x ≤ 10000) (hr : (restV n0 (tk nu de ba) x).2 = 0) : C5 5 [.agg [dI n0, dI nu, dI de, dI ba], dI x] [.val (.bool true)] := by
  have h0 : mE n0 nu de ba = 0 := mE_ok.2 vm
  obtain ⟨t0, ht0, hv1, hall, hsame, hfirst, hf0⟩ := rest_ok hr
  have c12 := conRA n0 nu de ba x
  have e : reP n0 nu de ba x = restV n0 (tk nu de ba) x := by rw [reP, if_neg (fun h => h hin), Int.toNat_natCast]
  rw [raP_ok h0, e, hv1, hr] at c12
  let cnt : Nat := if t0 + 20 < 500 then t0 + 20 else 500
  have hcnt : cnt ≤ 500 ∧ 0 < cnt ∧ (cnt = t0 + 20 ∨ cnt = 500) := by
    show (if t0 + 20 < 500 then t0 + 20 else 500) ≤ 500 ∧ 0 < (if t0 + 20 < 500 then t0 + 20 else 500) ∧ ((if t0 + 20 < 500 then t0 + 20 else 500) = t0 + 20 ∨ (if t0 + 20 < 500 then t0 + 20 else 500) = 500)
    split <;> omega
  have ecnt : (if IntKind.wrap .i64 ((t0 : Int) + 20) < 500 then IntKind.wrap .i64 ((t0 : Int) + 20) else 500) = (cnt : Int) := by
    rw [w64 (by omega) (by omega)]
    show _ = (((if t0 + 20 < 500 then t0 + 20 else 500 : Nat)) : Int)
    split <;> split <;> omega
  clear_value cnt
  let YY : Nat → Int := Y n0 (tk nu de ba) x
  have hYd : YY = Y n0 (tk nu de ba) x := rfl
  have hout : outs n0 (tk nu de ba) [] 0 (List.replicate cnt x) = some ((List.range cnt).map YY) := by
    rw [outs_rep, if_pos (fun i hi => hall i (by omega))]
  have hmo : moP n0 nu de ba (List.replicate cnt x) = ((List.range cnt).map YY, 0) := by
    rw [moP_ok h0, rmP, if_neg (by simp; omega), if_neg, Int.toNat_natCast, hout]; rfl
    intro h
    refine h ?_
    rw [witE_cases, if_pos]
    intro z hz
    rw [(List.mem_replicate.1 hz).2]; exact hin
  have c11 := conMo n0 nu de ba (List.replicate cnt x)
  have hlen : ((List.range cnt).map YY).length = cnt := by simp
  have hne : (List.range cnt).map YY ≠ [] := by intro h; rw [h] at hlen; simp at hlen; omega
  rw [hmo] at c11
  simp only [rD, dN_ne hne, hlen, List.length_replicate] at c11
  have atY : ∀ i, i < cnt → At (vi ((List.range cnt).map YY)) (0 + i * 1) 1 [vI (YY i)] := fun i hi => by
    have := vi_at ((List.range cnt).map YY) i (by rw [hlen]; exact hi)
    simpa using this
  have hsm : ∀ t, t0 ≤ t → YY t = YY t0 := hsame
  have hfr : 0 < t0 → YY (t0 - 1) ≠ YY t0 := hfirst
  have hz0 : nu = 0 → ∀ t, YY t = x := fun h t => by
    subst h
    exact Y_zero (fun y => tk_zero de ba y) t
  have hband : szI (YY t0) ≤ ba ∨ nu * szI (YY t0) < de := tk_none vm.nu.1 (by have := vm.de; omega) hf0
  have hok0 : -100000 ≤ YY t0 ∧ YY t0 ≤ 100000 := hall t0 ht0
  clear_value YY
  let inv : Nat → Prop := fun t => t ≤ cnt
  let st0 : Nat → Slots × Blocks := fun t => bnS n0 nu de ba x t0 cnt t
  let st2 : Nat → Slots × Blocks := fun t => (sB2 x t0 cnt cnt t, [oN n0 nu de ba, (1001, .sym (vi ((List.range cnt).map YY)) true 1)])
  refine con_of (L := fun id s b => match id with | 0 => ∃ t, inv t ∧ st0 t = (s, b) | _ => ∃ t, inv t ∧ st2 t = (s, b)) hok mixed Try.func5 rfl (by show 0 ≤ 400; omega) rfl (ids := [0, 2]) (by kernel_rfl) rfl (fun caps => ?_) (fun id hid => ?_)
  · show g5 _ _ n0 nu de ba x _
    rw [g5_text]
    simp only [eq_self, and_true]
    refine .inl ⟨⟨con6⟩, _, ⟨conME n0 nu de ba⟩, bc_bne (fun h => absurd h0 h) (fun _ => bc_dec (fun h => absurd h (by omega)) (fun _ => .inl ⟨sayWt hin, _, _, ⟨c12⟩, ?_⟩))⟩
    rw [bc_nf]
    refine .inl ⟨sayWt (by omega), 0, Nat.zero_le _, ?_⟩
    rw [ecnt]; rfl
  · have hid' : id = 0 ∨ id = 2 := by simpa using hid
    rcases hid' with rfl | rfl
    · refine ⟨Nat, st0, inv, fun t => cnt - t, ⟨fun s b h => h, by kernel_rfl, ?_⟩⟩
      intro t ht
      have ht : t ≤ cnt := ht
      cases t with
      | zero =>
        show rB0 _ _ n0 nu de ba x t0 cnt 0 _ _ _
        rw [rB0_text]
        refine bc_yes (by omega) ?_
        exact ⟨1, by show 1 ≤ cnt; omega, by show cnt - 1 < cnt - 0; omega, rfl⟩
      | succ t =>
        show rB1 _ _ n0 nu de ba x t0 cnt ((t + 1 : Nat) : Int) (t + 1) (vi (List.replicate (t + 1) x)) _ _ _
        rw [rB1_text]
        refine bc_dec (fun h => ?_) (fun h => ?_)
        · simp only [take_rep, vi_rep]
          refine bc_yes (by omega) (bc_yes (by omega) (bc_yes (by omega) (bc_yes (by simp) (bc_yes (by simp) ?_))))
          refine ⟨t + 2, by show t + 2 ≤ cnt; omega, by show cnt - (t + 2) < cnt - (t + 1); omega, ?_⟩
          rw [w64 (by omega) (by omega)]; rfl
        · obtain rfl : cnt = t + 1 := by omega
          show (if 0 = 0 then _ else _)
          rw [if_pos rfl]
          show nB0 _ _ n0 nu de ba x t0 ((t + 1 : Nat) : Int) (t + 1) (vi (List.replicate (t + 1) x)) _
          rw [nB0_text]
          have hl : (List.replicate (t + 1) x).length = t + 1 := List.length_replicate ..
          have hci := conCI (List.replicate (t + 1) x) (by rw [hl]; omega)
          rw [hl] at hci
          simp only [take_rep, vi_length, hl, bc_t (show 0 + (t + 1) * 1 ≤ t + 1 by omega), eq_self, true_and, and_true]
          refine ⟨⟨hci⟩, .inr ⟨t + 1, _, 0, ⟨c11⟩, ?_⟩⟩
          rw [bc_nf, bc_nf]
          exact ⟨0, Nat.zero_le _, rfl⟩
    · refine ⟨Nat, st2, inv, fun t => cnt - t, ⟨fun s b h => h, by kernel_rfl, ?_⟩⟩
      intro t ht
      have ht : t ≤ cnt := ht
      show rB2 _ _ n0 nu de ba x t0 cnt cnt (vi ((List.range cnt).map YY)) (t : Int) _ _ _
      rw [rB2_text]
      refine bc_dec (fun h => ?_) (fun h => ?_)
      · have h1 : t < cnt := by omega
        have go : (∃ x, inv x ∧ _ < _ ∧ st2 x = st2 (t + 1)) := ⟨t + 1, h1, by show cnt - (t + 1) < cnt - t; omega, rfl⟩
        have ew : IntKind.wrap .i64 ((t : Int) + 1) = ((t + 1 : Nat) : Int) := by rw [w64 (by omega) (by omega)]; omega
        rw [ew]
        by_cases hgt : (t : Int) > (t0 : Int)
        · have h2 : t0 < cnt := by omega
          have e1 : YY t = YY t0 := hsm t (by omega)
          have aT := atY t h1
          rw [e1] at aT
          simp only [bc_t hgt, bc_t h, bc_t (show (0 : Int) ≤ (t : Int) by omega), bc_t (show (0 : Int) ≤ (t0 : Int) by omega), bc_t (show (t0 : Int) < (cnt : Int) by omega), Int.toNat_natCast, at1 aT, at1 (atY t0 h2), bc_nf, eq_self, true_and, and_true]
          by_cases hb : nu = 0
          · have ex : YY t0 = x := hz0 hb t0
            simp only [bc_e1 hb, bc_n0 ex, true_and, and_true]
            exact go
          · simp only [bc_ef hb, true_and]
            exact go
        · simp only [bc_f hgt, bc_t h, bc_t (show (0 : Int) ≤ (t : Int) by omega), Int.toNat_natCast, at1 (atY t h1), eq_self, true_and, and_true]
          by_cases hb : nu = 0
          · have ex : YY t = x := hz0 hb t
            simp only [bc_e1 hb, bc_n0 ex, true_and, and_true]
            exact go
          · simp only [bc_ef hb, true_and]
            exact go
      · show (if 2 = 2 then _ else _)
        rw [if_pos rfl]
        show nB2 _ _ n0 nu de ba t0 cnt cnt (vi ((List.range cnt).map YY)) _
        rw [nB2_text]
        have hsz := conSi (YY t0) (by omega)
        have hszb : 0 ≤ szI (YY t0) ∧ szI (YY t0) ≤ 100000 := by unfold szI; split <;> omega
        have hw : IntKind.wrap .i64 (nu * szI (YY t0)) = nu * szI (YY t0) := by
          have hb := mul_bd (A := 100) (B := 100000) vm.nu (show -100000 ≤ szI (YY t0) ∧ szI (YY t0) ≤ 100000 by omega)
          rw [w64 (by omega) (by omega)]
        by_cases hp : (t0 : Int) > 0
        · by_cases hlt : (t0 : Int) < cnt
          · have h2 : t0 < cnt := by omega
            have ep : IntKind.wrap .i64 ((t0 : Int) - 1) = ((t0 - 1 : Nat) : Int) := by rw [w64 (by omega) (by omega)]; omega
            simp only [ep, bc_t hp, bc_t hlt, bc_t (show (0 : Int) ≤ ((t0 - 1 : Nat) : Int) by omega), bc_t (show ((t0 - 1 : Nat) : Int) < (cnt : Int) by omega), bc_t (show (0 : Int) ≤ (t0 : Int) by omega), Int.toNat_natCast, at1 (atY (t0 - 1) (by omega)), at1 (atY t0 h2), bc_ef (hfr (by omega)), bc_f (show ¬ (t0 : Int) ≥ (cnt : Int) by omega), eq_self, true_and, and_true]
            refine .inl ⟨sayWt hok0, _, ⟨hsz⟩, ?_⟩
            by_cases hba : szI (YY t0) ≤ ba
            · simp only [bc_t hba, and_true]
            · have hlt2 : nu * szI (YY t0) < de := by rcases hband with h | h; exact absurd h hba; exact h
              simp only [bc_f hba, true_and, and_true]
              refine ⟨_, ⟨hsz⟩, ?_⟩
              rw [hw]
              simp only [bc_t hlt2]
          · simp only [bc_t hp, bc_f hlt, bc_t (show (t0 : Int) ≥ (cnt : Int) by omega), eq_self, true_and, and_true]
        · have h2 : t0 < cnt := by omega
          simp only [bc_f hp, bc_f (show ¬ (t0 : Int) ≥ (cnt : Int) by omega), bc_t (show (0 : Int) ≤ (t0 : Int) by omega), bc_t (show (t0 : Int) < (cnt : Int) by omega), Int.toNat_natCast, at1 (atY t0 h2), eq_self, true_and, and_true]
          refine .inl ⟨sayWt hok0, _, ⟨hsz⟩, ?_⟩
          by_cases hba : szI (YY t0) ≤ ba
          · simp only [bc_t hba, and_true]
          · have hlt2 : nu * szI (YY t0) < de := by rcases hband with h | h; exact absurd h hba; exact h
            simp only [bc_f hba, true_and, and_true]
            refine ⟨_, ⟨hsz⟩, ?_⟩
            rw [hw]
            simp only [bc_t hlt2]
theorem con5 (D nu de ba x : Int) : C5 5 [.agg [dI D, dI nu, dI de, dI ba], dI x] [.val (.bool true)] := by
  by_cases h : VM D nu de ba ∧ D ≤ 4 ∧ ((-10000 : Int) ≤ x ∧ x ≤ 10000) ∧ (restV D.toNat (tk nu de ba) x).2 = 0
  · obtain ⟨h1, h2, h3, h4⟩ := h
    have hD := h1.dl
    obtain ⟨n, rfl⟩ : ∃ n : Nat, D = n := ⟨D.toNat, by omega⟩
    rw [Int.toNat_natCast] at h4
    exact con5b h1 h2 h3 h4
  · exact con5a h
end Go.Proofs.G5a

/- GaugeBands: whatever the input, it returns true, and the input reads as it did. No condition. -/
namespace Go.Proofs.Ythgcicagmdlnmaa.K
open Go Go.Abs Go.RowKit Go.ChangeShapes Go.WideShapes Go.ChangeAt Go.Proofs Go.Flat Go.Proofs.G5a
set_option maxRecDepth 100000
theorem shapes5 : Try.f5.params.toList.mapM (argSh Try.prog) = some [.agg [3, 3, 3, 3], .one 3] := by kernel_rfl
theorem all5 (ds : List D) (h : ShDs Try.prog [.agg [3, 3, 3, 3], .one 3] ds) : Con Try.prog 5 ds [.val (.bool true)] := by
  cases h with | cons h1 t => cases t with | cons h3 t =>
  cases t
  obtain ⟨ds1, rfl, h1⟩ := h1
  obtain ⟨a, b, c, d, rfl⟩ := leafs4 h1
  obtain ⟨x, rfl, _⟩ := leaf_int Try.underlying3 h3
  exact con5 a b c d x
theorem lifted5 (os : Os) (started : os.Started) (H : Type) (enc : TypeId × Value → H) :
    ReturnsInHanded {} Try.checked os 5 .any (Rows.gaugeBandsSpec.pre6 enc Try.prog Try.f5 Rows.gaugeBandsRow.domain false) (Rows.gaugeBandsSpec.post enc Try.prog Try.f5 false true false false) := by
  refine returnsInHanded_of_change (C := Try.checked) own started (by kernel_rfl) Try.func5
    (ChangeSpec.witness6 (enc := enc) (C := Try.checked) false ⟨#[], #[.agg #[.int .i64 0, .int .i64 0, .int .i64 0, .int .i64 0], .int .i64 0], []⟩ 8 (by kernel_rfl) (by kernel_rfl) (by kernel_rfl) (by kernel_rfl)) ?_
  intro W base args ds gs before hval hW _ _
  exact law_shapes (tb := 4) (s := Rows.gaugeBandsSpec) shapes5 all5 laidP mapsP slicesP (tsP (by kernel_rfl)) rfl Try.underlying4 rfl (fun ds h => by
    match ds, h with
    | [_, _], _ => exact ⟨rfl, rfl, rfl⟩) hval hW
theorem gaugeBands_holds : Rows.GaugeBandsSaid :=
  OpenClaim.holds_of_wide 5 Try.f5 rfl rfl rfl rfl rfl rfl rfl ⟨rfl, rfl, rfl, rfl, rfl⟩ rfl rfl rfl rfl rfl (by kernel_rfl) Try.func5 (by kernel_rfl)
    (of_decide_eq_true (by kernel_rfl)) (by unfold Func.isWrapper; first | (rw [if_pos (by decide +kernel)]; kernel_rfl) | (rw [if_neg (by decide +kernel)]; exact ⟨rfl, rfl⟩))
    (fun os started H enc _ => lifted5 os started H enc)
#print axioms gaugeBands_holds
end Go.Proofs.Ythgcicagmdlnmaa.K
