/- Texts of the proof, put together: GtS1r, GStr3, GName, GtSC1, GtSC2, GtSC3. -/
import Derived.Test.YtccecnmimkfcpaaGreatDoorP4
import Derived.Test.YtccecnmimkfcpaaGreatDoorGtSCT
/- The small functions on strings of the references, in data. -/
namespace Go.Proofs.G5t
open Go Go.Abs Go.Proofs Go.Str
set_option maxRecDepth 100000
theorem hokE : HandlerOK Tryz.prog (hE C5) := handlerX_ok mixed (fun g h he => by cases he) (by decide) 6
/-- pieces between separators -/
theorem conCu (l : List UInt8) (c : UInt8) (hl : l.length < 4294967281) : C5 28 [dS l, .val (.int .u8 (c.toNat : Int))] [dSs (cutA c [] l)] := by
  let inv : Nat × Nat × List (List UInt8) → Prop := fun x => x.2.1 ≤ x.1 ∧ x.1 ≤ l.length ∧ x.2.2.length ≤ x.1 ∧ x.2.2 ++ cutA c ((l.drop x.2.1).take (x.1 - x.2.1)) (l.drop x.1) = cutA c [] l
  let st : Nat × Nat × List (List UInt8) → Slots × Blocks := fun x => match x.2.2 with
    | [] => zCu1 (bs l) c.toNat x.2.1 x.1
    | y :: r => zCu2 (bs l) c.toNat (y :: r).length x.2.1 x.1 (strs (y :: r))
  refine con_of (L := fun _ s b => ∃ x, inv x ∧ st x = (s, b)) hokE mixed Tryz.func28 rfl (by show 0 ≤ 400; omega) rfl (ids := [0]) (by kernel_rfl) rfl (fun caps => ?_) (fun id hid => ?_)
  · show gCu _ _ (bs l) c.toNat _
    rw [gCu_text]
    exact ⟨(0, 0, []), ⟨Nat.le_refl _, Nat.zero_le _, Nat.le_refl _, by simp⟩, rfl⟩
  · obtain rfl := List.mem_singleton.1 hid
    refine ⟨Nat × Nat × List (List UInt8), st, inv, fun x => l.length - x.1, ⟨fun s b h => h, by kernel_rfl, ?_⟩⟩
    rintro ⟨i, f, out⟩ ⟨h1, h2, h3, h4⟩
    simp only at h1 h2 h3 h4
    have hx : ∀ j, (bs l).extract f j = bs ((l.drop f).take (j - f)) := fun j => bs_extract l f j
    have hend : ¬ i < l.length → out ++ [(l.drop f).take (l.length - f)] = cutA c [] l := by
      intro hi
      obtain rfl : i = l.length := by omega
      rw [List.drop_length, cutA] at h4
      exact h4
    have step : ∀ hi : i < l.length, if l[i] = c then inv (i + 1, i + 1, out ++ [(l.drop f).take (i - f)]) else inv (i + 1, f, out) := by
      intro hi
      rw [List.drop_eq_getElem_cons hi, cutA] at h4
      split
      · next hc =>
        rw [if_pos hc] at h4
        exact ⟨Nat.le_refl _, hi, by simp; omega, by simpa using h4⟩
      · next hc =>
        rw [if_neg hc] at h4
        exact ⟨by show f ≤ i + 1; omega, hi, by show out.length ≤ i + 1; omega, by show out ++ cutA c ((l.drop f).take (i + 1 - f)) (l.drop (i + 1)) = _; rw [take_snoc h1 hi]; exact h4⟩
    cases out with
    | nil =>
      show rCu1 _ _ (bs l) c.toNat f i _ _ _
      rw [rCu1_text]
      simp only [bs_size]
      refine bc_dec (fun h => ?_) (fun h => ?_)
      · have hi : i < l.length := by omega
        have step := step hi
        simp only [bc_t (show (0 : Int) ≤ (i : Int) by omega), Int.toNat_natCast, byte1 (List.getElem?_eq_getElem hi), wi1 hi (by omega)]
        refine bc_beq (fun hc => ?_) (fun hc => ?_)
        · rw [if_pos (u8_eq hc)] at step
          simp only [bc_t (show (i : Int) ≤ (l.length : Int) by omega), bc_t (show (0 : Int) ≤ (f : Int) by omega), bc_t (show (f : Int) ≤ (i : Int) by omega), hx]
          exact ⟨_, step, by show l.length - (i + 1) < l.length - i; omega, rfl⟩
        · rw [if_neg (fun e => hc (by rw [e]))] at step
          exact ⟨_, step, by show l.length - (i + 1) < l.length - i; omega, rfl⟩
      · show nCu3 _ _ (bs l) f _
        rw [nCu3_text]
        simp only [bs_size, bc_t (show (0 : Int) ≤ (f : Int) by omega), bc_t (show (f : Int) ≤ (l.length : Int) by omega), Int.toNat_natCast, hx]
        refine ⟨⟨trivial, trivial⟩, ?_⟩
        rw [← hend (by omega)]
        rfl
    | cons y r =>
      show rCu2 _ _ (bs l) c.toNat (y :: r).length f i (strs (y :: r)) _ _ _
      rw [rCu2_text]
      simp only [bs_size]
      have hlen : (y :: r).length ≤ i := h3
      refine bc_dec (fun h => ?_) (fun h => ?_)
      · have hi : i < l.length := by omega
        have step := step hi
        simp only [bc_t (show (0 : Int) ≤ (i : Int) by omega), Int.toNat_natCast, byte1 (List.getElem?_eq_getElem hi), wi1 hi (by omega)]
        refine bc_beq (fun hc => ?_) (fun hc => ?_)
        · rw [if_pos (u8_eq hc)] at step
          simp only [bc_t (show (i : Int) ≤ (l.length : Int) by omega), bc_t (show (0 : Int) ≤ (f : Int) by omega), bc_t (show (f : Int) ≤ (i : Int) by omega), hx,
            bc_t (Nat.lt_succ_self (y :: r).length), bc_t (show (2 * ((y :: r).length + 1) + 768) * 16 ≤ 281474976710656 by omega), bc_t (show (y :: r).length + 1 ≤ 1099511627776 by omega), bc_t (whole_le (y :: r)), bc_t (whole_eq (y :: r)), strs_whole]
          refine ⟨_, step, by show l.length - (i + 1) < l.length - i; omega, ?_⟩
          show zCu2 _ _ ((y :: r) ++ [_]).length _ _ (strs ((y :: r) ++ [_])) = _
          rw [List.length_append]
          simp only [strs, List.map_append]
          rfl
        · rw [if_neg (fun e => hc (by rw [e]))] at step
          exact ⟨_, step, by show l.length - (i + 1) < l.length - i; omega, rfl⟩
      · show nCu4 _ _ (bs l) (y :: r).length f (strs (y :: r)) _
        rw [nCu4_text]
        simp only [bs_size, bc_t (show (0 : Int) ≤ (f : Int) by omega), bc_t (show (f : Int) ≤ (l.length : Int) by omega), Int.toNat_natCast, hx,
          bc_t (Nat.lt_succ_self (y :: r).length), bc_t (show (2 * ((y :: r).length + 1) + 768) * 16 ≤ 281474976710656 by omega), bc_t (show (y :: r).length + 1 ≤ 1099511627776 by omega), bc_t (whole_le (y :: r)), bc_t (whole_eq (y :: r)), strs_whole]
        refine ⟨⟨trivial, by simp⟩, ?_⟩
        rw [← hend (by omega)]
        show [_] = [D.sl ((y :: r) ++ [_]).length 1 (strs ((y :: r) ++ [_]))]
        rw [List.length_append]
        simp only [strs, List.map_append]
        rfl
/-! ### decimal numerals -/
theorem one_byte (b : Int) : List.foldl (fun r n => ByteArray.push r (UInt8.ofNat (Int.toNat n))) ByteArray.empty [b] = bs [UInt8.ofNat (Int.toNat b)] := rfl
theorem size_dig (k : Nat) (m : Int) (h : m = (k : Int) ∨ m = -(k : Int)) : IntKind.wrap .u8 (IntKind.wrap .i64 (48 + if IntKind.wrap .i64 (0 - Int.tmod m 10) > Int.tmod m 10 then IntKind.wrap .i64 (0 - Int.tmod m 10) else Int.tmod m 10)) = ((48 + k % 10 : Nat) : Int) := by
  have e : Int.tmod m 10 = ((k % 10 : Nat) : Int) ∨ Int.tmod m 10 = -((k % 10 : Nat) : Int) := by
    rcases h with rfl | rfl
    · left; rw [Int.tmod_eq_emod_of_nonneg (by omega)]; omega
    · right; rw [Int.neg_tmod, Int.tmod_eq_emod_of_nonneg (by omega)]; omega
  generalize Int.tmod m 10 = r at e ⊢
  have hk : k % 10 < 10 := Nat.mod_lt _ (by decide)
  rw [w64 (z := 0 - r) (by omega) (by omega)]
  have h2 : (48 + if 0 - r > r then 0 - r else r) = ((48 + k % 10 : Nat) : Int) := by split <;> omega
  rw [h2, w64 (by omega) (by omega), IntKind.wrap_u8]
  omega
theorem tdiv10 (k : Nat) (m : Int) (h : m = (k : Int) ∨ m = -(k : Int)) : (m = (k : Int) → Int.tdiv m 10 = ((k / 10 : Nat) : Int)) ∧ (m = -(k : Int) → Int.tdiv m 10 = -((k / 10 : Nat) : Int)) := by
  constructor
  · rintro rfl; rw [Int.tdiv_eq_ediv_of_nonneg (by omega)]; omega
  · rintro rfl; rw [Int.neg_tdiv, Int.tdiv_eq_ediv_of_nonneg (by omega)]; omega
theorem conDe (n : Int) (h0 : -9223372036854775808 ≤ n) (h1 : n ≤ 9223372036854775807) : C5 35 [dI n] [dS (Lib.itoa n)] := by
  let sg : List UInt8 := if n < 0 then [45] else []
  let num : Nat → Int := fun k => if n < 0 then -(k : Int) else (k : Int)
  let inv : Nat × List UInt8 → Prop := fun x => n ≠ 0 ∧ x.1 ≤ n.natAbs ∧ (if x.1 = 0 then [] else dec x.1) ++ x.2 = dec n.natAbs
  let st : Nat × List UInt8 → Slots × Blocks := fun x => zDe1 (num x.1) (bs x.2) (bs sg)
  have hit : n ≠ 0 → sg ++ dec n.natAbs = Lib.itoa n := by
    intro hn
    show (if n < 0 then [45] else []) ++ dec n.natAbs = _
    split
    · next h => rw [itoa_ng h]; rfl
    · next h => rw [itoa_nn (by omega), show n.toNat = n.natAbs by omega]; rfl
  have hdl : (dec n.natAbs).length ≤ 20 := dec_len 20 _ (by decide) (by omega)
  have hsg : sg.length ≤ 1 := by show (if n < 0 then [(45 : UInt8)] else []).length ≤ 1; split <;> simp
  refine con_of (L := fun _ s b => ∃ x, inv x ∧ st x = (s, b)) hokE mixed Tryz.func35 rfl (by show 0 ≤ 400; omega) rfl (ids := [0]) (by kernel_rfl) rfl (fun caps => ?_) (fun id hid => ?_)
  · show gDe _ _ n _
    rw [gDe_text]
    refine bc_beq (fun h => ?_) (fun h => ?_)
    · subst h
      have : Lib.itoa 0 = [48] := by rw [itoa_nn (by decide)]; exact dec_small (by decide)
      rw [this]
    · have hi : inv (n.natAbs, []) := ⟨h, Nat.le_refl _, by show (if n.natAbs = 0 then [] else _) ++ [] = _; rw [if_neg (by omega), List.append_nil]⟩
      refine bc_dec (fun hn => ?_) (fun hn => ?_)
      · refine ⟨(n.natAbs, []), hi, ?_⟩
        show zDe1 (if n < 0 then _ else _) _ (bs (if n < 0 then _ else _)) = _
        rw [if_pos hn, if_pos hn, show -(n.natAbs : Int) = n by omega]
      · refine ⟨(n.natAbs, []), hi, ?_⟩
        show zDe1 (if n < 0 then _ else _) _ (bs (if n < 0 then _ else _)) = _
        rw [if_neg hn, if_neg hn, show (n.natAbs : Int) = n by omega]
  · obtain rfl := List.mem_singleton.1 hid
    refine ⟨Nat × List UInt8, st, inv, fun x => x.1, ⟨fun s b h => h, by kernel_rfl, ?_⟩⟩
    rintro ⟨k, sfx⟩ ⟨hn, hk, he⟩
    simp only at hk he
    show rDe1 _ _ (num k) (bs sfx) (bs sg) _ _ _
    rw [rDe1_text]
    have hor : num k = (k : Int) ∨ num k = -(k : Int) := by show (if n < 0 then _ else _) = _ ∨ (if n < 0 then _ else _) = _; split <;> simp
    have hsl : sfx.length ≤ 20 := by have := congrArg List.length he; simp at this; omega
    refine bc_bne (fun h => ?_) (fun h => ?_)
    · have hk0 : k ≠ 0 := by rintro rfl; rcases hor with e | e <;> simp [e] at h
      rw [size_dig k (num k) hor, one_byte, bs_append, Int.toNat_natCast]
      simp only [bs_size]
      refine bc_yes (by simp; omega) ?_
      refine ⟨(k / 10, UInt8.ofNat (48 + k % 10) :: sfx), ⟨hn, by show k / 10 ≤ _; omega, ?_⟩, by show k / 10 < k; omega, ?_⟩
      · show (if k / 10 = 0 then [] else dec (k / 10)) ++ _ = _
        rw [if_neg hk0] at he
        rw [← he]
        by_cases hk10 : k < 10
        · rw [if_pos (by omega), dec_small hk10, show k % 10 = k by omega]; rfl
        · rw [if_neg (by omega), dec_big hk10]; simp
      · have e2 : IntKind.wrap .i64 (Int.tdiv (num k) 10) = num (k / 10) := by
          have t := tdiv10 k (num k) hor
          show IntKind.wrap .i64 (Int.tdiv (if n < 0 then -(k : Int) else (k : Int)) 10) = if n < 0 then _ else _
          have hnum : num k = if n < 0 then -(k : Int) else (k : Int) := rfl
          by_cases hneg : n < 0
          · rw [if_pos hneg] at hnum ⊢
            rw [if_pos hneg, ← hnum, t.2 hnum, w64 (by omega) (by omega)]
          · rw [if_neg hneg] at hnum ⊢
            rw [if_neg hneg, ← hnum, t.1 hnum, w64 (by omega) (by omega)]
        rw [e2]; rfl
    · have hk0 : k = 0 := by rcases hor with e | e <;> omega
      subst hk0
      show (if 0 = 0 then _ else _)
      rw [if_pos rfl]
      show nDe2 _ _ (bs sfx) (bs sg) _
      rw [nDe2_text]
      simp only [bs_size]
      refine bc_yes (by omega) ?_
      rw [if_pos rfl, List.nil_append] at he
      rw [bs_append, he, hit hn]
/-! ### numbers that are read -/
theorem pow_le {k : Nat} (h : k ≤ 17) : (10 : Int) ^ k ≤ 100000000000000000 := by
  have := pow10_le h
  rw [p17] at this; exact this
theorem isDig_no {b : UInt8} (h : ¬ (48 ≤ b.toNat ∧ b.toNat ≤ 57)) : isDig b = false := by
  unfold isDig
  rw [Bool.and_eq_false_iff, decide_eq_false_iff_not, decide_eq_false_iff_not]; omega
theorem byte48 {b : UInt8} (h1 : 48 ≤ b.toNat) (h2 : b.toNat ≤ 57) : IntKind.wrap .i64 (IntKind.wrap .u8 ((b.toNat : Int) - 48)) = (b.toNat : Int) - 48 := by
  rw [IntKind.wrap_u8]
  rw [w64 (by omega) (by omega)]; omega
theorem conNu (l : List UInt8) (d : Nat) (hd : d ≤ 18) (hl : l.length < 4294967281) : C5 62 [dS l, dI d] [dI (readNum d l).1, dB (readNum d l).2] := by
  let inv : Nat × Nat → Prop := fun x => x.1 ≤ 1 ∧ x.1 ≤ x.2 ∧ x.2 ≤ l.length ∧ l.length ≤ d + x.1 ∧ ((l.drop x.1).take (x.2 - x.1)).all isDig = true ∧ readNum d l = rdT x.1 l
  let st : Nat × Nat → Slots × Blocks := fun x => zNu1 (bs l) x.1 (numF 0 ((l.drop x.1).take (x.2 - x.1))) x.2
  refine con_of (L := fun _ s b => ∃ x, inv x ∧ st x = (s, b)) hokE mixed Tryz.func62 rfl (by show 0 ≤ 400; omega) rfl (ids := [0]) (by kernel_rfl) rfl (fun caps => ?_) (fun id hid => ?_)
  · show gNu _ _ (bs l) d _
    rw [gNu_text]
    simp only [bs_size]
    have pos : (∀ b, l[0]? = some b → b.toNat ≠ 45) → bcase ((l.length : Int) == 0) ([dI 0, dB false] = [dI (readNum d l).1, dB (readNum d l).2])
        (bcase (decide (IntKind.wrap .i64 ((l.length : Int) - 0) > (d : Int))) ([dI 0, dB false] = [dI (readNum d l).1, dB (readNum d l).2])
        (∃ b2 : UInt8, ByteAt (bs l) 0 b2 ∧ bcase ((b2.toNat : Int) == 48) (bcase (decide ((l.length : Int) > 1)) ([dI 0, dB false] = [dI (readNum d l).1, dB (readNum d l).2]) (∃ x, inv x ∧ st x = zNu1 (bs l) 0 0 0)) (∃ x, inv x ∧ st x = zNu1 (bs l) 0 0 0))) := by
      intro hno
      have hh : l.head? ≠ some 45 := by
        intro e
        cases l with
        | nil => simp at e
        | cons b r =>
          simp only [List.head?_cons, Option.some.injEq] at e
          subst e
          exact hno 45 rfl rfl
      have hr := readNum_pos (d := d) hh
      refine bc_beq (fun h => ?_) (fun h => ?_)
      · rw [hr, if_pos (by omega)]
      · rw [if_neg (by omega)] at hr
        have e1 : IntKind.wrap .i64 ((l.length : Int) - 0) = (l.length : Int) := by rw [w64 (by omega) (by omega)]; omega
        simp only [e1]
        refine bc_dec (fun h2 => ?_) (fun h2 => ?_)
        · rw [hr, if_pos (by omega)]
        · rw [if_neg (by omega)] at hr
          cases l with
          | nil => simp at h
          | cons b r =>
            rw [byte1 (l := b :: r) (i := 0) (b := b) rfl]
            have go : ¬ ((b :: r).head? = some 48 ∧ 1 < (b :: r).length) → ∃ x, inv x ∧ st x = zNu1 (bs (b :: r)) 0 0 0 := by
              intro hc
              rw [if_neg hc] at hr
              exact ⟨(0, 0), ⟨by decide, Nat.le_refl _, Nat.zero_le _, by show _ ≤ d + 0; omega, rfl, hr⟩, rfl⟩
            refine bc_beq (fun h3 => ?_) (fun h3 => ?_)
            · have hb : b = 48 := u8_eq (c := 48) h3
              refine bc_dec (fun h4 => ?_) (fun h4 => go (by omega))
              rw [hr, if_pos ⟨by rw [hb]; rfl, by omega⟩]
            · exact go (fun ⟨e, _⟩ => h3 (by simp only [List.head?_cons, Option.some.injEq] at e; rw [e]; rfl))
    refine bc_dec (fun h => ?_) (fun h => ?_)
    · cases l with
      | nil => simp at h
      | cons b r =>
        rw [byte1 (l := b :: r) (i := 0) (b := b) rfl]
        refine bc_beq (fun h45 => ?_) (fun h45 => pos ?_)
        · obtain rfl : b = 45 := u8_eq (c := 45) h45
          have hr := readNum_neg (d := d) (r := r)
          simp only [List.length_cons] at hl ⊢
          refine bc_beq (fun h1 => ?_) (fun h1 => ?_)
          · rw [hr, if_pos (by omega)]
          · rw [if_neg (by omega)] at hr
            have e1 : IntKind.wrap .i64 (((r.length + 1 : Nat) : Int) - 1) = (r.length : Int) := by rw [w64 (by omega) (by omega)]; omega
            simp only [e1]
            refine bc_dec (fun h2 => ?_) (fun h2 => ?_)
            · rw [hr, if_pos (by omega)]
            · rw [if_neg (by omega)] at hr
              cases r with
              | nil => simp at h1
              | cons c r =>
                rw [byte1 (l := 45 :: c :: r) (i := 1) (b := c) rfl]
                refine bc_beq (fun h3 => ?_) (fun h3 => ?_)
                · have hc : c = 48 := u8_eq (c := 48) h3
                  refine bc_yes (by simp only [List.length_cons]; omega) ?_
                  rw [hr, if_pos (by rw [hc]; rfl)]
                · rw [if_neg (fun e => h3 (by simp only [List.head?_cons, Option.some.injEq] at e; rw [e]; rfl))] at hr
                  refine ⟨(1, 1), ⟨by decide, Nat.le_refl _, by simp, by simp only [List.length_cons] at h2 ⊢; omega, rfl, hr⟩, rfl⟩
        · intro b' hb' e
          obtain rfl : b = b' := by simpa using hb'
          exact h45 (by omega)
    · exact pos (fun b hb => by
        have := (List.getElem?_eq_some_iff.1 hb).1
        omega)
  · obtain rfl := List.mem_singleton.1 hid
    refine ⟨Nat × Nat, st, inv, fun x => l.length - x.2, ⟨fun s b h => h, by kernel_rfl, ?_⟩⟩
    rintro ⟨a, i⟩ ⟨ha, hai, hil, hld, hall, hr⟩
    simp only at ha hai hil hld hall hr
    show rNu1 _ _ (bs l) a (numF 0 ((l.drop a).take (i - a))) i _ _ _
    rw [rNu1_text]
    simp only [bs_size]
    have hn := numF_ge _ 0 (by decide) hall
    have hlen : ((l.drop a).take (i - a)).length = i - a := by simp; omega
    rw [hlen] at hn
    refine bc_dec (fun h => ?_) (fun h => ?_)
    · have hi : i < l.length := by omega
      have fail : isDig l[i] = false → [dI 0, dB false] = [dI (readNum d l).1, dB (readNum d l).2] := by
        intro hb
        have hg : (l.drop a)[i - a]? = some l[i] := by rw [List.getElem?_drop, show a + (i - a) = i by omega, List.getElem?_eq_getElem hi]
        rw [hr]; unfold rdT; rw [not_all hg hb]; rfl
      have hp := pow_le (k := i - a) (by omega)
      simp only [bc_t (show (0 : Int) ≤ (i : Int) by omega), Int.toNat_natCast, byte1 (List.getElem?_eq_getElem hi), wi1 hi (by omega)]
      refine bc_dec (fun hb => fail (isDig_no (by omega))) (fun hb => ?_)
      refine bc_dec (fun hb2 => fail (isDig_no (by omega))) (fun hb2 => ?_)
      have hdig : isDig l[i] = true := by unfold isDig; rw [decide_eq_true (by omega), decide_eq_true (by omega)]; rfl
      refine ⟨(a, i + 1), ⟨ha, by show a ≤ i + 1; omega, hi, hld, by show ((l.drop a).take (i + 1 - a)).all isDig = true; rw [take_snoc hai hi, List.all_append, hall]; simp [hdig], hr⟩, by show l.length - (i + 1) < l.length - i; omega, ?_⟩
      show zNu1 (bs l) a (numF 0 ((l.drop a).take (i + 1 - a))) ((i + 1 : Nat) : Int) = _
      rw [take_snoc hai hi, numF_append, numF_cons, numF_nil, byte48 (by omega) (by omega), w64 (z := 10 * _) (by omega) (by omega), w64 (by omega) (by omega)]
    · have hi : i = l.length := by omega
      subst hi
      show nNu2 _ _ a _ _
      rw [nNu2_text]
      have ht : (l.drop a).take (l.length - a) = l.drop a := List.take_of_length_le (by simp)
      rw [ht] at hall hn ⊢
      have hp : (10 : Int) ^ (l.length - a) ≤ 1000000000000000000 := by
        have := pow10_le (k := l.length - a) (d := 18) (by omega)
        rw [p18] at this; exact this
      rw [hr]
      unfold rdT
      rw [if_pos hall]
      refine bc_beq (fun h1 => ?_) (fun h1 => ?_)
      · rw [if_pos (by omega), w64 (by omega) (by omega), Int.zero_sub]
      · rw [if_neg (by omega)]
theorem conWi (n lo hi : Int) : C5 31 [dI n, dI lo, dI hi] [dB (decide (lo ≤ n) && decide (n ≤ hi))] := by
  refine con_flat hokE mixed Tryz.func31 rfl (by show 0 ≤ 400; omega) rfl (by kernel_rfl) (fun caps => ?_)
  show gWi _ _ n lo hi _
  rw [gWi_text]
  refine bc_dec (fun h => bc_dec (fun h2 => ?_) (fun h2 => ?_)) (fun h => ?_)
  · rw [decide_eq_true h, decide_eq_true h2]; rfl
  · rw [decide_eq_true h, decide_eq_false h2]; rfl
  · rw [decide_eq_false h]; rfl
end Go.Proofs.G5t

/- Words that are read by a reader; pairs of numbers that may be below naught. -/
namespace Go.Str
variable {α : Type}
/-! ### readings by strconv.Atoi -/
end Go.Str

/- Names: a letter, then letters, digits and hyphens. -/
namespace Go.Str
open Go Go.Abs
def isLet (b : UInt8) : Bool := (decide (97 ≤ b.toNat) && decide (b.toNat ≤ 122)) || (decide (65 ≤ b.toNat) && decide (b.toNat ≤ 90))
def nameC (b : UInt8) : Bool := isLet b || isDig b || b.toNat == 45
def nameOK (l : List UInt8) : Bool := decide (1 ≤ l.length) && decide (l.length ≤ 12) && l.head?.any isLet && l.all nameC
theorem let_t {b : UInt8} (h : (97 ≤ b.toNat ∧ b.toNat ≤ 122) ∨ (65 ≤ b.toNat ∧ b.toNat ≤ 90)) : isLet b = true := by
  simp [isLet]; omega
theorem let_f {b : UInt8} (h : ¬ ((97 ≤ b.toNat ∧ b.toNat ≤ 122) ∨ (65 ≤ b.toNat ∧ b.toNat ≤ 90))) : isLet b = false := by
  simp [isLet]; omega
theorem dig_t {b : UInt8} (h : 48 ≤ b.toNat ∧ b.toNat ≤ 57) : isDig b = true := by simp [isDig, h]
theorem dig_f {b : UInt8} (h : ¬ (48 ≤ b.toNat ∧ b.toNat ≤ 57)) : isDig b = false := by simp [isDig]; omega
theorem name_t {b : UInt8} (h : ((97 ≤ b.toNat ∧ b.toNat ≤ 122) ∨ (65 ≤ b.toNat ∧ b.toNat ≤ 90)) ∨ (48 ≤ b.toNat ∧ b.toNat ≤ 57) ∨ b.toNat = 45) : nameC b = true := by
  simp [nameC, isLet, isDig]; omega
theorem name_f {b : UInt8} (h : ¬ (((97 ≤ b.toNat ∧ b.toNat ≤ 122) ∨ (65 ≤ b.toNat ∧ b.toNat ≤ 90)) ∨ (48 ≤ b.toNat ∧ b.toNat ≤ 57) ∨ b.toNat = 45)) : nameC b = false := by
  simp [nameC, isLet, isDig]; omega
/-- how far a walk over a name has come: what is left decides -/
def goesN (l : List UInt8) (i : Nat) : Prop := i ≤ l.length ∧ (1 ≤ l.length ∧ l.length ≤ 12) ∧ (i = 0 ∨ l.head?.any isLet = true) ∧ l.all nameC = (l.drop i).all nameC
theorem goesN_0 {l : List UInt8} (h : 1 ≤ l.length ∧ l.length ≤ 12) : goesN l 0 := ⟨Nat.zero_le _, h, .inl rfl, rfl⟩
theorem nameOK_len {l : List UInt8} (h : ¬ (1 ≤ l.length ∧ l.length ≤ 12)) : nameOK l = false := by
  unfold nameOK
  rcases Nat.lt_or_ge l.length 1 with h1 | h1
  · rw [decide_eq_false (by omega : ¬ 1 ≤ l.length)]; rfl
  · rw [decide_eq_false (by omega : ¬ l.length ≤ 12)]; simp
theorem head_of {l : List UInt8} (h : 0 < l.length) : l.head? = some l[0] := by
  cases l with
  | nil => cases h
  | cons a r => rfl
theorem nameOK_head {l : List UInt8} (h : 0 < l.length) (hb : isLet l[0] = false) : nameOK l = false := by
  unfold nameOK
  rw [head_of h]
  simp [hb]
theorem goesN_bad {l : List UInt8} {i : Nat} (h : goesN l i) (hi : i < l.length) (hb : nameC l[i] = false) : nameOK l = false := by
  obtain ⟨_, _, _, h4⟩ := h
  unfold nameOK
  rw [h4, List.drop_eq_getElem_cons hi, List.all_cons, hb]
  simp
theorem goesN_first {l : List UInt8} {i : Nat} (hi : i < l.length) (h0 : i = 0) (hb : isLet l[i] = false) : nameOK l = false := by
  subst h0; exact nameOK_head hi hb
theorem goesN_step {l : List UInt8} {i : Nat} (h : goesN l i) (hi : i < l.length) (hb : nameC l[i] = true) (h0 : i = 0 → isLet l[i] = true) : goesN l (i + 1) := by
  obtain ⟨h1, h2, h3, h4⟩ := h
  refine ⟨hi, h2, .inr ?_, ?_⟩
  · rcases h3 with h3 | h3
    · have := h0 h3
      subst h3
      rw [head_of hi]; simpa using this
    · exact h3
  · rw [h4, List.drop_eq_getElem_cons hi, List.all_cons, hb]; simp
theorem goesN_end {l : List UInt8} {i : Nat} (h : goesN l i) (hi : ¬ i < l.length) : nameOK l = true := by
  obtain ⟨h1, h2, h3, h4⟩ := h
  have e : i = l.length := by omega
  subst e
  rw [List.drop_length] at h4
  have h5 : l.head?.any isLet = true := by
    rcases h3 with h3 | h3
    · omega
    · exact h3
  unfold nameOK
  rw [h4, h5, decide_eq_true h2.1, decide_eq_true h2.2]; rfl
end Go.Str

/- Chapter 1: names, numbers, slabs and their errors, in data. -/
namespace Go.Proofs.G5t
open Go Go.Abs Go.Proofs Go.Str
set_option maxRecDepth 100000
theorem ite_so {c : Prop} [Decidable c] {α : Type} {x h : α} {r : Option α} (e : (if c then some x else r) = some h) : (c ∧ x = h) ∨ r = some h := by
  by_cases hc : c
  · rw [if_pos hc] at e; exact .inl ⟨hc, Option.some.inj e⟩
  · rw [if_neg hc] at e; exact .inr e
theorem preGOK : PreOK Tryz.prog (preC C5) := by
  intro g h he args ats H k hk
  unfold preC at he
  rcases ite_so he with ⟨e, rfl⟩ | he
  · exact saidH_ok (fun _ _ _ h => h) _ _ _ _ _ hk
  · cases he
theorem hokG : HandlerOK Tryz.prog (hC C5) := handlerX_ok mixed preGOK (by decide) 6
theorem sayOr {f : FuncId} {args : List D} {b : Bool} {A B : Prop} (h : C5 f args [dB b]) (h1 : b = true → A) (h2 : b = false → B) : (Says C5 f args [.val (.bool true)] ∧ A) ∨ (Says C5 f args [.val (.bool false)] ∧ B) := by
  cases b with
  | true => exact .inl ⟨⟨h⟩, h1 rfl⟩
  | false => exact .inr ⟨⟨h⟩, h2 rfl⟩
theorem sayOr2 {f : FuncId} {args : List D} {x : D} {b : Bool} {A B : Prop} (h : C5 f args [x, dB b]) (h1 : b = true → A) (h2 : b = false → B) : (Says C5 f args [x, .val (.bool true)] ∧ A) ∨ (Says C5 f args [x, .val (.bool false)] ∧ B) := by
  cases b with
  | true => exact .inl ⟨⟨h⟩, h1 rfl⟩
  | false => exact .inr ⟨⟨h⟩, h2 rfl⟩
theorem lit_bs (b : UInt8) : ({ data := #[b] } : ByteArray) = bs [b] := rfl
theorem conIN (l : List UInt8) : C5 30 [dS l] [dB (nameOK l)] := by
  let inv : Nat → Prop := fun i => goesN l i
  let st : Nat → Slots × Blocks := fun i => zBN1 (bs l) i
  refine con_of (L := fun _ s b => ∃ x, inv x ∧ st x = (s, b)) hokG mixed Tryz.func30 rfl (by show 0 ≤ 400; omega) rfl (ids := [0]) (by kernel_rfl) rfl (fun caps => ?_) (fun id hid => ?_)
  · show gBN _ _ (bs l) _
    rw [gBN_text]
    simp only [bs_size]
    refine bc_dec (fun h => ?_) (fun h => bc_dec (fun h2 => ?_) (fun h2 => ⟨0, goesN_0 (by omega), rfl⟩))
    · show [D.val (Value.bool false)] = [dB (nameOK l)]
      rw [nameOK_len (by omega)]
    · show [D.val (Value.bool false)] = [dB (nameOK l)]
      rw [nameOK_len (by omega)]
  · obtain rfl := List.mem_singleton.1 hid
    refine ⟨Nat, st, inv, fun x => l.length - x, ⟨fun s b h => h, by kernel_rfl, ?_⟩⟩
    intro i hg
    have hb := hg.1
    have h12 := hg.2.1
    show rBN1 _ _ (bs l) i _ _ _
    rw [rBN1_text]
    simp only [bs_size]
    refine bc_dec (fun h => ?_) (fun h => ?_)
    · have hi : i < l.length := by omega
      simp only [bc_t (show (0 : Int) ≤ (i : Int) by omega), Int.toNat_natCast, byte1 (List.getElem?_eq_getElem hi), wi1 hi (by omega)]
      have good : nameC l[i] = true → (i = 0 → isLet l[i] = true) → ∃ x, inv x ∧ l.length - x < l.length - i ∧ st x = ([(0, Value.string (bs l)), (3, .int .i64 ((i + 1 : Nat) : Int))], []) := fun hc h0 =>
        ⟨i + 1, goesN_step hg hi hc h0, by omega, rfl⟩
      repeat' first
        | refine bc_dec (fun _ => ?_) (fun _ => ?_)
        | refine bc_beq (fun _ => ?_) (fun _ => ?_)
        | refine bc_bne (fun _ => ?_) (fun _ => ?_)
      all_goals first
        | exact good (name_t (by omega)) (fun _ => let_t (by omega))
        | exact good (name_t (by omega)) (fun h0 => absurd h0 (by omega))
        | (show [D.val (Value.bool false)] = [dB (nameOK l)]; rw [goesN_bad hg hi (name_f (by omega))])
        | (show [D.val (Value.bool false)] = [dB (nameOK l)]; rw [goesN_first hi (by omega) (let_f (by omega))])
    · show nBN2 _ _ _
      rw [nBN2_text]
      show [D.val (Value.bool true)] = [dB (nameOK l)]
      rw [goesN_end hg (by omega)]
theorem conIA (l : List UInt8) : C5 33 [dS l] [dB (nameOK l)] := by
  let inv : Nat → Prop := fun i => goesN l i ∧ l.head?.any isLet = true
  let st : Nat → Slots × Blocks := fun i => zIA1 (bs l) l.length i
  refine con_of (L := fun _ s b => ∃ x, inv x ∧ st x = (s, b)) hokG mixed Tryz.func33 rfl (by show 0 ≤ 400; omega) rfl (ids := [0]) (by kernel_rfl) rfl (fun caps => ?_) (fun id hid => ?_)
  · show gIA _ _ (bs l) _
    rw [gIA_text]
    simp only [bs_size]
    refine bc_beq (fun h => ?_) (fun h => bc_dec (fun h2 => ?_) (fun h2 => ?_))
    · show [D.val (Value.bool false)] = [dB (nameOK l)]
      rw [nameOK_len (by omega)]
    · show [D.val (Value.bool false)] = [dB (nameOK l)]
      rw [nameOK_len (by omega)]
    · have hl : 0 < l.length := by omega
      simp only [byte1 (List.getElem?_eq_getElem hl)]
      have good : isLet l[0] = true → ∃ x, inv x ∧ st x = ([(0, Value.string (bs l)), (19, .int .i64 (l.length : Int)), (20, .int .i64 0)], []) := fun h3 => ⟨0, ⟨goesN_0 (by omega), by rw [head_of hl]; simpa using h3⟩, rfl⟩
      repeat' refine bc_dec (fun _ => ?_) (fun _ => ?_)
      all_goals first
        | exact good (let_t (by omega))
        | (show [D.val (Value.bool false)] = [dB (nameOK l)]; rw [nameOK_head hl (let_f (by omega))])
  · obtain rfl := List.mem_singleton.1 hid
    refine ⟨Nat, st, inv, fun x => l.length - x, ⟨fun s b h => h, by kernel_rfl, ?_⟩⟩
    rintro i ⟨hg, hh⟩
    have hb := hg.1
    have h12 := hg.2.1
    show rIA1 _ _ (bs l) l.length i _ _ _
    rw [rIA1_text]
    refine bc_dec (fun h => ?_) (fun h => ?_)
    · have hi : i < l.length := by omega
      have h0 : i = 0 → isLet l[i] = true := by
        rintro rfl
        rw [head_of hi] at hh; simpa using hh
      simp only [bc_t (show (0 : Int) ≤ (i : Int) by omega), Int.toNat_natCast, byte1 (List.getElem?_eq_getElem hi), wi1 hi (by omega)]
      have good : nameC l[i] = true → ∃ x, inv x ∧ l.length - x < l.length - i ∧ st x = ([(0, Value.string (bs l)), (19, .int .i64 (l.length : Int)), (20, .int .i64 ((i + 1 : Nat) : Int))], []) := fun hc =>
        ⟨i + 1, ⟨goesN_step hg hi hc h0, hh⟩, by omega, rfl⟩
      repeat' first
        | refine bc_dec (fun _ => ?_) (fun _ => ?_)
        | refine bc_beq (fun _ => ?_) (fun _ => ?_)
        | refine bc_bne (fun _ => ?_) (fun _ => ?_)
      all_goals first
        | exact good (name_t (by omega))
        | (show [D.val (Value.bool false)] = [dB (nameOK l)]; rw [goesN_bad hg hi (name_f (by omega))])
    · show (if 0 = 0 then _ else _)
      rw [if_pos rfl]
      show nIA2 _ _ _
      rw [nIA2_text]
      show [D.val (Value.bool true)] = [dB (nameOK l)]
      rw [goesN_end hg (by omega)]
theorem okNum_def (d : Nat) (l : List UInt8) : okNum d l = (decide (1 ≤ l.length) && decide (l.length ≤ d) && !(decide (1 < l.length) && l.head? == some 48) && l.all isDig) := rfl
theorem conIM (l : List UInt8) : C5 61 [dS l] [dB (okNum 6 l)] := by
  let inv : Nat → Prop := fun i => i ≤ l.length ∧ l.length ≤ 6 ∧ okNum 6 l = (l.drop i).all isDig
  let st : Nat → Slots × Blocks := fun i => zIN1 (bs l) l.length i
  refine con_of (L := fun _ s b => ∃ x, inv x ∧ st x = (s, b)) hokG mixed Tryz.func61 rfl (by show 0 ≤ 400; omega) rfl (ids := [0]) (by kernel_rfl) rfl (fun caps => ?_) (fun id hid => ?_)
  · show gIN _ _ (bs l) _
    rw [gIN_text]
    simp only [bs_size]
    refine bc_beq (fun h => ?_) (fun h => bc_dec (fun h2 => ?_) (fun h2 => bc_dec (fun h3 => ?_) (fun h3 => ?_)))
    · show [D.val (Value.bool false)] = [dB (okNum 6 l)]
      rw [okNum_def, decide_eq_false (by omega : ¬ 1 ≤ l.length)]; rfl
    · show [D.val (Value.bool false)] = [dB (okNum 6 l)]
      rw [okNum_def, decide_eq_false (by omega : ¬ l.length ≤ 6)]; simp
    · have hl : 0 < l.length := by omega
      simp only [byte1 (List.getElem?_eq_getElem hl)]
      refine bc_beq (fun h4 => ?_) (fun h4 => ⟨0, ⟨Nat.zero_le _, by omega, ?_⟩, rfl⟩)
      · show [D.val (Value.bool false)] = [dB (okNum 6 l)]
        have e : l[0] = 48 := by rw [← UInt8.toNat_inj]; show _ = 48; omega
        rw [okNum_def, head_of hl, e, decide_eq_true (by omega : 1 < l.length)]; simp
      · have e : ¬ l[0] = 48 := fun e => h4 (by rw [e]; rfl)
        rw [okNum_def, head_of hl, decide_eq_true (by omega : 1 ≤ l.length), decide_eq_true (by omega : l.length ≤ 6)]; simp [e]
    · refine ⟨0, ⟨Nat.zero_le _, by omega, ?_⟩, rfl⟩
      rw [okNum_def, decide_eq_true (by omega : 1 ≤ l.length), decide_eq_true (by omega : l.length ≤ 6), decide_eq_false (by omega : ¬ 1 < l.length)]; simp
  · obtain rfl := List.mem_singleton.1 hid
    refine ⟨Nat, st, inv, fun x => l.length - x, ⟨fun s b h => h, by kernel_rfl, ?_⟩⟩
    rintro i ⟨hb, h6, he⟩
    show rIN1 _ _ (bs l) l.length i _ _ _
    rw [rIN1_text]
    refine bc_dec (fun h => ?_) (fun h => ?_)
    · have hi : i < l.length := by omega
      rw [List.drop_eq_getElem_cons hi, List.all_cons] at he
      simp only [bc_t (show (0 : Int) ≤ (i : Int) by omega), Int.toNat_natCast, byte1 (List.getElem?_eq_getElem hi), wi1 hi (by omega)]
      refine bc_dec (fun h1 => bc_dec (fun h2 => ?_) (fun h2 => ?_)) (fun h1 => ?_)
      · rw [dig_t (by omega), Bool.true_and] at he
        exact ⟨i + 1, ⟨hi, h6, he⟩, by show l.length - (i + 1) < l.length - i; omega, rfl⟩
      · rw [dig_f (by omega), Bool.false_and] at he
        show [D.val (Value.bool false)] = [dB (okNum 6 l)]
        rw [he]
      · rw [dig_f (by omega), Bool.false_and] at he
        show [D.val (Value.bool false)] = [dB (okNum 6 l)]
        rw [he]
    · show (if 0 = 0 then _ else _)
      rw [if_pos rfl]
      show nIN2 _ _ _
      rw [nIN2_text]
      show [D.val (Value.bool true)] = [dB (okNum 6 l)]
      rw [he, List.drop_eq_nil_of_le (by omega)]; rfl
theorem conNO (l : List UInt8) (h6 : l.length ≤ 6) (hall : l.all isDig = true) : C5 60 [dS l] [dI (numF 0 l)] := by
  let inv : Nat → Prop := fun i => i ≤ l.length
  let st : Nat → Slots × Blocks := fun i => zNO1 (bs l) (numF 0 (l.take i)) l.length i
  refine con_of (L := fun _ s b => ∃ x, inv x ∧ st x = (s, b)) hokG mixed Tryz.func60 rfl (by show 0 ≤ 400; omega) rfl (ids := [0]) (by kernel_rfl) rfl (fun caps => ?_) (fun id hid => ?_)
  · show gNO _ _ (bs l) _
    rw [gNO_text]
    simp only [bs_size]
    exact ⟨0, Nat.zero_le _, rfl⟩
  · obtain rfl := List.mem_singleton.1 hid
    refine ⟨Nat, st, inv, fun x => l.length - x, ⟨fun s b h => h, by kernel_rfl, ?_⟩⟩
    intro i hb
    have hb : i ≤ l.length := hb
    show rNO1 _ _ (bs l) (numF 0 (l.take i)) l.length i _ _ _
    rw [rNO1_text]
    refine bc_dec (fun h => ?_) (fun h => ?_)
    · have hi : i < l.length := by omega
      simp only [bc_t (show (0 : Int) ≤ (i : Int) by omega), Int.toNat_natCast, byte1 (List.getElem?_eq_getElem hi), wi1 hi (by omega)]
      have hd : isDig l[i] = true := List.all_eq_true.1 hall _ (List.getElem_mem hi)
      have hd2 : 48 ≤ l[i].toNat ∧ l[i].toNat ≤ 57 := by simpa [isDig] using hd
      have ht := numF_ge (l.take i) 0 (by decide) (List.all_eq_true.2 fun x hx => List.all_eq_true.1 hall x (List.mem_of_mem_take hx))
      have hp : (10 : Int) ^ (l.take i).length ≤ 10 ^ 6 := pow10_le (by rw [List.length_take]; omega)
      have h10 : (10 : Int) ^ 6 = 1000000 := by decide
      rw [h10] at hp
      have e : numF 0 (l.take (i + 1)) = 10 * numF 0 (l.take i) + ((l[i].toNat : Int) - 48) := by
        rw [List.take_succ_eq_append_getElem hi, numF_append, numF_cons, numF_nil]
      refine ⟨i + 1, hi, by show l.length - (i + 1) < l.length - i; omega, ?_⟩
      show zNO1 (bs l) (numF 0 (l.take (i + 1))) l.length ((i + 1 : Nat) : Int) = _
      have e8 : IntKind.wrap .u8 ((l[i].toNat : Int) - 48) = (l[i].toNat : Int) - 48 := by rw [IntKind.wrap_u8]; omega
      rw [e, e8, w64 (z := (l[i].toNat : Int) - 48) (by omega) (by omega), w64 (z := 10 * numF 0 (l.take i)) (by omega) (by omega), w64 (by omega) (by omega)]
    · show (if 0 = 0 then _ else _)
      rw [if_pos rfl]
      show nNO2 _ _ _ _
      rw [nNO2_text]
      show [dI (numF 0 (l.take i))] = [dI (numF 0 l)]
      rw [List.take_of_length_le (by omega)]
theorem conNk (l : List UInt8) (hk : okNum 6 l = true) : C5 60 [dS l] [dI (numF 0 l)] := conNO l (okNum_inv hk).2.1 (okNum_inv hk).2.2.2
theorem conN0 : C5 60 [dS []] [dI 0] := conNO [] (by decide) rfl
theorem conWN (lo hi : Int) (n : Int) : C5 34 [dI lo, dI hi, .sl 1 1 [vI n]] [dB (decide (lo ≤ n) && decide (n ≤ hi))] := by
  let inv : Int → Prop := fun i => i = 0 ∨ (i = 1 ∧ lo ≤ n ∧ n ≤ hi)
  let st : Int × Nat → Slots × Blocks := fun x => zWI1 lo hi 1 x.2 1 x.1 [vI n]
  refine con_of (L := fun _ s b => ∃ x : Int × Nat, inv x.1 ∧ st x = (s, b)) hokG mixed Tryz.func34 rfl (by show 1 ≤ 400; omega) rfl (ids := [0]) (by kernel_rfl) rfl (fun caps => ?_) (fun id hid => ?_)
  · show gWI _ _ lo hi 1 (caps 500) [vI n] _
    rw [gWI_text]
    exact ⟨(0, caps 500), .inl rfl, rfl⟩
  · obtain rfl := List.mem_singleton.1 hid
    refine ⟨Int × Nat, st, fun x => inv x.1, fun x => (1 - x.1).toNat, ⟨fun s b h => h, by kernel_rfl, ?_⟩⟩
    rintro ⟨i, c⟩ hx
    rcases hx with h | ⟨h, h1, h2⟩
    · have h : i = 0 := h
      subst h
      show rWI1 _ _ lo hi 1 c 1 0 [vI n] _ _ _
      rw [rWI1_text]
      have hat : At [vI n] (0 + Int.toNat 0 * 1) 1 [vI n] := ⟨by simp, rfl⟩
      refine bc_yes (by decide) (bc_yes (by decide) (bc_yes (by decide) ⟨n, hat, ?_⟩))
      refine bc_dec (fun h => ?_) (fun h => bc_dec (fun h2 => ?_) (fun h2 => ?_))
      · show [D.val (Value.bool false)] = [dB (decide (lo ≤ n) && decide (n ≤ hi))]
        rw [decide_eq_false (by omega : ¬ lo ≤ n)]; rfl
      · show [D.val (Value.bool false)] = [dB (decide (lo ≤ n) && decide (n ≤ hi))]
        rw [decide_eq_false (by omega : ¬ n ≤ hi)]; simp
      · exact ⟨(1, c), .inr ⟨rfl, by omega, by omega⟩, by show (1 - (1 : Int)).toNat < (1 - (0 : Int)).toNat; decide, rfl⟩
    · have h : i = 1 := h
      subst h
      show rWI1 _ _ lo hi 1 c 1 1 [vI n] _ _ _
      rw [rWI1_text]
      refine bc_no (by decide) ?_
      show (if 0 = 0 then _ else _)
      rw [if_pos rfl]
      show nWI2 _ _ _
      rw [nWI2_text]
      show [D.val (Value.bool true)] = [dB (decide (lo ≤ n) && decide (n ≤ hi))]
      rw [decide_eq_true h1, decide_eq_true h2]; rfl
theorem conPN (l : List UInt8) (hl : l.length < 4294967281) : C5 29 [dS l] [dI (readNum 6 l).1, dB (okNum 6 l)] := by
  refine con_flat hokG mixed Tryz.func29 rfl (by show 0 ≤ 400; omega) rfl (by kernel_rfl) (fun caps => ?_)
  show gPN _ _ (bs l) _
  rw [gPN_text]
  refine ⟨_, sayOr2 (conNu l 6 (by decide) hl) (fun h => bc_dec (fun h2 => ?_) (fun h2 => ?_)) (fun h => ?_)⟩
  · show [dI (readNum 6 l).1, D.val (Value.bool true)] = [dI (readNum 6 l).1, dB (okNum 6 l)]
    cases hk : okNum 6 l with
    | true => rfl
    | false => exact absurd (readNum_no hk h) (by omega)
  · show [dI (readNum 6 l).1, D.val (Value.bool false)] = [dI (readNum 6 l).1, dB (okNum 6 l)]
    cases hk : okNum 6 l with
    | true => rw [readNum_ok hk] at h2; exact absurd (numF_pos hk).1 h2
    | false => rfl
  · show [dI (readNum 6 l).1, D.val (Value.bool false)] = [dI (readNum 6 l).1, dB (okNum 6 l)]
    cases hk : okNum 6 l with
    | true => rw [readNum_ok hk] at h; cases h
    | false => rfl
theorem conIW (n : Int) : C5 32 [dI n] [dB (decide (500 ≤ n) && decide (n ≤ 2500))] := by
  refine con_flat hokG mixed Tryz.func32 rfl (by show 0 ≤ 400; omega) rfl (by kernel_rfl) (fun caps => ?_)
  show gIW _ _ n _
  rw [gIW_text]
  refine sayOr (conWi _ _ _) (fun h => ?_) (fun h => ?_)
  · show [D.val (Value.bool true)] = [dB _]
    rw [h]
  · show [D.val (Value.bool false)] = [dB _]
    rw [h]
/-- the error of a slab -/
def slabE (l : List UInt8) (g t w n : Int) : Int := if nameOK l = true then (if (decide (1 ≤ g) && decide (g ≤ 99)) = true ∧ (decide (1 ≤ t) && decide (t ≤ 300000)) = true ∧ (decide (500 ≤ w) && decide (w ≤ 2500)) = true ∧ (decide (1 ≤ n) && decide (n ≤ 20000)) = true then 0 else 2) else 4
abbrev dSl (l : List UInt8) (g t w n : Int) : D := .agg [dS l, dI g, dI t, dI w, dI n]
theorem conCS (l : List UInt8) (g t w n : Int) : C5 9 [dSl l g t w n] [dI (slabE l g t w n)] := by
  refine con_flat hokG mixed Tryz.func9 rfl (by show 0 ≤ 400; omega) rfl (by kernel_rfl) (fun caps => ?_)
  show gCS _ _ (bs l) g t w n _
  rw [gCS_text]
  refine sayOr (conIA l) (fun h0 => sayOr (conWN _ _ _) (fun h1 => sayOr (conWN _ _ _) (fun h2 => sayOr (conWN _ _ _) (fun h3 => sayOr (conWN _ _ _) (fun h4 => ?_) (fun h4 => ?_)) (fun h3 => ?_)) (fun h2 => ?_)) (fun h1 => ?_)) (fun h0 => ?_)
  · show [dI 0] = [dI (slabE l g t w n)]
    unfold slabE; rw [if_pos h0, if_pos ⟨h1, h2, h3, h4⟩]
  · show [dI 2] = [dI (slabE l g t w n)]
    unfold slabE; rw [if_pos h0, if_neg (fun h => by rw [h.2.2.2] at h4; cases h4)]
  · show [dI 2] = [dI (slabE l g t w n)]
    unfold slabE; rw [if_pos h0, if_neg (fun h => by rw [h.2.2.1] at h3; cases h3)]
  · show [dI 2] = [dI (slabE l g t w n)]
    unfold slabE; rw [if_pos h0, if_neg (fun h => by rw [h.2.1] at h2; cases h2)]
  · show [dI 2] = [dI (slabE l g t w n)]
    unfold slabE; rw [if_pos h0, if_neg (fun h => by rw [h.1] at h1; cases h1)]
  · show [dI 4] = [dI (slabE l g t w n)]
    unfold slabE; rw [if_neg (by rw [h0]; decide)]
theorem conSE (l : List UInt8) (g t w n : Int) : C5 8 [dSl l g t w n] [dI (slabE l g t w n)] := by
  refine con_flat hokG mixed Tryz.func8 rfl (by show 0 ≤ 400; omega) rfl (by kernel_rfl) (fun caps => ?_)
  show gSE _ _ (bs l) g t w n _
  rw [gSE_text]
  refine sayOr (conIN l) (fun h0 => sayOr (conWi _ _ _) (fun h1 => sayOr (conWi _ _ _) (fun h2 => sayOr (conIW _) (fun h3 => sayOr (conWi _ _ _) (fun h4 => ?_) (fun h4 => ?_)) (fun h3 => ?_)) (fun h2 => ?_)) (fun h1 => ?_)) (fun h0 => ?_)
  · show [dI 0] = [dI (slabE l g t w n)]
    unfold slabE; rw [if_pos h0, if_pos ⟨h1, h2, h3, h4⟩]
  · show [dI 2] = [dI (slabE l g t w n)]
    unfold slabE; rw [if_pos h0, if_neg (fun h => by rw [h.2.2.2] at h4; cases h4)]
  · show [dI 2] = [dI (slabE l g t w n)]
    unfold slabE; rw [if_pos h0, if_neg (fun h => by rw [h.2.2.1] at h3; cases h3)]
  · show [dI 2] = [dI (slabE l g t w n)]
    unfold slabE; rw [if_pos h0, if_neg (fun h => by rw [h.2.1] at h2; cases h2)]
  · show [dI 2] = [dI (slabE l g t w n)]
    unfold slabE; rw [if_pos h0, if_neg (fun h => by rw [h.1] at h1; cases h1)]
  · show [dI 4] = [dI (slabE l g t w n)]
    unfold slabE; rw [if_neg (by rw [h0]; decide)]
end Go.Proofs.G5t

/- Chapter 1: the string of a slab, and the slab with a string, in data. -/
namespace Go.Proofs.G5t
open Go Go.Abs Go.Proofs Go.Str
set_option maxRecDepth 100000
abbrev in64 (n : Int) : Prop := -9223372036854775808 ≤ n ∧ n ≤ 9223372036854775807
theorem empty_beq (l : List UInt8) : (ByteArray.toList (bs l) == ByteArray.toList { data := #[] }) = decide (l = []) := by
  rw [show ({ data := #[] } : ByteArray) = bs [] from rfl, bs_toList, bs_toList]
  cases l <;> rfl
theorem bc_nd {p : Prop} [Decidable p] {x y : Prop} : bcase (!decide p) x y = bcase (decide p) y x := by
  by_cases h : p
  · rw [decide_eq_true h]; rfl
  · rw [decide_eq_false h]; rfl
abbrev bad5 : (List UInt8 × Int × Int × Int × Int) × Int := (([], 0, 0, 0, 0), 7)
/-- the slab with a string, and the error -/
def psl (l : List UInt8) : (List UInt8 × Int × Int × Int × Int) × Int :=
  match cutA 32 [] l with
  | [a, b, c, d, e] => if a ≠ [] ∧ okNum 6 b = true ∧ okNum 6 c = true ∧ okNum 6 d = true ∧ okNum 6 e = true then (if slabE a (numF 0 b) (numF 0 c) (numF 0 d) (numF 0 e) = 0 then ((a, numF 0 b, numF 0 c, numF 0 d, numF 0 e), 0) else (([], 0, 0, 0, 0), slabE a (numF 0 b) (numF 0 c) (numF 0 d) (numF 0 e))) else bad5
  | _ => bad5
abbrev dP5 (x : List UInt8 × Int × Int × Int × Int) : D := dSl x.1 x.2.1 x.2.2.1 x.2.2.2.1 x.2.2.2.2
abbrev out5 (l : List UInt8) : List D := [dP5 (psl l).1, dI (psl l).2]
abbrev wrong5 : List D := [dSl [] 0 0 0 0, dI 7]
theorem psl_len {l : List UInt8} (h : (cutA 32 [] l).length ≠ 5) : wrong5 = out5 l := by
  have : psl l = bad5 := by
    unfold psl
    split
    · next e => rw [e] at h; exact absurd rfl h
    · rfl
  show wrong5 = [dP5 (psl l).1, dI (psl l).2]
  rw [this]
theorem psl_bad {l a b c d e : List UInt8} (h : cutA 32 [] l = [a, b, c, d, e]) (hn : ¬ (a ≠ [] ∧ okNum 6 b = true ∧ okNum 6 c = true ∧ okNum 6 d = true ∧ okNum 6 e = true)) : wrong5 = out5 l := by
  have : psl l = bad5 := by unfold psl; rw [h]; simp only; rw [if_neg hn]
  show wrong5 = [dP5 (psl l).1, dI (psl l).2]
  rw [this]
theorem psl_good {l a b c d e : List UInt8} (h : cutA 32 [] l = [a, b, c, d, e]) (hn : a ≠ [] ∧ okNum 6 b = true ∧ okNum 6 c = true ∧ okNum 6 d = true ∧ okNum 6 e = true) :
    psl l = if slabE a (numF 0 b) (numF 0 c) (numF 0 d) (numF 0 e) = 0 then ((a, numF 0 b, numF 0 c, numF 0 d, numF 0 e), 0) else (([], 0, 0, 0, 0), slabE a (numF 0 b) (numF 0 c) (numF 0 d) (numF 0 e)) := by
  unfold psl; rw [h]; simp only; rw [if_pos hn]
theorem at_n {xs : List (List UInt8)} {i : Nat} {x : List UInt8} (h : xs[i]? = some x) : At (strs xs) i 1 [str x] := by
  obtain ⟨hi, rfl⟩ := List.getElem?_eq_some_iff.1 h
  have := strs_at xs i hi
  rwa [Nat.zero_add, Nat.mul_one] at this
theorem wr1 : IntKind.wrap .i64 (0 + 1) = 1 := rfl
theorem wr2 : IntKind.wrap .i64 (1 + 1) = 2 := rfl
theorem wr3 : IntKind.wrap .i64 (2 + 1) = 3 := rfl
theorem wr4 : IntKind.wrap .i64 (3 + 1) = 4 := rfl
theorem wr5 : IntKind.wrap .i64 (4 + 1) = 5 := rfl
theorem conPS (l : List UInt8) (hl : l.length ≤ 1000) : C5 6 [dS l] (out5 l) := by
  refine con_walk (u := 8) hokG mixed (by decide) Tryz.func6 rfl (by show 0 ≤ 400; omega) (fun caps => ?_)
  show gPS _ (bs l) _
  rw [gPS_text]
  simp only [eq_self, true_and, and_true]
  refine .inr ⟨_, _, ⟨conSp l 32 (by omega)⟩, ?_⟩
  generalize hw : cutA 32 [] l = ws
  match ws, hw with
  | [], hw => exact absurd hw cutA_ne
  | [a], hw =>
    have hb := psl_len (l := l) (by rw [hw]; simp)
    have hn : (([a].length : Nat) : Int) = 1 := rfl
    have h0 : At (strs [a]) 0 1 [str a] := at_n rfl
    simp only [hn, wr1, wr2, wr3, wr4, wr5, atS h0, bc_t (show (0 : Int) < 1 by decide), bc_f (show ¬ (1 : Int) < 1 by decide), empty_beq, bc_nd, eq_self, true_and, and_true]
    repeat' first
      | exact hb
      | refine bc_dec (fun _ => ?_) (fun _ => ?_)
      | refine ⟨_, ⟨conN0⟩, ?_⟩
  | [a, b], hw =>
    have hb := psl_len (l := l) (by rw [hw]; simp)
    have hn : (([a, b].length : Nat) : Int) = 2 := rfl
    have h0 : At (strs [a, b]) 0 1 [str a] := at_n rfl
    have h1 : At (strs [a, b]) 1 1 [str b] := at_n rfl
    simp only [hn, wr1, wr2, wr3, wr4, wr5, atS h0, atS h1, bc_t (show (0 : Int) < 2 by decide), bc_t (show (1 : Int) < 2 by decide), bc_f (show ¬ (2 : Int) < 2 by decide), empty_beq, bc_nd, eq_self, true_and, and_true]
    repeat' first
      | exact hb
      | refine bc_dec (fun _ => ?_) (fun _ => ?_)
      | refine sayOr (conIM _) (fun _ => ?_) (fun _ => ?_)
      | refine ⟨_, ⟨conN0⟩, ?_⟩
      | refine ⟨_, ⟨conNk _ (by assumption)⟩, ?_⟩
  | [a, b, c], hw =>
    have hb := psl_len (l := l) (by rw [hw]; simp)
    have hn : (([a, b, c].length : Nat) : Int) = 3 := rfl
    have h0 : At (strs [a, b, c]) 0 1 [str a] := at_n rfl
    have h1 : At (strs [a, b, c]) 1 1 [str b] := at_n rfl
    have h2 : At (strs [a, b, c]) 2 1 [str c] := at_n rfl
    simp only [hn, wr1, wr2, wr3, wr4, wr5, atS h0, atS h1, atS h2, bc_t (show (0 : Int) < 3 by decide), bc_t (show (1 : Int) < 3 by decide), bc_t (show (2 : Int) < 3 by decide), bc_f (show ¬ (3 : Int) < 3 by decide), empty_beq, bc_nd, eq_self, true_and, and_true]
    repeat' first
      | exact hb
      | refine bc_dec (fun _ => ?_) (fun _ => ?_)
      | refine sayOr (conIM _) (fun _ => ?_) (fun _ => ?_)
      | refine ⟨_, ⟨conN0⟩, ?_⟩
      | refine ⟨_, ⟨conNk _ (by assumption)⟩, ?_⟩
  | [a, b, c, d], hw =>
    have hb := psl_len (l := l) (by rw [hw]; simp)
    have hn : (([a, b, c, d].length : Nat) : Int) = 4 := rfl
    have h0 : At (strs [a, b, c, d]) 0 1 [str a] := at_n rfl
    have h1 : At (strs [a, b, c, d]) 1 1 [str b] := at_n rfl
    have h2 : At (strs [a, b, c, d]) 2 1 [str c] := at_n rfl
    have h3 : At (strs [a, b, c, d]) 3 1 [str d] := at_n rfl
    simp only [hn, wr1, wr2, wr3, wr4, wr5, atS h0, atS h1, atS h2, atS h3, bc_t (show (0 : Int) < 4 by decide), bc_t (show (1 : Int) < 4 by decide), bc_t (show (2 : Int) < 4 by decide), bc_t (show (3 : Int) < 4 by decide), bc_f (show ¬ (4 : Int) < 4 by decide), empty_beq, bc_nd, eq_self, true_and, and_true]
    repeat' first
      | exact hb
      | refine bc_dec (fun _ => ?_) (fun _ => ?_)
      | refine sayOr (conIM _) (fun _ => ?_) (fun _ => ?_)
      | refine ⟨_, ⟨conN0⟩, ?_⟩
      | refine ⟨_, ⟨conNk _ (by assumption)⟩, ?_⟩
  | [a, b, c, d, e], hw =>
    have hn : (([a, b, c, d, e].length : Nat) : Int) = 5 := rfl
    have h0 : At (strs [a, b, c, d, e]) 0 1 [str a] := at_n rfl
    have h1 : At (strs [a, b, c, d, e]) 1 1 [str b] := at_n rfl
    have h2 : At (strs [a, b, c, d, e]) 2 1 [str c] := at_n rfl
    have h3 : At (strs [a, b, c, d, e]) 3 1 [str d] := at_n rfl
    have h4 : At (strs [a, b, c, d, e]) 4 1 [str e] := at_n rfl
    have hb := psl_bad hw
    have fin : (a ≠ [] ∧ okNum 6 b = true ∧ okNum 6 c = true ∧ okNum 6 d = true ∧ okNum 6 e = true) → ∃ n, Says C5 9 [dSl a (numF 0 b) (numF 0 c) (numF 0 d) (numF 0 e)] [dI n] ∧ bcase (n != 0) ([dSl [] 0 0 0 0, dI n] = out5 l) ([dSl a (numF 0 b) (numF 0 c) (numF 0 d) (numF 0 e), dI 0] = out5 l) := fun hk => by
      have hg := psl_good hw hk
      refine ⟨_, ⟨conCS a _ _ _ _⟩, bc_bne (fun hs => ?_) (fun hs => ?_)⟩
      · rw [if_neg hs] at hg
        show [dSl [] 0 0 0 0, dI _] = [dP5 (psl l).1, dI (psl l).2]
        rw [hg]
      · rw [if_pos hs] at hg
        show [dSl a _ _ _ _, dI 0] = [dP5 (psl l).1, dI (psl l).2]
        rw [hg]
    simp only [hn, wr1, wr2, wr3, wr4, wr5, atS h0, atS h1, atS h2, atS h3, atS h4, bc_t (show (0 : Int) < 5 by decide), bc_t (show (1 : Int) < 5 by decide), bc_t (show (2 : Int) < 5 by decide), bc_t (show (3 : Int) < 5 by decide), bc_t (show (4 : Int) < 5 by decide), bc_f (show ¬ (5 : Int) < 5 by decide), empty_beq, bc_nd, eq_self, true_and, and_true]
    repeat' first
      | exact hb (by simp [*])
      | refine bc_dec (fun _ => ?_) (fun _ => ?_)
      | refine sayOr (conIM _) (fun _ => ?_) (fun _ => ?_)
      | refine ⟨_, ⟨conN0⟩, ?_⟩
      | refine ⟨_, ⟨conNk _ (by assumption)⟩, ?_⟩
      | exact fin ⟨by assumption, by assumption, by assumption, by assumption, by assumption⟩
  | a :: b :: c :: d :: e :: f :: r, hw =>
    have hb := psl_len (l := l) (by rw [hw]; simp)
    have hn : (((a :: b :: c :: d :: e :: f :: r).length : Nat) : Int) = (r.length : Int) + 6 := by simp only [List.length_cons]; omega
    have h0 : At (strs (a :: b :: c :: d :: e :: f :: r)) 0 1 [str a] := at_n rfl
    have h1 : At (strs (a :: b :: c :: d :: e :: f :: r)) 1 1 [str b] := at_n rfl
    have h2 : At (strs (a :: b :: c :: d :: e :: f :: r)) 2 1 [str c] := at_n rfl
    have h3 : At (strs (a :: b :: c :: d :: e :: f :: r)) 3 1 [str d] := at_n rfl
    have h4 : At (strs (a :: b :: c :: d :: e :: f :: r)) 4 1 [str e] := at_n rfl
    simp only [hn, wr1, wr2, wr3, wr4, wr5, atS h0, atS h1, atS h2, atS h3, atS h4, bc_t (show (0 : Int) < (r.length : Int) + 6 by omega), bc_t (show (1 : Int) < (r.length : Int) + 6 by omega), bc_t (show (2 : Int) < (r.length : Int) + 6 by omega), bc_t (show (3 : Int) < (r.length : Int) + 6 by omega), bc_t (show (4 : Int) < (r.length : Int) + 6 by omega), bc_t (show (5 : Int) < (r.length : Int) + 6 by omega), empty_beq, bc_nd, eq_self, true_and, and_true]
    repeat' first
      | exact hb
      | refine bc_dec (fun _ => ?_) (fun _ => ?_)
      | refine sayOr (conIM _) (fun _ => ?_) (fun _ => ?_)
      | refine ⟨_, ⟨conN0⟩, ?_⟩
      | refine ⟨_, ⟨conNk _ (by assumption)⟩, ?_⟩
end Go.Proofs.G5t

/- Chapter 1: slabs and their strings, the law. -/
namespace Go.Proofs.G5t
open Go Go.Abs Go.Proofs Go.Str
set_option maxRecDepth 100000
theorem bc_sz {x y : List UInt8} {K N : Prop} (h : x.length + y.length ≤ 9223372036854775807) : bcase (decide (ByteArray.size (bs x) + ByteArray.size (bs y) ≤ 9223372036854775807)) K N = K := bc_t (by rw [bs_size, bs_size]; exact h)
theorem bc_s1 {x : List UInt8} {K N : Prop} (h : x.length + 1 ≤ 9223372036854775807) : bcase (decide (ByteArray.size (bs x) + 1 ≤ 9223372036854775807)) K N = K := bc_t (by rw [bs_size]; exact h)
theorem join5 (a b c d e : List UInt8) : Lib.join [a, b, c, d, e] [32] = a ++ 32 :: (b ++ 32 :: (c ++ 32 :: (d ++ 32 :: e))) := by
  rw [show [a, b, c, d, e] = [a, b, c, d] ++ [e] from rfl, join_snoc (by simp), show [a, b, c, d] = [a, b, c] ++ [d] from rfl, join_snoc (by simp), show [a, b, c] = [a, b] ++ [c] from rfl, join_snoc (by simp), show [a, b] = [a] ++ [b] from rfl, join_snoc (by simp)]
  simp [Lib.join]
/-- the string of a slab -/
def fm5 (l : List UInt8) (g t w n : Int) : List UInt8 := l ++ 32 :: (Lib.itoa g ++ 32 :: (Lib.itoa t ++ 32 :: (Lib.itoa w ++ 32 :: Lib.itoa n)))
theorem fm5_len (l : List UInt8) (g t w n : Int) (hg : in64 g) (ht : in64 t) (hw : in64 w) (hn : in64 n) : (fm5 l g t w n).length ≤ l.length + 88 := by
  have w1 := Lib.itoa_length_le g hg.1 hg.2
  have w2 := Lib.itoa_length_le t ht.1 ht.2
  have w3 := Lib.itoa_length_le w hw.1 hw.2
  have w4 := Lib.itoa_length_le n hn.1 hn.2
  simp only [fm5, List.length_append, List.length_cons]; omega
theorem conFS (l : List UInt8) (g t w n : Int) (hg : in64 g) (ht : in64 t) (hw : in64 w) (hn : in64 n) (hl : l.length ≤ 1000) : C5 5 [dSl l g t w n] [dS (fm5 l g t w n)] := by
  have hfl := fm5_len l g t w n hg ht hw hn
  refine con_walk (u := 8) hokG mixed (by decide) Tryz.func5 rfl (by show 0 ≤ 400; omega) (fun caps => ?_)
  show gFS _ (bs l) g t w n _
  rw [gFS_text]
  have hJ := conJn [l, Lib.itoa g, Lib.itoa t, Lib.itoa w, Lib.itoa n] 32 (by show 5 ≤ 140737488355328; omega) (by rw [join5]; exact Nat.le_trans hfl (by omega))
  rw [join5] at hJ
  exact ⟨_, ⟨conIt g hg.1 hg.2⟩, _, ⟨conIt t ht.1 ht.2⟩, _, ⟨conIt w hw.1 hw.2⟩, _, ⟨conIt n hn.1 hn.2⟩, _, ⟨hJ⟩, rfl⟩
theorem conRF (l : List UInt8) (g t w n : Int) (hg : in64 g) (ht : in64 t) (hw : in64 w) (hn : in64 n) (hl : l.length ≤ 1000) : C5 10 [dSl l g t w n] [dS (fm5 l g t w n)] := by
  have w1 := Lib.itoa_length_le g hg.1 hg.2
  have w2 := Lib.itoa_length_le t ht.1 ht.2
  have w3 := Lib.itoa_length_le w hw.1 hw.2
  have w4 := Lib.itoa_length_le n hn.1 hn.2
  refine con_flat hokG mixed Tryz.func10 rfl (by show 0 ≤ 400; omega) rfl (by kernel_rfl) (fun caps => ?_)
  show gRF _ _ (bs l) g t w n _
  rw [gRF_text]
  simp (disch := first | omega | (simp only [List.length_append, List.length_cons, List.length_nil]; omega)) only [bc_s1, eq_self, true_and, lit_bs, bs_append]
  refine ⟨_, ⟨conDe g hg.1 hg.2⟩, ?_⟩
  simp (disch := first | omega | (simp only [List.length_append, List.length_cons, List.length_nil]; omega)) only [bc_sz, bc_s1, true_and, bs_append]
  refine ⟨_, ⟨conDe t ht.1 ht.2⟩, ?_⟩
  simp (disch := first | omega | (simp only [List.length_append, List.length_cons, List.length_nil]; omega)) only [bc_sz, bc_s1, true_and, bs_append]
  refine ⟨_, ⟨conDe w hw.1 hw.2⟩, ?_⟩
  simp (disch := first | omega | (simp only [List.length_append, List.length_cons, List.length_nil]; omega)) only [bc_sz, bc_s1, true_and, bs_append]
  refine ⟨_, ⟨conDe n hn.1 hn.2⟩, ?_⟩
  simp (disch := first | omega | (simp only [List.length_append, List.length_cons, List.length_nil]; omega)) only [bc_sz, true_and, bs_append]
  show [dS _] = [dS (fm5 l g t w n)]
  simp [fm5]
theorem conRP (l : List UInt8) (hl : l.length ≤ 1000) : C5 7 [dS l] (out5 l) := by
  refine con_walk (u := 8) hokG mixed (by decide) Tryz.func7 rfl (by show 0 ≤ 400; omega) (fun caps => ?_)
  show gRP _ (bs l) _
  rw [gRP_text]
  simp only [eq_self, true_and, and_true]
  refine .inr ⟨_, _, ⟨conCu l 32 (by omega)⟩, ?_⟩
  by_cases h5 : (cutA 32 [] l).length = 5
  · have hm : ∀ x ∈ cutA 32 [] l, x.length < 4294967281 := fun x hx => by have := cutA_le x hx; simp at this; omega
    generalize hw : cutA 32 [] l = ws
    rw [hw] at h5 hm
    match ws, hw, h5, hm with
    | [a, b, c, d, e], hw, _, hm =>
      have hn : (([a, b, c, d, e].length : Nat) : Int) = 5 := rfl
      have h0 : At (strs [a, b, c, d, e]) 0 1 [str a] := at_n rfl
      have h1 : At (strs [a, b, c, d, e]) 1 1 [str b] := at_n rfl
      have h2 : At (strs [a, b, c, d, e]) 2 1 [str c] := at_n rfl
      have h3 : At (strs [a, b, c, d, e]) 3 1 [str d] := at_n rfl
      have h4 : At (strs [a, b, c, d, e]) 4 1 [str e] := at_n rfl
      have hb := psl_bad hw
      simp only [hn, wr2, wr3, wr4, atS h0, atS h1, atS h2, atS h3, atS h4, bc_t (show (0 : Int) < 5 by decide), bc_t (show (1 : Int) < 5 by decide), bc_t (show (2 : Int) < 5 by decide), bc_t (show (3 : Int) < 5 by decide), bc_t (show (4 : Int) < 5 by decide), empty_beq, eq_self, and_true]
      refine bc_bne (fun h => absurd rfl h) (fun _ => bc_dec (fun ha => hb (by simp [ha])) (fun ha => ?_))
      refine ⟨_, sayOr2 (conPN b (hm b (by simp))) (fun kb => ⟨_, sayOr2 (conPN c (hm c (by simp))) (fun kc => ⟨_, sayOr2 (conPN d (hm d (by simp))) (fun kd => ⟨_, sayOr2 (conPN e (hm e (by simp))) (fun ke => ?_) (fun ke => hb (by simp [ke]))⟩) (fun kd => hb (by simp [kd]))⟩) (fun kc => hb (by simp [kc]))⟩) (fun kb => hb (by simp [kb]))⟩
      have hg := psl_good hw ⟨ha, kb, kc, kd, ke⟩
      rw [show (readNum 6 b).1 = numF 0 b by rw [readNum_ok kb], show (readNum 6 c).1 = numF 0 c by rw [readNum_ok kc], show (readNum 6 d).1 = numF 0 d by rw [readNum_ok kd], show (readNum 6 e).1 = numF 0 e by rw [readNum_ok ke]]
      have q0 : At [vI (numF 0 b), vI (numF 0 c), vI (numF 0 d), vI (numF 0 e)] 0 1 [vI (numF 0 b)] := ⟨by simp, rfl⟩
      have q1 : At [vI (numF 0 b), vI (numF 0 c), vI (numF 0 d), vI (numF 0 e)] 1 1 [vI (numF 0 c)] := ⟨by simp, rfl⟩
      have q2 : At [vI (numF 0 b), vI (numF 0 c), vI (numF 0 d), vI (numF 0 e)] 2 1 [vI (numF 0 d)] := ⟨by simp, rfl⟩
      have q3 : At [vI (numF 0 b), vI (numF 0 c), vI (numF 0 d), vI (numF 0 e)] 3 1 [vI (numF 0 e)] := ⟨by simp, rfl⟩
      simp only [at1 q0, at1 q1, at1 q2, at1 q3, eq_self, true_and]
      refine ⟨_, ⟨conSE a _ _ _ _⟩, bc_bne (fun hs => ?_) (fun hs => ?_)⟩
      · rw [if_neg hs] at hg
        show [dSl [] 0 0 0 0, dI _] = [dP5 (psl l).1, dI (psl l).2]
        rw [hg]
      · rw [if_pos hs] at hg
        show [dSl a _ _ _ _, dI 0] = [dP5 (psl l).1, dI (psl l).2]
        rw [hg]
  · exact bc_bne (fun _ => psl_len h5) (fun h => absurd h (by omega))
theorem ba_beq (x : ByteArray) : (x == x) = true := by
  cases x with
  | mk d => show (d == d) = true; simp
theorem bsame {x : List UInt8} {K T : Prop} (ht : T) : bcase (!x == x) K T := bc_false (by simp) ht
theorem itoa_free {n : Int} {c : UInt8} (h1 : isDig c = false) (h2 : c ≠ 45) : c ∉ Lib.itoa n := by
  intro hm
  rcases Int.lt_or_le n 0 with hn | hn
  · rw [itoa_ng hn] at hm
    rcases List.mem_cons.1 hm with e | hm
    · exact h2 e
    · have := List.all_eq_true.1 (dec_all _ _ (Nat.le_refl n.natAbs)) c hm
      rw [h1] at this; cases this
  · rw [itoa_nn hn] at hm
    have := List.all_eq_true.1 (dec_all _ _ (Nat.le_refl n.toNat)) c hm
    rw [h1] at this; cases this
theorem name_free {l : List UInt8} (h : nameOK l = true) : (32 : UInt8) ∉ l ∧ l ≠ [] := by
  unfold nameOK at h
  simp only [Bool.and_eq_true] at h
  constructor
  · intro hm
    have := List.all_eq_true.1 h.2 32 hm
    revert this; decide
  · rintro rfl
    exact absurd h.1.1.1 (by decide)
theorem num_dec {n : Int} (h0 : 0 ≤ n) (h1 : n ≤ 300000) : okNum 6 (Lib.itoa n) = true ∧ numF 0 (Lib.itoa n) = n := by
  rw [itoa_nn h0]
  exact ⟨okNum_dec (dec_len 6 _ (by decide) (by omega)), by rw [dec_num _ _ (Nat.le_refl _)]; omega⟩
theorem slab0 {l : List UInt8} {g t w n : Int} (h : slabE l g t w n = 0) : nameOK l = true ∧ (1 ≤ g ∧ g ≤ 99) ∧ (1 ≤ t ∧ t ≤ 300000) ∧ (500 ≤ w ∧ w ≤ 2500) ∧ 1 ≤ n ∧ n ≤ 20000 := by
  unfold slabE at h
  split at h
  · next h1 =>
    split at h
    · next h2 =>
      simp only [Bool.and_eq_true, decide_eq_true_eq] at h2
      exact ⟨h1, h2⟩
    · cases h
  · cases h
theorem psl_fm {l : List UInt8} {g t w n : Int} (h : slabE l g t w n = 0) : psl (fm5 l g t w n) = ((l, g, t, w, n), 0) := by
  obtain ⟨h1, h2, h3, h4, h5⟩ := slab0 h
  have hn := name_free h1
  have hc : cutA 32 [] (fm5 l g t w n) = [l, Lib.itoa g, Lib.itoa t, Lib.itoa w, Lib.itoa n] := by
    unfold fm5
    rw [← join5]
    refine cutA_join (by simp) (fun x hx => ?_)
    simp only [List.mem_cons, List.not_mem_nil, or_false] at hx
    rcases hx with rfl | rfl | rfl | rfl | rfl
    · exact hn.1
    all_goals exact itoa_free (by decide) (by decide)
  have a1 := num_dec (n := g) (by omega) (by omega)
  have a2 := num_dec (n := t) (by omega) (by omega)
  have a3 := num_dec (n := w) (by omega) (by omega)
  have a4 := num_dec (n := n) (by omega) (by omega)
  rw [psl_good hc ⟨hn.2, a1.1, a2.1, a3.1, a4.1⟩, a1.2, a2.2, a3.2, a4.2, if_pos h]
theorem lawS (hA : C5 4 [] [.val (.bool true)]) (l : List UInt8) (g t w n : Int) (hg : in64 g) (ht : in64 t) (hw : in64 w) (hn : in64 n) (s : List UInt8) : C5 3 [dSl l g t w n, dS s] [dB true] := by
  refine con_flat hokG mixed Tryz.func3 rfl (by show 0 ≤ 400; omega) rfl (by kernel_rfl) (fun caps => ?_)
  show gLw _ _ (bs l) g t w n (bs s) _
  rw [gLw_text]
  simp only [bs_size]
  refine .inl ⟨⟨hA⟩, bc_dec (fun _ => trivial) (fun h1 => bc_dec (fun _ => trivial) (fun h2 => ?_))⟩
  have hl : l.length ≤ 1000 := by omega
  have hs : s.length ≤ 1000 := by omega
  have hf := fm5_len l g t w n hg ht hw hn
  refine ⟨_, ⟨conFS l g t w n hg ht hw hn hl⟩, _, _, _, _, _, _, ⟨conPS s hs⟩, _, _, _, _, _, _, ⟨conRP s hs⟩, _, ⟨conSE l g t w n⟩, _, ⟨conCS l g t w n⟩, bc_bne (fun h => absurd rfl h) (fun _ => ⟨_, ⟨conRF l g t w n hg ht hw hn hl⟩, ?_⟩)⟩
  rw [bs_toList]
  refine bsame (bc_bne (fun h => absurd rfl h) (fun _ => ?_))
  simp only [ba_beq, beq_self_eq_true, Bool.and_self, Bool.not_true]
  refine bc_bne (fun _ => trivial) (fun h0 => ?_)
  have c3 := conPS (fm5 l g t w n) (by omega)
  unfold out5 at c3
  rw [psl_fm h0] at c3
  refine ⟨_, _, _, _, _, _, ⟨c3⟩, bc_beq (fun _ => ?_) (fun h => absurd rfl h)⟩
  simp only [ba_beq, beq_self_eq_true, Bool.and_self]
  exact trivial
end Go.Proofs.G5t
