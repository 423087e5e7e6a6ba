/- Texts of the proof, put together: GuSG2, GuSG3, AbsJ, AbsJ2, AbsJ3, GqT1, GqW, GqT2, G5S, G5B, GqC, GqI, GqT4, AbsInsD, GqT6, GqT7, AbsNum, AbsLow, GqF, GqO, GqQR, GqR, AbsIns. -/
import Derived.Test.YtldjkahfgfpjaaaGreatDoorP5
import Derived.Test.YtldjkahfgfpjaaaGreatDoorP2
import Derived.Test.YtldjkahfgfpjaaaGreatDoorP3
import Derived.Test.YtldjkahfgfpjaaaGreatDoorP4
import Derived.Test.YtldjkahfgfpjaaaGreatDoorProg
import Derived.Shelf.Spec.SlicesInsert
import Derived.Laws.IdiomCopy
/- Chapter 5: the string of a loop; ends and ranges that are read. -/
namespace Go.Proofs.G5u
open Go Go.Abs Go.Proofs Go.Str
set_option maxRecDepth 100000
theorem vp_sndB (l : List Pr) (i : Nat) (h : i < l.length) (b : Nat) : At (vp l) (Addr.off ⟨b, 0 + i * 2, none⟩ + 1) 1 [.int .i64 l[i].2] := vp_snd l i h
def in64 (l : List Pr) : Prop := ∀ p ∈ l, (-9223372036854775808 ≤ p.1 ∧ p.1 ≤ 9223372036854775807) ∧ -9223372036854775808 ≤ p.2 ∧ p.2 ≤ 9223372036854775807
/-- the word of a range -/
def wr (p : Pr) : List UInt8 := Lib.itoa p.1 ++ 32 :: Lib.itoa p.2
def fms (l : List Pr) : List UInt8 := Lib.join (l.map wr) [44]
theorem wr_len {p : Pr} (h : (-9223372036854775808 ≤ p.1 ∧ p.1 ≤ 9223372036854775807) ∧ -9223372036854775808 ≤ p.2 ∧ p.2 ≤ 9223372036854775807) : (wr p).length ≤ 43 := by
  have h1 := Lib.itoa_length_le p.1 h.1.1 h.1.2
  have h2 := Lib.itoa_length_le p.2 h.2.1 h.2.2
  simp [wr]; omega
theorem fms_len {l : List Pr} (h : in64 l) : (fms l).length ≤ 44 * l.length := by
  have := join_le (c := 44) (k := 43) (xs := l.map wr) (fun x hx => by
    obtain ⟨p, hp, rfl⟩ := List.mem_map.1 hx
    exact wr_len (h p hp))
  simpa [fms] using this
theorem fms_snoc {l : List Pr} {p : Pr} : fms (l ++ [p]) = if l = [] then wr p else fms l ++ 44 :: wr p := by
  cases l with
  | nil => simp [fms, Lib.join_one]
  | cons q r =>
    rw [if_neg (by simp)]
    unfold fms
    rw [List.map_append]
    exact join_snoc (by simp)
theorem in64_take {l : List Pr} (h : in64 l) (i : Nat) : in64 (l.take i) := fun p hp => h p (List.mem_of_mem_take hp)
theorem lit_bs (b : UInt8) : ({ data := #[b] } : ByteArray) = bs [b] := rfl
/-- the string of a loop -/
def fmg (l : List Pr) (den : Int) : List UInt8 := Lib.itoa den ++ 59 :: fms l
theorem conFL (l : List Pr) (den : Int) (hd : -9223372036854775808 ≤ den ∧ den ≤ 9223372036854775807) (hb : in64 l) (hlen : l.length ≤ 1000) : C5 6 [dL l den] [dS (fmg l den)] := by
  let inv : Nat × Nat → Prop := fun x => x.1 ≤ l.length
  let st : Nat × Nat → Slots × Blocks := fun x => match x.1 with
    | 0 => zFL1 l.length x.2 l.length 0 l.length x.2 den (vp l)
    | i + 1 => zFL2 (i + 1) l.length x.2 l.length ((i + 1 : Nat) : Int) l.length x.2 den (strs ((l.take (i + 1)).map wr)) (vp l)
  refine con_of (L := fun _ s b => ∃ x, inv x ∧ st x = (s, b)) hokG mixed Tryz.func6 rfl (by show 1 ≤ 400; omega) rfl (ids := [0]) (by kernel_rfl) rfl (fun caps => ?_) (fun id hid => ?_)
  · show gFL _ _ l.length (caps 500) (vp l) den _
    rw [gFL_text]
    exact ⟨(0, caps 500), Nat.zero_le _, rfl⟩
  · obtain rfl := List.mem_singleton.1 hid
    refine ⟨Nat × Nat, st, inv, fun x => l.length - x.1, ⟨fun s b h => h, by kernel_rfl, ?_⟩⟩
    rintro ⟨i, cap⟩ hi
    have hi : i ≤ l.length := hi
    cases i with
    | zero =>
      show rFL1 _ _ l.length cap l.length 0 l.length cap den (vp l) _ _ _
      rw [rFL1_text]
      refine bc_dec (fun h => ?_) (fun h => ?_)
      · have hi' : 0 < l.length := by omega
        have hp := hb l[0] (List.getElem_mem hi')
        have w1 := Lib.itoa_length_le l[0].1 hp.1.1 hp.1.2
        have w2 := Lib.itoa_length_le l[0].2 hp.2.1 hp.2.2
        refine bc_yes (by decide) (bc_yes h ?_)
        rw [show (0 + Int.toNat 0 * 2) = 0 + 0 * 2 from rfl, at2 (vp_two l 0 hi')]
        simp only [eq_self, true_and, and_true]
        refine ⟨_, ⟨conIt _ hp.1.1 hp.1.2⟩, ?_⟩
        have b1 : ByteArray.size (bs (Lib.itoa l[0].1)) + 1 ≤ 9223372036854775807 := by rw [bs_size]; omega
        simp only [bc_t b1, true_and, lit_bs, bs_append]
        refine ⟨_, ⟨conIt _ hp.2.1 hp.2.2⟩, ?_⟩
        have b2 : ByteArray.size (bs (Lib.itoa l[0].1 ++ [32])) + ByteArray.size (bs (Lib.itoa l[0].2)) ≤ 9223372036854775807 := by rw [bs_size, bs_size]; simp; omega
        simp only [bc_t b2, true_and, bs_append]
        refine ⟨(1, cap), hi', by show l.length - 1 < l.length - 0; omega, ?_⟩
        show zFL2 1 l.length cap l.length 1 l.length cap den (strs ((l.take 1).map wr)) (vp l) = _
        have e : l.take 1 = [l[0]] := by rw [List.take_succ_eq_append_getElem hi']; rfl
        rw [e]
        simp only [List.map_cons, List.map_nil, wr, List.append_assoc]
        rfl
      · show (if 0 = 0 then _ else _)
        rw [if_pos rfl]
        show nFL3 _ _ l.length cap den (vp l) _
        rw [nFL3_text]
        have hl0 : l = [] := List.length_eq_zero_iff.1 (by omega)
        have wd := Lib.itoa_length_le den hd.1 hd.2
        refine ⟨_, ⟨conIt den hd.1 hd.2⟩, bc_yes (by rw [bs_size]; omega) ⟨_, ⟨conJz 44⟩, ?_⟩⟩
        simp only [lit_bs, bs_append]
        refine bc_yes (by rw [bs_size, bs_size]; simp; omega) ?_
        rw [hl0]
        show [dS (Lib.itoa den ++ [59] ++ [])] = [dS (fmg [] den)]
        simp [fmg, fms, Lib.join_nil]
    | succ i =>
      show rFL2 _ _ (i + 1) l.length cap l.length ((i + 1 : Nat) : Int) l.length cap den (strs ((l.take (i + 1)).map wr)) (vp l) _ _ _
      rw [rFL2_text]
      have hsl : ((l.take (i + 1)).map wr).length = i + 1 := by simp; omega
      have hw : List.take ((i + 1) * 1) (List.drop 0 (strs ((l.take (i + 1)).map wr))) = strs ((l.take (i + 1)).map wr) := by
        have := strs_whole ((l.take (i + 1)).map wr); rw [hsl] at this; exact this
      have hq1 : 0 + (i + 1) * 1 ≤ (strs ((l.take (i + 1)).map wr)).length := by rw [strs_length, hsl]; omega
      have hq2 : 0 + (i + 1) * 1 = (strs ((l.take (i + 1)).map wr)).length := by rw [strs_length, hsl]; omega
      refine bc_dec (fun h => ?_) (fun h => ?_)
      · have hi' : i + 1 < l.length := by omega
        have hp := hb l[i + 1] (List.getElem_mem hi')
        have w1 := Lib.itoa_length_le l[i + 1].1 hp.1.1 hp.1.2
        have w2 := Lib.itoa_length_le l[i + 1].2 hp.2.1 hp.2.2
        simp only [bc_t (show (0 : Int) ≤ ((i + 1 : Nat) : Int) by omega), bc_t h, Int.toNat_natCast, at2 (vp_two l (i + 1) hi'), eq_self, true_and, and_true, wi1 hi' (by omega)]
        refine ⟨_, ⟨conIt _ hp.1.1 hp.1.2⟩, ?_⟩
        have b1 : ByteArray.size (bs (Lib.itoa l[i + 1].1)) + 1 ≤ 9223372036854775807 := by rw [bs_size]; omega
        simp only [bc_t b1, true_and, lit_bs, bs_append]
        refine ⟨_, ⟨conIt _ hp.2.1 hp.2.2⟩, ?_⟩
        have b2 : ByteArray.size (bs (Lib.itoa l[i + 1].1 ++ [32])) + ByteArray.size (bs (Lib.itoa l[i + 1].2)) ≤ 9223372036854775807 := by rw [bs_size, bs_size]; simp; omega
        simp only [bc_t b2, true_and, bs_append, bc_t (Nat.lt_succ_self (i + 1)), bc_t (show (2 * (i + 1 + 1) + 768) * 16 ≤ 281474976710656 by omega), bc_t (show i + 1 + 1 ≤ 1099511627776 by omega), bc_t hq1, bc_t hq2, hw]
        refine ⟨(i + 2, cap), hi', by show l.length - (i + 2) < l.length - (i + 1); omega, ?_⟩
        show zFL2 (i + 1 + 1) l.length cap l.length ((i + 1 + 1 : Nat) : Int) l.length cap den (strs ((l.take (i + 1 + 1)).map wr)) (vp l) = _
        rw [List.take_succ_eq_append_getElem hi', List.map_append]
        simp only [strs, List.map_append, List.map_cons, List.map_nil, wr, List.append_assoc]
        rfl
      · show (if 0 = 0 then _ else _)
        rw [if_pos rfl]
        show nFL4 _ _ (i + 1) l.length cap den (strs ((l.take (i + 1)).map wr)) (vp l) _
        rw [nFL4_text, hw]
        have hil : i + 1 = l.length := by omega
        rw [hil, List.take_length] at hq1 ⊢
        have hfl := fms_len hb
        have wd := Lib.itoa_length_le den hd.1 hd.2
        have hJ := conJn (l.map wr) 44 (by simp; omega) (by show (fms l).length ≤ _; omega)
        rw [show dSs (l.map wr) = D.sl l.length 1 (strs (l.map wr)) by simp] at hJ
        refine ⟨_, ⟨conIt den hd.1 hd.2⟩, bc_yes (by rw [bs_size]; omega) (bc_yes (by simp) ⟨_, ⟨hJ⟩, ?_⟩)⟩
        simp only [lit_bs, bs_append]
        refine bc_yes (by rw [bs_size, bs_size]; simp only [List.length_append, List.length_singleton]; show _ + (fms l).length ≤ _; omega) ?_
        show [dS (Lib.itoa den ++ [59] ++ fms l)] = [dS (fmg l den)]
        simp [fmg]
theorem conRF (l : List Pr) (den : Int) (hd : -9223372036854775808 ≤ den ∧ den ≤ 9223372036854775807) (hb : in64 l) (hlen : l.length ≤ 1000) : C5 10 [dL l den] [dS (fmg l den)] := by
  have wd := Lib.itoa_length_le den hd.1 hd.2
  let inv : Nat × Nat → Prop := fun x => x.1 ≤ l.length
  let st : Nat × Nat → Slots × Blocks := fun x => zRF1 (bs (fmg (l.take x.1) den)) x.1 l.length x.2 den (vp l)
  refine con_of (L := fun _ s b => ∃ x, inv x ∧ st x = (s, b)) hokG mixed Tryz.func10 rfl (by show 1 ≤ 400; omega) rfl (ids := [0]) (by kernel_rfl) rfl (fun caps => ?_) (fun id hid => ?_)
  · show gRF _ _ l.length (caps 500) (vp l) den _
    rw [gRF_text]
    refine ⟨_, ⟨conDe den hd.1 hd.2⟩, bc_yes (by rw [bs_size]; omega) ⟨(0, caps 500), Nat.zero_le _, ?_⟩⟩
    simp only [lit_bs, bs_append]
    show zRF1 (bs (Lib.itoa den ++ 59 :: fms [])) 0 l.length (caps 500) den (vp l) = _
    simp [fms, Lib.join_nil]
  · obtain rfl := List.mem_singleton.1 hid
    refine ⟨Nat × Nat, st, inv, fun x => l.length - x.1, ⟨fun s b h => h, by kernel_rfl, ?_⟩⟩
    rintro ⟨i, cap⟩ hi
    have hi : i ≤ l.length := hi
    show rRF1 _ _ (bs (fmg (l.take i) den)) i l.length cap den (vp l) _ _ _
    rw [rRF1_text]
    have hfl0 := fms_len (in64_take hb i)
    rw [List.length_take] at hfl0
    have hfl : (fmg (l.take i) den).length ≤ 22 + 44 * l.length := by simp only [fmg, List.length_append, List.length_cons]; omega
    refine bc_dec (fun h => ?_) (fun h => ?_)
    · have hi' : i < l.length := by omega
      have hp := hb l[i] (List.getElem_mem hi')
      have w1 := Lib.itoa_length_le l[i].1 hp.1.1 hp.1.2
      have w2 := Lib.itoa_length_le l[i].2 hp.2.1 hp.2.2
      have s1 := conDe l[i].1 hp.1.1 hp.1.2
      have s2 := conDe l[i].2 hp.2.1 hp.2.2
      have hs : fmg (l.take (i + 1)) den = if i = 0 then fmg (l.take i) den ++ wr l[i] else fmg (l.take i) den ++ 44 :: wr l[i] := by
        unfold fmg
        rw [List.take_succ_eq_append_getElem hi', fms_snoc]
        by_cases h0 : i = 0
        · rw [if_pos h0, if_pos (by rw [h0]; rfl)]
          subst h0; simp [fms, Lib.join_nil]
        · rw [if_neg h0, if_neg (by intro e; have := congrArg List.length e; rw [List.length_take, List.length_nil] at this; omega)]
          simp
      refine bc_dec (fun h0 => ?_) (fun h0 => ?_)
      · rw [if_neg (by omega)] at hs
        have b0 : ByteArray.size (bs (fmg (l.take i) den)) + 1 ≤ 9223372036854775807 := by rw [bs_size]; omega
        simp only [bc_t b0, bc_t (show (0 : Int) ≤ (i : Int) by omega), bc_t h, Int.toNat_natCast, at1 (vp_one l i hi'), at1 (vp_sndB l i hi' 500), eq_self, true_and, and_true, wi1 hi' (by omega), lit_bs, bs_append]
        refine ⟨_, ⟨s1⟩, ?_⟩
        have b1 : ByteArray.size (bs (fmg (l.take i) den ++ [44])) + ByteArray.size (bs (Lib.itoa l[i].1)) ≤ 9223372036854775807 := by rw [bs_size, bs_size]; simp; omega
        simp only [bc_t b1, bs_append]
        have b2 : ByteArray.size (bs (fmg (l.take i) den ++ [44] ++ Lib.itoa l[i].1)) + 1 ≤ 9223372036854775807 := by rw [bs_size]; simp; omega
        simp only [bc_t b2, true_and]
        refine ⟨_, ⟨s2⟩, ?_⟩
        have b3 : ByteArray.size (bs (fmg (l.take i) den ++ [44] ++ Lib.itoa l[i].1 ++ [32])) + ByteArray.size (bs (Lib.itoa l[i].2)) ≤ 9223372036854775807 := by rw [bs_size, bs_size]; simp; omega
        simp only [bc_t b3, true_and, bs_append]
        refine ⟨(i + 1, cap), hi', by show l.length - (i + 1) < l.length - i; omega, ?_⟩
        show zRF1 (bs (fmg (l.take (i + 1)) den)) ((i + 1 : Nat) : Int) l.length cap den (vp l) = _
        rw [hs]
        simp only [wr, List.append_assoc, List.cons_append, List.nil_append]
      · have h00 : i = 0 := by omega
        rw [if_pos h00] at hs
        simp only [bc_t (show (0 : Int) ≤ (i : Int) by omega), bc_t h, Int.toNat_natCast, at1 (vp_one l i hi'), at1 (vp_sndB l i hi' 500), eq_self, true_and, and_true, wi1 hi' (by omega), lit_bs]
        refine ⟨_, ⟨s1⟩, ?_⟩
        have b1 : ByteArray.size (bs (fmg (l.take i) den)) + ByteArray.size (bs (Lib.itoa l[i].1)) ≤ 9223372036854775807 := by rw [bs_size, bs_size]; omega
        simp only [bc_t b1, bs_append]
        have b2 : ByteArray.size (bs (fmg (l.take i) den ++ Lib.itoa l[i].1)) + 1 ≤ 9223372036854775807 := by rw [bs_size]; simp; omega
        simp only [bc_t b2, true_and]
        refine ⟨_, ⟨s2⟩, ?_⟩
        have b3 : ByteArray.size (bs (fmg (l.take i) den ++ Lib.itoa l[i].1 ++ [32])) + ByteArray.size (bs (Lib.itoa l[i].2)) ≤ 9223372036854775807 := by rw [bs_size, bs_size]; simp; omega
        simp only [bc_t b3, true_and, bs_append]
        refine ⟨(i + 1, cap), hi', by show l.length - (i + 1) < l.length - i; omega, ?_⟩
        show zRF1 (bs (fmg (l.take (i + 1)) den)) ((i + 1 : Nat) : Int) l.length cap den (vp l) = _
        rw [hs]
        simp only [wr, List.append_assoc, List.cons_append, List.nil_append]
    · show (if 0 = 0 then _ else _)
      rw [if_pos rfl]
      show nRF2 _ _ _ _
      rw [nRF2_text]
      have : i = l.length := by omega
      rw [this, List.take_length]
theorem conRFn (den : Int) (hd : -9223372036854775808 ≤ den ∧ den ≤ 9223372036854775807) : C5 10 [.agg [.nil, dI den]] [dS (fmg [] den)] := by
  refine con_of (L := fun _ s b => ∃ _x : Unit, True ∧ zRFn1 (bs (fmg [] den)) 0 den = (s, b)) hokG mixed Tryz.func10 rfl (by show 0 ≤ 400; omega) rfl (ids := [0]) (by kernel_rfl) rfl (fun caps => ?_) (fun id hid => ?_)
  · show gRFn _ _ den _
    rw [gRFn_text]
    have wd := Lib.itoa_length_le den hd.1 hd.2
    refine ⟨_, ⟨conDe den hd.1 hd.2⟩, bc_yes (by rw [bs_size]; omega) ⟨(), trivial, ?_⟩⟩
    simp only [lit_bs, bs_append]
    simp [fmg, fms, Lib.join_nil]
  · obtain rfl := List.mem_singleton.1 hid
    refine ⟨Unit, fun _ => zRFn1 (bs (fmg [] den)) 0 den, fun _ => True, fun _ => 0, ⟨fun s b h => h, by kernel_rfl, ?_⟩⟩
    rintro _ _
    show rRFn1 _ _ (bs (fmg [] den)) 0 den _ _ _
    rw [rRFn1_text]
    refine bc_no (by decide) ?_
    show (if 0 = 0 then _ else _)
    rw [if_pos rfl]
    show nRFn2 _ _ _ _
    rw [nRFn2_text]
/-! ### ends and ranges -/
theorem rdV_le {d : Nat} (hd : d ≤ 18) (l : List UInt8) : -1000000000000000000 < rdV d l ∧ rdV d l < 1000000000000000000 := by
  unfold rdV
  split
  · omega
  · cases h : Lib.atoi l with
    | none => simp
    | some n => exact Lib.atoi_bound h (by omega)
theorem endV_ne {d : Nat} {b : UInt8} {r : List UInt8} (h : b ≠ 45) : endV d (b :: r) = (rdV d (b :: r), okNum d (b :: r)) := by
  unfold endV
  split
  · next e => cases e; exact absurd rfl h
  · rfl
theorem conREd (l : List UInt8) : C5 63 [dS l] [dI (endV 2 l).1, dB (endV 2 l).2] := by
  refine con_flat hokG mixed Tryz.func63 rfl (by show 0 ≤ 400; omega) rfl (by kernel_rfl) (fun caps => ?_)
  show gRE _ _ (bs l) _
  rw [gRE_text]
  simp only [bs_size]
  cases l with
  | nil =>
    refine bc_no (by simp) ?_
    exact ⟨_, sayOr2 (conRD []) (fun h => by rw [okNum_nil] at h; cases h) (fun _ => rfl)⟩
  | cons b r =>
    refine bc_yes (by simp only [List.length_cons]; omega) (bc_yes (by simp only [List.length_cons]; omega) ?_)
    have e1 : (bs (b :: r)).extract 0 1 = bs [b] := by rw [bs_extract]; rfl
    have e2 : (bs (b :: r)).extract 1 (b :: r).length = bs r := by rw [bs_extract]; simp
    rw [e1, e2, lit_bs, bs_toList, bs_toList]
    refine bc_beq (fun h => ?_) (fun h => ?_)
    · obtain rfl : b = 45 := by simpa using h
      have e : endV 2 (45 :: r) = (-(rdV 2 r), okNum 2 r && decide (0 < rdV 2 r)) := rfl
      have hle := rdV_le (d := 2) (by decide) r
      have hz : IntKind.wrap .i64 (0 - rdV 2 r) = -(rdV 2 r) := by rw [w64 (by omega) (by omega)]; omega
      rw [e]
      refine bc_yes (by simp only [List.length_cons]; omega) ⟨_, sayOr2 (conRD r) (fun ho => ?_) (fun ho => ?_)⟩
      · rw [hz, ho]
        exact bc_dec (fun h => by rw [decide_eq_true (show 0 < rdV 2 r by omega)]; rfl) (fun h => by rw [decide_eq_false (show ¬ 0 < rdV 2 r by omega)]; rfl)
      · rw [hz, ho]; rfl
    · have hb : b ≠ 45 := fun e => h (by rw [e])
      rw [endV_ne hb]
      exact ⟨_, sayOr2 (conRD (b :: r)) (fun ho => by rw [ho]) (fun ho => by rw [ho])⟩
theorem conRR (w : List UInt8) (hw : w.length < 4294967281) : C5 27 [dS w] [.agg [dI (endV 2 (Lib.cut w [32]).1).1, dI (endV 2 (Lib.cut w [32]).2.1).1], dB ((endV 2 (Lib.cut w [32]).1).2 && (endV 2 (Lib.cut w [32]).2.1).2)] := by
  refine con_flat hokG mixed Tryz.func27 rfl (by show 0 ≤ 400; omega) rfl (by kernel_rfl) (fun caps => ?_)
  show gRR _ _ (bs w) _
  rw [gRR_text]
  have both : ∀ A B : List UInt8, (∃ n1 : Int, (Says C5 63 [dS A] [dI n1, .val (.bool true)] ∧ ∃ n2 : Int, (Says C5 63 [dS B] [dI n2, .val (.bool true)] ∧ [D.agg [dI n1, dI n2], .val (.bool true)] = [D.agg [dI (endV 2 A).1, dI (endV 2 B).1], dB ((endV 2 A).2 && (endV 2 B).2)]) ∨
        (Says C5 63 [dS B] [dI n2, .val (.bool false)] ∧ [D.agg [dI n1, dI n2], .val (.bool false)] = [D.agg [dI (endV 2 A).1, dI (endV 2 B).1], dB ((endV 2 A).2 && (endV 2 B).2)])) ∨
      (Says C5 63 [dS A] [dI n1, .val (.bool false)] ∧ ∃ n2 : Int, (Says C5 63 [dS B] [dI n2, .val (.bool true)] ∧ [D.agg [dI n1, dI n2], .val (.bool false)] = [D.agg [dI (endV 2 A).1, dI (endV 2 B).1], dB ((endV 2 A).2 && (endV 2 B).2)]) ∨
        (Says C5 63 [dS B] [dI n2, .val (.bool false)] ∧ [D.agg [dI n1, dI n2], .val (.bool false)] = [D.agg [dI (endV 2 A).1, dI (endV 2 B).1], dB ((endV 2 A).2 && (endV 2 B).2)]))) := fun A B =>
    ⟨_, sayOr2 (conREd A) (fun ha => ⟨_, sayOr2 (conREd B) (fun hb => by rw [ha, hb]; rfl) (fun hb => by rw [ha, hb]; rfl)⟩) (fun ha => ⟨_, sayOr2 (conREd B) (fun hb => by rw [ha]; rfl) (fun hb => by rw [ha]; rfl)⟩)⟩
  exact ⟨_, _, sayOr3 (conCt w 32 hw) (fun _ => both _ _) (fun _ => both _ _)⟩
end Go.Proofs.G5u

/- Chapter 5: the loop with a string. -/
namespace Go.Proofs.G5u
open Go Go.Abs Go.Proofs Go.Str
set_option maxRecDepth 100000
abbrev rangeW : List UInt8 → Option Pr := pair 32 (rdN 2)
abbrev nilL : D := .agg [.nil, dI 0]
def afterG (den : Int) : Option (List Pr) → D × Int
  | none => (nilL, 7)
  | some zs => if loopE zs den = 0 then (dL zs den, 0) else (nilL, loopE zs den)
def gpar (l : List UInt8) : D × Int := if okNum 2 (Lib.cut l [59]).1 = true then afterG (numF 0 (Lib.cut l [59]).1) (words rangeW (cutA 44 [] (Lib.cut l [59]).2.1)) else (nilL, 7)
theorem vp_snoc : ∀ (l : List Pr) (p : Pr), vp (l ++ [p]) = vp l ++ [vI p.1, vI p.2]
  | [], p => rfl
  | q :: r, p => by simp only [List.cons_append, vp, vp_snoc r p]
theorem cut_le1 (w : List UInt8) (c : UInt8) : (Lib.cut w [c]).1.length ≤ w.length := by
  by_cases h : c ∈ w
  · obtain ⟨a, r, rfl, ha⟩ := mem_split h
    rw [cut_hit ha]; simp
  · rw [cut_miss h]; exact Nat.le_refl _
theorem cut_le2 (w : List UInt8) (c : UInt8) : (Lib.cut w [c]).2.1.length ≤ w.length := by
  by_cases h : c ∈ w
  · obtain ⟨a, r, rfl, ha⟩ := mem_split h
    rw [cut_hit ha]; simp; omega
  · rw [cut_miss h]; simp
/-- a word is a range exactly if both ends are read -/
theorem range_yes {w : List UInt8} (h : ((endV 2 (Lib.cut w [32]).1).2 && (endV 2 (Lib.cut w [32]).2.1).2) = true) : rangeW w = some ((endV 2 (Lib.cut w [32]).1).1, (endV 2 (Lib.cut w [32]).2.1).1) := by
  simp only [Bool.and_eq_true] at h
  exact pair_yes (by rw [endV_rd, if_pos h.1]) (by rw [endV_rd, if_pos h.2])
theorem range_no {w : List UInt8} (h : ((endV 2 (Lib.cut w [32]).1).2 && (endV 2 (Lib.cut w [32]).2.1).2) = false) : rangeW w = none := by
  rw [Bool.and_eq_false_iff] at h
  rcases h with h | h
  · exact pair_no1 (by rw [endV_rd, if_neg (by rw [h]; decide)])
  · exact pair_no2 (by rw [endV_rd, if_neg (by rw [h]; decide)])
theorem conPL (l : List UInt8) (hl : l.length ≤ 70000) : C5 8 [dS l] [(gpar l).1, dI (gpar l).2] := by
  have hl2 := cut_le2 l 59
  generalize hws : cutA 44 [] (Lib.cut l [59]).2.1 = ws
  have hwn : ws.length ≠ 0 := by rw [← hws]; intro e; exact cutA_ne (List.length_eq_zero_iff.1 e)
  have hwl : ws.length ≤ 70001 := by rw [← hws, cutA_len]; have := List.count_le_length (a := (44 : UInt8)) (l := (Lib.cut l [59]).2.1); omega
  have hwm : ∀ w ∈ ws, w.length ≤ 70000 := fun w hw => by rw [← hws] at hw; have := cutA_le w hw; simp only [List.length_nil] at this; omega
  generalize hden : numF 0 (Lib.cut l [59]).1 = den
  let inv : Nat × List Pr → Prop := fun x => goesF rangeW ws x ∧ okNum 2 (Lib.cut l [59]).1 = true
  let st : Nat × List Pr → Slots × Blocks := fun x => match x.2 with
    | [] => zPL2 ws.length ws.length x.1 0 den (strs ws)
    | p :: r => zPL4 ws.length ws.length x.1 0 (p :: r).length den (strs ws) (vp (p :: r))
  have hp : okNum 2 (Lib.cut l [59]).1 = true → gpar l = afterG den (words rangeW ws) := fun h => by unfold gpar; rw [if_pos h, hws, hden]
  refine con_of (L := fun _ s b => ∃ x, inv x ∧ st x = (s, b)) hokG mixed Tryz.func8 rfl (by show 0 ≤ 400; omega) rfl (ids := [0]) (by kernel_rfl) rfl (fun caps => ?_) (fun id hid => ?_)
  · show gPL _ _ (bs l) _
    rw [gPL_text]
    have bad : okNum 2 (Lib.cut l [59]).1 = false → [nilL, dI 7] = [(gpar l).1, dI (gpar l).2] := fun h => by unfold gpar; rw [if_neg (by rw [h]; decide)]
    have start : okNum 2 (Lib.cut l [59]).1 = true → ∃ x, inv x ∧ st x = zPL2 ws.length ws.length 0 0 (rdV 2 (Lib.cut l [59]).1) (strs ws) := fun h =>
      ⟨(0, []), ⟨goesF_start _ _, h⟩, by rw [rdV_ok h, hden]; rfl⟩
    have cS := conSp (Lib.cut l [59]).2.1 44 (by omega)
    rw [hws] at cS
    refine ⟨_, _, sayOr3 (conCt l 59 (by omega)) (fun _ => ?_) (fun _ => ?_)⟩
    · refine ⟨_, sayOr2 (conRD _) (fun h => .inr ⟨_, _, ⟨cS⟩, start h⟩) bad⟩
    · refine ⟨_, sayOr2 (conRD _) (fun h => .inr ⟨_, _, ⟨cS⟩, start h⟩) bad⟩
  · obtain rfl := List.mem_singleton.1 hid
    refine ⟨Nat × List Pr, st, inv, fun x => ws.length - x.1, ⟨fun s b h => h, by kernel_rfl, ?_⟩⟩
    rintro ⟨i, out⟩ ⟨hg, hok⟩
    have hp := hp hok
    have hi := hg.1
    have ho := hg.2.1
    simp only at hi ho
    have bad : ∀ h : i < ws.length, rangeW ws[i] = none → [nilL, dI 7] = [(gpar l).1, dI (gpar l).2] := fun h e => by
      rw [hp, (goesF_step hg h).1 e]; rfl
    have rr : ∀ h : i < ws.length, _ := fun h : i < ws.length => conRR ws[i] (by have := hwm _ (List.getElem_mem h); omega)
    cases out with
    | nil =>
      have hi0 : i = 0 := by simpa using ho.symm
      show rPL2 _ _ ws.length ws.length i 0 den (strs ws) _ _ _
      rw [rPL2_text]
      refine bc_dec (fun h => ?_) (fun h => absurd (show (i : Int) < ws.length by omega) h)
      have hi' : i < ws.length := by omega
      simp only [bc_t (show (0 : Int) ≤ (i : Int) by omega), bc_t h, Int.toNat_natCast, atS (strs_at ws i hi'), wi1 hi' (by omega)]
      refine ⟨_, _, sayOr2 (rr hi') (fun hb => ?_) (fun hb => bad hi' (range_no hb))⟩
      exact ⟨(i + 1, [_]), ⟨(goesF_step hg hi').2 _ (range_yes hb), hok⟩, by show ws.length - (i + 1) < ws.length - i; omega, rfl⟩
    | cons p r =>
      show rPL4 _ _ ws.length ws.length i 0 (p :: r).length den (strs ws) (vp (p :: r)) _ _ _
      rw [rPL4_text]
      refine bc_dec (fun h => ?_) (fun h => ?_)
      · have hi' : i < ws.length := by omega
        have hpl : (p :: r).length = i := ho
        simp only [bc_t (show (0 : Int) ≤ (i : Int) by omega), bc_t h, Int.toNat_natCast, atS (strs_at ws i hi'), wi1 hi' (by omega),
          bc_t (Nat.lt_succ_self (p :: r).length), bc_t (show (2 * ((p :: r).length + 1) + 768) * 16 ≤ 281474976710656 by omega), bc_t (show (p :: r).length + 1 ≤ 1099511627776 by omega), bc_t (show 0 + (p :: r).length * 2 ≤ (vp (p :: r)).length by rw [vp_length]; omega), bc_t (show 0 + (p :: r).length * 2 = (vp (p :: r)).length by rw [vp_length]; omega), vp_whole]
        refine ⟨_, _, sayOr2 (rr hi') (fun hb => ?_) (fun hb => bad hi' (range_no hb))⟩
        refine ⟨(i + 1, (p :: r) ++ [_]), ⟨(goesF_step hg hi').2 _ (range_yes hb), hok⟩, by show ws.length - (i + 1) < ws.length - i; omega, ?_⟩
        show zPL4 ws.length ws.length ((i + 1 : Nat) : Int) 0 ((p :: r) ++ [_]).length den (strs ws) (vp ((p :: r) ++ [_])) = _
        rw [List.length_append, vp_snoc]
        rfl
      · have hil : i = ws.length := by omega
        subst hil
        have hz := goesF_end hg
        rw [hz] at hp
        show nPL5 _ _ 0 (p :: r).length den (vp (p :: r)) _
        rw [nPL5_text]
        simp only [vp_whole]
        refine bc_yes (by rw [vp_length]; omega) ⟨_, ⟨conCL (p :: r) den⟩, ?_⟩
        refine bc_bne (fun hc => ?_) (fun hc => ?_)
        · rw [hp]; unfold afterG; simp only; rw [if_neg hc]
        · rw [hp]; unfold afterG; simp only; rw [if_pos hc]
          first | rfl | exact ⟨⟨trivial, by rw [vp_length]⟩, rfl⟩
theorem strs_at0 {a : List UInt8} {r : List (List UInt8)} : At (strs (a :: r)) 0 1 [str a] := ⟨by simp, rfl⟩
theorem strs_at1 {a b : List UInt8} {r : List (List UInt8)} : At (strs (a :: b :: r)) 1 1 [str b] := ⟨by simp, rfl⟩
theorem rd32 : ∀ l : List UInt8, 32 ∈ l → rdN 2 l = none := fun _ h => rdN_mem h (by decide) (by decide)
theorem rd59 : ∀ l : List UInt8, 59 ∈ l → rdN 2 l = none := fun _ h => rdN_mem h (by decide) (by decide)
theorem range_nil : rangeW [] = none := pair_no1 rdN_nil
theorem conRP (l : List UInt8) (hl : l.length ≤ 70000) : C5 9 [dS l] [(gpar l).1, dI (gpar l).2] := by
  have hl1 := cut_le1 l 59
  have hl2 := cut_le2 l 59
  generalize hws : cutA 44 [] (Lib.cut l [59]).2.1 = ws
  have hwn : ws.length ≠ 0 := by rw [← hws]; intro e; exact cutA_ne (List.length_eq_zero_iff.1 e)
  have hwl : ws.length ≤ 70001 := by rw [← hws, cutA_len]; have := List.count_le_length (a := (44 : UInt8)) (l := (Lib.cut l [59]).2.1); omega
  have hwm : ∀ w ∈ ws, w.length ≤ 70000 := fun w hw => by rw [← hws] at hw; have := cutA_le w hw; simp only [List.length_nil] at this; omega
  generalize hden : numF 0 (Lib.cut l [59]).1 = den
  let inv : Nat × List Pr → Prop := fun x => goesF rangeW ws x ∧ okNum 2 (Lib.cut l [59]).1 = true
  let st : Nat × List Pr → Slots × Blocks := fun x => match x.2 with
    | [] => zRP2 ws.length x.1 0 0 den (strs ws)
    | p :: r => zRP4 ws.length x.1 0 0 (p :: r).length den (strs ws) (vp (p :: r))
  have hp : okNum 2 (Lib.cut l [59]).1 = true → gpar l = afterG den (words rangeW ws) := fun h => by unfold gpar; rw [if_pos h, hws, hden]
  refine con_of (L := fun _ s b => ∃ x, inv x ∧ st x = (s, b)) hokG mixed Tryz.func9 rfl (by show 0 ≤ 400; omega) rfl (ids := [0]) (by kernel_rfl) rfl (fun caps => ?_) (fun id hid => ?_)
  · show gRP _ _ (bs l) _
    rw [gRP_text]
    have bad : okNum 2 (Lib.cut l [59]).1 = false → [nilL, dI 7] = [(gpar l).1, dI (gpar l).2] := fun h => by unfold gpar; rw [if_neg (by rw [h]; decide)]
    have bad2 : words rangeW ws = none → [nilL, dI 7] = [(gpar l).1, dI (gpar l).2] := fun h => by
      unfold gpar
      split
      · rw [hws, h]; rfl
      · rfl
    refine .inr ⟨_, _, ⟨conCu l 59 (by omega)⟩, ?_⟩
    by_cases h59 : (59 : UInt8) ∈ l
    · obtain ⟨a, r, hsp, ha⟩ := mem_split h59
      have hc1 : (Lib.cut l [59]).1 = a := by rw [hsp, cut_hit ha]
      have hc2 : (Lib.cut l [59]).2.1 = r := by rw [hsp, cut_hit ha]
      by_cases hr : (59 : UInt8) ∈ r
      · have hne : (cutA 59 [] l).length ≠ 2 := by
          rw [hsp, cutA_hit ha, List.length_cons, cutA_len]
          have := List.count_pos_iff.2 hr
          omega
        refine bc_bne (fun _ => bad2 ?_) (fun hc => absurd (by omega) hne)
        obtain ⟨x, hx, hm⟩ := cutA_mem (c := 44) (b := 59) (by decide) (l := r) (acc := []) (.inr hr)
        rw [← hws, hc2]
        exact words_none hx (pair_mem (by decide) rd59 rdN_nil hm)
      · have hpc : cutA 59 [] l = [a, r] := by rw [hsp, cutA_hit ha, cutA_miss hr]; simp
        rw [hpc]
        refine bc_bne (fun hc => absurd rfl hc) (fun _ => bc_yes (by show (0 : Int) < ((2 : Nat) : Int); decide) ⟨_, strs_at0, (readNum 2 a).1, ?_⟩)
        refine sayOr2 (conNu a 2 (by decide) (by rw [hc1] at hl1; omega)) (fun h => ?_) (fun h => bad ?_)
        · refine bc_dec (fun hneg => bad ?_) (fun hneg => ?_)
          · cases ho : okNum 2 a with
            | false => rw [hc1, ho]
            | true => rw [readNum_ok ho] at hneg; have := (numF_pos ho).1; simp only at hneg; omega
          · have ho : okNum 2 a = true := by
              cases ho : okNum 2 a with
              | true => rfl
              | false => exact absurd (readNum_no ho h) hneg
            refine bc_yes (by show (1 : Int) < ((2 : Nat) : Int); decide) ⟨_, strs_at1, .inr ⟨_, _, ⟨conCu r 44 (by rw [hc2] at hl2; omega)⟩, ?_⟩⟩
            rw [← hc2, hws, readNum_ok ho, ← hc1, hden]
            exact ⟨(0, []), ⟨goesF_start _ _, by rw [hc1]; exact ho⟩, rfl⟩
        · cases ho : okNum 2 a with
          | false => rw [hc1, ho]
          | true => rw [readNum_ok ho] at h; cases h
    · have hne : (cutA 59 [] l).length ≠ 2 := by rw [cutA_miss h59]; simp
      refine bc_bne (fun _ => bad2 ?_) (fun hc => absurd (by omega) hne)
      rw [← hws, cut_miss h59]
      exact words_none (w := []) (by simp [cutA]) range_nil
  · obtain rfl := List.mem_singleton.1 hid
    refine ⟨Nat × List Pr, st, inv, fun x => ws.length - x.1, ⟨fun s b h => h, by kernel_rfl, ?_⟩⟩
    rintro ⟨i, out⟩ ⟨hg, hok⟩
    have hp := hp hok
    have hi := hg.1
    have ho := hg.2.1
    simp only at hi ho
    have bad : ∀ h : i < ws.length, rangeW ws[i] = none → [nilL, dI 7] = [(gpar l).1, dI (gpar l).2] := fun h e => by
      rw [hp, (goesF_step hg h).1 e]; rfl
    have word : ∀ (h : i < ws.length) (B : Int → Int → Prop), (∀ z, rangeW ws[i] = some z → B z.1 z.2) →
        ((Says C5 29 [dS ws[i], .val (.int .u8 32)] [D.nil] ∧ [nilL, dI 7] = [(gpar l).1, dI (gpar l).2]) ∨
        (∃ n1 : Nat, ∃ cs1 : List Value, Says C5 29 [dS ws[i], .val (.int .u8 32)] [.sl n1 1 cs1] ∧
          bcase ((n1 : Int) != 2) ([nilL, dI 7] = [(gpar l).1, dI (gpar l).2])
          (bcase (decide (0 < (n1 : Int)))
          (∃ s2 : ByteArray, At cs1 0 1 [.string s2] ∧ ∃ n2 : Int,
            ((Says C5 30 [.val (.string s2), dI 2] [dI n2, .val (.bool true)] ∧
              bcase (decide (1 < (n1 : Int))) (∃ s3 : ByteArray, At cs1 1 1 [.string s3] ∧ ∃ n3 : Int,
                ((Says C5 30 [.val (.string s3), dI 2] [dI n3, .val (.bool true)] ∧ B n2 n3) ∨
                 (Says C5 30 [.val (.string s3), dI 2] [dI n3, .val (.bool false)] ∧ [nilL, dI 7] = [(gpar l).1, dI (gpar l).2]))) False) ∨
             (Says C5 30 [.val (.string s2), dI 2] [dI n2, .val (.bool false)] ∧
              bcase (decide (1 < (n1 : Int))) (∃ s3 : ByteArray, At cs1 1 1 [.string s3] ∧ ∃ n3 : Int,
                ((Says C5 30 [.val (.string s3), dI 2] [dI n3, .val (.bool true)] ∧ [nilL, dI 7] = [(gpar l).1, dI (gpar l).2]) ∨
                 (Says C5 30 [.val (.string s3), dI 2] [dI n3, .val (.bool false)] ∧ [nilL, dI 7] = [(gpar l).1, dI (gpar l).2]))) False)))
          False))) := by
      intro h B hB
      have hw := hwm _ (List.getElem_mem h)
      refine .inr ⟨_, _, ⟨conCu ws[i] 32 (by omega)⟩, ?_⟩
      rcases pair_cut (c := 32) (rd := rdN 2) (w := ws[i]) rdN_nil rd32 with ⟨h1, h2⟩ | ⟨a, b, h1, h2, h3⟩
      · exact bc_bne (fun _ => bad h h2) (fun hc => absurd (by omega) h1)
      · have hla : a.length ≤ ws[i].length := by have := cutA_le (c := 32) (acc := []) (l := ws[i]) a (by rw [h1]; simp); simpa using this
        have hlb : b.length ≤ ws[i].length := by have := cutA_le (c := 32) (acc := []) (l := ws[i]) b (by rw [h1]; simp); simpa using this
        have c1 := conNu a 2 (by decide) (by omega)
        have c2 := conNu b 2 (by decide) (by omega)
        rw [h1]
        refine bc_bne (fun hc => absurd rfl hc) (fun _ => bc_yes (by show (0 : Int) < ((2 : Nat) : Int); decide) ⟨_, strs_at0, (readNum 2 a).1, ?_⟩)
        refine sayOr2 c1 (fun ha => bc_yes (by show (1 : Int) < ((2 : Nat) : Int); decide) ⟨_, strs_at1, _, sayOr2 c2 (fun hb => ?_) (fun hb => bad h ?_)⟩)
          (fun ha => bc_yes (by show (1 : Int) < ((2 : Nat) : Int); decide) ⟨_, strs_at1, _, sayOr2 c2 (fun _ => bad h ?_) (fun _ => bad h ?_)⟩)
        · exact hB ((readNum 2 a).1, (readNum 2 b).1) (pair_yes (by rw [h2]; unfold rdN; rw [if_pos ha]) (by rw [h3]; unfold rdN; rw [if_pos hb]))
        · exact pair_no2 (by rw [h3]; unfold rdN; rw [if_neg (by rw [hb]; decide)])
        · exact pair_no1 (by rw [h2]; unfold rdN; rw [if_neg (by rw [ha]; decide)])
        · exact pair_no1 (by rw [h2]; unfold rdN; rw [if_neg (by rw [ha]; decide)])
    cases out with
    | nil =>
      have hi0 : i = 0 := by simpa using ho.symm
      show rRP2 _ _ ws.length i 0 0 den (strs ws) _ _ _
      rw [rRP2_text]
      refine bc_dec (fun h => ?_) (fun h => absurd (show (i : Int) < ws.length by omega) h)
      have hi' : i < ws.length := by omega
      simp only [bc_t (show (0 : Int) ≤ (i : Int) by omega), bc_t h, Int.toNat_natCast, atS (strs_at ws i hi'), wi1 hi' (by omega)]
      exact word hi' _ (fun z hz => ⟨(i + 1, [z]), ⟨(goesF_step hg hi').2 _ hz, hok⟩, by show ws.length - (i + 1) < ws.length - i; omega, rfl⟩)
    | cons p r =>
      show rRP4 _ _ ws.length i 0 0 (p :: r).length den (strs ws) (vp (p :: r)) _ _ _
      rw [rRP4_text]
      refine bc_dec (fun h => ?_) (fun h => ?_)
      · have hi' : i < ws.length := by omega
        have hpl : (p :: r).length = i := ho
        simp only [bc_t (show (0 : Int) ≤ (i : Int) by omega), bc_t h, Int.toNat_natCast, atS (strs_at ws i hi'), wi1 hi' (by omega),
          bc_t (Nat.lt_succ_self (p :: r).length), bc_t (show (2 * ((p :: r).length + 1) + 768) * 16 ≤ 281474976710656 by omega), bc_t (show (p :: r).length + 1 ≤ 1099511627776 by omega), bc_t (show 0 + (p :: r).length * 2 ≤ (vp (p :: r)).length by rw [vp_length]; omega), bc_t (show 0 + (p :: r).length * 2 = (vp (p :: r)).length by rw [vp_length]; omega), vp_whole]
        refine word hi' _ (fun z hz => ⟨(i + 1, (p :: r) ++ [z]), ⟨(goesF_step hg hi').2 _ hz, hok⟩, by show ws.length - (i + 1) < ws.length - i; omega, ?_⟩)
        show zRP4 ws.length ((i + 1 : Nat) : Int) 0 0 ((p :: r) ++ [_]).length den (strs ws) (vp ((p :: r) ++ [_])) = _
        rw [List.length_append, vp_snoc]
        rfl
      · have hil : i = ws.length := by omega
        subst hil
        have hz := goesF_end hg
        rw [hz] at hp
        show nRP5 _ _ 0 0 (p :: r).length den (vp (p :: r)) _
        rw [nRP5_text]
        simp only [vp_whole]
        refine bc_yes (by rw [vp_length]; omega) ⟨_, ⟨conLE (p :: r) den⟩, ?_⟩
        refine bc_bne (fun hc => ?_) (fun hc => ?_)
        · rw [hp]; unfold afterG; simp only; rw [if_neg hc]
        · rw [hp]; unfold afterG; simp only; rw [if_pos hc]
          first | rfl | exact ⟨⟨trivial, by rw [vp_length]⟩, rfl⟩
end Go.Proofs.G5u

/- A walk that is cut at loops and at the ends of named blocks: definitions. -/
namespace Go.Abs
/-- What is met where a walk is cut: what is read later, renumbered. -/
def cutAt (L : AtLoop) (id : Nat) (live : List Tmp) (A : AAct) (H : Heap) : Prop :=
  match A.defers with
  | [] => let keep := sortT live; let μ := gcMu keep A H; bcase (gcGood μ (gcB H μ μ)) (L id (gcS μ keep A) (gcB H μ μ)) False
  | _ => False
def cutK (L : AtLoop) (id : Nat) (live : List Tmp) (k : Exit → AAct → Heap → Prop) : Exit → AAct → Heap → Prop := fun e A H =>
  match e with
  | .normal => cutAt L id live A H
  | .exit i => if i = id then cutAt L id live A H else k (.exit i) A H
  | e => k e A H
/-- A region that is cut at its end. -/
def endK (L : AtLoop) (id : Nat) (live : List Tmp) (k : Exit → AAct → Heap → Prop) : Exit → AAct → Heap → Prop := fun e A H =>
  match e with
  | .normal => cutAt L id live A H
  | e => k e A H
/-- As wpT with u = 0; the blocks of J, and the regions of J (30000 and more), are cut at their ends. -/
def wpJ (P : Program) (h : Handler) (L : AtLoop) (J : List Nat) : Code → Lv → AAct → Heap → (Exit → AAct → Heap → Prop) → Prop
  | .seq x y, l, A, H, k => wpJ P h L J x { l with normal := liveIn y l } A H (seqK (fun A' H' => wpJ P h L J y l A' H' k) k)
  | .cond c x y, l, A, H, k =>
    match A.eval c with
    | .bool true => wpJ P h L J x l A H k
    | .bool false => wpJ P h L J y l A H k
    | _ => False
  | .block id body, l, A, H, k =>
    if isLoop body = true then wpT P h L 0 (.block id body) l A H k
    else if J.contains id = true then wpJ P h L J body { l with exits := (id, l.normal) :: l.exits } A H (cutK L id l.normal k)
    else wpJ P h L J body { l with exits := (id, l.normal) :: l.exits } A H (blockK id k)
  | .loop _, _, _, _, _ => False
  | .region id ops d, l, A, H, k =>
    if J.contains (30000 + id) = true then wpT P h L 0 (.region id ops d) l A H (endK L (30000 + id) l.normal k)
    else wpT P h L 0 (.region id ops d) l A H k
  | c, l, A, H, k => wpT P h L 0 c l A H k
/-- The points of a piece of code: its loops, and the blocks of J. -/
def ptIds (J : List Nat) : Code → List Nat
  | .seq x y => ptIds J x ++ ptIds J y
  | .cond _ x y => ptIds J x ++ ptIds J y
  | .block i b => if isLoop b then [i] else if J.contains i then i :: ptIds J b else ptIds J b
  | .region i _ _ => if J.contains (30000 + i) then [30000 + i] else []
  | _ => []
/-- What must be shown where the code goes on behind that point. -/
def aftJ (P : Program) (h : Handler) (L : AtLoop) (J : List Nat) : Code → Lv → Nat → Exit → AAct → Heap → (Exit → AAct → Heap → Prop) → Prop
  | .seq x y, l, id, e, A, H, k =>
    if (ptIds J x).contains id then aftJ P h L J x { l with normal := liveIn y l } id e A H (seqK (fun A' H' => wpJ P h L J y l A' H' k) k)
    else aftJ P h L J y l id e A H k
  | .cond _ x y, l, id, e, A, H, k => if (ptIds J x).contains id then aftJ P h L J x l id e A H k else aftJ P h L J y l id e A H k
  | .block i b, l, id, e, A, H, k =>
    if isLoop b then (if i = id then k e A H else False)
    else if J.contains i then (if i = id then k e A H else aftJ P h L J b { l with exits := (i, l.normal) :: l.exits } id e A H (cutK L i l.normal k))
    else aftJ P h L J b { l with exits := (i, l.normal) :: l.exits } id e A H (blockK i k)
  | .region _ _ _, _, _, e, A, H, k => k e A H
  | _, _, _, _, _, _, _ => False
/-- What follows a point of the function. -/
def jNext (P : Program) (h : Handler) (L : AtLoop) (J : List Nat) (f : FuncId) (id : Nat) (e : Exit) (s : Slots) (b : Blocks) (k : Value → Heap → Prop) : Prop :=
  match P.funcs[f]? with
  | some fn => match fn.body with | some c => aftJ P h L J c (fnLv fn) id e (actOf (fnSize fn) s) (heapOf b) (fnK P fn k) | none => False
  | none => False
/-- The body of a loop of the function. -/
def jRound (P : Program) (h : Handler) (L : AtLoop) (J : List Nat) (f : FuncId) (id : Nat) (s : Slots) (b : Blocks) (B : Slots → Blocks → Prop) (X : Nat → Slots → Blocks → Prop) (k : Value → Heap → Prop) : Prop :=
  match P.funcs[f]? with
  | some fn =>
    match fn.body with
    | some c =>
      match findLoop c (fnLv fn) id with
      | some (body, l) => wpJ P h L J body l (actOf (fnSize fn) s) (heapOf b) (roundK body l B X (fnK P fn k))
      | none => False
    | none => False
  | none => False
/-- What follows a point within the body of a loop of the function. -/
def jIn (P : Program) (h : Handler) (L : AtLoop) (J : List Nat) (f : FuncId) (id id2 : Nat) (e : Exit) (s : Slots) (b : Blocks) (B : Slots → Blocks → Prop) (X : Nat → Slots → Blocks → Prop) (k : Value → Heap → Prop) : Prop :=
  match P.funcs[f]? with
  | some fn =>
    match fn.body with
    | some c =>
      match findLoop c (fnLv fn) id with
      | some (body, l) => aftJ P h L J body l id2 e (actOf (fnSize fn) s) (heapOf b) (roundK body l B X (fnK P fn k))
      | none => False
    | none => False
  | none => False
/-- The body of a loop within a loop of the function. -/
def jRound2 (P : Program) (h : Handler) (L : AtLoop) (J : List Nat) (f : FuncId) (id id2 : Nat) (s : Slots) (b : Blocks) (B : Slots → Blocks → Prop) (X : Nat → Slots → Blocks → Prop) (k : Value → Heap → Prop) : Prop :=
  match P.funcs[f]? with
  | some fn =>
    match fn.body with
    | some c =>
      match findLoop c (fnLv fn) id with
      | some (body, l) =>
        match findLoop body l id2 with
        | some (body2, l2) => wpJ P h L J body2 l2 (actOf (fnSize fn) s) (heapOf b) (roundK body2 l2 B X (fnK P fn k))
        | none => False
      | none => False
    | none => False
  | none => False
/-- What follows a cut within the body of a loop within a loop. -/
def jIn2 (P : Program) (h : Handler) (L : AtLoop) (J : List Nat) (f : FuncId) (id id2 id3 : Nat) (e : Exit) (s : Slots) (b : Blocks) (B : Slots → Blocks → Prop) (X : Nat → Slots → Blocks → Prop) (k : Value → Heap → Prop) : Prop :=
  match P.funcs[f]? with
  | some fn =>
    match fn.body with
    | some c =>
      match findLoop c (fnLv fn) id with
      | some (body, l) =>
        match findLoop body l id2 with
        | some (body2, l2) => aftJ P h L J body2 l2 id3 e (actOf (fnSize fn) s) (heapOf b) (roundK body2 l2 B X (fnK P fn k))
        | none => False
      | none => False
    | none => False
  | none => False
end Go.Abs

/- A walk that is cut at loops and at the ends of named blocks: it is enough. -/
namespace Go.Abs
open Go.RowKit
variable {P : Program} {ρ : Ren} {w0 : Start P} {w : World} {H : Heap} {h : Handler} {L : AtLoop} {J : List Nat} {sz : Nat}

end Go.Abs

/- Functions with cuts, and loops within loops: by what is left to show of each part. -/
namespace Go.Abs
open Go.RowKit
variable {P : Program} {ρ : Ren} {w0 : Start P} {w : World} {H : Heap} {h : Handler} {L : AtLoop} {J : List Nat}

abbrev Kx := Slots → Blocks → Prop
abbrev Xk := Nat → Slots → Blocks → Prop
/-- A loop within a round of a loop: its points are cuts. -/
structure LoopJ2 (P : Program) (h : Handler) (J : List Nat) (f : FuncId) (c : Code) (lv : Lv) (id id2 : Nat) (L : AtLoop) (B : Kx) (X : Xk) (F : Value → Heap → Prop) : Type 1 where
  Y : Type
  st : Y → Slots × Blocks
  inv : Y → Prop
  m : Y → Nat
  head : ∀ s b, L id2 s b → ∃ y, inv y ∧ st y = (s, b)
  pts : List Nat
  is : ((findLoop c lv id).bind fun r => (findLoop r.1 r.2 id2).map fun q => (ptIds J q.1, loopIds q.1)) = some (pts, [])
  nd : nodupB pts = true
  round : ∀ y, inv y → ∃ L2 : AtLoop,
    jRound2 P h L2 J f id id2 (st y).1 (st y).2 (fun s b => ∃ z, inv z ∧ m z < m y ∧ st z = (s, b)) (fun i s b => if i = id2 then jIn P h L J f id id2 .normal s b B X F else jIn P h L J f id id2 (.exit i) s b B X F) F ∧
    ∀ id3 ∈ pts, ∀ s b, L2 id3 s b → jIn2 P h L2 J f id id2 id3 .normal s b (fun s b => ∃ z, inv z ∧ m z < m y ∧ st z = (s, b)) (fun i s b => if i = id2 then jIn P h L J f id id2 .normal s b B X F else jIn P h L J f id id2 (.exit i) s b B X F) F
/-- A loop of a function. -/
structure LoopJ (P : Program) (h : Handler) (J : List Nat) (f : FuncId) (c : Code) (lv : Lv) (id : Nat) (L : AtLoop) (F : Value → Heap → Prop) : Type 1 where
  Y : Type
  st : Y → Slots × Blocks
  inv : Y → Prop
  m : Y → Nat
  head : ∀ s b, L id s b → ∃ y, inv y ∧ st y = (s, b)
  pts : List Nat
  loops : List Nat
  is : ((findLoop c lv id).map fun r => (ptIds J r.1, loopIds r.1)) = some (pts, loops)
  nd : nodupB pts = true
  round : ∀ y, inv y → ∃ L2 : AtLoop,
    jRound P h L2 J f id (st y).1 (st y).2 (fun s b => ∃ z, inv z ∧ m z < m y ∧ st z = (s, b)) (fun i s b => if i = id then jNext P h L J f id .normal s b F else jNext P h L J f id (.exit i) s b F) F ∧
    (∀ id2 ∈ pts, id2 ∉ loops → ∀ s b, L2 id2 s b → jIn P h L2 J f id id2 .normal s b (fun s b => ∃ z, inv z ∧ m z < m y ∧ st z = (s, b)) (fun i s b => if i = id then jNext P h L J f id .normal s b F else jNext P h L J f id (.exit i) s b F) F) ∧
    (∀ id2 ∈ loops, Nonempty (LoopJ2 P h J f c lv id id2 L2 (fun s b => ∃ z, inv z ∧ m z < m y ∧ st z = (s, b)) (fun i s b => if i = id then jNext P h L J f id .normal s b F else jNext P h L J f id (.exit i) s b F) F))

end Go.Abs

/- What is left to show of each function, written out; the kernel reckons it. -/
namespace Go.Proofs.G5q
open Go Go.Abs Go.Proofs
set_option maxRecDepth 100000
set_option linter.unusedVariables false
abbrev Ct := FuncId → List D → List D → Prop
abbrev Bx := Slots → Blocks → Prop
abbrev Xx := Nat → Slots → Blocks → Prop
abbrev vI (n : Int) : Value := .int .i64 n
abbrev P1 (b o : Nat) : Value := .pointer (some ⟨b, o, none⟩)
abbrev hF : Handler := fun _ _ _ _ _ => False
abbrev wl (lo hi e : Int) : Blocks := [(901, .cells [vI lo, vI hi] 58 false 1), (902, .cells [vI e] 29 false 1)]
abbrev wm (lo hi e : Int) : Blocks := [(900, .cells [vI lo, vI hi] 58 false 1), (901, .cells [vI e] 29 false 1)]
def wt1 (cap : Nat) (lo hi e x : Int) (K : Value → Blocks → Prop) : Prop := wpFn Tryz.prog hF (fun _ _ _ => False) 6 102 #[.slice (some ⟨900, 0, none⟩) 1 cap, P1 901 0, P1 902 0] (heapOf ((900, .cells [vI x] 3 false 1) :: wl lo hi e)) (stateK K)
theorem wt1_text (cap : Nat) (lo : Int) (hi : Int) (e : Int) (x : Int) (K : Go.Value → Blocks → Prop) : wt1 cap lo hi e x K =
 (bcase (decide (x < lo))
 (K (vI e) [(Prod.mk 900 (AObj.cells [(vI x)] 3 false 1)), (Prod.mk 901 (AObj.cells [(vI lo), (vI hi)] 58 false 1)), (Prod.mk 902 (AObj.cells [(vI e)] 29 false 1))])
 (bcase (decide (x > hi))
 (K (vI e) [(Prod.mk 900 (AObj.cells [(vI x)] 3 false 1)), (Prod.mk 901 (AObj.cells [(vI lo), (vI hi)] 58 false 1)), (Prod.mk 902 (AObj.cells [(vI e)] 29 false 1))])
 (K (vI (0 : Int)) [(Prod.mk 900 (AObj.cells [(vI x)] 3 false 1)), (Prod.mk 901 (AObj.cells [(vI lo), (vI hi)] 58 false 1)), (Prod.mk 902 (AObj.cells [(vI e)] 29 false 1))]))) := by kernel_rfl
def wt2 (cap : Nat) (lo hi e x y : Int) (K : Value → Blocks → Prop) : Prop := wpFn Tryz.prog hF (fun _ _ _ => False) 6 102 #[.slice (some ⟨900, 0, none⟩) 2 cap, P1 901 0, P1 902 0] (heapOf ((900, .cells [vI x, vI y] 3 false 1) :: wl lo hi e)) (stateK K)
theorem wt2_text (cap : Nat) (lo : Int) (hi : Int) (e : Int) (x : Int) (y : Int) (K : Go.Value → Blocks → Prop) : wt2 cap lo hi e x y K =
 (bcase (decide (x < lo))
 (K (vI e) [(Prod.mk 900 (AObj.cells [(vI x), (vI y)] 3 false 1)), (Prod.mk 901 (AObj.cells [(vI lo), (vI hi)] 58 false 1)), (Prod.mk 902 (AObj.cells [(vI e)] 29 false 1))])
 (bcase (decide (x > hi))
 (K (vI e) [(Prod.mk 900 (AObj.cells [(vI x), (vI y)] 3 false 1)), (Prod.mk 901 (AObj.cells [(vI lo), (vI hi)] 58 false 1)), (Prod.mk 902 (AObj.cells [(vI e)] 29 false 1))])
 (bcase (decide (y < lo))
 (K (vI e) [(Prod.mk 900 (AObj.cells [(vI x), (vI y)] 3 false 1)), (Prod.mk 901 (AObj.cells [(vI lo), (vI hi)] 58 false 1)), (Prod.mk 902 (AObj.cells [(vI e)] 29 false 1))])
 (bcase (decide (y > hi))
 (K (vI e) [(Prod.mk 900 (AObj.cells [(vI x), (vI y)] 3 false 1)), (Prod.mk 901 (AObj.cells [(vI lo), (vI hi)] 58 false 1)), (Prod.mk 902 (AObj.cells [(vI e)] 29 false 1))])
 (K (vI (0 : Int)) [(Prod.mk 900 (AObj.cells [(vI x), (vI y)] 3 false 1)), (Prod.mk 901 (AObj.cells [(vI lo), (vI hi)] 58 false 1)), (Prod.mk 902 (AObj.cells [(vI e)] 29 false 1))]))))) := by kernel_rfl
def wt3 (cap : Nat) (lo hi e x y z : Int) (K : Value → Blocks → Prop) : Prop := wpFn Tryz.prog hF (fun _ _ _ => False) 6 102 #[.slice (some ⟨900, 0, none⟩) 3 cap, P1 901 0, P1 902 0] (heapOf ((900, .cells [vI x, vI y, vI z] 3 false 1) :: wl lo hi e)) (stateK K)
theorem wt3_text (cap : Nat) (lo : Int) (hi : Int) (e : Int) (x : Int) (y : Int) (z : Int) (K : Go.Value → Blocks → Prop) : wt3 cap lo hi e x y z K =
 (bcase (decide (x < lo))
 (K (vI e) [(Prod.mk 900 (AObj.cells [(vI x), (vI y), (vI z)] 3 false 1)), (Prod.mk 901 (AObj.cells [(vI lo), (vI hi)] 58 false 1)), (Prod.mk 902 (AObj.cells [(vI e)] 29 false 1))])
 (bcase (decide (x > hi))
 (K (vI e) [(Prod.mk 900 (AObj.cells [(vI x), (vI y), (vI z)] 3 false 1)), (Prod.mk 901 (AObj.cells [(vI lo), (vI hi)] 58 false 1)), (Prod.mk 902 (AObj.cells [(vI e)] 29 false 1))])
 (bcase (decide (y < lo))
 (K (vI e) [(Prod.mk 900 (AObj.cells [(vI x), (vI y), (vI z)] 3 false 1)), (Prod.mk 901 (AObj.cells [(vI lo), (vI hi)] 58 false 1)), (Prod.mk 902 (AObj.cells [(vI e)] 29 false 1))])
 (bcase (decide (y > hi))
 (K (vI e) [(Prod.mk 900 (AObj.cells [(vI x), (vI y), (vI z)] 3 false 1)), (Prod.mk 901 (AObj.cells [(vI lo), (vI hi)] 58 false 1)), (Prod.mk 902 (AObj.cells [(vI e)] 29 false 1))])
 (bcase (decide (z < lo))
 (K (vI e) [(Prod.mk 900 (AObj.cells [(vI x), (vI y), (vI z)] 3 false 1)), (Prod.mk 901 (AObj.cells [(vI lo), (vI hi)] 58 false 1)), (Prod.mk 902 (AObj.cells [(vI e)] 29 false 1))])
 (bcase (decide (z > hi))
 (K (vI e) [(Prod.mk 900 (AObj.cells [(vI x), (vI y), (vI z)] 3 false 1)), (Prod.mk 901 (AObj.cells [(vI lo), (vI hi)] 58 false 1)), (Prod.mk 902 (AObj.cells [(vI e)] 29 false 1))])
 (K (vI (0 : Int)) [(Prod.mk 900 (AObj.cells [(vI x), (vI y), (vI z)] 3 false 1)), (Prod.mk 901 (AObj.cells [(vI lo), (vI hi)] 58 false 1)), (Prod.mk 902 (AObj.cells [(vI e)] 29 false 1))]))))))) := by kernel_rfl
def wt4 (cap : Nat) (lo hi e x y z u : Int) (K : Value → Blocks → Prop) : Prop := wpFn Tryz.prog hF (fun _ _ _ => False) 6 102 #[.slice (some ⟨900, 0, none⟩) 4 cap, P1 901 0, P1 902 0] (heapOf ((900, .cells [vI x, vI y, vI z, vI u] 3 false 1) :: wl lo hi e)) (stateK K)
theorem wt4_text (cap : Nat) (lo : Int) (hi : Int) (e : Int) (x : Int) (y : Int) (z : Int) (u : Int) (K : Go.Value → Blocks → Prop) : wt4 cap lo hi e x y z u K =
 (bcase (decide (x < lo))
 (K (vI e) [(Prod.mk 900 (AObj.cells [(vI x), (vI y), (vI z), (vI u)] 3 false 1)), (Prod.mk 901 (AObj.cells [(vI lo), (vI hi)] 58 false 1)), (Prod.mk 902 (AObj.cells [(vI e)] 29 false 1))])
 (bcase (decide (x > hi))
 (K (vI e) [(Prod.mk 900 (AObj.cells [(vI x), (vI y), (vI z), (vI u)] 3 false 1)), (Prod.mk 901 (AObj.cells [(vI lo), (vI hi)] 58 false 1)), (Prod.mk 902 (AObj.cells [(vI e)] 29 false 1))])
 (bcase (decide (y < lo))
 (K (vI e) [(Prod.mk 900 (AObj.cells [(vI x), (vI y), (vI z), (vI u)] 3 false 1)), (Prod.mk 901 (AObj.cells [(vI lo), (vI hi)] 58 false 1)), (Prod.mk 902 (AObj.cells [(vI e)] 29 false 1))])
 (bcase (decide (y > hi))
 (K (vI e) [(Prod.mk 900 (AObj.cells [(vI x), (vI y), (vI z), (vI u)] 3 false 1)), (Prod.mk 901 (AObj.cells [(vI lo), (vI hi)] 58 false 1)), (Prod.mk 902 (AObj.cells [(vI e)] 29 false 1))])
 (bcase (decide (z < lo))
 (K (vI e) [(Prod.mk 900 (AObj.cells [(vI x), (vI y), (vI z), (vI u)] 3 false 1)), (Prod.mk 901 (AObj.cells [(vI lo), (vI hi)] 58 false 1)), (Prod.mk 902 (AObj.cells [(vI e)] 29 false 1))])
 (bcase (decide (z > hi))
 (K (vI e) [(Prod.mk 900 (AObj.cells [(vI x), (vI y), (vI z), (vI u)] 3 false 1)), (Prod.mk 901 (AObj.cells [(vI lo), (vI hi)] 58 false 1)), (Prod.mk 902 (AObj.cells [(vI e)] 29 false 1))])
 (bcase (decide (u < lo))
 (K (vI e) [(Prod.mk 900 (AObj.cells [(vI x), (vI y), (vI z), (vI u)] 3 false 1)), (Prod.mk 901 (AObj.cells [(vI lo), (vI hi)] 58 false 1)), (Prod.mk 902 (AObj.cells [(vI e)] 29 false 1))])
 (bcase (decide (u > hi))
 (K (vI e) [(Prod.mk 900 (AObj.cells [(vI x), (vI y), (vI z), (vI u)] 3 false 1)), (Prod.mk 901 (AObj.cells [(vI lo), (vI hi)] 58 false 1)), (Prod.mk 902 (AObj.cells [(vI e)] 29 false 1))])
 (K (vI (0 : Int)) [(Prod.mk 900 (AObj.cells [(vI x), (vI y), (vI z), (vI u)] 3 false 1)), (Prod.mk 901 (AObj.cells [(vI lo), (vI hi)] 58 false 1)), (Prod.mk 902 (AObj.cells [(vI e)] 29 false 1))]))))))))) := by kernel_rfl
def wt5 (cap : Nat) (lo hi e x y z u v : Int) (K : Value → Blocks → Prop) : Prop := wpFn Tryz.prog hF (fun _ _ _ => False) 6 102 #[.slice (some ⟨900, 0, none⟩) 5 cap, P1 901 0, P1 902 0] (heapOf ((900, .cells [vI x, vI y, vI z, vI u, vI v] 3 false 1) :: wl lo hi e)) (stateK K)
theorem wt5_text (cap : Nat) (lo : Int) (hi : Int) (e : Int) (x : Int) (y : Int) (z : Int) (u : Int) (v : Int) (K : Go.Value → Blocks → Prop) : wt5 cap lo hi e x y z u v K =
 (bcase (decide (x < lo))
 (K (vI e) [(Prod.mk 900 (AObj.cells [(vI x), (vI y), (vI z), (vI u), (vI v)] 3 false 1)), (Prod.mk 901 (AObj.cells [(vI lo), (vI hi)] 58 false 1)), (Prod.mk 902 (AObj.cells [(vI e)] 29 false 1))])
 (bcase (decide (x > hi))
 (K (vI e) [(Prod.mk 900 (AObj.cells [(vI x), (vI y), (vI z), (vI u), (vI v)] 3 false 1)), (Prod.mk 901 (AObj.cells [(vI lo), (vI hi)] 58 false 1)), (Prod.mk 902 (AObj.cells [(vI e)] 29 false 1))])
 (bcase (decide (y < lo))
 (K (vI e) [(Prod.mk 900 (AObj.cells [(vI x), (vI y), (vI z), (vI u), (vI v)] 3 false 1)), (Prod.mk 901 (AObj.cells [(vI lo), (vI hi)] 58 false 1)), (Prod.mk 902 (AObj.cells [(vI e)] 29 false 1))])
 (bcase (decide (y > hi))
 (K (vI e) [(Prod.mk 900 (AObj.cells [(vI x), (vI y), (vI z), (vI u), (vI v)] 3 false 1)), (Prod.mk 901 (AObj.cells [(vI lo), (vI hi)] 58 false 1)), (Prod.mk 902 (AObj.cells [(vI e)] 29 false 1))])
 (bcase (decide (z < lo))
 (K (vI e) [(Prod.mk 900 (AObj.cells [(vI x), (vI y), (vI z), (vI u), (vI v)] 3 false 1)), (Prod.mk 901 (AObj.cells [(vI lo), (vI hi)] 58 false 1)), (Prod.mk 902 (AObj.cells [(vI e)] 29 false 1))])
 (bcase (decide (z > hi))
 (K (vI e) [(Prod.mk 900 (AObj.cells [(vI x), (vI y), (vI z), (vI u), (vI v)] 3 false 1)), (Prod.mk 901 (AObj.cells [(vI lo), (vI hi)] 58 false 1)), (Prod.mk 902 (AObj.cells [(vI e)] 29 false 1))])
 (bcase (decide (u < lo))
 (K (vI e) [(Prod.mk 900 (AObj.cells [(vI x), (vI y), (vI z), (vI u), (vI v)] 3 false 1)), (Prod.mk 901 (AObj.cells [(vI lo), (vI hi)] 58 false 1)), (Prod.mk 902 (AObj.cells [(vI e)] 29 false 1))])
 (bcase (decide (u > hi))
 (K (vI e) [(Prod.mk 900 (AObj.cells [(vI x), (vI y), (vI z), (vI u), (vI v)] 3 false 1)), (Prod.mk 901 (AObj.cells [(vI lo), (vI hi)] 58 false 1)), (Prod.mk 902 (AObj.cells [(vI e)] 29 false 1))])
 (bcase (decide (v < lo))
 (K (vI e) [(Prod.mk 900 (AObj.cells [(vI x), (vI y), (vI z), (vI u), (vI v)] 3 false 1)), (Prod.mk 901 (AObj.cells [(vI lo), (vI hi)] 58 false 1)), (Prod.mk 902 (AObj.cells [(vI e)] 29 false 1))])
 (bcase (decide (v > hi))
 (K (vI e) [(Prod.mk 900 (AObj.cells [(vI x), (vI y), (vI z), (vI u), (vI v)] 3 false 1)), (Prod.mk 901 (AObj.cells [(vI lo), (vI hi)] 58 false 1)), (Prod.mk 902 (AObj.cells [(vI e)] 29 false 1))])
 (K (vI (0 : Int)) [(Prod.mk 900 (AObj.cells [(vI x), (vI y), (vI z), (vI u), (vI v)] 3 false 1)), (Prod.mk 901 (AObj.cells [(vI lo), (vI hi)] 58 false 1)), (Prod.mk 902 (AObj.cells [(vI e)] 29 false 1))]))))))))))) := by kernel_rfl
def wt0 (lo hi e : Int) (K : Value → Blocks → Prop) : Prop := wpFn Tryz.prog hF (fun _ _ _ => False) 6 102 #[.slice none 0 0, P1 900 0, P1 901 0] (heapOf (wm lo hi e)) (stateK K)
theorem wt0_text (lo : Int) (hi : Int) (e : Int) (K : Go.Value → Blocks → Prop) : wt0 lo hi e K =
 (K (vI (0 : Int)) [(Prod.mk 900 (AObj.cells [(vI lo), (vI hi)] 58 false 1)), (Prod.mk 901 (AObj.cells [(vI e)] 29 false 1))]) := by kernel_rfl
def wtH (L : AtLoop) (lo hi e : Int) (n cap : Nat) (l : List Value) (K : Value → Blocks → Prop) : Prop := wpFn Tryz.prog hF L 0 102 #[.slice (some ⟨500, 0, none⟩) n cap, P1 900 0, P1 901 0] (heapOf ((500, .sym l false 1) :: wm lo hi e)) (stateK K)
theorem wtH_text (L : AtLoop) (lo : Int) (hi : Int) (e : Int) (n : Nat) (cap : Nat) (l : List Go.Value) (K : Go.Value → Blocks → Prop) : wtH L lo hi e n cap l K =
 (L 0 [(Prod.mk 1 (Go.Value.pointer (Option.some (Go.Addr.mk 900 0 Option.none)))), (Prod.mk 2 (Go.Value.pointer (Option.some (Go.Addr.mk 901 0 Option.none)))), (Prod.mk 7 (Go.Value.slice (Option.some (Go.Addr.mk 500 0 Option.none)) (n) (cap))), (Prod.mk 8 (vI ((↑n : Int)))), (Prod.mk 9 (vI (0 : Int)))] [(Prod.mk 900 (AObj.cells [(vI lo), (vI hi)] 58 false 1)), (Prod.mk 901 (AObj.cells [(vI e)] 29 false 1)), (Prod.mk 500 (AObj.sym (l) false 1))]) := by kernel_rfl
def wtO (L : AtLoop) (lo hi e : Int) (n cap : Nat) (l : List Value) (K : Value → Blocks → Prop) : Prop := wpFn Tryz.prog hF L 0 102 #[.slice (some ⟨900, 0, none⟩) n cap, P1 901 0, P1 902 0] (heapOf ((900, .sym l true 1) :: wl lo hi e)) (stateK K)
theorem wtO_text (L : AtLoop) (lo : Int) (hi : Int) (e : Int) (n : Nat) (cap : Nat) (l : List Go.Value) (K : Go.Value → Blocks → Prop) : wtO L lo hi e n cap l K =
 (L 0 [(Prod.mk 1 (Go.Value.pointer (Option.some (Go.Addr.mk 901 0 Option.none)))), (Prod.mk 2 (Go.Value.pointer (Option.some (Go.Addr.mk 902 0 Option.none)))), (Prod.mk 7 (Go.Value.slice (Option.some (Go.Addr.mk 900 0 Option.none)) (n) (cap))), (Prod.mk 8 (vI ((↑n : Int)))), (Prod.mk 9 (vI (0 : Int)))] [(Prod.mk 901 (AObj.cells [(vI lo), (vI hi)] 58 false 1)), (Prod.mk 902 (AObj.cells [(vI e)] 29 false 1)), (Prod.mk 900 (AObj.sym (l) true 1))]) := by kernel_rfl
def sWH (n cap : Nat) (i : Int) : Slots := [(1, P1 900 0), (2, P1 901 0), (7, .slice (some ⟨500, 0, none⟩) n cap), (8, .int .i64 n), (9, vI i)]
def bWH (lo hi e : Int) (l : List Value) : Blocks := [(900, .cells [vI lo, vI hi] 58 false 1), (901, .cells [vI e] 29 false 1), (500, .sym l false 1)]
def rWH (L : AtLoop) (lo hi e : Int) (n cap : Nat) (l : List Value) (i : Int) (B : Bx) (X : Xx) (K : Value → Blocks → Prop) : Prop := wpRound Tryz.prog hF L 102 0 (sWH n cap i) (bWH lo hi e l) B X (stateK K)
theorem rWH_text (L : AtLoop) (lo : Int) (hi : Int) (e : Int) (n : Nat) (cap : Nat) (l : List Go.Value) (i : Int) (B : Bx) (X : Xx) (K : Go.Value → Blocks → Prop) : rWH L lo hi e n cap l i B X K =
 (bcase (decide (i < (↑n : Int)))
 (bcase (decide (0 ≤ i))
 (bcase (decide (i < (↑n : Int)))
 (∃ n1 : Int,
 ((At (l) (0 + Int.toNat i * 1) 1 [(vI n1)]) ∧
 (bcase (decide (n1 < lo))
 (K (vI e) [(Prod.mk 900 (AObj.cells [(vI lo), (vI hi)] 58 false 1)), (Prod.mk 901 (AObj.cells [(vI e)] 29 false 1))])
 (bcase (decide (n1 > hi))
 (K (vI e) [(Prod.mk 900 (AObj.cells [(vI lo), (vI hi)] 58 false 1)), (Prod.mk 901 (AObj.cells [(vI e)] 29 false 1))])
 (B [(Prod.mk 1 (Go.Value.pointer (Option.some (Go.Addr.mk 900 0 Option.none)))), (Prod.mk 2 (Go.Value.pointer (Option.some (Go.Addr.mk 901 0 Option.none)))), (Prod.mk 7 (Go.Value.slice (Option.some (Go.Addr.mk 500 0 Option.none)) (n) (cap))), (Prod.mk 8 (vI ((↑n : Int)))), (Prod.mk 9 (vI (IntKind.wrap .i64 (i + 1))))] [(Prod.mk 900 (AObj.cells [(vI lo), (vI hi)] 58 false 1)), (Prod.mk 901 (AObj.cells [(vI e)] 29 false 1)), (Prod.mk 500 (AObj.sym (l) false 1))])))))
 False)
 False)
 (X 0 [] [(Prod.mk 900 (AObj.cells [(vI lo), (vI hi)] 58 false 1)), (Prod.mk 901 (AObj.cells [(vI e)] 29 false 1))])) := by kernel_rfl
def nWH (L : AtLoop) (lo hi e : Int) (K : Value → Blocks → Prop) : Prop := wpNext Tryz.prog hF L 102 0 .normal [] (wm lo hi e) (stateK K)
theorem nWH_text (L : AtLoop) (lo : Int) (hi : Int) (e : Int) (K : Go.Value → Blocks → Prop) : nWH L lo hi e K =
 (K (vI (0 : Int)) [(Prod.mk 900 (AObj.cells [(vI lo), (vI hi)] 58 false 1)), (Prod.mk 901 (AObj.cells [(vI e)] 29 false 1))]) := by kernel_rfl
def sWO (n cap : Nat) (i : Int) : Slots := [(1, P1 901 0), (2, P1 902 0), (7, .slice (some ⟨900, 0, none⟩) n cap), (8, .int .i64 n), (9, vI i)]
def bWO (lo hi e : Int) (l : List Value) : Blocks := [(901, .cells [vI lo, vI hi] 58 false 1), (902, .cells [vI e] 29 false 1), (900, .sym l true 1)]
def rWO (L : AtLoop) (lo hi e : Int) (n cap : Nat) (l : List Value) (i : Int) (B : Bx) (X : Xx) (K : Value → Blocks → Prop) : Prop := wpRound Tryz.prog hF L 102 0 (sWO n cap i) (bWO lo hi e l) B X (stateK K)
theorem rWO_text (L : AtLoop) (lo : Int) (hi : Int) (e : Int) (n : Nat) (cap : Nat) (l : List Go.Value) (i : Int) (B : Bx) (X : Xx) (K : Go.Value → Blocks → Prop) : rWO L lo hi e n cap l i B X K =
 (bcase (decide (i < (↑n : Int)))
 (bcase (decide (0 ≤ i))
 (bcase (decide (i < (↑n : Int)))
 (∃ n1 : Int,
 ((At (l) (0 + Int.toNat i * 1) 1 [(vI n1)]) ∧
 (bcase (decide (n1 < lo))
 (K (vI e) [(Prod.mk 900 (AObj.sym (l) true 1)), (Prod.mk 901 (AObj.cells [(vI lo), (vI hi)] 58 false 1)), (Prod.mk 902 (AObj.cells [(vI e)] 29 false 1))])
 (bcase (decide (n1 > hi))
 (K (vI e) [(Prod.mk 900 (AObj.sym (l) true 1)), (Prod.mk 901 (AObj.cells [(vI lo), (vI hi)] 58 false 1)), (Prod.mk 902 (AObj.cells [(vI e)] 29 false 1))])
 (B [(Prod.mk 1 (Go.Value.pointer (Option.some (Go.Addr.mk 901 0 Option.none)))), (Prod.mk 2 (Go.Value.pointer (Option.some (Go.Addr.mk 902 0 Option.none)))), (Prod.mk 7 (Go.Value.slice (Option.some (Go.Addr.mk 900 0 Option.none)) (n) (cap))), (Prod.mk 8 (vI ((↑n : Int)))), (Prod.mk 9 (vI (IntKind.wrap .i64 (i + 1))))] [(Prod.mk 901 (AObj.cells [(vI lo), (vI hi)] 58 false 1)), (Prod.mk 902 (AObj.cells [(vI e)] 29 false 1)), (Prod.mk 900 (AObj.sym (l) true 1))])))))
 False)
 False)
 (X 0 [] [(Prod.mk 900 (AObj.sym (l) true 1)), (Prod.mk 901 (AObj.cells [(vI lo), (vI hi)] 58 false 1)), (Prod.mk 902 (AObj.cells [(vI e)] 29 false 1))])) := by kernel_rfl
def nWO (L : AtLoop) (lo hi e : Int) (l : List Value) (K : Value → Blocks → Prop) : Prop := wpNext Tryz.prog hF L 102 0 .normal [] ((900, .sym l true 1) :: wl lo hi e) (stateK K)
theorem nWO_text (L : AtLoop) (lo : Int) (hi : Int) (e : Int) (l : List Go.Value) (K : Go.Value → Blocks → Prop) : nWO L lo hi e l K =
 (K (vI (0 : Int)) [(Prod.mk 900 (AObj.sym (l) true 1)), (Prod.mk 901 (AObj.cells [(vI lo), (vI hi)] 58 false 1)), (Prod.mk 902 (AObj.cells [(vI e)] 29 false 1))]) := by kernel_rfl
end Go.Proofs.G5q

/- The closure of within: whatever it is handed. -/
namespace Go.Proofs.G5q
open Go Go.Abs Go.Proofs
set_option maxRecDepth 100000
theorem mixed : Tryz.prog.follows .mixedOrders = true := by kernel_rfl
theorem witC_out {g : FuncId} {lo hi e r : Int} {n es : Nat} {cs : List Value} (h : Says witC g [.val (.int .i64 lo), .val (.int .i64 hi), .val (.int .i64 e), .sl n es cs] [.val (.int .i64 r)]) : r = witE lo hi e cs := h.out
theorem witC_of {lo hi e : Int} {n : Nat} {cs : List Value} : Says witC 0 [.val (.int .i64 lo), .val (.int .i64 hi), .val (.int .i64 e), .sl n 1 cs] [.val (.int .i64 (witE lo hi e cs))] := ⟨rfl⟩
abbrev WK (lo hi e : Int) (cs : List Value) (bs : Blocks) : Value → Blocks → Prop := fun v b => v = .int .i64 (witE lo hi e cs) ∧ b = bs
theorem wit1 (cap : Nat) (lo hi e x : Int) : wt1 cap lo hi e x (WK lo hi e [vI x] ((900, .cells [vI x] 3 false 1) :: wl lo hi e)) := by
  rw [wt1_text]; unfold WK
  repeat' refine bc_dec (fun _ => ?_) (fun _ => ?_)
  all_goals refine ⟨congrArg (Value.int .i64) ?_, rfl⟩
  all_goals (simp only [witE]; repeat' split)
  all_goals first | rfl | omega
theorem wit2 (cap : Nat) (lo hi e x y : Int) : wt2 cap lo hi e x y (WK lo hi e [vI x, vI y] ((900, .cells [vI x, vI y] 3 false 1) :: wl lo hi e)) := by
  rw [wt2_text]; unfold WK
  repeat' refine bc_dec (fun _ => ?_) (fun _ => ?_)
  all_goals refine ⟨congrArg (Value.int .i64) ?_, rfl⟩
  all_goals (simp only [witE]; repeat' split)
  all_goals first | rfl | omega
theorem wit3 (cap : Nat) (lo hi e x y z : Int) : wt3 cap lo hi e x y z (WK lo hi e [vI x, vI y, vI z] ((900, .cells [vI x, vI y, vI z] 3 false 1) :: wl lo hi e)) := by
  rw [wt3_text]; unfold WK
  repeat' refine bc_dec (fun _ => ?_) (fun _ => ?_)
  all_goals refine ⟨congrArg (Value.int .i64) ?_, rfl⟩
  all_goals (simp only [witE]; repeat' split)
  all_goals first | rfl | omega
theorem wit4 (cap : Nat) (lo hi e x y z u : Int) : wt4 cap lo hi e x y z u (WK lo hi e [vI x, vI y, vI z, vI u] ((900, .cells [vI x, vI y, vI z, vI u] 3 false 1) :: wl lo hi e)) := by
  rw [wt4_text]; unfold WK
  repeat' refine bc_dec (fun _ => ?_) (fun _ => ?_)
  all_goals refine ⟨congrArg (Value.int .i64) ?_, rfl⟩
  all_goals (simp only [witE]; repeat' split)
  all_goals first | rfl | omega
theorem wit5 (cap : Nat) (lo hi e x y z u v : Int) : wt5 cap lo hi e x y z u v (WK lo hi e [vI x, vI y, vI z, vI u, vI v] ((900, .cells [vI x, vI y, vI z, vI u, vI v] 3 false 1) :: wl lo hi e)) := by
  rw [wt5_text]; unfold WK
  repeat' refine bc_dec (fun _ => ?_) (fun _ => ?_)
  all_goals refine ⟨congrArg (Value.int .i64) ?_, rfl⟩
  all_goals (simp only [witE]; repeat' split)
  all_goals first | rfl | omega
theorem wit0 (lo hi e : Int) : wt0 lo hi e (fun v b => v = .int .i64 0 ∧ b = wm lo hi e) := by
  rw [wt0_text]; exact ⟨rfl, rfl⟩
theorem witE_drop {lo hi e : Int} (l : List Int) (i : Nat) (h : i < l.length) : witE lo hi e (vi (l.drop i)) = if l[i] < lo ∨ l[i] > hi then e else witE lo hi e (vi (l.drop (i + 1))) := by
  rw [List.drop_eq_getElem_cons h]; rfl
theorem witH (cap : Nat) (lo hi e : Int) (l : List Int) (hlen : l.length < 1000000000) : CallS Tryz.prog 102 [.slice (some ⟨500, 0, none⟩) l.length cap, P1 900 0, P1 901 0] ((500, .sym (vi l) false 1) :: wm lo hi e) (WK lo hi e (vi l) (wm lo hi e)) := by
  let inv : Nat → Prop := fun i => i ≤ l.length ∧ witE lo hi e (vi l) = witE lo hi e (vi (l.drop i))
  let st : Nat → Slots × Blocks := fun i => (sWH l.length cap i, bWH lo hi e (vi l))
  refine callS_ofG (L := fun _ s b => ∃ x, inv x ∧ st x = (s, b)) falseH_ok mixed Tryz.func102 rfl rfl (ids := [0]) (by kernel_rfl) rfl ?_ (fun id hid => ?_)
  · show wtH _ lo hi e l.length cap (vi l) _
    rw [wtH_text]
    exact ⟨0, ⟨Nat.zero_le _, rfl⟩, rfl⟩
  · obtain rfl := List.mem_singleton.1 hid
    refine ⟨_, st, inv, fun i => l.length - i, ⟨fun s b h => h, by kernel_rfl, ?_⟩⟩
    rintro i ⟨hi', hm⟩
    show rWH _ lo hi e l.length cap (vi l) (i : Int) _ _ _
    rw [rWH_text]
    refine bc_dec (fun h => ?_) (fun h => ?_)
    · have hi2 : i < l.length := by omega
      rw [witE_drop l i hi2] at hm
      simp only [bc_t h, bc_t (show (0 : Int) ≤ (i : Int) by omega), Int.toNat_natCast, at1 (vi_at l i hi2)]
      refine bc_dec (fun h1 => ?_) (fun h1 => bc_dec (fun h2 => ?_) (fun h2 => ?_))
      · rw [if_pos (.inl h1)] at hm; exact ⟨by rw [hm], rfl⟩
      · rw [if_pos (.inr h2)] at hm; exact ⟨by rw [hm], rfl⟩
      · rw [if_neg (by omega)] at hm
        refine ⟨i + 1, ⟨hi2, hm⟩, by omega, ?_⟩
        rw [w64 (by omega) (by omega)]; rfl
    · show (if 0 = 0 then _ else _)
      rw [if_pos rfl]
      show nWH _ lo hi e _
      rw [nWH_text]
      have : i = l.length := by omega
      rw [this, List.drop_length] at hm
      exact ⟨by rw [hm]; rfl, rfl⟩
theorem witO (cap : Nat) (lo hi e : Int) (l : List Int) (hlen : l.length < 1000000000) : CallS Tryz.prog 102 [.slice (some ⟨900, 0, none⟩) l.length cap, P1 901 0, P1 902 0] ((900, .sym (vi l) true 1) :: wl lo hi e) (WK lo hi e (vi l) ((900, .sym (vi l) true 1) :: wl lo hi e)) := by
  let inv : Nat → Prop := fun i => i ≤ l.length ∧ witE lo hi e (vi l) = witE lo hi e (vi (l.drop i))
  let st : Nat → Slots × Blocks := fun i => (sWO l.length cap i, bWO lo hi e (vi l))
  refine callS_ofG (L := fun _ s b => ∃ x, inv x ∧ st x = (s, b)) falseH_ok mixed Tryz.func102 rfl rfl (ids := [0]) (by kernel_rfl) rfl ?_ (fun id hid => ?_)
  · show wtO _ lo hi e l.length cap (vi l) _
    rw [wtO_text]
    exact ⟨0, ⟨Nat.zero_le _, rfl⟩, rfl⟩
  · obtain rfl := List.mem_singleton.1 hid
    refine ⟨_, st, inv, fun i => l.length - i, ⟨fun s b h => h, by kernel_rfl, ?_⟩⟩
    rintro i ⟨hi', hm⟩
    show rWO _ lo hi e l.length cap (vi l) (i : Int) _ _ _
    rw [rWO_text]
    refine bc_dec (fun h => ?_) (fun h => ?_)
    · have hi2 : i < l.length := by omega
      rw [witE_drop l i hi2] at hm
      simp only [bc_t h, bc_t (show (0 : Int) ≤ (i : Int) by omega), Int.toNat_natCast, at1 (vi_at l i hi2)]
      refine bc_dec (fun h1 => ?_) (fun h1 => bc_dec (fun h2 => ?_) (fun h2 => ?_))
      · rw [if_pos (.inl h1)] at hm; exact ⟨by rw [hm], rfl⟩
      · rw [if_pos (.inr h2)] at hm; exact ⟨by rw [hm], rfl⟩
      · rw [if_neg (by omega)] at hm
        refine ⟨i + 1, ⟨hi2, hm⟩, by omega, ?_⟩
        rw [w64 (by omega) (by omega)]; rfl
    · show (if 0 = 0 then _ else _)
      rw [if_pos rfl]
      show nWO _ lo hi e (vi l) _
      rw [nWO_text]
      have : i = l.length := by omega
      rw [this, List.drop_length] at hm
      exact ⟨by rw [hm]; rfl, rfl⟩
theorem wit_run {args : List Value} {bs : Blocks} {lo hi e : Int} {n : Nat} {cs : List Value} {bs' : Blocks} {K : Value → Blocks → Prop} (h1 : CallS Tryz.prog 102 args bs (WK lo hi e cs bs')) (h2 : witOut lo hi e n cs bs' K) : CallS Tryz.prog 102 args bs K := by
  refine callS_mono h1 ?_
  rintro v b ⟨rfl, rfl⟩
  obtain ⟨r, hr, hK⟩ := h2
  rw [← witC_out hr]; exact hK
theorem wit_ok {args : List Value} {bs : Blocks} {K : Value → Blocks → Prop} (hk : witAll 3 58 29 args bs K) : CallS Tryz.prog 102 args bs K := by
  have wk : ∀ {args : List Value} {bs : Blocks} {K : Value → Blocks → Prop}, wpFn Tryz.prog hF (fun _ _ _ => False) 6 102 args.toArray (heapOf bs) (stateK K) → CallS Tryz.prog 102 args bs K := fun h => callS_walk falseH_ok mixed (by decide) Tryz.func102 rfl h
  unfold witAll at hk
  split at hk
  · split at hk
    · rename_i hc
      simp only [Bool.and_eq_true, beq_iff_eq] at hc
      obtain ⟨⟨⟨⟨⟨⟨⟨⟨rfl, rfl⟩, rfl⟩, rfl⟩, rfl⟩, rfl⟩, rfl⟩, rfl⟩, rfl⟩ := hc
      split at hk
      · split at hk
        · rename_i hd
          simp only [Bool.and_eq_true, beq_iff_eq] at hd
          obtain ⟨⟨⟨⟨⟨⟨rfl, rfl⟩, rfl⟩, rfl⟩, rfl⟩, rfl⟩, hm⟩ := hd
          split at hk
          · subst hm; exact wit_run (wk (wit1 _ _ _ _ _)) hk
          · subst hm; exact wit_run (wk (wit2 _ _ _ _ _ _)) hk
          · subst hm; exact wit_run (wk (wit3 _ _ _ _ _ _ _)) hk
          · subst hm; exact wit_run (wk (wit4 _ _ _ _ _ _ _ _)) hk
          · subst hm; exact wit_run (wk (wit5 _ _ _ _ _ _ _ _ _)) hk
          · exact hk.elim
        · exact hk.elim
      · split at hk
        · rename_i hd
          simp only [Bool.and_eq_true, beq_iff_eq] at hd
          obtain ⟨⟨⟨⟨rfl, rfl⟩, rfl⟩, rfl⟩, rfl⟩ := hd
          obtain ⟨l, rfl, rfl, hl, hk⟩ := hk
          exact wit_run (witH _ _ _ _ l hl) hk
        · split at hk
          · rename_i hd
            simp only [Bool.and_eq_true, beq_iff_eq] at hd
            obtain ⟨⟨⟨⟨rfl, rfl⟩, rfl⟩, rfl⟩, rfl⟩ := hd
            obtain ⟨l, rfl, rfl, hl, hk⟩ := hk
            exact wit_run (witO _ _ _ _ l hl) hk
          · exact hk.elim
      · exact hk.elim
    · exact hk.elim
  · split at hk
    · rename_i hc
      simp only [Bool.and_eq_true, beq_iff_eq] at hc
      obtain ⟨⟨⟨⟨⟨⟨⟨⟨⟨rfl, rfl⟩, rfl⟩, rfl⟩, rfl⟩, rfl⟩, rfl⟩, rfl⟩, rfl⟩, rfl⟩ := hc
      refine callS_mono (wk (wit0 _ _ _)) ?_
      rintro v b ⟨rfl, rfl⟩
      exact hk
    · exact hk.elim
  · exact hk.elim
end Go.Proofs.G5q

/- What is left to show of each function, written out; the kernel reckons it. -/
namespace Go.Proofs.G5q
open Go Go.Abs Go.Proofs
set_option maxRecDepth 100000
set_option linter.unusedVariables false
abbrev S500 (n cap : Nat) : Value := .slice (some ⟨500, 0, none⟩) n cap
abbrev S501 (n cap : Nat) : Value := .slice (some ⟨501, 0, none⟩) n cap
abbrev Q500 (l : List Value) : Nat × AObj := (500, .sym l false 1)
abbrev vA (a b c d : Int) : Value := .agg #[vI a, vI b, vI c, vI d]
def preG (C : Ct) : FuncId → Option Handler := fun g => if g == 102 then some (stateH (witAll 3 58 29)) else if g == 999999 then some (fixH C copyInts) else if [4, 34, 49, 64, 47, 45, 76, 999999, 999999, 16, 999999, 999999, 999999, 999999, 32, 67, 999999, 999999, 999999, 46].contains g then some (saidH Tryz.prog C) else none
abbrev hG (C : Ct) : Handler := handlerX Tryz.prog (preG C) 12 6
abbrev hE (C : Ct) : Handler := handlerX Tryz.prog (fun _ => none) 12 6
def gFE (C : Ct) (L : AtLoop) (n cap : Nat) (l : List Value) (k : List D → Prop) : Prop := wpFn Tryz.prog (hG C) L 0 34 #[S500 n cap] (heapOf [Q500 l]) (dataK k)
theorem gFE_text (C : Ct) (L : AtLoop) (n : Nat) (cap : Nat) (l : List Go.Value) (k : List D → Prop) : gFE C L n cap l k =
 (L 0 [(Prod.mk 5 (Go.Value.slice (Option.some (Go.Addr.mk 500 0 Option.none)) (n) (cap))), (Prod.mk 6 (vI ((↑n : Int)))), (Prod.mk 7 (vI (0 : Int)))] [(Prod.mk 500 (AObj.sym (l) false 1))]) := by kernel_rfl
def gCS (C : Ct) (L : AtLoop) (a : Int) (n cap : Nat) (l : List Value) (k : List D → Prop) : Prop := wpFn Tryz.prog (hG C) L 0 49 #[vI a, S500 n cap] (heapOf [Q500 l]) (dataK k)
theorem gCS_text (C : Ct) (L : AtLoop) (a : Int) (n : Nat) (cap : Nat) (l : List Go.Value) (k : List D → Prop) : gCS C L a n cap l k =
 (L 0 [(Prod.mk 0 (vI a)), (Prod.mk 7 (Go.Value.slice (Option.some (Go.Addr.mk 500 0 Option.none)) (n) (cap))), (Prod.mk 8 (vI ((↑n : Int)))), (Prod.mk 9 (vI (0 : Int)))] [(Prod.mk 500 (AObj.sym (l) false 1))]) := by kernel_rfl
def gWi (C : Ct) (L : AtLoop) (a b c : Int) (k : List D → Prop) : Prop := wpFn Tryz.prog (hG C) L 0 32 #[vI a, vI b, vI c] (heapOf []) (dataK k)
theorem gWi_text (C : Ct) (L : AtLoop) (a : Int) (b : Int) (c : Int) (k : List D → Prop) : gWi C L a b c k =
 (bcase (decide (b ≤ a))
 (bcase (decide (a ≤ c))
 (k [(D.val (Value.bool true))])
 (k [(D.val (Value.bool false))]))
 (k [(D.val (Value.bool false))])) := by kernel_rfl
def gTk (C : Ct) (L : AtLoop) (a b c d y : Int) (k : List D → Prop) : Prop := wpFn Tryz.prog (hG C) L 0 47 #[vA a b c d, vI y] (heapOf []) (dataK k)
theorem gTk_text (C : Ct) (L : AtLoop) (a : Int) (b : Int) (c : Int) (d : Int) (y : Int) (k : List D → Prop) : gTk C L a b c d y k =
 (bcase (decide ((if IntKind.wrap .i64 (0 - y) > y then IntKind.wrap .i64 (0 - y) else y) ≤ d))
 (k [(D.val (vI (0 : Int)))])
 (bcase (c != 0)
 (k [(D.val (vI (IntKind.wrap .i64 (Int.tdiv (IntKind.wrap .i64 (b * y)) c))))])
 False)) := by kernel_rfl
def gCM (C : Ct) (L : AtLoop) (a b c d : Int) (k : List D → Prop) : Prop := wpFn Tryz.prog (hG C) L 0 76 #[vA a b c d] (heapOf []) (dataK k)
theorem gCM_text (C : Ct) (L : AtLoop) (a : Int) (b : Int) (c : Int) (d : Int) (k : List D → Prop) : gCM C L a b c d k =
 (((((Go.Value.slice (Option.some (Go.Addr.mk 1004 0 Option.none)) 1 1) = (Go.Value.slice (Option.some (Go.Addr.mk 1004 0 Option.none)) 1 1)) ∧
 ((Option.some (AObj.cells [(vI d)] 3 false 1)) = (Option.some (AObj.cells [(vI d)] 3 false 1)))) ∧
 (((vI d) = (vI d)) ∧
 (((Go.Value.pointer (Option.some (Go.Addr.mk 1000 3 Option.none))) = (Go.Value.pointer (Option.some (Go.Addr.mk 1000 3 Option.none)))) ∧
 ((((Go.Value.slice (Option.some (Go.Addr.mk 1003 0 Option.none)) 1 1) = (Go.Value.slice (Option.some (Go.Addr.mk 1003 0 Option.none)) 1 1)) ∧
 ((Option.some (AObj.cells [(vI c)] 3 false 1)) = (Option.some (AObj.cells [(vI c)] 3 false 1)))) ∧
 (((vI c) = (vI c)) ∧
 (((Go.Value.pointer (Option.some (Go.Addr.mk 1000 2 Option.none))) = (Go.Value.pointer (Option.some (Go.Addr.mk 1000 2 Option.none)))) ∧
 ((((Go.Value.slice (Option.some (Go.Addr.mk 1002 0 Option.none)) 1 1) = (Go.Value.slice (Option.some (Go.Addr.mk 1002 0 Option.none)) 1 1)) ∧
 ((Option.some (AObj.cells [(vI b)] 3 false 1)) = (Option.some (AObj.cells [(vI b)] 3 false 1)))) ∧
 (((vI b) = (vI b)) ∧
 (((Go.Value.pointer (Option.some (Go.Addr.mk 1000 1 Option.none))) = (Go.Value.pointer (Option.some (Go.Addr.mk 1000 1 Option.none)))) ∧
 ((((Go.Value.slice (Option.some (Go.Addr.mk 1001 0 Option.none)) 1 1) = (Go.Value.slice (Option.some (Go.Addr.mk 1001 0 Option.none)) 1 1)) ∧
 ((Option.some (AObj.cells [(vI a)] 3 false 1)) = (Option.some (AObj.cells [(vI a)] 3 false 1)))) ∧
 (((vI a) = (vI a)) ∧
 (((Go.Value.pointer (Option.some (Go.Addr.mk 1000 0 Option.none))) = (Go.Value.pointer (Option.some (Go.Addr.mk 1000 0 Option.none)))) ∧
 True)))))))))))) ∧
 (((((Go.Value.slice (Option.some (Go.Addr.mk 1004 0 Option.none)) 1 1) = (Go.Value.slice (Option.some (Go.Addr.mk 1004 0 Option.none)) 1 1)) ∧
 ((Option.some (AObj.cells [(vI d)] 3 false 1)) = (Option.some (AObj.cells [(vI d)] 3 false 1)))) ∧
 (((vI d) = (vI d)) ∧
 (((Go.Value.pointer (Option.some (Go.Addr.mk 1000 3 Option.none))) = (Go.Value.pointer (Option.some (Go.Addr.mk 1000 3 Option.none)))) ∧
 ((((Go.Value.slice (Option.some (Go.Addr.mk 1003 0 Option.none)) 1 1) = (Go.Value.slice (Option.some (Go.Addr.mk 1003 0 Option.none)) 1 1)) ∧
 ((Option.some (AObj.cells [(vI c)] 3 false 1)) = (Option.some (AObj.cells [(vI c)] 3 false 1)))) ∧
 (((vI c) = (vI c)) ∧
 (((Go.Value.pointer (Option.some (Go.Addr.mk 1000 2 Option.none))) = (Go.Value.pointer (Option.some (Go.Addr.mk 1000 2 Option.none)))) ∧
 ((((Go.Value.slice (Option.some (Go.Addr.mk 1002 0 Option.none)) 1 1) = (Go.Value.slice (Option.some (Go.Addr.mk 1002 0 Option.none)) 1 1)) ∧
 ((Option.some (AObj.cells [(vI b)] 3 false 1)) = (Option.some (AObj.cells [(vI b)] 3 false 1)))) ∧
 (((vI b) = (vI b)) ∧
 (((Go.Value.pointer (Option.some (Go.Addr.mk 1000 1 Option.none))) = (Go.Value.pointer (Option.some (Go.Addr.mk 1000 1 Option.none)))) ∧
 ((((Go.Value.slice (Option.some (Go.Addr.mk 1001 0 Option.none)) 1 1) = (Go.Value.slice (Option.some (Go.Addr.mk 1001 0 Option.none)) 1 1)) ∧
 ((Option.some (AObj.cells [(vI a)] 3 false 1)) = (Option.some (AObj.cells [(vI a)] 3 false 1)))) ∧
 (((vI a) = (vI a)) ∧
 (((Go.Value.pointer (Option.some (Go.Addr.mk 1000 0 Option.none))) = (Go.Value.pointer (Option.some (Go.Addr.mk 1000 0 Option.none)))) ∧
 True)))))))))))) ∧
 (∃ r1 : Int,
 ((Says witC 0 [(D.val (vI (0 : Int))), (D.val (vI (10 : Int))), (D.val (vI (2 : Int))), (D.sl 1 1 [(vI a)])] [(D.val (vI r1))]) ∧
 (((((Go.Value.slice (Option.some (Go.Addr.mk 1004 0 Option.none)) 1 1) = (Go.Value.slice (Option.some (Go.Addr.mk 1004 0 Option.none)) 1 1)) ∧
 ((Option.some (AObj.cells [(vI d)] 3 false 1)) = (Option.some (AObj.cells [(vI d)] 3 false 1)))) ∧
 (((vI d) = (vI d)) ∧
 (((Go.Value.pointer (Option.some (Go.Addr.mk 1000 3 Option.none))) = (Go.Value.pointer (Option.some (Go.Addr.mk 1000 3 Option.none)))) ∧
 ((((Go.Value.slice (Option.some (Go.Addr.mk 1003 0 Option.none)) 1 1) = (Go.Value.slice (Option.some (Go.Addr.mk 1003 0 Option.none)) 1 1)) ∧
 ((Option.some (AObj.cells [(vI c)] 3 false 1)) = (Option.some (AObj.cells [(vI c)] 3 false 1)))) ∧
 (((vI c) = (vI c)) ∧
 (((Go.Value.pointer (Option.some (Go.Addr.mk 1000 2 Option.none))) = (Go.Value.pointer (Option.some (Go.Addr.mk 1000 2 Option.none)))) ∧
 ((((Go.Value.slice (Option.some (Go.Addr.mk 1002 0 Option.none)) 1 1) = (Go.Value.slice (Option.some (Go.Addr.mk 1002 0 Option.none)) 1 1)) ∧
 ((Option.some (AObj.cells [(vI b)] 3 false 1)) = (Option.some (AObj.cells [(vI b)] 3 false 1)))) ∧
 (((vI b) = (vI b)) ∧
 (((Go.Value.pointer (Option.some (Go.Addr.mk 1000 1 Option.none))) = (Go.Value.pointer (Option.some (Go.Addr.mk 1000 1 Option.none)))) ∧
 (((vI a) = (vI a)) ∧
 (((Go.Value.pointer (Option.some (Go.Addr.mk 1000 0 Option.none))) = (Go.Value.pointer (Option.some (Go.Addr.mk 1000 0 Option.none)))) ∧
 True))))))))))) ∧
 (((((Go.Value.slice (Option.some (Go.Addr.mk 1004 0 Option.none)) 1 1) = (Go.Value.slice (Option.some (Go.Addr.mk 1004 0 Option.none)) 1 1)) ∧
 ((Option.some (AObj.cells [(vI d)] 3 false 1)) = (Option.some (AObj.cells [(vI d)] 3 false 1)))) ∧
 (((vI d) = (vI d)) ∧
 (((Go.Value.pointer (Option.some (Go.Addr.mk 1000 3 Option.none))) = (Go.Value.pointer (Option.some (Go.Addr.mk 1000 3 Option.none)))) ∧
 ((((Go.Value.slice (Option.some (Go.Addr.mk 1003 0 Option.none)) 1 1) = (Go.Value.slice (Option.some (Go.Addr.mk 1003 0 Option.none)) 1 1)) ∧
 ((Option.some (AObj.cells [(vI c)] 3 false 1)) = (Option.some (AObj.cells [(vI c)] 3 false 1)))) ∧
 (((vI c) = (vI c)) ∧
 (((Go.Value.pointer (Option.some (Go.Addr.mk 1000 2 Option.none))) = (Go.Value.pointer (Option.some (Go.Addr.mk 1000 2 Option.none)))) ∧
 ((((Go.Value.slice (Option.some (Go.Addr.mk 1002 0 Option.none)) 1 1) = (Go.Value.slice (Option.some (Go.Addr.mk 1002 0 Option.none)) 1 1)) ∧
 ((Option.some (AObj.cells [(vI b)] 3 false 1)) = (Option.some (AObj.cells [(vI b)] 3 false 1)))) ∧
 (((vI b) = (vI b)) ∧
 (((Go.Value.pointer (Option.some (Go.Addr.mk 1000 1 Option.none))) = (Go.Value.pointer (Option.some (Go.Addr.mk 1000 1 Option.none)))) ∧
 (((vI a) = (vI a)) ∧
 (((Go.Value.pointer (Option.some (Go.Addr.mk 1000 0 Option.none))) = (Go.Value.pointer (Option.some (Go.Addr.mk 1000 0 Option.none)))) ∧
 True))))))))))) ∧
 (∃ r2 : Int,
 ((Says witC 0 [(D.val (vI (0 : Int))), (D.val (vI (100 : Int))), (D.val (vI (2 : Int))), (D.sl 1 1 [(vI b)])] [(D.val (vI r2))]) ∧
 (((((Go.Value.slice (Option.some (Go.Addr.mk 1004 0 Option.none)) 1 1) = (Go.Value.slice (Option.some (Go.Addr.mk 1004 0 Option.none)) 1 1)) ∧
 ((Option.some (AObj.cells [(vI d)] 3 false 1)) = (Option.some (AObj.cells [(vI d)] 3 false 1)))) ∧
 (((vI d) = (vI d)) ∧
 (((Go.Value.pointer (Option.some (Go.Addr.mk 1000 3 Option.none))) = (Go.Value.pointer (Option.some (Go.Addr.mk 1000 3 Option.none)))) ∧
 ((((Go.Value.slice (Option.some (Go.Addr.mk 1003 0 Option.none)) 1 1) = (Go.Value.slice (Option.some (Go.Addr.mk 1003 0 Option.none)) 1 1)) ∧
 ((Option.some (AObj.cells [(vI c)] 3 false 1)) = (Option.some (AObj.cells [(vI c)] 3 false 1)))) ∧
 (((vI c) = (vI c)) ∧
 (((Go.Value.pointer (Option.some (Go.Addr.mk 1000 2 Option.none))) = (Go.Value.pointer (Option.some (Go.Addr.mk 1000 2 Option.none)))) ∧
 (((vI b) = (vI b)) ∧
 (((Go.Value.pointer (Option.some (Go.Addr.mk 1000 1 Option.none))) = (Go.Value.pointer (Option.some (Go.Addr.mk 1000 1 Option.none)))) ∧
 (((vI a) = (vI a)) ∧
 (((Go.Value.pointer (Option.some (Go.Addr.mk 1000 0 Option.none))) = (Go.Value.pointer (Option.some (Go.Addr.mk 1000 0 Option.none)))) ∧
 True)))))))))) ∧
 (((((Go.Value.slice (Option.some (Go.Addr.mk 1004 0 Option.none)) 1 1) = (Go.Value.slice (Option.some (Go.Addr.mk 1004 0 Option.none)) 1 1)) ∧
 ((Option.some (AObj.cells [(vI d)] 3 false 1)) = (Option.some (AObj.cells [(vI d)] 3 false 1)))) ∧
 (((vI d) = (vI d)) ∧
 (((Go.Value.pointer (Option.some (Go.Addr.mk 1000 3 Option.none))) = (Go.Value.pointer (Option.some (Go.Addr.mk 1000 3 Option.none)))) ∧
 ((((Go.Value.slice (Option.some (Go.Addr.mk 1003 0 Option.none)) 1 1) = (Go.Value.slice (Option.some (Go.Addr.mk 1003 0 Option.none)) 1 1)) ∧
 ((Option.some (AObj.cells [(vI c)] 3 false 1)) = (Option.some (AObj.cells [(vI c)] 3 false 1)))) ∧
 (((vI c) = (vI c)) ∧
 (((Go.Value.pointer (Option.some (Go.Addr.mk 1000 2 Option.none))) = (Go.Value.pointer (Option.some (Go.Addr.mk 1000 2 Option.none)))) ∧
 (((vI b) = (vI b)) ∧
 (((Go.Value.pointer (Option.some (Go.Addr.mk 1000 1 Option.none))) = (Go.Value.pointer (Option.some (Go.Addr.mk 1000 1 Option.none)))) ∧
 (((vI a) = (vI a)) ∧
 (((Go.Value.pointer (Option.some (Go.Addr.mk 1000 0 Option.none))) = (Go.Value.pointer (Option.some (Go.Addr.mk 1000 0 Option.none)))) ∧
 True)))))))))) ∧
 (∃ r3 : Int,
 ((Says witC 0 [(D.val (vI (1 : Int))), (D.val (vI (100 : Int))), (D.val (vI (2 : Int))), (D.sl 1 1 [(vI c)])] [(D.val (vI r3))]) ∧
 (((((Go.Value.slice (Option.some (Go.Addr.mk 1004 0 Option.none)) 1 1) = (Go.Value.slice (Option.some (Go.Addr.mk 1004 0 Option.none)) 1 1)) ∧
 ((Option.some (AObj.cells [(vI d)] 3 false 1)) = (Option.some (AObj.cells [(vI d)] 3 false 1)))) ∧
 (((vI d) = (vI d)) ∧
 (((Go.Value.pointer (Option.some (Go.Addr.mk 1000 3 Option.none))) = (Go.Value.pointer (Option.some (Go.Addr.mk 1000 3 Option.none)))) ∧
 (((vI c) = (vI c)) ∧
 (((Go.Value.pointer (Option.some (Go.Addr.mk 1000 2 Option.none))) = (Go.Value.pointer (Option.some (Go.Addr.mk 1000 2 Option.none)))) ∧
 (((vI b) = (vI b)) ∧
 (((Go.Value.pointer (Option.some (Go.Addr.mk 1000 1 Option.none))) = (Go.Value.pointer (Option.some (Go.Addr.mk 1000 1 Option.none)))) ∧
 (((vI a) = (vI a)) ∧
 (((Go.Value.pointer (Option.some (Go.Addr.mk 1000 0 Option.none))) = (Go.Value.pointer (Option.some (Go.Addr.mk 1000 0 Option.none)))) ∧
 True))))))))) ∧
 (((((Go.Value.slice (Option.some (Go.Addr.mk 1004 0 Option.none)) 1 1) = (Go.Value.slice (Option.some (Go.Addr.mk 1004 0 Option.none)) 1 1)) ∧
 ((Option.some (AObj.cells [(vI d)] 3 false 1)) = (Option.some (AObj.cells [(vI d)] 3 false 1)))) ∧
 (((vI d) = (vI d)) ∧
 (((Go.Value.pointer (Option.some (Go.Addr.mk 1000 3 Option.none))) = (Go.Value.pointer (Option.some (Go.Addr.mk 1000 3 Option.none)))) ∧
 (((vI c) = (vI c)) ∧
 (((Go.Value.pointer (Option.some (Go.Addr.mk 1000 2 Option.none))) = (Go.Value.pointer (Option.some (Go.Addr.mk 1000 2 Option.none)))) ∧
 (((vI b) = (vI b)) ∧
 (((Go.Value.pointer (Option.some (Go.Addr.mk 1000 1 Option.none))) = (Go.Value.pointer (Option.some (Go.Addr.mk 1000 1 Option.none)))) ∧
 (((vI a) = (vI a)) ∧
 (((Go.Value.pointer (Option.some (Go.Addr.mk 1000 0 Option.none))) = (Go.Value.pointer (Option.some (Go.Addr.mk 1000 0 Option.none)))) ∧
 True))))))))) ∧
 (∃ r4 : Int,
 ((Says witC 0 [(D.val (vI (0 : Int))), (D.val (vI (10000 : Int))), (D.val (vI (2 : Int))), (D.sl 1 1 [(vI d)])] [(D.val (vI r4))]) ∧
 (((((Go.Value.slice (Option.some (Go.Addr.mk 1013 0 Option.none)) 4 4) = (Go.Value.slice (Option.some (Go.Addr.mk 1013 0 Option.none)) 4 4)) ∧
 ((Option.some (AObj.cells [(vI r1), (vI r2), (vI r3), (vI r4)] 29 false 1)) = (Option.some (AObj.cells [(vI r1), (vI r2), (vI r3), (vI r4)] 29 false 1)))) ∧
 (((vI d) = (vI d)) ∧
 (((Go.Value.pointer (Option.some (Go.Addr.mk 1000 3 Option.none))) = (Go.Value.pointer (Option.some (Go.Addr.mk 1000 3 Option.none)))) ∧
 (((vI c) = (vI c)) ∧
 (((Go.Value.pointer (Option.some (Go.Addr.mk 1000 2 Option.none))) = (Go.Value.pointer (Option.some (Go.Addr.mk 1000 2 Option.none)))) ∧
 (((vI b) = (vI b)) ∧
 (((Go.Value.pointer (Option.some (Go.Addr.mk 1000 1 Option.none))) = (Go.Value.pointer (Option.some (Go.Addr.mk 1000 1 Option.none)))) ∧
 (((vI a) = (vI a)) ∧
 (((Go.Value.pointer (Option.some (Go.Addr.mk 1000 0 Option.none))) = (Go.Value.pointer (Option.some (Go.Addr.mk 1000 0 Option.none)))) ∧
 True))))))))) ∧
 (∃ n1 : Int,
 ((Says C 34 [(D.sl 4 1 [(vI r1), (vI r2), (vI r3), (vI r4)])] [(D.val (vI n1))]) ∧
 ((((vI d) = (vI d)) ∧
 (((Go.Value.pointer (Option.some (Go.Addr.mk 1000 3 Option.none))) = (Go.Value.pointer (Option.some (Go.Addr.mk 1000 3 Option.none)))) ∧
 (((vI c) = (vI c)) ∧
 (((Go.Value.pointer (Option.some (Go.Addr.mk 1000 2 Option.none))) = (Go.Value.pointer (Option.some (Go.Addr.mk 1000 2 Option.none)))) ∧
 (((vI b) = (vI b)) ∧
 (((Go.Value.pointer (Option.some (Go.Addr.mk 1000 1 Option.none))) = (Go.Value.pointer (Option.some (Go.Addr.mk 1000 1 Option.none)))) ∧
 (((vI a) = (vI a)) ∧
 (((Go.Value.pointer (Option.some (Go.Addr.mk 1000 0 Option.none))) = (Go.Value.pointer (Option.some (Go.Addr.mk 1000 0 Option.none)))) ∧
 True)))))))) ∧
 (True ∧
 (k [(D.val (vI n1))])))))))))))))))))))))) := by kernel_rfl
def gOu (C : Ct) (L : AtLoop) (a b c d : Int) (n cap : Nat) (l : List Value) (k : List D → Prop) : Prop := wpFn Tryz.prog (hG C) L 0 45 #[vA a b c d, S500 n cap] (heapOf [Q500 l]) (dataK k)
theorem gOu_text (C : Ct) (L : AtLoop) (a : Int) (b : Int) (c : Int) (d : Int) (n : Nat) (cap : Nat) (l : List Go.Value) (k : List D → Prop) : gOu C L a b c d n cap l k =
 (L 0 [(Prod.mk 2 (Go.Value.pointer (Option.some (Go.Addr.mk 1000 0 Option.none)))), (Prod.mk 6 (Go.Value.pointer (Option.some (Go.Addr.mk 1001 0 Option.none)))), (Prod.mk 7 (Go.Value.slice Option.none 0 0)), (Prod.mk 8 (vI (0 : Int))), (Prod.mk 13 (Go.Value.slice (Option.some (Go.Addr.mk 500 0 Option.none)) (n) (cap))), (Prod.mk 14 (vI ((↑n : Int)))), (Prod.mk 15 (vI (0 : Int)))] [(Prod.mk 1000 (AObj.cells [(vI a), (vI b), (vI c), (vI d)] 93 false 1)), (Prod.mk 1001 (AObj.cells [(vI (-(99999 + 1) : Int)), (vI (100000 : Int))] 58 false 2)), (Prod.mk 500 (AObj.sym (l) false 1))]) := by kernel_rfl
def gRA (C : Ct) (L : AtLoop) (a b c d x : Int) (k : List D → Prop) : Prop := wpFn Tryz.prog (hG C) L 0 16 #[vA a b c d, vI x] (heapOf []) (dataK k)
theorem gRA_text (C : Ct) (L : AtLoop) (a : Int) (b : Int) (c : Int) (d : Int) (x : Int) (k : List D → Prop) : gRA C L a b c d x k =
 (∃ n1 : Int,
 ((Says C 76 [(D.agg [(D.val (vI a)), (D.val (vI b)), (D.val (vI c)), (D.val (vI d))])] [(D.val (vI n1))]) ∧
 (bcase (n1 != 0)
 (∃ r1 : Int,
 ((Says witC 0 [(D.val (vI (-(9999 + 1) : Int))), (D.val (vI (10000 : Int))), (D.val (vI (2 : Int))), (D.sl 1 1 [(vI x)])] [(D.val (vI r1))]) ∧
 (∃ n2 : Int,
 ((Says C 34 [(D.sl 2 1 [(vI n1), (vI r1)])] [(D.val (vI n2))]) ∧
 (bcase (n2 != 0)
 (k [(D.val (vI (0 : Int))), (D.val (vI n2))])
 (((((Go.Value.slice (Option.some (Go.Addr.mk 1008 0 Option.none)) 1 1) = (Go.Value.slice (Option.some (Go.Addr.mk 1008 0 Option.none)) 1 1)) ∧
 ((Option.some (AObj.cells [(vI x)] 3 false 1)) = (Option.some (AObj.cells [(vI x)] 3 false 1)))) ∧
 (((vI x) = (vI x)) ∧
 (((Go.Value.agg [(vI (0 : Int)), (vI (0 : Int)), (vI (0 : Int)), (vI (0 : Int))].toArray) = (Go.Value.agg [(vI (0 : Int)), (vI (0 : Int)), (vI (0 : Int)), (vI (0 : Int))].toArray)) ∧
 True))) ∧
 (((Says C 46 [(D.sl 1 1 [(vI x)]), (D.val (vI (501 : Int)))] [D.nil]) ∧
 ((((vI x) = (vI x)) ∧
 (((Go.Value.agg [(vI (0 : Int)), (vI (0 : Int)), (vI (0 : Int)), (vI (0 : Int))].toArray) = (Go.Value.agg [(vI (0 : Int)), (vI (0 : Int)), (vI (0 : Int)), (vI (0 : Int))].toArray)) ∧
 True)) ∧
 ((∃ n3 : Int,
 ((Says C 45 [(D.agg [(D.val (vI (0 : Int))), (D.val (vI (0 : Int))), (D.val (vI (0 : Int))), (D.val (vI (0 : Int)))]), D.nil] [D.nil, (D.val (vI n3))]) ∧
 ((((vI n3) = (vI n3)) ∧
 (((Go.Value.slice Option.none 0 0) = (Go.Value.slice Option.none 0 0)) ∧
 (((Go.Value.tuple [(Go.Value.slice Option.none 0 0), (vI n3)].toArray) = (Go.Value.tuple [(Go.Value.slice Option.none 0 0), (vI n3)].toArray)) ∧
 (((vI x) = (vI x)) ∧
 True)))) ∧
 ((((vI n3) = (vI n3)) ∧
 True) ∧
 (True ∧
 (bcase (n3 != 0)
 (k [(D.val (vI (0 : Int))), (D.val (vI n3))])
 (L 0 [(Prod.mk 2 (Go.Value.pointer (Option.some (Go.Addr.mk 1000 0 Option.none)))), (Prod.mk 6 (Go.Value.pointer (Option.some (Go.Addr.mk 1001 0 Option.none)))), (Prod.mk 10 (vI a)), (Prod.mk 41 (Go.Value.slice Option.none 0 0)), (Prod.mk 42 (vI (0 : Int))), (Prod.mk 43 (vI (0 : Int)))] [(Prod.mk 1000 (AObj.cells [(vI a), (vI b), (vI c), (vI d)] 48 false 1)), (Prod.mk 1001 (AObj.cells [(vI (0 : Int)), (vI (0 : Int)), (vI (0 : Int)), (vI (0 : Int))] 93 false 4))]))))))) ∨
 (∃ n3 : Nat,
 (∃ cs1 : List Go.Value,
 (∃ n4 : Int,
 ((Says C 45 [(D.agg [(D.val (vI (0 : Int))), (D.val (vI (0 : Int))), (D.val (vI (0 : Int))), (D.val (vI (0 : Int)))]), D.nil] [(D.sl (n3) 1 (cs1)), (D.val (vI n4))]) ∧
 ((((vI n4) = (vI n4)) ∧
 (((Go.Value.slice (Option.some (Go.Addr.mk 1009 0 Option.none)) (n3) (n3)) = (Go.Value.slice (Option.some (Go.Addr.mk 1009 0 Option.none)) (n3) (n3))) ∧
 (((Go.Value.tuple [(Go.Value.slice (Option.some (Go.Addr.mk 1009 0 Option.none)) (n3) (n3)), (vI n4)].toArray) = (Go.Value.tuple [(Go.Value.slice (Option.some (Go.Addr.mk 1009 0 Option.none)) (n3) (n3)), (vI n4)].toArray)) ∧
 (((vI x) = (vI x)) ∧
 True)))) ∧
 ((((vI n4) = (vI n4)) ∧
 True) ∧
 (True ∧
 (bcase (n4 != 0)
 (k [(D.val (vI (0 : Int))), (D.val (vI n4))])
 (L 0 [(Prod.mk 2 (Go.Value.pointer (Option.some (Go.Addr.mk 1000 0 Option.none)))), (Prod.mk 6 (Go.Value.pointer (Option.some (Go.Addr.mk 1001 0 Option.none)))), (Prod.mk 10 (vI a)), (Prod.mk 41 (Go.Value.slice (Option.some (Go.Addr.mk 1002 0 Option.none)) (n3) (n3))), (Prod.mk 42 (vI ((↑n3 : Int)))), (Prod.mk 43 (vI (0 : Int)))] [(Prod.mk 1000 (AObj.cells [(vI a), (vI b), (vI c), (vI d)] 48 false 1)), (Prod.mk 1001 (AObj.cells [(vI (0 : Int)), (vI (0 : Int)), (vI (0 : Int)), (vI (0 : Int))] 93 false 4)), (Prod.mk 1002 (AObj.sym (cs1) true 1))])))))))))))) ∨
 (∃ n3 : Nat,
 (∃ cs1 : List Go.Value,
 ((Says C 46 [(D.sl 1 1 [(vI x)]), (D.val (vI (501 : Int)))] [(D.sl (n3) 1 (cs1))]) ∧
 ((((vI x) = (vI x)) ∧
 (((Go.Value.agg [(vI (0 : Int)), (vI (0 : Int)), (vI (0 : Int)), (vI (0 : Int))].toArray) = (Go.Value.agg [(vI (0 : Int)), (vI (0 : Int)), (vI (0 : Int)), (vI (0 : Int))].toArray)) ∧
 True)) ∧
 (bcase (decide (0 + n3 * 1 ≤ List.length cs1))
 ((∃ n4 : Int,
 ((Says C 45 [(D.agg [(D.val (vI (0 : Int))), (D.val (vI (0 : Int))), (D.val (vI (0 : Int))), (D.val (vI (0 : Int)))]), (D.sl (n3) 1 (List.take (n3 * 1) (List.drop 0 cs1)))] [D.nil, (D.val (vI n4))]) ∧
 ((((vI n4) = (vI n4)) ∧
 (((Go.Value.slice Option.none 0 0) = (Go.Value.slice Option.none 0 0)) ∧
 (((Go.Value.tuple [(Go.Value.slice Option.none 0 0), (vI n4)].toArray) = (Go.Value.tuple [(Go.Value.slice Option.none 0 0), (vI n4)].toArray)) ∧
 (((vI x) = (vI x)) ∧
 True)))) ∧
 ((((vI n4) = (vI n4)) ∧
 True) ∧
 (True ∧
 (bcase (n4 != 0)
 (k [(D.val (vI (0 : Int))), (D.val (vI n4))])
 (L 0 [(Prod.mk 2 (Go.Value.pointer (Option.some (Go.Addr.mk 1000 0 Option.none)))), (Prod.mk 6 (Go.Value.pointer (Option.some (Go.Addr.mk 1001 0 Option.none)))), (Prod.mk 10 (vI a)), (Prod.mk 41 (Go.Value.slice Option.none 0 0)), (Prod.mk 42 (vI (0 : Int))), (Prod.mk 43 (vI (0 : Int)))] [(Prod.mk 1000 (AObj.cells [(vI a), (vI b), (vI c), (vI d)] 48 false 1)), (Prod.mk 1001 (AObj.cells [(vI (0 : Int)), (vI (0 : Int)), (vI (0 : Int)), (vI (0 : Int))] 93 false 4))]))))))) ∨
 (∃ n4 : Nat,
 (∃ cs2 : List Go.Value,
 (∃ n5 : Int,
 ((Says C 45 [(D.agg [(D.val (vI (0 : Int))), (D.val (vI (0 : Int))), (D.val (vI (0 : Int))), (D.val (vI (0 : Int)))]), (D.sl (n3) 1 (List.take (n3 * 1) (List.drop 0 cs1)))] [(D.sl (n4) 1 (cs2)), (D.val (vI n5))]) ∧
 ((((vI n5) = (vI n5)) ∧
 (((Go.Value.slice (Option.some (Go.Addr.mk 1010 0 Option.none)) (n4) (n4)) = (Go.Value.slice (Option.some (Go.Addr.mk 1010 0 Option.none)) (n4) (n4))) ∧
 (((Go.Value.tuple [(Go.Value.slice (Option.some (Go.Addr.mk 1010 0 Option.none)) (n4) (n4)), (vI n5)].toArray) = (Go.Value.tuple [(Go.Value.slice (Option.some (Go.Addr.mk 1010 0 Option.none)) (n4) (n4)), (vI n5)].toArray)) ∧
 (((vI x) = (vI x)) ∧
 True)))) ∧
 ((((vI n5) = (vI n5)) ∧
 True) ∧
 (True ∧
 (bcase (n5 != 0)
 (k [(D.val (vI (0 : Int))), (D.val (vI n5))])
 (L 0 [(Prod.mk 2 (Go.Value.pointer (Option.some (Go.Addr.mk 1000 0 Option.none)))), (Prod.mk 6 (Go.Value.pointer (Option.some (Go.Addr.mk 1001 0 Option.none)))), (Prod.mk 10 (vI a)), (Prod.mk 41 (Go.Value.slice (Option.some (Go.Addr.mk 1002 0 Option.none)) (n4) (n4))), (Prod.mk 42 (vI ((↑n4 : Int)))), (Prod.mk 43 (vI (0 : Int)))] [(Prod.mk 1000 (AObj.cells [(vI a), (vI b), (vI c), (vI d)] 48 false 1)), (Prod.mk 1001 (AObj.cells [(vI (0 : Int)), (vI (0 : Int)), (vI (0 : Int)), (vI (0 : Int))] 93 false 4)), (Prod.mk 1002 (AObj.sym (cs2) true 1))]))))))))))
 False))))))))))))
 (∃ r1 : Int,
 ((Says witC 0 [(D.val (vI (-(9999 + 1) : Int))), (D.val (vI (10000 : Int))), (D.val (vI (2 : Int))), (D.sl 1 1 [(vI x)])] [(D.val (vI r1))]) ∧
 (∃ n2 : Int,
 ((Says C 34 [(D.sl 2 1 [(vI (0 : Int)), (vI r1)])] [(D.val (vI n2))]) ∧
 (bcase (n2 != 0)
 (k [(D.val (vI (0 : Int))), (D.val (vI n2))])
 (((((Go.Value.slice (Option.some (Go.Addr.mk 1008 0 Option.none)) 1 1) = (Go.Value.slice (Option.some (Go.Addr.mk 1008 0 Option.none)) 1 1)) ∧
 ((Option.some (AObj.cells [(vI x)] 3 false 1)) = (Option.some (AObj.cells [(vI x)] 3 false 1)))) ∧
 (((vI x) = (vI x)) ∧
 (((Go.Value.agg [(vI a), (vI b), (vI c), (vI d)].toArray) = (Go.Value.agg [(vI a), (vI b), (vI c), (vI d)].toArray)) ∧
 True))) ∧
 (((Says C 46 [(D.sl 1 1 [(vI x)]), (D.val (vI (501 : Int)))] [D.nil]) ∧
 ((((vI x) = (vI x)) ∧
 (((Go.Value.agg [(vI a), (vI b), (vI c), (vI d)].toArray) = (Go.Value.agg [(vI a), (vI b), (vI c), (vI d)].toArray)) ∧
 True)) ∧
 ((∃ n3 : Int,
 ((Says C 45 [(D.agg [(D.val (vI a)), (D.val (vI b)), (D.val (vI c)), (D.val (vI d))]), D.nil] [D.nil, (D.val (vI n3))]) ∧
 ((((vI n3) = (vI n3)) ∧
 (((Go.Value.slice Option.none 0 0) = (Go.Value.slice Option.none 0 0)) ∧
 (((Go.Value.tuple [(Go.Value.slice Option.none 0 0), (vI n3)].toArray) = (Go.Value.tuple [(Go.Value.slice Option.none 0 0), (vI n3)].toArray)) ∧
 (((vI x) = (vI x)) ∧
 True)))) ∧
 ((((vI n3) = (vI n3)) ∧
 True) ∧
 (True ∧
 (bcase (n3 != 0)
 (k [(D.val (vI (0 : Int))), (D.val (vI n3))])
 (L 0 [(Prod.mk 2 (Go.Value.pointer (Option.some (Go.Addr.mk 1000 0 Option.none)))), (Prod.mk 6 (Go.Value.pointer (Option.some (Go.Addr.mk 1001 0 Option.none)))), (Prod.mk 10 (vI a)), (Prod.mk 41 (Go.Value.slice Option.none 0 0)), (Prod.mk 42 (vI (0 : Int))), (Prod.mk 43 (vI (0 : Int)))] [(Prod.mk 1000 (AObj.cells [(vI a), (vI b), (vI c), (vI d)] 48 false 1)), (Prod.mk 1001 (AObj.cells [(vI a), (vI b), (vI c), (vI d)] 93 false 4))]))))))) ∨
 (∃ n3 : Nat,
 (∃ cs1 : List Go.Value,
 (∃ n4 : Int,
 ((Says C 45 [(D.agg [(D.val (vI a)), (D.val (vI b)), (D.val (vI c)), (D.val (vI d))]), D.nil] [(D.sl (n3) 1 (cs1)), (D.val (vI n4))]) ∧
 ((((vI n4) = (vI n4)) ∧
 (((Go.Value.slice (Option.some (Go.Addr.mk 1009 0 Option.none)) (n3) (n3)) = (Go.Value.slice (Option.some (Go.Addr.mk 1009 0 Option.none)) (n3) (n3))) ∧
 (((Go.Value.tuple [(Go.Value.slice (Option.some (Go.Addr.mk 1009 0 Option.none)) (n3) (n3)), (vI n4)].toArray) = (Go.Value.tuple [(Go.Value.slice (Option.some (Go.Addr.mk 1009 0 Option.none)) (n3) (n3)), (vI n4)].toArray)) ∧
 (((vI x) = (vI x)) ∧
 True)))) ∧
 ((((vI n4) = (vI n4)) ∧
 True) ∧
 (True ∧
 (bcase (n4 != 0)
 (k [(D.val (vI (0 : Int))), (D.val (vI n4))])
 (L 0 [(Prod.mk 2 (Go.Value.pointer (Option.some (Go.Addr.mk 1000 0 Option.none)))), (Prod.mk 6 (Go.Value.pointer (Option.some (Go.Addr.mk 1001 0 Option.none)))), (Prod.mk 10 (vI a)), (Prod.mk 41 (Go.Value.slice (Option.some (Go.Addr.mk 1002 0 Option.none)) (n3) (n3))), (Prod.mk 42 (vI ((↑n3 : Int)))), (Prod.mk 43 (vI (0 : Int)))] [(Prod.mk 1000 (AObj.cells [(vI a), (vI b), (vI c), (vI d)] 48 false 1)), (Prod.mk 1001 (AObj.cells [(vI a), (vI b), (vI c), (vI d)] 93 false 4)), (Prod.mk 1002 (AObj.sym (cs1) true 1))])))))))))))) ∨
 (∃ n3 : Nat,
 (∃ cs1 : List Go.Value,
 ((Says C 46 [(D.sl 1 1 [(vI x)]), (D.val (vI (501 : Int)))] [(D.sl (n3) 1 (cs1))]) ∧
 ((((vI x) = (vI x)) ∧
 (((Go.Value.agg [(vI a), (vI b), (vI c), (vI d)].toArray) = (Go.Value.agg [(vI a), (vI b), (vI c), (vI d)].toArray)) ∧
 True)) ∧
 (bcase (decide (0 + n3 * 1 ≤ List.length cs1))
 ((∃ n4 : Int,
 ((Says C 45 [(D.agg [(D.val (vI a)), (D.val (vI b)), (D.val (vI c)), (D.val (vI d))]), (D.sl (n3) 1 (List.take (n3 * 1) (List.drop 0 cs1)))] [D.nil, (D.val (vI n4))]) ∧
 ((((vI n4) = (vI n4)) ∧
 (((Go.Value.slice Option.none 0 0) = (Go.Value.slice Option.none 0 0)) ∧
 (((Go.Value.tuple [(Go.Value.slice Option.none 0 0), (vI n4)].toArray) = (Go.Value.tuple [(Go.Value.slice Option.none 0 0), (vI n4)].toArray)) ∧
 (((vI x) = (vI x)) ∧
 True)))) ∧
 ((((vI n4) = (vI n4)) ∧
 True) ∧
 (True ∧
 (bcase (n4 != 0)
 (k [(D.val (vI (0 : Int))), (D.val (vI n4))])
 (L 0 [(Prod.mk 2 (Go.Value.pointer (Option.some (Go.Addr.mk 1000 0 Option.none)))), (Prod.mk 6 (Go.Value.pointer (Option.some (Go.Addr.mk 1001 0 Option.none)))), (Prod.mk 10 (vI a)), (Prod.mk 41 (Go.Value.slice Option.none 0 0)), (Prod.mk 42 (vI (0 : Int))), (Prod.mk 43 (vI (0 : Int)))] [(Prod.mk 1000 (AObj.cells [(vI a), (vI b), (vI c), (vI d)] 48 false 1)), (Prod.mk 1001 (AObj.cells [(vI a), (vI b), (vI c), (vI d)] 93 false 4))]))))))) ∨
 (∃ n4 : Nat,
 (∃ cs2 : List Go.Value,
 (∃ n5 : Int,
 ((Says C 45 [(D.agg [(D.val (vI a)), (D.val (vI b)), (D.val (vI c)), (D.val (vI d))]), (D.sl (n3) 1 (List.take (n3 * 1) (List.drop 0 cs1)))] [(D.sl (n4) 1 (cs2)), (D.val (vI n5))]) ∧
 ((((vI n5) = (vI n5)) ∧
 (((Go.Value.slice (Option.some (Go.Addr.mk 1010 0 Option.none)) (n4) (n4)) = (Go.Value.slice (Option.some (Go.Addr.mk 1010 0 Option.none)) (n4) (n4))) ∧
 (((Go.Value.tuple [(Go.Value.slice (Option.some (Go.Addr.mk 1010 0 Option.none)) (n4) (n4)), (vI n5)].toArray) = (Go.Value.tuple [(Go.Value.slice (Option.some (Go.Addr.mk 1010 0 Option.none)) (n4) (n4)), (vI n5)].toArray)) ∧
 (((vI x) = (vI x)) ∧
 True)))) ∧
 ((((vI n5) = (vI n5)) ∧
 True) ∧
 (True ∧
 (bcase (n5 != 0)
 (k [(D.val (vI (0 : Int))), (D.val (vI n5))])
 (L 0 [(Prod.mk 2 (Go.Value.pointer (Option.some (Go.Addr.mk 1000 0 Option.none)))), (Prod.mk 6 (Go.Value.pointer (Option.some (Go.Addr.mk 1001 0 Option.none)))), (Prod.mk 10 (vI a)), (Prod.mk 41 (Go.Value.slice (Option.some (Go.Addr.mk 1002 0 Option.none)) (n4) (n4))), (Prod.mk 42 (vI ((↑n4 : Int)))), (Prod.mk 43 (vI (0 : Int)))] [(Prod.mk 1000 (AObj.cells [(vI a), (vI b), (vI c), (vI d)] 48 false 1)), (Prod.mk 1001 (AObj.cells [(vI a), (vI b), (vI c), (vI d)] 93 false 4)), (Prod.mk 1002 (AObj.sym (cs2) true 1))]))))))))))
 False))))))))))))))) := by kernel_rfl
def gRR (C : Ct) (L : AtLoop) (a b c d x : Int) (k : List D → Prop) : Prop := wpFn Tryz.prog (hG C) L 0 999999 #[vA a b c d, vI x] (heapOf []) (dataK k)
theorem gRR_text (C : Ct) (L : AtLoop) (a : Int) (b : Int) (c : Int) (d : Int) (x : Int) (k : List D → Prop) : gRR C L a b c d x k =
 False := by kernel_rfl
def sFE (n cap : Nat) (i : Int) : Slots := [(5, S500 n cap), (6, .int .i64 n), (7, vI i)]
def rFE (C : Ct) (L : AtLoop) (n cap : Nat) (l : List Value) (i : Int) (B : Bx) (X : Xx) (k : List D → Prop) : Prop := wpRound Tryz.prog (hG C) L 34 0 (sFE n cap i) [Q500 l] B X (dataK k)
theorem rFE_text (C : Ct) (L : AtLoop) (n : Nat) (cap : Nat) (l : List Go.Value) (i : Int) (B : Bx) (X : Xx) (k : List D → Prop) : rFE C L n cap l i B X k =
 (bcase (decide (i < (↑n : Int)))
 (bcase (decide (0 ≤ i))
 (bcase (decide (i < (↑n : Int)))
 (∃ n1 : Int,
 ((At (l) (0 + Int.toNat i * 1) 1 [(vI n1)]) ∧
 (bcase (n1 != 0)
 (k [(D.val (vI n1))])
 (B [(Prod.mk 5 (Go.Value.slice (Option.some (Go.Addr.mk 500 0 Option.none)) (n) (cap))), (Prod.mk 6 (vI ((↑n : Int)))), (Prod.mk 7 (vI (IntKind.wrap .i64 (i + 1))))] [(Prod.mk 500 (AObj.sym (l) false 1))]))))
 False)
 False)
 (X 0 [] [])) := by kernel_rfl
def nFE (C : Ct) (L : AtLoop) (k : List D → Prop) : Prop := wpNext Tryz.prog (hG C) L 34 0 .normal [] [] (dataK k)
theorem nFE_text (C : Ct) (L : AtLoop) (k : List D → Prop) : nFE C L k =
 (k [(D.val (vI (0 : Int)))]) := by kernel_rfl
def sCS (a : Int) (n cap : Nat) (i : Int) : Slots := [(0, vI a), (7, S500 n cap), (8, .int .i64 n), (9, vI i)]
def rCS (C : Ct) (L : AtLoop) (a : Int) (n cap : Nat) (l : List Value) (i : Int) (B : Bx) (X : Xx) (k : List D → Prop) : Prop := wpRound Tryz.prog (hG C) L 49 0 (sCS a n cap i) [Q500 l] B X (dataK k)
theorem rCS_text (C : Ct) (L : AtLoop) (a : Int) (n : Nat) (cap : Nat) (l : List Go.Value) (i : Int) (B : Bx) (X : Xx) (k : List D → Prop) : rCS C L a n cap l i B X k =
 (bcase (decide (i < (↑n : Int)))
 (bcase (decide (0 ≤ i))
 (bcase (decide (i < (↑n : Int)))
 (∃ n1 : Int,
 ((At (l) (0 + Int.toNat i * 1) 1 [(vI n1)]) ∧
 (bcase (n1 != a)
 (k [(D.val (vI (10 : Int)))])
 (B [(Prod.mk 0 (vI a)), (Prod.mk 7 (Go.Value.slice (Option.some (Go.Addr.mk 500 0 Option.none)) (n) (cap))), (Prod.mk 8 (vI ((↑n : Int)))), (Prod.mk 9 (vI (IntKind.wrap .i64 (i + 1))))] [(Prod.mk 500 (AObj.sym (l) false 1))]))))
 False)
 False)
 (X 0 [] [])) := by kernel_rfl
def nCS (C : Ct) (L : AtLoop) (k : List D → Prop) : Prop := wpNext Tryz.prog (hG C) L 49 0 .normal [] [] (dataK k)
theorem nCS_text (C : Ct) (L : AtLoop) (k : List D → Prop) : nCS C L k =
 (k [(D.val (vI (0 : Int)))]) := by kernel_rfl
def sOu (l7 : Value) (c : Int) (n cap : Nat) (i : Int) : Slots := [(2, P1 1000 0), (6, P1 1001 0), (7, l7), (8, vI c), (13, S500 n cap), (14, .int .i64 n), (15, vI i)]
abbrev oM (a b c d : Int) : Nat × AObj := (1000, .cells [vI a, vI b, vI c, vI d] 93 false 1)
abbrev oL : Nat × AObj := (1001, .cells [vI (-100000), vI 100000] 58 false 2)
def rOu0 (C : Ct) (L : AtLoop) (a b c d x : Int) (n cap : Nat) (l : List Value) (i : Int) (B : Bx) (X : Xx) (k : List D → Prop) : Prop := wpRound Tryz.prog (hG C) L 45 0 (sOu (.slice none 0 0) x n cap i) [oM a b c d, oL, Q500 l] B X (dataK k)
theorem rOu0_text (C : Ct) (L : AtLoop) (a : Int) (b : Int) (c : Int) (d : Int) (x : Int) (n : Nat) (cap : Nat) (l : List Go.Value) (i : Int) (B : Bx) (X : Xx) (k : List D → Prop) : rOu0 C L a b c d x n cap l i B X k =
 (bcase (decide (i < (↑n : Int)))
 (bcase (decide (0 ≤ i))
 (bcase (decide (i < (↑n : Int)))
 (∃ n1 : Int,
 ((At (l) (0 + Int.toNat i * 1) 1 [(vI n1)]) ∧
 (bcase (decide (0 ≤ i))
 (bcase (decide (i < (↑1 : Int)))
 (∃ n2 : Int,
 ((At [(vI (IntKind.wrap .i64 (n1 + x)))] (0 + Int.toNat i * 1) 1 [(vI n2)]) ∧
 (((((Go.Value.slice (Option.some (Go.Addr.mk 1004 0 Option.none)) 1 1) = (Go.Value.slice (Option.some (Go.Addr.mk 1004 0 Option.none)) 1 1)) ∧
 ((Option.some (AObj.cells [(vI n2)] 3 false 1)) = (Option.some (AObj.cells [(vI n2)] 3 false 1)))) ∧
 ((∃ n3 : Int,
 ((At [(vI (IntKind.wrap .i64 (n1 + x)))] (0 + Int.toNat i * 1) 1 [(vI n3)]) ∧
 ((vI n3) = (vI n2)))) ∧
 ((bcase (decide (0 ≤ i))
 (bcase (decide (i < (↑1 : Int)))
 ((Go.Value.pointer (Option.some (Go.Addr.mk 1003 (0 + Int.toNat i * 1) Option.none))) = (Go.Value.pointer (Option.some (Go.Addr.mk 1003 (0 + Int.toNat i * 1) Option.none))))
 False)
 False) ∧
 (((vI i) = (vI i)) ∧
 (((Go.Value.slice (Option.some (Go.Addr.mk 1003 0 Option.none)) 1 1) = (Go.Value.slice (Option.some (Go.Addr.mk 1003 0 Option.none)) 1 1)) ∧
 (((Go.Value.agg [(vI (-(99999 + 1) : Int)), (vI (100000 : Int))].toArray) = (Go.Value.agg [(vI (-(99999 + 1) : Int)), (vI (100000 : Int))].toArray)) ∧
 True)))))) ∧
 (((((Go.Value.slice (Option.some (Go.Addr.mk 1004 0 Option.none)) 1 1) = (Go.Value.slice (Option.some (Go.Addr.mk 1004 0 Option.none)) 1 1)) ∧
 ((Option.some (AObj.cells [(vI n2)] 3 false 1)) = (Option.some (AObj.cells [(vI n2)] 3 false 1)))) ∧
 ((∃ n3 : Int,
 ((At [(vI (IntKind.wrap .i64 (n1 + x)))] (0 + Int.toNat i * 1) 1 [(vI n3)]) ∧
 ((vI n3) = (vI n2)))) ∧
 ((bcase (decide (0 ≤ i))
 (bcase (decide (i < (↑1 : Int)))
 ((Go.Value.pointer (Option.some (Go.Addr.mk 1003 (0 + Int.toNat i * 1) Option.none))) = (Go.Value.pointer (Option.some (Go.Addr.mk 1003 (0 + Int.toNat i * 1) Option.none))))
 False)
 False) ∧
 (((vI i) = (vI i)) ∧
 (((Go.Value.slice (Option.some (Go.Addr.mk 1003 0 Option.none)) 1 1) = (Go.Value.slice (Option.some (Go.Addr.mk 1003 0 Option.none)) 1 1)) ∧
 True))))) ∧
 (∃ r1 : Int,
 ((Says witC 0 [(D.val (vI (-(99999 + 1) : Int))), (D.val (vI (100000 : Int))), (D.val (vI (22 : Int))), (D.sl 1 1 [(vI n2)])] [(D.val (vI r1))]) ∧
 (((∃ n3 : Int,
 ((At [(vI (IntKind.wrap .i64 (n1 + x)))] (0 + Int.toNat i * 1) 1 [(vI n3)]) ∧
 ((vI n3) = (vI n2)))) ∧
 ((bcase (decide (0 ≤ i))
 (bcase (decide (i < (↑1 : Int)))
 ((Go.Value.pointer (Option.some (Go.Addr.mk 1003 (0 + Int.toNat i * 1) Option.none))) = (Go.Value.pointer (Option.some (Go.Addr.mk 1003 (0 + Int.toNat i * 1) Option.none))))
 False)
 False) ∧
 (((vI i) = (vI i)) ∧
 (((Go.Value.slice (Option.some (Go.Addr.mk 1003 0 Option.none)) 1 1) = (Go.Value.slice (Option.some (Go.Addr.mk 1003 0 Option.none)) 1 1)) ∧
 True)))) ∧
 (True ∧
 (bcase (r1 != 0)
 (k [D.nil, (D.val (vI r1))])
 (bcase (decide (i ≥ a))
 (bcase (decide (0 ≤ IntKind.wrap .i64 (i - a)))
 (bcase (decide (IntKind.wrap .i64 (i - a) < (↑1 : Int)))
 (∃ n3 : Int,
 ((At [(vI (IntKind.wrap .i64 (n1 + x)))] (0 + Int.toNat (IntKind.wrap .i64 (i - a)) * 1) 1 [(vI n3)]) ∧
 (((∃ n4 : Int,
 ((At [(vI (IntKind.wrap .i64 (n1 + x)))] (0 + Int.toNat (IntKind.wrap .i64 (i - a)) * 1) 1 [(vI n4)]) ∧
 ((vI n4) = (vI n3)))) ∧
 ((bcase (decide (0 ≤ IntKind.wrap .i64 (i - a)))
 (bcase (decide (IntKind.wrap .i64 (i - a) < (↑1 : Int)))
 ((Go.Value.pointer (Option.some (Go.Addr.mk 1003 (0 + Int.toNat (IntKind.wrap .i64 (i - a)) * 1) Option.none))) = (Go.Value.pointer (Option.some (Go.Addr.mk 1003 (0 + Int.toNat (IntKind.wrap .i64 (i - a)) * 1) Option.none))))
 False)
 False) ∧
 (((vI (IntKind.wrap .i64 (i - a))) = (vI (IntKind.wrap .i64 (i - a)))) ∧
 (((vI a) = (vI a)) ∧
 (((Go.Value.pointer (Option.some (Go.Addr.mk 1000 0 Option.none))) = (Go.Value.pointer (Option.some (Go.Addr.mk 1000 0 Option.none)))) ∧
 (((Go.Value.pointer (Option.some (Go.Addr.mk 1000 0 Option.none))) = (Go.Value.pointer (Option.some (Go.Addr.mk 1000 0 Option.none)))) ∧
 (((vI i) = (vI i)) ∧
 (((Go.Value.slice (Option.some (Go.Addr.mk 1003 0 Option.none)) 1 1) = (Go.Value.slice (Option.some (Go.Addr.mk 1003 0 Option.none)) 1 1)) ∧
 (((Go.Value.agg [(vI a), (vI b), (vI c), (vI d)].toArray) = (Go.Value.agg [(vI a), (vI b), (vI c), (vI d)].toArray)) ∧
 (((vI x) = (vI x)) ∧
 True)))))))))) ∧
 (∃ n4 : Int,
 ((Says C 47 [(D.agg [(D.val (vI a)), (D.val (vI b)), (D.val (vI c)), (D.val (vI d))]), (D.val (vI n3))] [(D.val (vI n4))]) ∧
 ((((vI (IntKind.wrap .i64 (x - n4))) = (vI (IntKind.wrap .i64 (x - n4)))) ∧
 ((bcase (decide (0 ≤ IntKind.wrap .i64 (i - a)))
 (bcase (decide (IntKind.wrap .i64 (i - a) < (↑1 : Int)))
 ((Go.Value.pointer (Option.some (Go.Addr.mk 1003 (0 + Int.toNat (IntKind.wrap .i64 (i - a)) * 1) Option.none))) = (Go.Value.pointer (Option.some (Go.Addr.mk 1003 (0 + Int.toNat (IntKind.wrap .i64 (i - a)) * 1) Option.none))))
 False)
 False) ∧
 (((vI (IntKind.wrap .i64 (i - a))) = (vI (IntKind.wrap .i64 (i - a)))) ∧
 (((vI a) = (vI a)) ∧
 (((Go.Value.pointer (Option.some (Go.Addr.mk 1000 0 Option.none))) = (Go.Value.pointer (Option.some (Go.Addr.mk 1000 0 Option.none)))) ∧
 (((Go.Value.pointer (Option.some (Go.Addr.mk 1000 0 Option.none))) = (Go.Value.pointer (Option.some (Go.Addr.mk 1000 0 Option.none)))) ∧
 (((vI i) = (vI i)) ∧
 (((Go.Value.slice (Option.some (Go.Addr.mk 1003 0 Option.none)) 1 1) = (Go.Value.slice (Option.some (Go.Addr.mk 1003 0 Option.none)) 1 1)) ∧
 (((vI x) = (vI x)) ∧
 True))))))))) ∧
 (True ∧
 (B [(Prod.mk 2 (Go.Value.pointer (Option.some (Go.Addr.mk 1000 0 Option.none)))), (Prod.mk 6 (Go.Value.pointer (Option.some (Go.Addr.mk 1001 0 Option.none)))), (Prod.mk 7 (Go.Value.slice (Option.some (Go.Addr.mk 1002 0 Option.none)) 1 1)), (Prod.mk 8 (vI (IntKind.wrap .i64 (x - n4)))), (Prod.mk 13 (Go.Value.slice (Option.some (Go.Addr.mk 500 0 Option.none)) (n) (cap))), (Prod.mk 14 (vI ((↑n : Int)))), (Prod.mk 15 (vI (IntKind.wrap .i64 (i + 1))))] [(Prod.mk 1000 (AObj.cells [(vI a), (vI b), (vI c), (vI d)] 93 false 1)), (Prod.mk 1001 (AObj.cells [(vI (-(99999 + 1) : Int)), (vI (100000 : Int))] 58 false 2)), (Prod.mk 1002 (AObj.sym [(vI (IntKind.wrap .i64 (n1 + x)))] true 1)), (Prod.mk 500 (AObj.sym (l) false 1))]))))))))
 False)
 False)
 (B [(Prod.mk 2 (Go.Value.pointer (Option.some (Go.Addr.mk 1000 0 Option.none)))), (Prod.mk 6 (Go.Value.pointer (Option.some (Go.Addr.mk 1001 0 Option.none)))), (Prod.mk 7 (Go.Value.slice (Option.some (Go.Addr.mk 1002 0 Option.none)) 1 1)), (Prod.mk 8 (vI x)), (Prod.mk 13 (Go.Value.slice (Option.some (Go.Addr.mk 500 0 Option.none)) (n) (cap))), (Prod.mk 14 (vI ((↑n : Int)))), (Prod.mk 15 (vI (IntKind.wrap .i64 (i + 1))))] [(Prod.mk 1000 (AObj.cells [(vI a), (vI b), (vI c), (vI d)] 93 false 1)), (Prod.mk 1001 (AObj.cells [(vI (-(99999 + 1) : Int)), (vI (100000 : Int))] 58 false 2)), (Prod.mk 1002 (AObj.sym [(vI (IntKind.wrap .i64 (n1 + x)))] true 1)), (Prod.mk 500 (AObj.sym (l) false 1))])))))))))))
 False)
 False)))
 False)
 False)
 (X 0 [(Prod.mk 7 (Go.Value.slice Option.none 0 0))] [])) := by kernel_rfl
def rOu (C : Ct) (L : AtLoop) (a b c d x : Int) (n cap : Nat) (l : List Value) (m mc : Nat) (vs : List Value) (i : Int) (B : Bx) (X : Xx) (k : List D → Prop) : Prop := wpRound Tryz.prog (hG C) L 45 0 (sOu (.slice (some ⟨1002, 0, none⟩) m mc) x n cap i) [oM a b c d, oL, (1002, .sym vs true 1), Q500 l] B X (dataK k)
theorem rOu_text (C : Ct) (L : AtLoop) (a : Int) (b : Int) (c : Int) (d : Int) (x : Int) (n : Nat) (cap : Nat) (l : List Go.Value) (m : Nat) (mc : Nat) (vs : List Go.Value) (i : Int) (B : Bx) (X : Xx) (k : List D → Prop) : rOu C L a b c d x n cap l m mc vs i B X k =
 (bcase (decide (i < (↑n : Int)))
 (bcase (decide (0 ≤ i))
 (bcase (decide (i < (↑n : Int)))
 (∃ n1 : Int,
 ((At (l) (0 + Int.toNat i * 1) 1 [(vI n1)]) ∧
 (bcase (decide (mc < m + 1))
 (bcase (decide ((2 * (m + 1) + 768) * 8 ≤ 281474976710656))
 (bcase (decide (m + 1 ≤ 1099511627776))
 (bcase (decide (0 + m * 1 ≤ List.length vs))
 (bcase (decide (0 + mc * 1 = List.length vs))
 (bcase (decide (0 ≤ i))
 (bcase (decide (i < (↑(m + 1) : Int)))
 (∃ n2 : Int,
 ((At ((List.take (m * 1) (List.drop 0 vs)) ++ [(vI (IntKind.wrap .i64 (n1 + x)))]) (0 + Int.toNat i * 1) 1 [(vI n2)]) ∧
 (((((Go.Value.slice (Option.some (Go.Addr.mk 1005 0 Option.none)) 1 1) = (Go.Value.slice (Option.some (Go.Addr.mk 1005 0 Option.none)) 1 1)) ∧
 ((Option.some (AObj.cells [(vI n2)] 3 false 1)) = (Option.some (AObj.cells [(vI n2)] 3 false 1)))) ∧
 ((∃ n3 : Int,
 ((At ((List.take (m * 1) (List.drop 0 vs)) ++ [(vI (IntKind.wrap .i64 (n1 + x)))]) (0 + Int.toNat i * 1) 1 [(vI n3)]) ∧
 ((vI n3) = (vI n2)))) ∧
 ((bcase (decide (0 ≤ i))
 (bcase (decide (i < (↑(m + 1) : Int)))
 ((Go.Value.pointer (Option.some (Go.Addr.mk 1004 (0 + Int.toNat i * 1) Option.none))) = (Go.Value.pointer (Option.some (Go.Addr.mk 1004 (0 + Int.toNat i * 1) Option.none))))
 False)
 False) ∧
 (((vI i) = (vI i)) ∧
 (((Go.Value.slice (Option.some (Go.Addr.mk 1004 0 Option.none)) (m + 1) (m + 1)) = (Go.Value.slice (Option.some (Go.Addr.mk 1004 0 Option.none)) (m + 1) (m + 1))) ∧
 (((Go.Value.agg [(vI (-(99999 + 1) : Int)), (vI (100000 : Int))].toArray) = (Go.Value.agg [(vI (-(99999 + 1) : Int)), (vI (100000 : Int))].toArray)) ∧
 True)))))) ∧
 (((((Go.Value.slice (Option.some (Go.Addr.mk 1005 0 Option.none)) 1 1) = (Go.Value.slice (Option.some (Go.Addr.mk 1005 0 Option.none)) 1 1)) ∧
 ((Option.some (AObj.cells [(vI n2)] 3 false 1)) = (Option.some (AObj.cells [(vI n2)] 3 false 1)))) ∧
 ((∃ n3 : Int,
 ((At ((List.take (m * 1) (List.drop 0 vs)) ++ [(vI (IntKind.wrap .i64 (n1 + x)))]) (0 + Int.toNat i * 1) 1 [(vI n3)]) ∧
 ((vI n3) = (vI n2)))) ∧
 ((bcase (decide (0 ≤ i))
 (bcase (decide (i < (↑(m + 1) : Int)))
 ((Go.Value.pointer (Option.some (Go.Addr.mk 1004 (0 + Int.toNat i * 1) Option.none))) = (Go.Value.pointer (Option.some (Go.Addr.mk 1004 (0 + Int.toNat i * 1) Option.none))))
 False)
 False) ∧
 (((vI i) = (vI i)) ∧
 (((Go.Value.slice (Option.some (Go.Addr.mk 1004 0 Option.none)) (m + 1) (m + 1)) = (Go.Value.slice (Option.some (Go.Addr.mk 1004 0 Option.none)) (m + 1) (m + 1))) ∧
 True))))) ∧
 (∃ r1 : Int,
 ((Says witC 0 [(D.val (vI (-(99999 + 1) : Int))), (D.val (vI (100000 : Int))), (D.val (vI (22 : Int))), (D.sl 1 1 [(vI n2)])] [(D.val (vI r1))]) ∧
 (((∃ n3 : Int,
 ((At ((List.take (m * 1) (List.drop 0 vs)) ++ [(vI (IntKind.wrap .i64 (n1 + x)))]) (0 + Int.toNat i * 1) 1 [(vI n3)]) ∧
 ((vI n3) = (vI n2)))) ∧
 ((bcase (decide (0 ≤ i))
 (bcase (decide (i < (↑(m + 1) : Int)))
 ((Go.Value.pointer (Option.some (Go.Addr.mk 1004 (0 + Int.toNat i * 1) Option.none))) = (Go.Value.pointer (Option.some (Go.Addr.mk 1004 (0 + Int.toNat i * 1) Option.none))))
 False)
 False) ∧
 (((vI i) = (vI i)) ∧
 (((Go.Value.slice (Option.some (Go.Addr.mk 1004 0 Option.none)) (m + 1) (m + 1)) = (Go.Value.slice (Option.some (Go.Addr.mk 1004 0 Option.none)) (m + 1) (m + 1))) ∧
 True)))) ∧
 (True ∧
 (bcase (r1 != 0)
 (k [D.nil, (D.val (vI r1))])
 (bcase (decide (i ≥ a))
 (bcase (decide (0 ≤ IntKind.wrap .i64 (i - a)))
 (bcase (decide (IntKind.wrap .i64 (i - a) < (↑(m + 1) : Int)))
 (∃ n3 : Int,
 ((At ((List.take (m * 1) (List.drop 0 vs)) ++ [(vI (IntKind.wrap .i64 (n1 + x)))]) (0 + Int.toNat (IntKind.wrap .i64 (i - a)) * 1) 1 [(vI n3)]) ∧
 (((∃ n4 : Int,
 ((At ((List.take (m * 1) (List.drop 0 vs)) ++ [(vI (IntKind.wrap .i64 (n1 + x)))]) (0 + Int.toNat (IntKind.wrap .i64 (i - a)) * 1) 1 [(vI n4)]) ∧
 ((vI n4) = (vI n3)))) ∧
 ((bcase (decide (0 ≤ IntKind.wrap .i64 (i - a)))
 (bcase (decide (IntKind.wrap .i64 (i - a) < (↑(m + 1) : Int)))
 ((Go.Value.pointer (Option.some (Go.Addr.mk 1004 (0 + Int.toNat (IntKind.wrap .i64 (i - a)) * 1) Option.none))) = (Go.Value.pointer (Option.some (Go.Addr.mk 1004 (0 + Int.toNat (IntKind.wrap .i64 (i - a)) * 1) Option.none))))
 False)
 False) ∧
 (((vI (IntKind.wrap .i64 (i - a))) = (vI (IntKind.wrap .i64 (i - a)))) ∧
 (((vI a) = (vI a)) ∧
 (((Go.Value.pointer (Option.some (Go.Addr.mk 1000 0 Option.none))) = (Go.Value.pointer (Option.some (Go.Addr.mk 1000 0 Option.none)))) ∧
 (((Go.Value.pointer (Option.some (Go.Addr.mk 1000 0 Option.none))) = (Go.Value.pointer (Option.some (Go.Addr.mk 1000 0 Option.none)))) ∧
 (((vI i) = (vI i)) ∧
 (((Go.Value.slice (Option.some (Go.Addr.mk 1004 0 Option.none)) (m + 1) (m + 1)) = (Go.Value.slice (Option.some (Go.Addr.mk 1004 0 Option.none)) (m + 1) (m + 1))) ∧
 (((Go.Value.agg [(vI a), (vI b), (vI c), (vI d)].toArray) = (Go.Value.agg [(vI a), (vI b), (vI c), (vI d)].toArray)) ∧
 (((vI x) = (vI x)) ∧
 True)))))))))) ∧
 (∃ n4 : Int,
 ((Says C 47 [(D.agg [(D.val (vI a)), (D.val (vI b)), (D.val (vI c)), (D.val (vI d))]), (D.val (vI n3))] [(D.val (vI n4))]) ∧
 ((((vI (IntKind.wrap .i64 (x - n4))) = (vI (IntKind.wrap .i64 (x - n4)))) ∧
 ((bcase (decide (0 ≤ IntKind.wrap .i64 (i - a)))
 (bcase (decide (IntKind.wrap .i64 (i - a) < (↑(m + 1) : Int)))
 ((Go.Value.pointer (Option.some (Go.Addr.mk 1004 (0 + Int.toNat (IntKind.wrap .i64 (i - a)) * 1) Option.none))) = (Go.Value.pointer (Option.some (Go.Addr.mk 1004 (0 + Int.toNat (IntKind.wrap .i64 (i - a)) * 1) Option.none))))
 False)
 False) ∧
 (((vI (IntKind.wrap .i64 (i - a))) = (vI (IntKind.wrap .i64 (i - a)))) ∧
 (((vI a) = (vI a)) ∧
 (((Go.Value.pointer (Option.some (Go.Addr.mk 1000 0 Option.none))) = (Go.Value.pointer (Option.some (Go.Addr.mk 1000 0 Option.none)))) ∧
 (((Go.Value.pointer (Option.some (Go.Addr.mk 1000 0 Option.none))) = (Go.Value.pointer (Option.some (Go.Addr.mk 1000 0 Option.none)))) ∧
 (((vI i) = (vI i)) ∧
 (((Go.Value.slice (Option.some (Go.Addr.mk 1004 0 Option.none)) (m + 1) (m + 1)) = (Go.Value.slice (Option.some (Go.Addr.mk 1004 0 Option.none)) (m + 1) (m + 1))) ∧
 (((vI x) = (vI x)) ∧
 True))))))))) ∧
 (True ∧
 (B [(Prod.mk 2 (Go.Value.pointer (Option.some (Go.Addr.mk 1000 0 Option.none)))), (Prod.mk 6 (Go.Value.pointer (Option.some (Go.Addr.mk 1001 0 Option.none)))), (Prod.mk 7 (Go.Value.slice (Option.some (Go.Addr.mk 1002 0 Option.none)) (m + 1) (m + 1))), (Prod.mk 8 (vI (IntKind.wrap .i64 (x - n4)))), (Prod.mk 13 (Go.Value.slice (Option.some (Go.Addr.mk 500 0 Option.none)) (n) (cap))), (Prod.mk 14 (vI ((↑n : Int)))), (Prod.mk 15 (vI (IntKind.wrap .i64 (i + 1))))] [(Prod.mk 1000 (AObj.cells [(vI a), (vI b), (vI c), (vI d)] 93 false 1)), (Prod.mk 1001 (AObj.cells [(vI (-(99999 + 1) : Int)), (vI (100000 : Int))] 58 false 2)), (Prod.mk 1002 (AObj.sym ((List.take (m * 1) (List.drop 0 vs)) ++ [(vI (IntKind.wrap .i64 (n1 + x)))]) true 1)), (Prod.mk 500 (AObj.sym (l) false 1))]))))))))
 False)
 False)
 (B [(Prod.mk 2 (Go.Value.pointer (Option.some (Go.Addr.mk 1000 0 Option.none)))), (Prod.mk 6 (Go.Value.pointer (Option.some (Go.Addr.mk 1001 0 Option.none)))), (Prod.mk 7 (Go.Value.slice (Option.some (Go.Addr.mk 1002 0 Option.none)) (m + 1) (m + 1))), (Prod.mk 8 (vI x)), (Prod.mk 13 (Go.Value.slice (Option.some (Go.Addr.mk 500 0 Option.none)) (n) (cap))), (Prod.mk 14 (vI ((↑n : Int)))), (Prod.mk 15 (vI (IntKind.wrap .i64 (i + 1))))] [(Prod.mk 1000 (AObj.cells [(vI a), (vI b), (vI c), (vI d)] 93 false 1)), (Prod.mk 1001 (AObj.cells [(vI (-(99999 + 1) : Int)), (vI (100000 : Int))] 58 false 2)), (Prod.mk 1002 (AObj.sym ((List.take (m * 1) (List.drop 0 vs)) ++ [(vI (IntKind.wrap .i64 (n1 + x)))]) true 1)), (Prod.mk 500 (AObj.sym (l) false 1))])))))))))))
 False)
 False)
 False)
 False)
 False)
 False)
 False)))
 False)
 False)
 (X 0 [(Prod.mk 7 (Go.Value.slice (Option.some (Go.Addr.mk 1000 0 Option.none)) (m) (mc)))] [(Prod.mk 1000 (AObj.sym (vs) true 1))])) := by kernel_rfl
abbrev oN (a b c d : Int) : Nat × AObj := (1000, .cells [vI a, vI b, vI c, vI d] 48 false 1)
def sRA (a : Int) (l41 : Value) (n q t : Int) : Slots := [(2, P1 1000 0), (6, P1 1001 0), (10, vI q), (41, l41), (42, vI n), (43, vI t)]
def rRA (C : Ct) (L : AtLoop) (a b c d : Int) (n : Nat) (q t : Int) (l : List Value) (B : Bx) (X : Xx) (k : List D → Prop) : Prop := wpRound Tryz.prog (hG C) L 16 0 (sRA a (.slice (some ⟨1002, 0, none⟩) n n) n q t) [oN a b c d, (1001, .cells [vI a, vI b, vI c, vI d] 93 false 4), (1002, .sym l true 1)] B X (dataK k)
theorem rRA_text (C : Ct) (L : AtLoop) (a : Int) (b : Int) (c : Int) (d : Int) (n : Nat) (q : Int) (t : Int) (l : List Go.Value) (B : Bx) (X : Xx) (k : List D → Prop) : rRA C L a b c d n q t l B X k =
 (bcase (decide (t < (↑n : Int)))
 (bcase (decide (0 ≤ t))
 (bcase (decide (t < (↑n : Int)))
 (∃ n1 : Int,
 ((At (l) (0 + Int.toNat t * 1) 1 [(vI n1)]) ∧
 (∃ n2 : Int,
 ((Says C 47 [(D.agg [(D.val (vI a)), (D.val (vI b)), (D.val (vI c)), (D.val (vI d))]), (D.val (vI n1))] [(D.val (vI n2))]) ∧
 (bcase (n2 != 0)
 (bcase (decide (0 > a))
 (k [(D.val (vI t)), (D.val (vI (0 : Int)))])
 (B [(Prod.mk 2 (Go.Value.pointer (Option.some (Go.Addr.mk 1000 0 Option.none)))), (Prod.mk 6 (Go.Value.pointer (Option.some (Go.Addr.mk 1001 0 Option.none)))), (Prod.mk 10 (vI (0 : Int))), (Prod.mk 41 (Go.Value.slice (Option.some (Go.Addr.mk 1002 0 Option.none)) (n) (n))), (Prod.mk 42 (vI ((↑n : Int)))), (Prod.mk 43 (vI (IntKind.wrap .i64 (t + 1))))] [(Prod.mk 1000 (AObj.cells [(vI a), (vI b), (vI c), (vI d)] 48 false 1)), (Prod.mk 1001 (AObj.cells [(vI a), (vI b), (vI c), (vI d)] 93 false 4)), (Prod.mk 1002 (AObj.sym (l) true 1))]))
 (bcase (decide (IntKind.wrap .i64 (q + 1) > a))
 (k [(D.val (vI t)), (D.val (vI (0 : Int)))])
 (B [(Prod.mk 2 (Go.Value.pointer (Option.some (Go.Addr.mk 1000 0 Option.none)))), (Prod.mk 6 (Go.Value.pointer (Option.some (Go.Addr.mk 1001 0 Option.none)))), (Prod.mk 10 (vI (IntKind.wrap .i64 (q + 1)))), (Prod.mk 41 (Go.Value.slice (Option.some (Go.Addr.mk 1002 0 Option.none)) (n) (n))), (Prod.mk 42 (vI ((↑n : Int)))), (Prod.mk 43 (vI (IntKind.wrap .i64 (t + 1))))] [(Prod.mk 1000 (AObj.cells [(vI a), (vI b), (vI c), (vI d)] 48 false 1)), (Prod.mk 1001 (AObj.cells [(vI a), (vI b), (vI c), (vI d)] 93 false 4)), (Prod.mk 1002 (AObj.sym (l) true 1))])))))))
 False)
 False)
 (X 0 [] [])) := by kernel_rfl
def nRA (C : Ct) (L : AtLoop) (a b c d : Int) (k : List D → Prop) : Prop := wpNext Tryz.prog (hG C) L 16 0 .normal [] [] (dataK k)
theorem nRA_text (C : Ct) (L : AtLoop) (a : Int) (b : Int) (c : Int) (d : Int) (k : List D → Prop) : nRA C L a b c d k =
 (k [(D.val (vI (0 : Int))), (D.val (vI (21 : Int)))]) := by kernel_rfl
def nOu0 (C : Ct) (L : AtLoop) (k : List D → Prop) : Prop := wpNext Tryz.prog (hG C) L 45 0 .normal [(7, .slice none 0 0)] [] (dataK k)
theorem nOu0_text (C : Ct) (L : AtLoop) (k : List D → Prop) : nOu0 C L k =
 (k [D.nil, (D.val (vI (0 : Int)))]) := by kernel_rfl
def nOu (C : Ct) (L : AtLoop) (m mc : Nat) (vs : List Value) (k : List D → Prop) : Prop := wpNext Tryz.prog (hG C) L 45 0 .normal [(7, .slice (some ⟨1000, 0, none⟩) m mc)] [(1000, .sym vs true 1)] (dataK k)
theorem nOu_text (C : Ct) (L : AtLoop) (m : Nat) (mc : Nat) (vs : List Go.Value) (k : List D → Prop) : nOu C L m mc vs k =
 ((((m) = (mc)) ∧
 ((List.length (vs)) = (m * 1))) ∧
 (k [(D.sl (m) 1 (vs)), (D.val (vI (0 : Int)))])) := by kernel_rfl
def fRe (C : Ct) (cap : Nat) (x : Int) (k : List D → Prop) : Prop := wpFn Tryz.prog (hE C) (fun _ _ _ => False) 12 46 #[S500 1 cap, vI 501] (heapOf [Q500 [vI x]]) (dataK k)
end Go.Proofs.G5q

/- Chapter 5: monitors in data: outputs, rest. -/
namespace Go.Proofs.G5
open Go Go.Abs
/-- the size of a number -/
def szI (y : Int) : Int := if -y > y then -y else y
/-- what is taken from the correction for an output -/
def tk (nu de ba y : Int) : Int := if szI y ≤ ba then 0 else (nu * y).tdiv de
/-- the outputs, none if one is too great -/
def outs (D : Nat) (f : Int → Int) : List Int → Int → List Int → Option (List Int)
  | done, _, [] => some done
  | done, c, d :: r => if -100000 ≤ d + c ∧ d + c ≤ 100000 then outs D f (done ++ [d + c]) (c - if D ≤ done.length then f ((done ++ [d + c]).getD (done.length - D) 0) else 0) r else none
/-- the first tick after which it rests -/
def restGo (D : Int) (f : Int → Int) : Int → Int → List Int → Int × Int
  | _, _, [] => (0, 21)
  | q, t, y :: r => if (if f y ≠ 0 then 0 else q + 1) > D then (t, 0) else restGo D f (if f y ≠ 0 then 0 else q + 1) (t + 1) r
/-! ### a constant disturbance -/
def hist (D : Nat) (f : Int → Int) (d : Int) : Nat → List Int × Int
  | 0 => ([], 0)
  | t + 1 => ((hist D f d t).1 ++ [d + (hist D f d t).2], (hist D f d t).2 - if D ≤ t then f (((hist D f d t).1 ++ [d + (hist D f d t).2]).getD (t - D) 0) else 0)
def Y (D : Nat) (f : Int → Int) (d : Int) (t : Nat) : Int := d + (hist D f d t).2
variable {D : Nat} {f : Int → Int} {d : Int}
def okY (D : Nat) (f : Int → Int) (d : Int) (t : Nat) : Prop := -100000 ≤ Y D f d t ∧ Y D f d t ≤ 100000
instance (t : Nat) : Decidable (okY D f d t) := by unfold okY; infer_instance
/-! ### rest -/
/-- the first place from which on all are the same -/
def runAt (l : List Int) : Nat → Nat
  | 0 => 0
  | n + 1 => if l.getD n 0 = l.getD (n + 1) 0 then runAt l n else n + 1
open Classical in
/-- after how many ticks it rests, by the definition -/
noncomputable def restRef (D : Nat) (f : Int → Int) (d : Int) : Int × Int :=
  match outs D f [] 0 (List.replicate 501 d) with
  | none => (0, 22)
  | some out =>
    match outs D f [] 0 (List.replicate (501 + D + 1) d) with
    | none => (0, 21)
    | some more => if ∀ t, runAt out 500 ≤ t → t < 501 + D + 1 → more.getD t 0 = out.getD (runAt out 500) 0 then ((runAt out 500 : Nat), 0) else (0, 21)
/-- after how many ticks it rests -/
def restV (D : Nat) (f : Int → Int) (d : Int) : Int × Int :=
  match outs D f [] 0 (List.replicate 501 d) with
  | none => (0, 22)
  | some out => restGo D f D 0 out
end Go.Proofs.G5

/- Chapter 5: monitors that rest: what is true of them. -/
namespace Go.Proofs.G5
open Go Go.Abs
variable {D : Nat} {f : Int → Int} {d : Int}
end Go.Proofs.G5

/- Chapter 5: what small functions do, in data. -/
namespace Go.Proofs.G5q
open Go Go.Abs Go.Proofs Go.Proofs.G5
set_option maxRecDepth 100000
abbrev C5 : FuncId → List D → List D → Prop := Con Tryz.prog
theorem preOK : PreOK Tryz.prog (preG C5) := by
  intro g h he args ats H k hk
  unfold preG at he
  split at he
  · rename_i e
    obtain rfl := Option.some.inj he
    rw [beq_iff_eq] at e
    subst e
    exact wpState_call (fun args bs K hk => wit_ok hk) hk
  · split at he
    · obtain rfl := Option.some.inj he
      exact fixH_ok (fun _ _ _ h => h) _ _ _ _ _ hk
    · split at he
      · obtain rfl := Option.some.inj he
        exact saidH_ok (fun _ _ _ h => h) _ _ _ _ _ hk
      · cases he
theorem hok : HandlerOK Tryz.prog (hG C5) := handlerX_ok mixed preOK (by decide) 6
theorem hokE : HandlerOK Tryz.prog (hE C5) := handlerX_ok mixed (fun g h he => by cases he) (by decide) 6
theorem vi_snoc (r : List Int) (z : Int) : vi r ++ [vI z] = vi (r ++ [z]) := by simp [vi]
theorem wit_of1 {lo hi e x r : Int} (h : r = if lo ≤ x ∧ x ≤ hi then 0 else e) : Says witC 0 [dI lo, dI hi, dI e, .sl 1 1 [vI x]] [dI r] := ⟨by
  show r = witE lo hi e [.int .i64 x]
  rw [h]; simp only [witE]
  split <;> split <;> first | rfl | omega⟩
def rngE (lo hi e x : Int) : Int := if lo ≤ x ∧ x ≤ hi then 0 else e
theorem wit_rng {lo hi e x : Int} : Says witC 0 [dI lo, dI hi, dI e, .sl 1 1 [vI x]] [dI (rngE lo hi e x)] := wit_of1 rfl
theorem rngE0 {lo hi e x : Int} (he : e ≠ 0) : rngE lo hi e x = 0 ↔ lo ≤ x ∧ x ≤ hi := by
  unfold rngE; split <;> omega
theorem rngE_no {lo hi e x : Int} (h : ¬ (lo ≤ x ∧ x ≤ hi)) : rngE lo hi e x = e := if_neg h
theorem fst0_rng {lo hi e x : Int} {l : List Int} (he : e ≠ 0) : fst0 (rngE lo hi e x :: l) = if lo ≤ x ∧ x ≤ hi then fst0 l else e := by
  unfold rngE
  rw [fst0]
  by_cases h : lo ≤ x ∧ x ≤ hi
  · rw [if_pos h, if_pos h, if_pos rfl]
  · rw [if_neg h, if_neg h, if_neg he]
theorem ite_and2 {α : Type} {p q : Prop} [Decidable p] [Decidable q] {a b : α} : (if p ∧ q then a else b) = if p then (if q then a else b) else b := by
  by_cases hp : p
  · by_cases hq : q
    · rw [if_pos ⟨hp, hq⟩, if_pos hp, if_pos hq]
    · rw [if_neg (fun h => hq h.2), if_pos hp, if_neg hq]
  · rw [if_neg (fun h => hp h.1), if_neg hp]
/-- the first error of a list of errors -/
theorem conFE (l : List Int) (hlen : l.length < 1000000000) : C5 34 [.sl l.length 1 (vi l)] [dI (fst0 l)] := by
  let inv : Nat × Nat → Prop := fun x => x.1 ≤ l.length ∧ fst0 l = fst0 (l.drop x.1)
  let st : Nat × Nat → Slots × Blocks := fun x => (sFE l.length x.2 x.1, [Q500 (vi l)])
  refine con_of (L := fun _ s b => ∃ x, inv x ∧ st x = (s, b)) hok mixed Tryz.func34 rfl (by show 1 ≤ 400; omega) rfl (ids := [0]) (by kernel_rfl) rfl (fun caps => ?_) (fun id hid => ?_)
  · show gFE _ _ l.length (caps 500) (vi l) _
    rw [gFE_text]
    exact ⟨(0, caps 500), ⟨by simp, rfl⟩, rfl⟩
  · obtain rfl := List.mem_singleton.1 hid
    refine ⟨Nat × Nat, st, inv, fun x => l.length - x.1, ⟨fun s b h => h, by kernel_rfl, ?_⟩⟩
    rintro ⟨i, cap⟩ ⟨hi, hr⟩
    simp only at hi hr
    show rFE _ _ l.length cap (vi l) i _ _ _
    rw [rFE_text]
    refine bc_dec (fun h => ?_) (fun h => ?_)
    · have hi' : i < l.length := by omega
      rw [List.drop_eq_getElem_cons hi', fst0] at hr
      simp only [bc_t h, bc_t (show (0 : Int) ≤ (i : Int) by omega), Int.toNat_natCast, at1 (vi_at l i hi')]
      refine bc_bne (fun hc => ?_) (fun hc => ?_)
      · rw [if_neg hc] at hr
        show [dI l[i]] = [dI (fst0 l)]
        rw [hr]
      · rw [if_pos hc] at hr
        refine ⟨(i + 1, cap), ⟨by show i + 1 ≤ l.length; omega, hr⟩, by show l.length - (i + 1) < l.length - i; omega, ?_⟩
        rw [w64 (by omega) (by omega)]; rfl
    · show (if 0 = 0 then _ else _)
      rw [if_pos rfl]
      show nFE _ _ _
      rw [nFE_text]
      have : i = l.length := by omega
      rw [this, List.drop_length] at hr
      show [dI 0] = [dI (fst0 l)]
      rw [hr]; rfl
def sameE (a : Int) : List Int → Int
  | [] => 0
  | p :: r => if p = a then sameE a r else 10
theorem conCS (a : Int) (l : List Int) (hlen : l.length < 1000000000) : C5 49 [dI a, .sl l.length 1 (vi l)] [dI (sameE a l)] := by
  let inv : Nat × Nat → Prop := fun x => x.1 ≤ l.length ∧ sameE a l = sameE a (l.drop x.1)
  let st : Nat × Nat → Slots × Blocks := fun x => (sCS a l.length x.2 x.1, [Q500 (vi l)])
  refine con_of (L := fun _ s b => ∃ x, inv x ∧ st x = (s, b)) hok mixed Tryz.func49 rfl (by show 1 ≤ 400; omega) rfl (ids := [0]) (by kernel_rfl) rfl (fun caps => ?_) (fun id hid => ?_)
  · show gCS _ _ a l.length (caps 500) (vi l) _
    rw [gCS_text]
    exact ⟨(0, caps 500), ⟨by simp, rfl⟩, rfl⟩
  · obtain rfl := List.mem_singleton.1 hid
    refine ⟨Nat × Nat, st, inv, fun x => l.length - x.1, ⟨fun s b h => h, by kernel_rfl, ?_⟩⟩
    rintro ⟨i, cap⟩ ⟨hi, hr⟩
    simp only at hi hr
    show rCS _ _ a l.length cap (vi l) i _ _ _
    rw [rCS_text]
    refine bc_dec (fun h => ?_) (fun h => ?_)
    · have hi' : i < l.length := by omega
      rw [List.drop_eq_getElem_cons hi', sameE] at hr
      simp only [bc_t h, bc_t (show (0 : Int) ≤ (i : Int) by omega), Int.toNat_natCast, at1 (vi_at l i hi')]
      refine bc_bne (fun hc => ?_) (fun hc => ?_)
      · rw [if_neg hc] at hr
        show [dI _] = [dI (sameE a l)]
        rw [hr]
      · rw [if_pos hc] at hr
        refine ⟨(i + 1, cap), ⟨by show i + 1 ≤ l.length; omega, hr⟩, by show l.length - (i + 1) < l.length - i; omega, ?_⟩
        rw [w64 (by omega) (by omega)]; rfl
    · show (if 0 = 0 then _ else _)
      rw [if_pos rfl]
      show nCS _ _ _
      rw [nCS_text]
      have : i = l.length := by omega
      rw [this, List.drop_length] at hr
      show [dI 0] = [dI (sameE a l)]
      rw [hr]; rfl
theorem conWi (a b c : Int) : C5 32 [dI a, dI b, dI c] [.val (.bool (decide (b ≤ a ∧ a ≤ c)))] := by
  refine con_flat hok mixed Tryz.func32 rfl (by show 0 ≤ 400; omega) rfl (by kernel_rfl) (fun caps => ?_)
  show gWi _ _ a b c _
  rw [gWi_text]
  refine bc_dec (fun h => bc_dec (fun h2 => ?_) (fun h2 => ?_)) (fun h => ?_)
  · show _ = _; rw [decide_eq_true (show b ≤ a ∧ a ≤ c from ⟨h, h2⟩)]
  · show _ = _; rw [decide_eq_false (show ¬ (b ≤ a ∧ a ≤ c) by omega)]
  · show _ = _; rw [decide_eq_false (show ¬ (b ≤ a ∧ a ≤ c) by omega)]
/-- the numbers of a monitor -/
structure VM (D nu de ba : Int) : Prop where
  dl : 0 ≤ D ∧ D ≤ 10
  nu : 0 ≤ nu ∧ nu ≤ 100
  de : 1 ≤ de ∧ de ≤ 100
  ba : 0 ≤ ba ∧ ba ≤ 10000
def mE (D nu de ba : Int) : Int := if (0 ≤ D ∧ D ≤ 10) ∧ (0 ≤ nu ∧ nu ≤ 100) ∧ (1 ≤ de ∧ de ≤ 100) ∧ (0 ≤ ba ∧ ba ≤ 10000) then 0 else 2
theorem mE_ok {D nu de ba : Int} : mE D nu de ba = 0 ↔ VM D nu de ba := by
  unfold mE
  constructor
  · intro h
    split at h
    · rename_i hc; exact ⟨hc.1, hc.2.1, hc.2.2.1, hc.2.2.2⟩
    · omega
  · intro h; rw [if_pos ⟨h.1, h.2, h.3, h.4⟩]
theorem conCM (a b c d : Int) : C5 76 [.agg [dI a, dI b, dI c, dI d]] [dI (mE a b c d)] := by
  refine con_flat hok mixed Tryz.func76 rfl (by show 0 ≤ 400; omega) rfl (by kernel_rfl) (fun caps => ?_)
  show gCM _ _ a b c d _
  rw [gCM_text]
  simp only [eq_self, true_and, and_true]
  refine ⟨_, wit_rng, _, wit_rng, _, wit_rng, _, wit_rng, _, ⟨conFE [rngE 0 10 2 a, rngE 0 100 2 b, rngE 1 100 2 c, rngE 0 10000 2 d] (by simp)⟩, ?_⟩
  show [dI _] = [dI _]
  have : fst0 [rngE 0 10 2 a, rngE 0 100 2 b, rngE 1 100 2 c, rngE 0 10000 2 d] = mE a b c d := by
    have h2 : (2 : Int) ≠ 0 := by decide
    rw [fst0_rng h2, fst0_rng h2, fst0_rng h2, fst0_rng h2, mE, ite_and2 (p := 0 ≤ a ∧ a ≤ 10) (q := (0 ≤ b ∧ b ≤ 100) ∧ (1 ≤ c ∧ c ≤ 100) ∧ (0 ≤ d ∧ d ≤ 10000)), ite_and2 (p := 0 ≤ b ∧ b ≤ 100) (q := (1 ≤ c ∧ c ≤ 100) ∧ (0 ≤ d ∧ d ≤ 10000)), ite_and2 (p := 1 ≤ c ∧ c ≤ 100) (q := (0 ≤ d ∧ d ≤ 10000))]
    rfl
  rw [this]
theorem mul_bd {a b A B : Int} (ha : 0 ≤ a ∧ a ≤ A) (hb : -B ≤ b ∧ b ≤ B) : -(A * B) ≤ a * b ∧ a * b ≤ A * B := by
  have hB : 0 ≤ B := by omega
  have e1 : a * B ≤ A * B := Int.mul_le_mul_of_nonneg_right ha.2 hB
  have e2 : a * b ≤ a * B := Int.mul_le_mul_of_nonneg_left hb.2 ha.1
  have e3 : a * -B ≤ a * b := Int.mul_le_mul_of_nonneg_left hb.1 ha.1
  rw [Int.mul_neg] at e3
  omega
theorem tdiv_bd {n g : Int} (hn : -10000000 ≤ n ∧ n ≤ 10000000) : -10000000 ≤ n.tdiv g ∧ n.tdiv g ≤ 10000000 := by
  have h := Int.natAbs_tdiv_le_natAbs n g
  omega
theorem tk_bd {D nu de ba y : Int} (hm : VM D nu de ba) (hy : -100000 ≤ y ∧ y ≤ 100000) : -10000000 ≤ tk nu de ba y ∧ tk nu de ba y ≤ 10000000 := by
  unfold tk
  split
  · omega
  · exact tdiv_bd (mul_bd hm.nu hy)
theorem conTk {D nu de ba y : Int} (hm : VM D nu de ba) (hy : -100000 ≤ y ∧ y ≤ 100000) : C5 47 [.agg [dI D, dI nu, dI de, dI ba], dI y] [dI (tk nu de ba y)] := by
  refine con_flat hok mixed Tryz.func47 rfl (by show 0 ≤ 400; omega) rfl (by kernel_rfl) (fun caps => ?_)
  show gTk _ _ D nu de ba y _
  rw [gTk_text, w64 (z := 0 - y) (by omega) (by omega)]
  have hp := mul_bd hm.nu hy
  rw [w64 (z := nu * y) (by omega) (by omega)]
  have hq := tdiv_bd (n := nu * y) (g := de) hp
  rw [w64 (by omega) (by omega)]
  have e : (if 0 - y > y then 0 - y else y) = szI y := by rw [show (0 : Int) - y = -y by omega]; rfl
  rw [e]
  have := hm.de
  refine bc_dec (fun h => ?_) (fun h => bc_bne (fun _ => ?_) (fun h0 => absurd h0 (by omega)))
  · show _ = _; rw [tk, if_pos h]
  · show _ = _; rw [tk, if_neg h]
end Go.Proofs.G5q

/- slices.Insert at the beginning, where there is room: one number is put before the others, in place. -/
namespace Go.Proofs.G5q
open Go Go.Abs Go.Proofs Go.Shelf Go.RowKit Go.Lib
set_option maxHeartbeats 4000000 in
set_option maxRecDepth 100000 in
theorem insW (b off n c vb voff vc : Nat) (cs : List Value) (x : Value) (w : World) (hn : 0 < n) (hn63 : n + 1 ≤ 9223372036854775807) (hroom : n + 1 ≤ c) (hvb : vb ≠ b) (hcl : cs.length = n)
    (hcs : ∀ j v, cs[j]? = some v → w.cell? ⟨b, off + j, none⟩ = some v) (hsp : ∀ j, j < n + 1 → (w.cell? ⟨b, off + j, none⟩).isSome = true) (hfz : ∀ j, j < n + 1 → w.frozen? ⟨b, off + j, none⟩ = false)
    (hvs : w.cell? ⟨vb, voff, none⟩ = some x) (h1c : ∀ v ∈ cs, v.oneCell' = true) (h1v : x.oneCell' = true)
    (tA tB : TypeId) (kA kB : Nat) (hsa : w.shape? vb = some (tA, kA)) (hsb : w.shape? b = some (tB, kB)) (hkB : kB ≠ 0) (hfa : w.frozen? ⟨vb, voff, none⟩ = false) (hfe : w.frozen? ⟨vb, kA, none⟩ = false) :
    Calls Tryz.prog 128 #[.slice (some ⟨b, off, none⟩) n c, .int .i64 0, .slice (some ⟨vb, voff, none⟩) 1 vc] w fun e w' =>
      e = .returned (.slice (some ⟨b, off, none⟩) (n + 1) c) ∧ w' = (w.drew.setCells b (off + 1) cs).setCells b off [x] := by
  have t22 := Tryz.underlying42
  have t3 := Tryz.underlying3
  have t4 := Tryz.underlying4
  have z3 : ∀ w, (Go.sizeOf 3).run Tryz.prog w = .ok 1 w := by intro w; kernel_rfl
  have z22 : ∀ w, (Go.sizeOf 42).run Tryz.prog w = .ok 1 w := by intro w; kernel_rfl
  have z4 : ∀ w, (Go.sizeOf 4).run Tryz.prog w = .ok 1 w := by intro w; kernel_rfl
  have a3 : ∀ w, (isAgg 3).run Tryz.prog w = .ok false w := by intro w; kernel_rfl
  have a22 : ∀ w, (isAgg 42).run Tryz.prog w = .ok false w := by intro w; kernel_rfl
  have a4 : ∀ w, (isAgg 4).run Tryz.prog w = .ok false w := by intro w; kernel_rfl
  have v3 : ∀ w, (zeroValue 3).run Tryz.prog w = .ok (Value.int IntKind.i64 0) w := by intro w; kernel_rfl
  have v22 : ∀ w, (zeroValue 42).run Tryz.prog w = .ok (Value.slice none 0 0) w := by intro w; kernel_rfl
  have v4 : ∀ w, (zeroValue 4).run Tryz.prog w = .ok (Value.bool false) w := by intro w; kernel_rfl
  have u22 := run_underlying t22
  have u3 := run_underlying t3
  have u4 := run_underlying t4
  have hz2 : ¬ ((0 : Int) = (n : Int)) := by omega
  have hsz : (Tryz.prog.info? 3).map (·.size) = some 1 := by kernel_rfl
  have hov : ∀ lb cb, (callFunc 144 #[.slice (some ⟨vb, voff, none⟩) 1 vc, .slice (some ⟨b, off + 1, none⟩) lb cb]).run Tryz.prog w = .ok (.value (.bool false)) w := fun lb cb => by
    rw [run_callFunc_extern Tryz.func144 (by kernel_rfl) (by kernel_rfl) (by kernel_rfl) (e := Extern.SlicesOverlaps.overlaps #[42, 42] #[4]) (by kernel_rfl),
      Lib.run_overlaps_apart w 42 4 3 t22 1 z3 ⟨vb, voff, none⟩ ⟨b, off + 1, none⟩ 1 vc lb cb hvb tA tB kA kB hsa hsb hkB hfa hfe]
    rfl
  have mixed := mixed
  have hb2 : ¬ (c = 1) := by omega
  have hw1 : IntKind.i64.wrap 1 = 1 := by rw [IntKind.wrap_i64]; omega
  have hw2 : IntKind.i64.wrap ((n : Int) + 1) = (n : Int) + 1 := by rw [IntKind.wrap_i64]; omega
  have hb1 : (1 : Int) ≤ (n : Int) + 1 := by omega
  have hb0 : (0 : Int) ≤ (n : Int) + 1 := by omega
  have htn : (1 : Int).toNat = 1 := rfl
  have hb4 : ¬ (c = 0) := by omega
  have hcp1 : ∀ ty dc sc, (Builtin.copy_ #[42, 42] ty #[.slice (some ⟨b, off + 1, none⟩) n dc, .slice (some ⟨b, off, none⟩) (n + 1) sc]).run Tryz.prog w.drew = .ok (goInt cs.length) (w.drew.setCells b (off + 1) cs) := fun ty dc sc =>
    run_copy_cells w.drew _ _ ty 3 b (off + 1) n dc ⟨b, off, none⟩ (n + 1) sc cs t22 hsz (by rw [hcl]; simp only [Nat.min_def]; split <;> omega)
      (fun j v hj => by rw [Addr.add_lit]; exact hcs j v hj)
      (fun j hj => by rw [Nat.add_assoc]; exact hsp _ (by omega)) (fun j hj => by rw [Nat.add_assoc]; exact hfz _ (by omega)) h1c
  obtain ⟨W1, hW1⟩ : ∃ W1, W1 = w.drew.setCells b (off + 1) cs := ⟨_, rfl⟩
  have hsp1 : ∀ k, k < n + 1 → (W1.cell? ⟨b, off + k, none⟩).isSome = true := fun k hk => by
    rw [hW1]
    exact isSome_setCells b _ _ _ (fun j hj => by rw [Nat.add_assoc]; exact hsp _ (by omega)) _ (hsp k hk)
  have hcp2 : ∀ (W : World), (∀ x, W.cell? x = W1.cell? x) → (∀ x, W.frozen? x = W1.frozen? x) → ∀ ty dc, (Builtin.copy_ #[42, 42] ty #[.slice (some ⟨b, off, none⟩) (n + 1) dc, .slice (some ⟨vb, voff, none⟩) 1 vc]).run Tryz.prog W = .ok (goInt 1) (W.setCells b off [x]) := fun W hWc hWf ty dc =>
    run_copy_cells W _ _ ty 3 b off (n + 1) dc ⟨vb, voff, none⟩ 1 vc [x] t22 hsz (by simp only [List.length_singleton, Nat.min_def]; split <;> omega)
      (fun j v hj => by
        rw [Addr.add_lit, hWc, hW1, World.cell?_setCells_out b _ _ _ _ (fun h _ => absurd h hvb)]
        cases j with
        | zero => simp only [List.getElem?_cons_zero, Option.some.injEq] at hj; rw [← hj]; exact hvs
        | succ j => simp at hj)
      (fun j hj => by rw [hWc]; exact hsp1 _ (by simp only [List.length_singleton] at hj; omega)) (fun j hj => by rw [hWf, hW1, World.frozen?_setCells]; exact hfz _ (by simp only [List.length_singleton] at hj; omega)) (by intro v hv; rw [List.mem_singleton.1 hv]; exact h1v)
  rw [← hW1] at hcp1
  go_enter Tryz.func128, Tryz.ntmps128
  go_wp2_with (simp only [hov])
  go_region_law_o (refine step_copy_runI rfl _ _ 42 42 rfl _ _ (by simp [Act.eval, Act.put]) (by simp [Act.eval, Act.put]) (hcp1 _ _ _) ?_)
  go_wp2_with (at_builtin; refine wpList_copy_runI _ rfl _ _ 42 42 rfl _ _ rfl rfl (hcp2 _ (fun _ => rfl) (fun _ => rfl) _ _) ?_)
  go_ret
  first | exact ⟨rfl, rfl⟩ | exact ⟨rfl, by rw [hW1]⟩
end Go.Proofs.G5q

/- What is left to show of each function, written out; the kernel reckons it. -/
namespace Go.Proofs.G5q
open Go Go.Abs Go.Proofs
set_option maxRecDepth 100000
set_option linter.unusedVariables false
theorem fRe_text (C : Ct) (cap : Nat) (x : Int) (k : List D → Prop) : fRe C cap x k =
(( (((Go.Value.slice (Option.some (Go.Addr.mk 1000 0 Option.none)) 1 501) = (Go.Value.slice (Option.some (Go.Addr.mk 1000 0 Option.none)) 1 501)) ∧
 (((vI (1 : Int)) = (vI (1 : Int))) ∧
 (((Go.Value.slice (Option.some (Go.Addr.mk 1000 0 Option.none)) 501 501) = (Go.Value.slice (Option.some (Go.Addr.mk 1000 0 Option.none)) 501 501)) ∧
 (((Go.Value.slice (Option.some (Go.Addr.mk 1000 1 Option.none)) 500 500) = (Go.Value.slice (Option.some (Go.Addr.mk 1000 1 Option.none)) 500 500)) ∧
 (((vI (1 : Int)) = (vI (1 : Int))) ∧
 (((Go.Value.slice (Option.some (Go.Addr.mk 1000 0 Option.none)) 501 501) = (Go.Value.slice (Option.some (Go.Addr.mk 1000 0 Option.none)) 501 501)) ∧
 (((vI (1 : Int)) = (vI (1 : Int))) ∧
 True)))))))) ∧
 (( (((vI (2 : Int)) = (vI (2 : Int))) ∧
 (((vI (1 : Int)) = (vI (1 : Int))) ∧
 (((Go.Value.slice (Option.some (Go.Addr.mk 1000 0 Option.none)) 501 501) = (Go.Value.slice (Option.some (Go.Addr.mk 1000 0 Option.none)) 501 501)) ∧
 (((vI (1 : Int)) = (vI (1 : Int))) ∧
 (((Go.Value.slice (Option.some (Go.Addr.mk 1000 0 Option.none)) 501 501) = (Go.Value.slice (Option.some (Go.Addr.mk 1000 0 Option.none)) 501 501)) ∧
 (((vI (1 : Int)) = (vI (1 : Int))) ∧
 True))))))) ∧
 (True ∧
 (( (((Go.Value.slice (Option.some (Go.Addr.mk 1000 0 Option.none)) 2 501) = (Go.Value.slice (Option.some (Go.Addr.mk 1000 0 Option.none)) 2 501)) ∧
 (((vI (2 : Int)) = (vI (2 : Int))) ∧
 (((Go.Value.slice (Option.some (Go.Addr.mk 1000 0 Option.none)) 501 501) = (Go.Value.slice (Option.some (Go.Addr.mk 1000 0 Option.none)) 501 501)) ∧
 (((Go.Value.slice (Option.some (Go.Addr.mk 1000 2 Option.none)) 499 499) = (Go.Value.slice (Option.some (Go.Addr.mk 1000 2 Option.none)) 499 499)) ∧
 (((vI (2 : Int)) = (vI (2 : Int))) ∧
 (((Go.Value.slice (Option.some (Go.Addr.mk 1000 0 Option.none)) 501 501) = (Go.Value.slice (Option.some (Go.Addr.mk 1000 0 Option.none)) 501 501)) ∧
 (((vI (2 : Int)) = (vI (2 : Int))) ∧
 True)))))))) ∧
 (( (((vI (4 : Int)) = (vI (4 : Int))) ∧
 (((vI (2 : Int)) = (vI (2 : Int))) ∧
 (((Go.Value.slice (Option.some (Go.Addr.mk 1000 0 Option.none)) 501 501) = (Go.Value.slice (Option.some (Go.Addr.mk 1000 0 Option.none)) 501 501)) ∧
 (((vI (2 : Int)) = (vI (2 : Int))) ∧
 (((Go.Value.slice (Option.some (Go.Addr.mk 1000 0 Option.none)) 501 501) = (Go.Value.slice (Option.some (Go.Addr.mk 1000 0 Option.none)) 501 501)) ∧
 (((vI (2 : Int)) = (vI (2 : Int))) ∧
 True))))))) ∧
 (True ∧
 (( (((Go.Value.slice (Option.some (Go.Addr.mk 1000 0 Option.none)) 4 501) = (Go.Value.slice (Option.some (Go.Addr.mk 1000 0 Option.none)) 4 501)) ∧
 (((vI (4 : Int)) = (vI (4 : Int))) ∧
 (((Go.Value.slice (Option.some (Go.Addr.mk 1000 0 Option.none)) 501 501) = (Go.Value.slice (Option.some (Go.Addr.mk 1000 0 Option.none)) 501 501)) ∧
 (((Go.Value.slice (Option.some (Go.Addr.mk 1000 4 Option.none)) 497 497) = (Go.Value.slice (Option.some (Go.Addr.mk 1000 4 Option.none)) 497 497)) ∧
 (((vI (4 : Int)) = (vI (4 : Int))) ∧
 (((Go.Value.slice (Option.some (Go.Addr.mk 1000 0 Option.none)) 501 501) = (Go.Value.slice (Option.some (Go.Addr.mk 1000 0 Option.none)) 501 501)) ∧
 (((vI (4 : Int)) = (vI (4 : Int))) ∧
 True)))))))) ∧
 (( (((vI (8 : Int)) = (vI (8 : Int))) ∧
 (((vI (4 : Int)) = (vI (4 : Int))) ∧
 (((Go.Value.slice (Option.some (Go.Addr.mk 1000 0 Option.none)) 501 501) = (Go.Value.slice (Option.some (Go.Addr.mk 1000 0 Option.none)) 501 501)) ∧
 (((vI (4 : Int)) = (vI (4 : Int))) ∧
 (((Go.Value.slice (Option.some (Go.Addr.mk 1000 0 Option.none)) 501 501) = (Go.Value.slice (Option.some (Go.Addr.mk 1000 0 Option.none)) 501 501)) ∧
 (((vI (4 : Int)) = (vI (4 : Int))) ∧
 True))))))) ∧
 (True ∧
 (( (((Go.Value.slice (Option.some (Go.Addr.mk 1000 0 Option.none)) 8 501) = (Go.Value.slice (Option.some (Go.Addr.mk 1000 0 Option.none)) 8 501)) ∧
 (((vI (8 : Int)) = (vI (8 : Int))) ∧
 (((Go.Value.slice (Option.some (Go.Addr.mk 1000 0 Option.none)) 501 501) = (Go.Value.slice (Option.some (Go.Addr.mk 1000 0 Option.none)) 501 501)) ∧
 (((Go.Value.slice (Option.some (Go.Addr.mk 1000 8 Option.none)) 493 493) = (Go.Value.slice (Option.some (Go.Addr.mk 1000 8 Option.none)) 493 493)) ∧
 (((vI (8 : Int)) = (vI (8 : Int))) ∧
 (((Go.Value.slice (Option.some (Go.Addr.mk 1000 0 Option.none)) 501 501) = (Go.Value.slice (Option.some (Go.Addr.mk 1000 0 Option.none)) 501 501)) ∧
 (((vI (8 : Int)) = (vI (8 : Int))) ∧
 True)))))))) ∧
 (( (((vI (16 : Int)) = (vI (16 : Int))) ∧
 (((vI (8 : Int)) = (vI (8 : Int))) ∧
 (((Go.Value.slice (Option.some (Go.Addr.mk 1000 0 Option.none)) 501 501) = (Go.Value.slice (Option.some (Go.Addr.mk 1000 0 Option.none)) 501 501)) ∧
 (((vI (8 : Int)) = (vI (8 : Int))) ∧
 (((Go.Value.slice (Option.some (Go.Addr.mk 1000 0 Option.none)) 501 501) = (Go.Value.slice (Option.some (Go.Addr.mk 1000 0 Option.none)) 501 501)) ∧
 (((vI (8 : Int)) = (vI (8 : Int))) ∧
 True))))))) ∧
 (True ∧
 (( (((Go.Value.slice (Option.some (Go.Addr.mk 1000 0 Option.none)) 16 501) = (Go.Value.slice (Option.some (Go.Addr.mk 1000 0 Option.none)) 16 501)) ∧
 (((vI (16 : Int)) = (vI (16 : Int))) ∧
 (((Go.Value.slice (Option.some (Go.Addr.mk 1000 0 Option.none)) 501 501) = (Go.Value.slice (Option.some (Go.Addr.mk 1000 0 Option.none)) 501 501)) ∧
 (((Go.Value.slice (Option.some (Go.Addr.mk 1000 16 Option.none)) 485 485) = (Go.Value.slice (Option.some (Go.Addr.mk 1000 16 Option.none)) 485 485)) ∧
 (((vI (16 : Int)) = (vI (16 : Int))) ∧
 (((Go.Value.slice (Option.some (Go.Addr.mk 1000 0 Option.none)) 501 501) = (Go.Value.slice (Option.some (Go.Addr.mk 1000 0 Option.none)) 501 501)) ∧
 (((vI (16 : Int)) = (vI (16 : Int))) ∧
 True)))))))) ∧
 (( (((vI (32 : Int)) = (vI (32 : Int))) ∧
 (((vI (16 : Int)) = (vI (16 : Int))) ∧
 (((Go.Value.slice (Option.some (Go.Addr.mk 1000 0 Option.none)) 501 501) = (Go.Value.slice (Option.some (Go.Addr.mk 1000 0 Option.none)) 501 501)) ∧
 (((vI (16 : Int)) = (vI (16 : Int))) ∧
 (((Go.Value.slice (Option.some (Go.Addr.mk 1000 0 Option.none)) 501 501) = (Go.Value.slice (Option.some (Go.Addr.mk 1000 0 Option.none)) 501 501)) ∧
 (((vI (16 : Int)) = (vI (16 : Int))) ∧
 True))))))) ∧
 (True ∧
 (( (((Go.Value.slice (Option.some (Go.Addr.mk 1000 0 Option.none)) 32 501) = (Go.Value.slice (Option.some (Go.Addr.mk 1000 0 Option.none)) 32 501)) ∧
 (((vI (32 : Int)) = (vI (32 : Int))) ∧
 (((Go.Value.slice (Option.some (Go.Addr.mk 1000 0 Option.none)) 501 501) = (Go.Value.slice (Option.some (Go.Addr.mk 1000 0 Option.none)) 501 501)) ∧
 (((Go.Value.slice (Option.some (Go.Addr.mk 1000 32 Option.none)) 469 469) = (Go.Value.slice (Option.some (Go.Addr.mk 1000 32 Option.none)) 469 469)) ∧
 (((vI (32 : Int)) = (vI (32 : Int))) ∧
 (((Go.Value.slice (Option.some (Go.Addr.mk 1000 0 Option.none)) 501 501) = (Go.Value.slice (Option.some (Go.Addr.mk 1000 0 Option.none)) 501 501)) ∧
 (((vI (32 : Int)) = (vI (32 : Int))) ∧
 True)))))))) ∧
 (( (((vI (64 : Int)) = (vI (64 : Int))) ∧
 (((vI (32 : Int)) = (vI (32 : Int))) ∧
 (((Go.Value.slice (Option.some (Go.Addr.mk 1000 0 Option.none)) 501 501) = (Go.Value.slice (Option.some (Go.Addr.mk 1000 0 Option.none)) 501 501)) ∧
 (((vI (32 : Int)) = (vI (32 : Int))) ∧
 (((Go.Value.slice (Option.some (Go.Addr.mk 1000 0 Option.none)) 501 501) = (Go.Value.slice (Option.some (Go.Addr.mk 1000 0 Option.none)) 501 501)) ∧
 (((vI (32 : Int)) = (vI (32 : Int))) ∧
 True))))))) ∧
 (True ∧
 (( (((Go.Value.slice (Option.some (Go.Addr.mk 1000 0 Option.none)) 64 501) = (Go.Value.slice (Option.some (Go.Addr.mk 1000 0 Option.none)) 64 501)) ∧
 (((vI (64 : Int)) = (vI (64 : Int))) ∧
 (((Go.Value.slice (Option.some (Go.Addr.mk 1000 0 Option.none)) 501 501) = (Go.Value.slice (Option.some (Go.Addr.mk 1000 0 Option.none)) 501 501)) ∧
 (((Go.Value.slice (Option.some (Go.Addr.mk 1000 64 Option.none)) 437 437) = (Go.Value.slice (Option.some (Go.Addr.mk 1000 64 Option.none)) 437 437)) ∧
 (((vI (64 : Int)) = (vI (64 : Int))) ∧
 (((Go.Value.slice (Option.some (Go.Addr.mk 1000 0 Option.none)) 501 501) = (Go.Value.slice (Option.some (Go.Addr.mk 1000 0 Option.none)) 501 501)) ∧
 (((vI (64 : Int)) = (vI (64 : Int))) ∧
 True)))))))) ∧
 (( (((vI (128 : Int)) = (vI (128 : Int))) ∧
 (((vI (64 : Int)) = (vI (64 : Int))) ∧
 (((Go.Value.slice (Option.some (Go.Addr.mk 1000 0 Option.none)) 501 501) = (Go.Value.slice (Option.some (Go.Addr.mk 1000 0 Option.none)) 501 501)) ∧
 (((vI (64 : Int)) = (vI (64 : Int))) ∧
 (((Go.Value.slice (Option.some (Go.Addr.mk 1000 0 Option.none)) 501 501) = (Go.Value.slice (Option.some (Go.Addr.mk 1000 0 Option.none)) 501 501)) ∧
 (((vI (64 : Int)) = (vI (64 : Int))) ∧
 True))))))) ∧
 (True ∧
 (( (((Go.Value.slice (Option.some (Go.Addr.mk 1000 0 Option.none)) 128 501) = (Go.Value.slice (Option.some (Go.Addr.mk 1000 0 Option.none)) 128 501)) ∧
 (((vI (128 : Int)) = (vI (128 : Int))) ∧
 (((Go.Value.slice (Option.some (Go.Addr.mk 1000 0 Option.none)) 501 501) = (Go.Value.slice (Option.some (Go.Addr.mk 1000 0 Option.none)) 501 501)) ∧
 (((Go.Value.slice (Option.some (Go.Addr.mk 1000 128 Option.none)) 373 373) = (Go.Value.slice (Option.some (Go.Addr.mk 1000 128 Option.none)) 373 373)) ∧
 (((vI (128 : Int)) = (vI (128 : Int))) ∧
 (((Go.Value.slice (Option.some (Go.Addr.mk 1000 0 Option.none)) 501 501) = (Go.Value.slice (Option.some (Go.Addr.mk 1000 0 Option.none)) 501 501)) ∧
 (((vI (128 : Int)) = (vI (128 : Int))) ∧
 True)))))))) ∧
 (( (((vI (256 : Int)) = (vI (256 : Int))) ∧
 (((vI (128 : Int)) = (vI (128 : Int))) ∧
 (((Go.Value.slice (Option.some (Go.Addr.mk 1000 0 Option.none)) 501 501) = (Go.Value.slice (Option.some (Go.Addr.mk 1000 0 Option.none)) 501 501)) ∧
 (((vI (128 : Int)) = (vI (128 : Int))) ∧
 (((Go.Value.slice (Option.some (Go.Addr.mk 1000 0 Option.none)) 501 501) = (Go.Value.slice (Option.some (Go.Addr.mk 1000 0 Option.none)) 501 501)) ∧
 (((vI (128 : Int)) = (vI (128 : Int))) ∧
 True))))))) ∧
 (True ∧
 (( (((Go.Value.slice (Option.some (Go.Addr.mk 1000 0 Option.none)) 256 501) = (Go.Value.slice (Option.some (Go.Addr.mk 1000 0 Option.none)) 256 501)) ∧
 (((vI (256 : Int)) = (vI (256 : Int))) ∧
 (((Go.Value.slice (Option.some (Go.Addr.mk 1000 0 Option.none)) 501 501) = (Go.Value.slice (Option.some (Go.Addr.mk 1000 0 Option.none)) 501 501)) ∧
 (((Go.Value.slice (Option.some (Go.Addr.mk 1000 256 Option.none)) 245 245) = (Go.Value.slice (Option.some (Go.Addr.mk 1000 256 Option.none)) 245 245)) ∧
 (((vI (256 : Int)) = (vI (256 : Int))) ∧
 (((Go.Value.slice (Option.some (Go.Addr.mk 1000 0 Option.none)) 501 501) = (Go.Value.slice (Option.some (Go.Addr.mk 1000 0 Option.none)) 501 501)) ∧
 (((vI (256 : Int)) = (vI (256 : Int))) ∧
 True)))))))) ∧
 (( (((vI (501 : Int)) = (vI (501 : Int))) ∧
 (((vI (256 : Int)) = (vI (256 : Int))) ∧
 (((Go.Value.slice (Option.some (Go.Addr.mk 1000 0 Option.none)) 501 501) = (Go.Value.slice (Option.some (Go.Addr.mk 1000 0 Option.none)) 501 501)) ∧
 (((vI (256 : Int)) = (vI (256 : Int))) ∧
 (((Go.Value.slice (Option.some (Go.Addr.mk 1000 0 Option.none)) 501 501) = (Go.Value.slice (Option.some (Go.Addr.mk 1000 0 Option.none)) 501 501)) ∧
 (((vI (256 : Int)) = (vI (256 : Int))) ∧
 True))))))) ∧
 (True ∧
 (((501 = 501) ∧
 (501 = 501)) ∧
 (k [(D.sl 501 1 (List.replicate 501 (vI x)))]))))))))))))))))))))))))))))) := by kernel_rfl
end Go.Proofs.G5q

/- One number is put before the others of an own list, where there is room: what it does (slices.Insert at 0). -/
namespace Go.Abs
def wpIns (args : Array Value) (H : Heap) (k : Value → Heap → Prop) : Prop :=
  match args.toList with
  | [.slice (some ⟨b, 0, none⟩) n cap, .int .i64 z, .slice (some ⟨vb, 0, none⟩) 1 _] =>
    match H.get b, H.get vb with
    | some (.sym cs true 1), some (.cells [x] _ false _) =>
      if z = 0 ∧ mbase ≤ b ∧ b ≠ vb ∧ 0 < n ∧ n + 1 ≤ cap ∧ cap ≤ 1000000 ∧ cs.length = cap ∧ cellP x = true then
        k (.slice (some ⟨b, 0, none⟩) (n + 1) cap) (H.set b (.sym (listSet (listSet cs 1 (cs.take n)) 0 [x]) true 1))
      else False
    | _, _ => False
  | _ => False
end Go.Abs

/- What is left to show of each function, written out; the kernel reckons it. -/
namespace Go.Proofs.G5q
open Go Go.Abs Go.Proofs
set_option maxRecDepth 100000
set_option linter.unusedVariables false
abbrev S502 (n cap : Nat) : Value := .slice (some ⟨502, 0, none⟩) n cap
def preI : FuncId → Option Handler := fun g => if g == 128 then some (fun _ args _ H k => wpIns args H k) else none
abbrev hI : Handler := handlerX Tryz.prog preI 12 6
def gAf (cap1 cap2 cap3 : Nat) (cs0 : List Value) (den a b d c1 c2 x : Int) (k : List D → Prop) : Prop := wpFn Tryz.prog hI (fun _ _ _ => False) 6 99 #[.agg #[S500 2 cap1, vI den], .agg #[S501 2 cap2, vI d], .agg #[S502 2 cap3, vI x]] (heapOf [(500, .sym cs0 false 2), (501, .sym [vI a, vI b] false 1), (502, .sym [vI c1, vI c2] false 1)]) (dataK k)
theorem gAf_text (cap1 : Nat) (cap2 : Nat) (cap3 : Nat) (cs0 : List Go.Value) (den : Int) (a : Int) (b : Int) (d : Int) (c1 : Int) (c2 : Int) (x : Int) (k : List D → Prop) : gAf cap1 cap2 cap3 cs0 den a b d c1 c2 x k =
 (∃ n1 : Int,
 ((At [(vI a), (vI b)] 0 1 [(vI n1)]) ∧
 (∃ n2 : Int,
 ((At [(vI c1), (vI c2)] 0 1 [(vI n2)]) ∧
 (∃ n3 : Int,
 ((At [(vI a), (vI b)] 1 1 [(vI n3)]) ∧
 (∃ n4 : Int,
 ((At [(vI c1), (vI c2)] 1 1 [(vI n4)]) ∧
 (((2 = 2) ∧
 (2 = 2)) ∧
 (k [(D.agg [(D.sl 2 1 [(vI (IntKind.wrap .i64 (IntKind.wrap .i64 (IntKind.wrap .i64 (x * IntKind.wrap .i64 (d * den)) + IntKind.wrap .i64 (n2 * n1)) + IntKind.wrap .i64 (n4 * n3)))), (vI (IntKind.wrap .i64 (n1 * den)))]), (D.val (vI (IntKind.wrap .i64 (d * den))))])])))))))))) := by kernel_rfl
end Go.Proofs.G5q

/- What is left to show of each function, written out; the kernel reckons it. -/
namespace Go.Proofs.G5q
open Go Go.Abs Go.Proofs
set_option maxRecDepth 100000
set_option linter.unusedVariables false
abbrev hZ : Handler := handlerX Tryz.prog (fun _ => none) 12 6
def gPr (a b c d : Int) (k : List D → Prop) : Prop := wpFn Tryz.prog hZ (fun _ _ _ => False) 12 126 #[.agg #[vI a, vI b], .agg #[vI c, vI d]] (heapOf []) (dataK k)
theorem gPr_text (a : Int) (b : Int) (c : Int) (d : Int) (k : List D → Prop) : gPr a b c d k =
 (∃ n1 : Int,
 ((At [(vI (IntKind.wrap .i64 (a * c))), (vI (IntKind.wrap .i64 (a * d))), (vI (IntKind.wrap .i64 (b * c))), (vI (IntKind.wrap .i64 (b * d)))] 0 1 [(vI n1)]) ∧
 (∃ n2 : Int,
 ((At [(vI (IntKind.wrap .i64 (a * c))), (vI (IntKind.wrap .i64 (a * d))), (vI (IntKind.wrap .i64 (b * c))), (vI (IntKind.wrap .i64 (b * d)))] 1 1 [(vI n2)]) ∧
 (∃ n3 : Int,
 ((At [(vI (IntKind.wrap .i64 (a * c))), (vI (IntKind.wrap .i64 (a * d))), (vI (IntKind.wrap .i64 (b * c))), (vI (IntKind.wrap .i64 (b * d)))] 2 1 [(vI n3)]) ∧
 (∃ n4 : Int,
 ((At [(vI (IntKind.wrap .i64 (a * c))), (vI (IntKind.wrap .i64 (a * d))), (vI (IntKind.wrap .i64 (b * c))), (vI (IntKind.wrap .i64 (b * d)))] 3 1 [(vI n4)]) ∧
 (∃ n5 : Int,
 ((At [(vI (IntKind.wrap .i64 (a * c))), (vI (IntKind.wrap .i64 (a * d))), (vI (IntKind.wrap .i64 (b * c))), (vI (IntKind.wrap .i64 (b * d)))] 0 1 [(vI n5)]) ∧
 (∃ n6 : Int,
 ((At [(vI (IntKind.wrap .i64 (a * c))), (vI (IntKind.wrap .i64 (a * d))), (vI (IntKind.wrap .i64 (b * c))), (vI (IntKind.wrap .i64 (b * d)))] 1 1 [(vI n6)]) ∧
 (∃ n7 : Int,
 ((At [(vI (IntKind.wrap .i64 (a * c))), (vI (IntKind.wrap .i64 (a * d))), (vI (IntKind.wrap .i64 (b * c))), (vI (IntKind.wrap .i64 (b * d)))] 2 1 [(vI n7)]) ∧
 (∃ n8 : Int,
 ((At [(vI (IntKind.wrap .i64 (a * c))), (vI (IntKind.wrap .i64 (a * d))), (vI (IntKind.wrap .i64 (b * c))), (vI (IntKind.wrap .i64 (b * d)))] 3 1 [(vI n8)]) ∧
 (k [(D.agg [(D.val (vI (if n4 < if n3 < if n2 < n1 then n2 else n1 then n3 else if n2 < n1 then n2 else n1 then n4 else if n3 < if n2 < n1 then n2 else n1 then n3 else if n2 < n1 then n2 else n1))), (D.val (vI (if n8 > if n7 > if n6 > n5 then n6 else n5 then n7 else if n6 > n5 then n6 else n5 then n8 else if n7 > if n6 > n5 then n6 else n5 then n7 else if n6 > n5 then n6 else n5)))])]))))))))))))))))) := by kernel_rfl
def gLT (C : Ct) (L : AtLoop) (n d : Int) (k : List D → Prop) : Prop := wpFn Tryz.prog hZ L 0 70 #[vI n, vI d] (heapOf []) (dataK k)
theorem gLT_text (C : Ct) (L : AtLoop) (n : Int) (d : Int) (k : List D → Prop) : gLT C L n d k =
 (L 0 [(Prod.mk 0 (vI n)), (Prod.mk 1 (vI d)), (Prod.mk 4 (Go.Value.pointer (Option.some (Go.Addr.mk 1000 0 Option.none)))), (Prod.mk 5 (vI n)), (Prod.mk 6 (vI d))] [(Prod.mk 1000 (AObj.cells [(vI (0 : Int)), (vI (0 : Int))] 38 false 2))]) := by kernel_rfl
def sLT (n d a b : Int) : Slots := [(0, vI n), (1, vI d), (4, P1 1000 0), (5, vI a), (6, vI b)]
abbrev bLT : Blocks := [(1000, .cells [vI 0, vI 0] 38 false 2)]
def rLT (C : Ct) (L : AtLoop) (n d a b : Int) (B : Bx) (X : Xx) (k : List D → Prop) : Prop := wpRound Tryz.prog hZ L 70 0 (sLT n d a b) bLT B X (dataK k)
theorem rLT_text (C : Ct) (L : AtLoop) (n : Int) (d : Int) (a : Int) (b : Int) (B : Bx) (X : Xx) (k : List D → Prop) : rLT C L n d a b B X k =
 (bcase (b != 0)
 (bcase (b != 0)
 (((bcase (b != 0)
 ((vI (Int.tmod a b)) = (vI (Int.tmod a b)))
 False) ∧
 (((vI b) = (vI b)) ∧
 (((vI a) = (vI a)) ∧
 (((vI b) = (vI b)) ∧
 True)))) ∧
 (((bcase (b != 0)
 ((vI (Int.tmod a b)) = (vI (Int.tmod a b)))
 False) ∧
 (((vI b) = (vI b)) ∧
 True)) ∧
 (True ∧
 (B [(Prod.mk 0 (vI n)), (Prod.mk 1 (vI d)), (Prod.mk 4 (Go.Value.pointer (Option.some (Go.Addr.mk 1000 0 Option.none)))), (Prod.mk 5 (vI b)), (Prod.mk 6 (vI (Int.tmod a b)))] [(Prod.mk 1000 (AObj.cells [(vI (0 : Int)), (vI (0 : Int))] 38 false 2))]))))
 False)
 (X 0 [(Prod.mk 0 (vI n)), (Prod.mk 1 (vI d)), (Prod.mk 4 (Go.Value.pointer (Option.some (Go.Addr.mk 1000 0 Option.none)))), (Prod.mk 5 (vI a))] [(Prod.mk 1000 (AObj.cells [(vI (0 : Int)), (vI (0 : Int))] 38 false 2))])) := by kernel_rfl
def nLT (C : Ct) (L : AtLoop) (n d a : Int) (k : List D → Prop) : Prop := wpNext Tryz.prog hZ L 70 0 .normal [(0, vI n), (1, vI d), (4, P1 1000 0), (5, vI a)] bLT (dataK k)
theorem nLT_text (C : Ct) (L : AtLoop) (n : Int) (d : Int) (a : Int) (k : List D → Prop) : nLT C L n d a k =
 (bcase (decide (a < 0))
 (bcase (decide (d < 0))
 (bcase (a != 0)
 (bcase (a != 0)
 ((((Go.Value.agg [(vI (IntKind.wrap .i64 (Int.tdiv n a))), (vI (IntKind.wrap .i64 (Int.tdiv d a)))].toArray) = (Go.Value.agg [(vI (IntKind.wrap .i64 (Int.tdiv n a))), (vI (IntKind.wrap .i64 (Int.tdiv d a)))].toArray)) ∧
 ((bcase (a != 0)
 ((vI (IntKind.wrap .i64 (Int.tdiv d a))) = (vI (IntKind.wrap .i64 (Int.tdiv d a))))
 False) ∧
 (((vI a) = (vI a)) ∧
 (((vI d) = (vI d)) ∧
 ((bcase (a != 0)
 ((vI (IntKind.wrap .i64 (Int.tdiv n a))) = (vI (IntKind.wrap .i64 (Int.tdiv n a))))
 False) ∧
 (((vI a) = (vI a)) ∧
 (((vI n) = (vI n)) ∧
 True))))))) ∧
 (True ∧
 (k [(D.agg [(D.val (vI (IntKind.wrap .i64 (Int.tdiv n a)))), (D.val (vI (IntKind.wrap .i64 (Int.tdiv d a))))])])))
 False)
 False)
 (bcase (IntKind.wrap .i64 (0 - a) != 0)
 (bcase (IntKind.wrap .i64 (0 - a) != 0)
 ((((Go.Value.agg [(vI (IntKind.wrap .i64 (Int.tdiv n (IntKind.wrap .i64 (0 - a))))), (vI (IntKind.wrap .i64 (Int.tdiv d (IntKind.wrap .i64 (0 - a)))))].toArray) = (Go.Value.agg [(vI (IntKind.wrap .i64 (Int.tdiv n (IntKind.wrap .i64 (0 - a))))), (vI (IntKind.wrap .i64 (Int.tdiv d (IntKind.wrap .i64 (0 - a)))))].toArray)) ∧
 ((bcase (IntKind.wrap .i64 (0 - a) != 0)
 ((vI (IntKind.wrap .i64 (Int.tdiv d (IntKind.wrap .i64 (0 - a))))) = (vI (IntKind.wrap .i64 (Int.tdiv d (IntKind.wrap .i64 (0 - a))))))
 False) ∧
 (((vI (IntKind.wrap .i64 (0 - a))) = (vI (IntKind.wrap .i64 (0 - a)))) ∧
 (((vI d) = (vI d)) ∧
 ((bcase (IntKind.wrap .i64 (0 - a) != 0)
 ((vI (IntKind.wrap .i64 (Int.tdiv n (IntKind.wrap .i64 (0 - a))))) = (vI (IntKind.wrap .i64 (Int.tdiv n (IntKind.wrap .i64 (0 - a))))))
 False) ∧
 (((vI (IntKind.wrap .i64 (0 - a))) = (vI (IntKind.wrap .i64 (0 - a)))) ∧
 (((vI n) = (vI n)) ∧
 True))))))) ∧
 (True ∧
 (k [(D.agg [(D.val (vI (IntKind.wrap .i64 (Int.tdiv n (IntKind.wrap .i64 (0 - a)))))), (D.val (vI (IntKind.wrap .i64 (Int.tdiv d (IntKind.wrap .i64 (0 - a))))))])])))
 False)
 False))
 (bcase (decide (d < 0))
 (bcase (IntKind.wrap .i64 (0 - a) != 0)
 (bcase (IntKind.wrap .i64 (0 - a) != 0)
 ((((Go.Value.agg [(vI (IntKind.wrap .i64 (Int.tdiv n (IntKind.wrap .i64 (0 - a))))), (vI (IntKind.wrap .i64 (Int.tdiv d (IntKind.wrap .i64 (0 - a)))))].toArray) = (Go.Value.agg [(vI (IntKind.wrap .i64 (Int.tdiv n (IntKind.wrap .i64 (0 - a))))), (vI (IntKind.wrap .i64 (Int.tdiv d (IntKind.wrap .i64 (0 - a)))))].toArray)) ∧
 ((bcase (IntKind.wrap .i64 (0 - a) != 0)
 ((vI (IntKind.wrap .i64 (Int.tdiv d (IntKind.wrap .i64 (0 - a))))) = (vI (IntKind.wrap .i64 (Int.tdiv d (IntKind.wrap .i64 (0 - a))))))
 False) ∧
 (((vI (IntKind.wrap .i64 (0 - a))) = (vI (IntKind.wrap .i64 (0 - a)))) ∧
 (((vI d) = (vI d)) ∧
 ((bcase (IntKind.wrap .i64 (0 - a) != 0)
 ((vI (IntKind.wrap .i64 (Int.tdiv n (IntKind.wrap .i64 (0 - a))))) = (vI (IntKind.wrap .i64 (Int.tdiv n (IntKind.wrap .i64 (0 - a))))))
 False) ∧
 (((vI (IntKind.wrap .i64 (0 - a))) = (vI (IntKind.wrap .i64 (0 - a)))) ∧
 (((vI n) = (vI n)) ∧
 True))))))) ∧
 (True ∧
 (k [(D.agg [(D.val (vI (IntKind.wrap .i64 (Int.tdiv n (IntKind.wrap .i64 (0 - a)))))), (D.val (vI (IntKind.wrap .i64 (Int.tdiv d (IntKind.wrap .i64 (0 - a))))))])])))
 False)
 False)
 (bcase (a != 0)
 (bcase (a != 0)
 ((((Go.Value.agg [(vI (IntKind.wrap .i64 (Int.tdiv n a))), (vI (IntKind.wrap .i64 (Int.tdiv d a)))].toArray) = (Go.Value.agg [(vI (IntKind.wrap .i64 (Int.tdiv n a))), (vI (IntKind.wrap .i64 (Int.tdiv d a)))].toArray)) ∧
 ((bcase (a != 0)
 ((vI (IntKind.wrap .i64 (Int.tdiv d a))) = (vI (IntKind.wrap .i64 (Int.tdiv d a))))
 False) ∧
 (((vI a) = (vI a)) ∧
 (((vI d) = (vI d)) ∧
 ((bcase (a != 0)
 ((vI (IntKind.wrap .i64 (Int.tdiv n a))) = (vI (IntKind.wrap .i64 (Int.tdiv n a))))
 False) ∧
 (((vI a) = (vI a)) ∧
 (((vI n) = (vI n)) ∧
 True))))))) ∧
 (True ∧
 (k [(D.agg [(D.val (vI (IntKind.wrap .i64 (Int.tdiv n a)))), (D.val (vI (IntKind.wrap .i64 (Int.tdiv d a))))])])))
 False)
 False))) := by kernel_rfl
end Go.Proofs.G5q

/- Numbers: greatest divisors, quotients rounded down, fractions in lowest terms. -/
namespace Go.Abs
theorem natAbs_tmod (a b : Int) : (a.tmod b).natAbs = a.natAbs % b.natAbs := Int.natAbs_tmod a b
/-- one step of the division of both -/
theorem gcd_step (a b : Int) : (Int.gcd b (a.tmod b) : Int) = Int.gcd a b := by
  have : Int.gcd b (a.tmod b) = Int.gcd a b := by
    show Nat.gcd b.natAbs (a.tmod b).natAbs = Nat.gcd a.natAbs b.natAbs
    rw [natAbs_tmod, Nat.gcd_comm b.natAbs, ← Nat.gcd_rec, Nat.gcd_comm]
  rw [this]
theorem gcd_step_lt {a b : Int} (h : b ≠ 0) : (a.tmod b).natAbs < b.natAbs := by
  rw [natAbs_tmod]; exact Nat.mod_lt _ (by omega)
theorem gcd_end (a : Int) : (Int.gcd a 0 : Int) = if a < 0 then -a else a := by
  have : Int.gcd a 0 = a.natAbs := Nat.gcd_zero_right _
  rw [this]; split <;> omega
theorem gcd_pos {a b : Int} (h : a ≠ 0 ∨ b ≠ 0) : 0 < (Int.gcd a b : Int) := by
  have : Int.gcd a b ≠ 0 := fun e => by
    have := Int.gcd_eq_zero_iff.1 e
    omega
  omega
end Go.Abs

/- Fractions in lowest terms: their parts, and how they compare. -/
namespace Go.Abs
/-- a fraction in lowest terms -/
def low (n d : Int) : Int × Int := if d < 0 then ((0 - n).tdiv (Int.gcd n d), (0 - d).tdiv (Int.gcd n d)) else (n.tdiv (Int.gcd n d), d.tdiv (Int.gcd n d))
theorem tdiv_small {n g : Int} (hn : -4611686018427387904 ≤ n ∧ n ≤ 4611686018427387904) (_ : 0 < g) : -4611686018427387904 ≤ n.tdiv g ∧ n.tdiv g ≤ 4611686018427387904 := by
  have h := Int.natAbs_tdiv_le_natAbs n g
  omega
theorem tdiv_neg' (n g : Int) : n.tdiv (0 - g) = (0 - n).tdiv g := by
  rw [show (0 : Int) - g = -g by omega, show (0 : Int) - n = -n by omega, Int.tdiv_neg, Int.neg_tdiv]
end Go.Abs

/- Chapter 5: fractions in lowest terms, products of ranges, in data. -/
namespace Go.Proofs.G5q
open Go Go.Abs Go.Proofs Go.Proofs.G5
set_option maxRecDepth 100000
theorem hokZ : HandlerOK Tryz.prog hZ := handlerX_ok mixed (fun g h he => by cases he) (by decide) 6
/-- the least and the greatest of four products -/
def mn (x y : Int) : Int := if y < x then y else x
def mx (x y : Int) : Int := if y > x then y else x
abbrev W6 (z : Int) : Int := IntKind.wrap .i64 z
def prV (a b c d : Int) : Int × Int := (mn (mn (mn (W6 (a * c)) (W6 (a * d))) (W6 (b * c))) (W6 (b * d)), mx (mx (mx (W6 (a * c)) (W6 (a * d))) (W6 (b * c))) (W6 (b * d)))
theorem at_lit {l : List Value} {k : Nat} {v : Value} (h : k + 1 ≤ l.length) (e : (l.drop k).take 1 = [v]) : At l k 1 [v] := ⟨h, e⟩
theorem conPr (a b c d : Int) : C5 126 [.agg [dI a, dI b], .agg [dI c, dI d]] [.agg [dI (prV a b c d).1, dI (prV a b c d).2]] := by
  refine con_walk hokZ mixed (u := 12) (by decide) Tryz.func126 rfl (by show 0 ≤ 400; omega) (fun caps => ?_)
  show gPr a b c d _
  rw [gPr_text]
  have e0 : At [vI (W6 (a * c)), vI (W6 (a * d)), vI (W6 (b * c)), vI (W6 (b * d))] 0 1 [vI (W6 (a * c))] := at_lit (by simp) rfl
  have e1 : At [vI (W6 (a * c)), vI (W6 (a * d)), vI (W6 (b * c)), vI (W6 (b * d))] 1 1 [vI (W6 (a * d))] := at_lit (by simp) rfl
  have e2 : At [vI (W6 (a * c)), vI (W6 (a * d)), vI (W6 (b * c)), vI (W6 (b * d))] 2 1 [vI (W6 (b * c))] := at_lit (by simp) rfl
  have e3 : At [vI (W6 (a * c)), vI (W6 (a * d)), vI (W6 (b * c)), vI (W6 (b * d))] 3 1 [vI (W6 (b * d))] := at_lit (by simp) rfl
  exact ⟨_, e0, _, e1, _, e2, _, e3, _, e0, _, e1, _, e2, _, e3, rfl⟩
theorem conLT (n d : Int) (hn : -4611686018427387904 ≤ n ∧ n ≤ 4611686018427387904) (hd : -4611686018427387904 ≤ d ∧ d ≤ 4611686018427387904) (h0 : d ≠ 0) : C5 70 [dI n, dI d] [.agg [dI (low n d).1, dI (low n d).2]] := by
  let inv : Int × Int → Prop := fun x => (-4611686018427387904 ≤ x.1 ∧ x.1 ≤ 4611686018427387904) ∧ (-4611686018427387904 ≤ x.2 ∧ x.2 ≤ 4611686018427387904) ∧ Int.gcd x.1 x.2 = Int.gcd n d
  let st : Int × Int → Slots × Blocks := fun x => (sLT n d x.1 x.2, bLT)
  refine con_of (L := fun _ s b => ∃ x, inv x ∧ st x = (s, b)) hokZ mixed Tryz.func70 rfl (by show 0 ≤ 400; omega) rfl (ids := [0]) (by kernel_rfl) rfl (fun caps => ?_) (fun id hid => ?_)
  · show gLT (fun _ _ _ => True) _ n d _
    rw [gLT_text]
    exact ⟨(n, d), ⟨hn, hd, rfl⟩, rfl⟩
  · obtain rfl := List.mem_singleton.1 hid
    refine ⟨Int × Int, st, inv, fun x => x.2.natAbs, ⟨fun s b h => h, by kernel_rfl, ?_⟩⟩
    rintro ⟨a, b⟩ ⟨ha, hb, hg⟩
    simp only at ha hb hg
    show rLT (fun _ _ _ => True) _ n d a b _ _ _
    rw [rLT_text]
    refine bc_bne (fun h => ?_) (fun h => ?_)
    · simp only [bc_n h, true_and, and_true]
      have hlt := gcd_step_lt (a := a) h
      have hst := gcd_step a b
      refine ⟨(b, a.tmod b), ⟨hb, ?_, by show Int.gcd b (a.tmod b) = _; omega⟩, hlt, rfl⟩
      show -4611686018427387904 ≤ a.tmod b ∧ a.tmod b ≤ 4611686018427387904
      have : (a.tmod b).natAbs < b.natAbs := hlt
      omega
    · show (if 0 = 0 then _ else _)
      rw [if_pos rfl]
      show nLT (fun _ _ _ => True) _ n d a _
      rw [nLT_text]
      subst h
      have hend := gcd_end a
      rw [hg] at hend
      have hgp := gcd_pos (a := n) (b := d) (.inr h0)
      have b1 := tdiv_small (n := n) (g := Int.gcd n d) hn hgp
      have b2 := tdiv_small (n := d) (g := Int.gcd n d) hd hgp
      have b3 := tdiv_small (n := 0 - n) (g := Int.gcd n d) (by omega) hgp
      have b4 := tdiv_small (n := 0 - d) (g := Int.gcd n d) (by omega) hgp
      have ha0 : a ≠ 0 := by intro h; rw [h] at hend; simp at hend; omega
      rw [w64 (z := 0 - a) (by omega) (by omega)]
      have hna : 0 - a ≠ 0 := by omega
      simp only [bc_n ha0, bc_n hna, true_and, and_true]
      refine bc_dec (fun h1 => bc_dec (fun h2 => ?_) (fun h2 => ?_)) (fun h1 => bc_dec (fun h2 => ?_) (fun h2 => ?_))
      · rw [if_pos h1] at hend
        have ea : a = 0 - ((Int.gcd n d : Nat) : Int) := by omega
        rw [ea, tdiv_neg', tdiv_neg', w64 (by omega) (by omega), w64 (by omega) (by omega)]
        show _ = _
        rw [low, if_pos h2]
      · rw [if_pos h1] at hend
        have ea : 0 - a = ((Int.gcd n d : Nat) : Int) := by omega
        rw [ea, w64 (by omega) (by omega), w64 (by omega) (by omega)]
        show _ = _
        rw [low, if_neg h2]
      · rw [if_neg h1] at hend
        have ea : 0 - a = 0 - ((Int.gcd n d : Nat) : Int) := by omega
        rw [ea, tdiv_neg', tdiv_neg', w64 (by omega) (by omega), w64 (by omega) (by omega)]
        show _ = _
        rw [low, if_pos h2]
      · rw [if_neg h1] at hend
        rw [← hend, w64 (by omega) (by omega), w64 (by omega) (by omega)]
        show _ = _
        rw [low, if_neg h2]
end Go.Proofs.G5q

/- Chapter 5: outputs of monitors, in data. -/
namespace Go.Proofs.G5q
open Go Go.Abs Go.Proofs Go.Proofs.G5
set_option maxRecDepth 100000
def dN : List Int → D
  | [] => .nil
  | x :: r => .sl (x :: r).length 1 (vi (x :: r))
theorem dN_ne {r : List Int} (h : r ≠ []) : dN r = .sl r.length 1 (vi r) := by cases r with | nil => exact absurd rfl h | cons x r => rfl
abbrev Bd (l : List Int) : Prop := ∀ z ∈ l, -100000 ≤ z ∧ z ≤ 100000
theorem getD_at (r : List Int) (j : Nat) (h : j < r.length) : r.getD j 0 = r[j] := by
  rw [List.getD_eq_getElem?_getD, List.getElem?_eq_getElem h]; rfl
theorem outs_step (D : Nat) (f : Int → Int) (r : List Int) (c : Int) (l : List Int) (i : Nat) (hi : i < l.length) (hr : r.length = i) :
    outs D f r c (l.drop i) = if -100000 ≤ l[i] + c ∧ l[i] + c ≤ 100000 then outs D f (r ++ [l[i] + c]) (c - if D ≤ i then f ((r ++ [l[i] + c]).getD (i - D) 0) else 0) (l.drop (i + 1)) else none := by
  rw [List.drop_eq_getElem_cons hi, outs, hr]
/-- what is said of outputs -/
def ouD : Option (List Int) → List D
  | none => [.nil, dI 22]
  | some r => [dN r, dI 0]
theorem vi_at' (r : List Int) (y : Int) (j : Nat) (h : j < r.length + 1) : At (vi (r ++ [y])) (0 + j * 1) 1 [vI ((r ++ [y]).getD j 0)] := by
  have := vi_at (r ++ [y]) j (by simp; omega)
  rwa [getD_at (r ++ [y]) j (by simp; omega)]
theorem getD_last (r : List Int) (y : Int) : (r ++ [y]).getD r.length 0 = y := by simp [List.getD_eq_getElem?_getD]
theorem bd_snoc {r : List Int} {y : Int} (h : Bd r) (hy : -100000 ≤ y ∧ y ≤ 100000) : Bd (r ++ [y]) := by
  intro z hz
  rcases List.mem_append.1 hz with hz | hz
  · exact h z hz
  · rw [List.mem_singleton.1 hz]; exact hy
theorem bd_getD {r : List Int} (h : Bd r) (j : Nat) : -100000 ≤ r.getD j 0 ∧ r.getD j 0 ≤ 100000 := by
  by_cases hj : j < r.length
  · rw [getD_at r j hj]; exact h _ (List.getElem_mem hj)
  · rw [List.getD_eq_getElem?_getD, List.getElem?_eq_none (by omega)]
    show -100000 ≤ (0 : Int) ∧ (0 : Int) ≤ 100000; omega
abbrev ouS (D nu de ba : Int) (n cap : Nat) (l : List Int) : List Int × Int → Slots × Blocks
  | ([], x) => (sOu (.slice none 0 0) x n cap 0, [oM D nu de ba, oL, Q500 (vi l)])
  | (z :: r, x) => (sOu (.slice (some ⟨1002, 0, none⟩) (r.length + 1) (r.length + 1)) x n cap ((r.length + 1 : Nat) : Int), [oM D nu de ba, oL, (1002, .sym (vi (z :: r)) true 1), Q500 (vi l)])
theorem ouS_ne {D nu de ba : Int} {n cap : Nat} {l r : List Int} {x : Int} (h : r ≠ []) : ouS D nu de ba n cap l (r, x) = (sOu (.slice (some ⟨1002, 0, none⟩) r.length r.length) x n cap (r.length : Int), [oM D nu de ba, oL, (1002, .sym (vi r) true 1), Q500 (vi l)]) := by
  cases r with | nil => exact absurd rfl h | cons z r => rfl
theorem conOu (D : Nat) {nu de ba : Int} (hm : VM D nu de ba) (l : List Int) (hlen : l.length < 1000000) (hl : ∀ z ∈ l, -10000 ≤ z ∧ z ≤ 10000) :
    C5 45 [.agg [dI D, dI nu, dI de, dI ba], .sl l.length 1 (vi l)] (ouD (outs D (tk nu de ba) [] 0 l)) := by
  have hD := hm.dl
  let inv : (List Int × Int) × Nat → Prop := fun x => x.1.1.length ≤ l.length ∧ Bd x.1.1 ∧ (-20000000 ≤ x.1.2 ∧ x.1.2 ≤ 20000000) ∧ outs D (tk nu de ba) [] 0 l = outs D (tk nu de ba) x.1.1 x.1.2 (l.drop x.1.1.length)
  let st : (List Int × Int) × Nat → Slots × Blocks := fun x => ouS D nu de ba l.length x.2 l x.1
  refine con_of (L := fun _ s b => ∃ x, inv x ∧ st x = (s, b)) hok mixed Tryz.func45 rfl (by show 1 ≤ 400; omega) rfl (ids := [0]) (by kernel_rfl) rfl (fun caps => ?_) (fun id hid => ?_)
  · show gOu _ _ D nu de ba l.length (caps 500) (vi l) _
    rw [gOu_text]
    exact ⟨(([], 0), caps 500), ⟨by simp, (by intro z hz; cases hz), by show -20000000 ≤ (0 : Int) ∧ (0 : Int) ≤ 20000000; omega, rfl⟩, rfl⟩
  · obtain rfl := List.mem_singleton.1 hid
    refine ⟨(List Int × Int) × Nat, st, inv, fun x => l.length - x.1.1.length, ⟨fun s b h => h, by kernel_rfl, ?_⟩⟩
    rintro ⟨⟨r, x⟩, cap⟩ ⟨hi, hb, hx, hr⟩
    simp only at hi hb hx hr
    by_cases h : r.length < l.length
    · have hli := hl _ (List.getElem_mem h)
      rw [outs_step D _ r x l r.length h rfl] at hr
      have hy : IntKind.wrap .i64 (l[r.length] + x) = l[r.length] + x := w64 (by omega) (by omega)
      have hlt : ((r.length : Nat) : Int) < (l.length : Int) := by omega
      have h0 : (0 : Int) ≤ (r.length : Int) := by omega
      have hl1 : (r.length : Int) < ((r.length + 1 : Nat) : Int) := by omega
      have hll : (r ++ [l[r.length] + x]).length = r.length + 1 := by simp
      -- the parts that both shapes share
      have kB : ∀ (B : Bx), ((-100000 : Int) ≤ l[r.length] + x ∧ l[r.length] + x ≤ 100000) → (∀ s b, (∃ y, inv y ∧ l.length - y.1.1.length < l.length - r.length ∧ st y = (s, b)) → B s b) → ∀ c', (c' = x - if D ≤ r.length then tk nu de ba ((r ++ [l[r.length] + x]).getD (r.length - D) 0) else 0) → B (sOu (.slice (some ⟨1002, 0, none⟩) (r.length + 1) (r.length + 1)) c' l.length cap ((r.length + 1 : Nat) : Int)) [oM D nu de ba, oL, (1002, .sym (vi (r ++ [l[r.length] + x])) true 1), Q500 (vi l)] := by
        intro B hin hB c' hc'
        have hne : r ++ [l[r.length] + x] ≠ [] := by simp
        refine hB _ _ ⟨((r ++ [l[r.length] + x], c'), cap), ⟨by rw [hll]; omega, bd_snoc hb hin, ?_, ?_⟩, by simp only [hll]; omega, ?_⟩
        · show -20000000 ≤ c' ∧ c' ≤ 20000000
          rw [hc']
          split
          · have := tk_bd hm (bd_getD (bd_snoc hb hin) (r.length - D)); omega
          · omega
        · simp only
          rw [hr, if_pos hin, hll, hc']
        · show ouS D nu de ba l.length cap l (r ++ [l[r.length] + x], c') = _
          rw [ouS_ne hne, hll]
      have hwi : IntKind.wrap .i64 ((r.length : Int) + 1) = ((r.length + 1 : Nat) : Int) := by rw [w64 (by omega) (by omega)]; omega
      have hat := vi_at' r (l[r.length] + x) r.length (by omega)
      rw [getD_last] at hat
      have hwd : D ≤ r.length → IntKind.wrap .i64 ((r.length : Int) - (D : Int)) = ((r.length - D : Nat) : Int) := fun _ => by rw [w64 (by omega) (by omega)]; omega
      have hbad : ¬ ((-100000 : Int) ≤ l[r.length] + x ∧ l[r.length] + x ≤ 100000) → ouD (outs D (tk nu de ba) [] 0 l) = [.nil, dI 22] := fun hn => by rw [hr, if_neg hn]; rfl
      cases r with
      | nil =>
        show rOu0 _ _ D nu de ba x l.length cap (vi l) (0 : Int) _ _ _
        rw [rOu0_text]
        simp only [List.length_nil, Nat.zero_add, List.nil_append] at h hli hr hy hlt h0 hl1 hll kB hwi hat hwd hbad
        have e0 : [vI (l[0] + x)] = vi [l[0] + x] := rfl
        have h1' : (0 : Int) < ((1 : Nat) : Int) := by omega
        have a0 : At (vi l) (0 + Int.toNat 0 * 1) 1 [vI l[0]] := vi_at l 0 h
        have a1 : At [vI (l[0] + x)] (0 + Int.toNat 0 * 1) 1 [vI (l[0] + x)] := hat
        simp only [bc_t (show (0 : Int) < (l.length : Int) by omega), bc_t (show (0 : Int) ≤ 0 by omega), at1 a0, hy, bc_t (show (0 : Int) < 1 by omega), at1 a1, eq_self, true_and, and_true]
        refine ⟨_, wit_rng, ?_⟩
        refine bc_bne (fun hc => ?_) (fun hc => ?_)
        · have hn : ¬ ((-100000 : Int) ≤ l[0] + x ∧ l[0] + x ≤ 100000) := fun hin => hc ((rngE0 (by decide)).2 hin)
          show [Abs.D.nil, dI (rngE (-100000) 100000 22 _)] = _
          rw [hbad hn, rngE_no hn]
        · have hin := (rngE0 (by decide)).1 hc
          refine bc_dec (fun hge => ?_) (fun hge => ?_)
          · have hD0 : D = 0 := by omega
            subst hD0
            have hw0 : IntKind.wrap .i64 ((0 : Int) - ((0 : Nat) : Int)) = 0 := by rw [w64 (by omega) (by omega)]; omega
            simp only [hw0, bc_t (show (0 : Int) ≤ 0 by omega), bc_t (show (0 : Int) < 1 by omega), at1 a1, eq_self, true_and, and_true]
            refine ⟨_, ⟨conTk hm hin⟩, ?_⟩
            have ht := tk_bd hm hin
            have hww : IntKind.wrap .i64 (x - tk nu de ba (l[0] + x)) = x - tk nu de ba (l[0] + x) := w64 (by omega) (by omega)
            rw [hww]
            exact kB _ hin (fun s b hh => hh) (x - tk nu de ba (l[0] + x)) (by rw [if_pos (Nat.le_refl 0)]; rfl)
          · exact kB _ hin (fun s b hh => hh) x (by rw [if_neg (by omega)]; omega)
      | cons z r =>
        generalize hrr : z :: r = R at *
        have hR : R ≠ [] := by rw [← hrr]; simp
        have hst : st ((R, x), cap) = (sOu (.slice (some ⟨1002, 0, none⟩) R.length R.length) x l.length cap (R.length : Int), [oM D nu de ba, oL, (1002, .sym (vi R) true 1), Q500 (vi l)]) := ouS_ne hR
        rw [hst]
        show rOu _ _ D nu de ba x l.length cap (vi l) R.length R.length (vi R) (R.length : Int) _ _ _
        rw [rOu_text]
        simp only [bc_t hlt, bc_t h0, Int.toNat_natCast, at1 (vi_at l R.length h), hy, vi_whole, vi_snoc, bc_t (show R.length < R.length + 1 by omega), bc_t (show (2 * (R.length + 1) + 768) * 8 ≤ 281474976710656 by omega), bc_t (show R.length + 1 ≤ 1099511627776 by omega), bc_t (show 0 + R.length * 1 ≤ (vi R).length by simp), bc_t (show 0 + R.length * 1 = (vi R).length by simp), bc_t hl1, at1 hat, eq_self, true_and, and_true]
        refine ⟨_, wit_rng, ?_⟩
        refine bc_bne (fun hc => ?_) (fun hc => ?_)
        · have hn : ¬ ((-100000 : Int) ≤ l[R.length] + x ∧ l[R.length] + x ≤ 100000) := fun hin => hc ((rngE0 (by decide)).2 hin)
          show [Abs.D.nil, dI (rngE (-100000) 100000 22 _)] = _
          rw [hbad hn, rngE_no hn]
        · have hin := (rngE0 (by decide)).1 hc
          refine bc_dec (fun hge => ?_) (fun hge => ?_)
          · have hDl : D ≤ R.length := by omega
            have hat2 := vi_at' R (l[R.length] + x) (R.length - D) (by omega)
            simp only [hwd hDl, Int.toNat_natCast, bc_t (show (0 : Int) ≤ ((R.length - D : Nat) : Int) by omega), bc_t (show ((R.length - D : Nat) : Int) < ((R.length + 1 : Nat) : Int) by omega), at1 hat2, eq_self, true_and, and_true]
            have hbb := bd_getD (bd_snoc hb hin) (R.length - D)
            refine ⟨_, ⟨conTk hm hbb⟩, ?_⟩
            have ht := tk_bd hm hbb
            rw [w64 (z := x - _) (by omega) (by omega), hwi]
            exact kB _ hin (fun s b hh => hh) _ (by rw [if_pos hDl])
          · rw [hwi]
            exact kB _ hin (fun s b hh => hh) x (by rw [if_neg (by omega)]; omega)
    · have he : r.length = l.length := by omega
      rw [he, List.drop_length, outs] at hr
      cases r with
      | nil =>
        show rOu0 _ _ D nu de ba x l.length cap (vi l) (0 : Int) _ _ _
        rw [rOu0_text]
        rw [bc_f (show ¬ (0 : Int) < (l.length : Int) by simp at he; omega)]
        show (if 0 = 0 then _ else _)
        rw [if_pos rfl]
        show nOu0 _ _ _
        rw [nOu0_text]
        show [Abs.D.nil, dI 0] = ouD _
        rw [hr]; rfl
      | cons z r =>
        generalize hrr : z :: r = R at *
        have hR : R ≠ [] := by rw [← hrr]; simp
        have hst : st ((R, x), cap) = (sOu (.slice (some ⟨1002, 0, none⟩) R.length R.length) x l.length cap (R.length : Int), [oM D nu de ba, oL, (1002, .sym (vi R) true 1), Q500 (vi l)]) := ouS_ne hR
        rw [hst]
        show rOu _ _ D nu de ba x l.length cap (vi l) R.length R.length (vi R) (R.length : Int) _ _ _
        rw [rOu_text, bc_f (show ¬ (R.length : Int) < (l.length : Int) by omega)]
        show (if 0 = 0 then _ else _)
        rw [if_pos rfl]
        show nOu _ _ R.length R.length (vi R) _
        rw [nOu_text]
        refine ⟨⟨rfl, by simp⟩, ?_⟩
        show [Abs.D.sl _ _ _, dI 0] = ouD _
        rw [hr, ouD, dN_ne hR]
end Go.Proofs.G5q

/- Chapter 5: a number repeated, numbers in a range, in data. -/
namespace Go.Proofs.G5q
open Go Go.Abs Go.Proofs Go.Proofs.G5
set_option maxRecDepth 100000
theorem conRe (x : Int) : C5 46 [.sl 1 1 [vI x], dI 501] [.sl 501 1 (vi (List.replicate 501 x))] := by
  refine con_walk hokE mixed (u := 12) (by decide) Tryz.func46 rfl (by show 1 ≤ 400; omega) (fun caps => ?_)
  show fRe _ (caps 500) x _
  rw [fRe_text]
  simp only [eq_self, true_and, and_true]
  rfl
end Go.Proofs.G5q

/- Chapter 5: after how many ticks a monitor rests, in data. -/
namespace Go.Proofs.G5q
open Go Go.Abs Go.Proofs Go.Proofs.G5
set_option maxRecDepth 100000
/-- after how many ticks: what is returned -/
def reP (D nu de ba x : Int) : Int × Int := if ¬ ((-10000 : Int) ≤ x ∧ x ≤ 10000) then (0, 2) else restV D.toNat (tk nu de ba) x
def raP (D nu de ba x : Int) : Int × Int := if mE D nu de ba ≠ 0 then (0, mE D nu de ba) else reP D nu de ba x
theorem outs_bd {D : Nat} {f : Int → Int} : ∀ {l done : List Int} {c : Int} {r : List Int}, Bd done → outs D f done c l = some r → Bd r ∧ r.length = done.length + l.length
  | [], done, c, r, hb, h => by
    simp only [outs, Option.some.injEq] at h; subst h; exact ⟨hb, by simp⟩
  | d :: l, done, c, r, hb, h => by
    rw [outs] at h
    split at h
    · rename_i hin
      obtain ⟨h1, h2⟩ := outs_bd (bd_snoc hb hin) h
      refine ⟨h1, ?_⟩
      simp at h2 ⊢; omega
    · cases h
theorem restGo_drop {D : Int} {f : Int → Int} {q t : Int} {l : List Int} {i : Nat} (h : i < l.length) : restGo D f q t (l.drop i) = if (if f l[i] ≠ 0 then 0 else q + 1) > D then (t, 0) else restGo D f (if f l[i] ≠ 0 then 0 else q + 1) (t + 1) (l.drop (i + 1)) := by
  rw [List.drop_eq_getElem_cons h]; rfl
theorem conRA (D nu de ba x : Int) : C5 16 [.agg [dI D, dI nu, dI de, dI ba], dI x] [dI (raP D nu de ba x).1, dI (raP D nu de ba x).2] := by
  let ok : Prop := VM D nu de ba ∧ ((-10000 : Int) ≤ x ∧ x ≤ 10000)
  let inv : List Int × Nat × Int → Prop := fun y => ok ∧ Bd y.1 ∧ y.1.length < 1000 ∧ y.2.1 ≤ y.1.length ∧ (0 ≤ y.2.2 ∧ y.2.2 ≤ 10 + y.2.1) ∧ raP D nu de ba x = restGo D (tk nu de ba) y.2.2 y.2.1 (y.1.drop y.2.1)
  let st : List Int × Nat × Int → Slots × Blocks := fun y => (sRA D (.slice (some ⟨1002, 0, none⟩) y.1.length y.1.length) y.1.length y.2.2 y.2.1, [oN D nu de ba, (1001, .cells [vI D, vI nu, vI de, vI ba] 93 false 4), (1002, .sym (vi y.1) true 1)])
  refine con_of (L := fun _ s b => ∃ x, inv x ∧ st x = (s, b)) hok mixed Tryz.func16 rfl (by show 0 ≤ 400; omega) rfl (ids := [0]) (by kernel_rfl) rfl (fun caps => ?_) (fun id hid => ?_)
  · show gRA _ _ D nu de ba x _
    rw [gRA_text]
    simp only [eq_self, true_and, and_true]
    refine ⟨_, ⟨conCM D nu de ba⟩, ?_⟩
    refine bc_bne (fun h => ?_) (fun h => ?_)
    · refine ⟨_, wit_rng, _, ⟨conFE [mE D nu de ba, rngE (-10000) 10000 2 x] (by simp)⟩, ?_⟩
      have e : fst0 [mE D nu de ba, rngE (-10000) 10000 2 x] = mE D nu de ba := by rw [fst0, if_neg h]
      rw [e]
      refine bc_bne (fun _ => ?_) (fun h0 => absurd h0 h)
      show _ = _
      rw [raP, if_pos h]
    · have hm := mE_ok.1 h
      have hD := hm.dl
      refine ⟨_, wit_rng, _, ⟨conFE [0, rngE (-10000) 10000 2 x] (by simp)⟩, ?_⟩
      have e : fst0 [0, rngE (-10000) 10000 2 x] = rngE (-10000) 10000 2 x := by
        rw [fst0, if_pos rfl, fst0]; split
        · rename_i h0; rw [h0]; rfl
        · rfl
      rw [e]
      have hra : raP D nu de ba x = reP D nu de ba x := by rw [raP, if_neg (by omega)]
      refine bc_bne (fun h0 => ?_) (fun h0 => ?_)
      · have hn : ¬ ((-10000 : Int) ≤ x ∧ x ≤ 10000) := fun hin => h0 ((rngE0 (by decide)).2 hin)
        show _ = _
        rw [hra, reP, if_pos hn, rngE_no hn]
      · have hin := (rngE0 (by decide)).1 h0
        rw [reP, if_neg (by omega)] at hra
        refine .inr ⟨501, vi (List.replicate 501 x), ⟨conRe x⟩, bc_yes (by simp) ?_⟩
        obtain ⟨n, rfl⟩ : ∃ n : Nat, D = n := ⟨D.toNat, by omega⟩
        have c := conOu n hm (List.replicate 501 x) (by simp) (fun z hz => by rw [(List.mem_replicate.1 hz).2]; omega)
        have e1 : List.take (501 * 1) (List.drop 0 (vi (List.replicate 501 x))) = vi (List.replicate 501 x) := by
          rw [List.drop_zero, List.take_of_length_le (by simp)]
        rw [e1]
        rw [List.length_replicate] at c
        rw [Int.toNat_natCast, restV] at hra
        cases ho : outs n (tk nu de ba) [] 0 (List.replicate 501 x) with
        | none =>
          rw [ho] at c hra
          refine .inl ⟨22, ⟨c⟩, bc_bne (fun _ => ?_) (fun h0 => absurd h0 (by decide))⟩
          show _ = _
          rw [hra]
        | some r =>
          rw [ho] at c hra
          obtain ⟨hb, hl⟩ := outs_bd (by intro z hz; cases hz) ho
          have hl : r.length = 501 := by simpa using hl
          have hne : r ≠ [] := by intro h0; rw [h0] at hl; simp at hl
          rw [ouD, dN_ne hne] at c
          refine .inr ⟨r.length, vi r, 0, ⟨c⟩, bc_bne (fun h0 => absurd rfl h0) (fun _ => ?_)⟩
          exact ⟨(r, 0, n), ⟨⟨hm, hin⟩, hb, by show r.length < 1000; omega, Nat.zero_le _, by show 0 ≤ (n : Int) ∧ (n : Int) ≤ 10 + ((0 : Nat) : Int); omega, hra⟩, rfl⟩
  · obtain rfl := List.mem_singleton.1 hid
    refine ⟨List Int × Nat × Int, st, inv, fun y => y.1.length - y.2.1, ⟨fun s b h => h, by kernel_rfl, ?_⟩⟩
    rintro ⟨r, i, q⟩ ⟨⟨hm, hin⟩, hb, hlen, hi, hq, hr⟩
    simp only at hb hlen hi hq hr
    have hD := hm.dl
    show rRA _ _ D nu de ba r.length q (i : Int) (vi r) _ _ _
    rw [rRA_text]
    refine bc_dec (fun h => ?_) (fun h => ?_)
    · have h1 : i < r.length := by omega
      rw [restGo_drop h1] at hr
      simp only [bc_t h, bc_t (show (0 : Int) ≤ (i : Int) by omega), Int.toNat_natCast, at1 (vi_at r i h1)]
      refine ⟨_, ⟨conTk hm (hb _ (List.getElem_mem h1))⟩, ?_⟩
      rw [w64 (z := q + 1) (by omega) (by omega), w64 (z := (i : Int) + 1) (by omega) (by omega)]
      refine bc_bne (fun hk => ?_) (fun hk => ?_)
      · have e : (if tk nu de ba r[i] ≠ 0 then 0 else q + 1) = 0 := if_pos hk
        rw [e] at hr
        refine bc_no (by omega) ?_
        rw [if_neg (by omega)] at hr
        exact ⟨(r, i + 1, 0), ⟨⟨hm, hin⟩, hb, hlen, h1, by show 0 ≤ (0 : Int) ∧ (0 : Int) ≤ 10 + ((i + 1 : Nat) : Int); omega, hr⟩, by show r.length - (i + 1) < r.length - i; omega, rfl⟩
      · have e : (if tk nu de ba r[i] ≠ 0 then 0 else q + 1) = q + 1 := if_neg (fun h' => h' hk)
        rw [e] at hr
        refine bc_dec (fun hg => ?_) (fun hg => ?_)
        · rw [if_pos hg] at hr
          show _ = _
          rw [hr]
        · rw [if_neg hg] at hr
          exact ⟨(r, i + 1, q + 1), ⟨⟨hm, hin⟩, hb, hlen, h1, by show 0 ≤ q + 1 ∧ q + 1 ≤ 10 + ((i + 1 : Nat) : Int); omega, hr⟩, by show r.length - (i + 1) < r.length - i; omega, rfl⟩
    · show (if 0 = 0 then _ else _)
      rw [if_pos rfl]
      show nRA _ _ D nu de ba _
      rw [nRA_text]
      have : i = r.length := by omega
      rw [this, List.drop_length] at hr
      show _ = _
      rw [hr]; rfl
end Go.Proofs.G5q

/- slices.Insert at 0, where there is room: the handler is right where the function does so in memory. -/
namespace Go.Abs
open Go.RowKit
variable {P : Program} {w0 : Start P} {ρ : Ren} {w : World} {H : Heap}
/-- what the function does in memory -/
def InsWalk (P : Program) (f : FuncId) : Prop :=
  ∀ (b off n c vb voff vc : Nat) (cs : List Value) (x : Value) (w : World), 0 < n → n + 1 ≤ 9223372036854775807 → n + 1 ≤ c → vb ≠ b → cs.length = n →
    (∀ j v, cs[j]? = some v → w.cell? ⟨b, off + j, none⟩ = some v) → (∀ j, j < n + 1 → (w.cell? ⟨b, off + j, none⟩).isSome = true) → (∀ j, j < n + 1 → w.frozen? ⟨b, off + j, none⟩ = false) →
    w.cell? ⟨vb, voff, none⟩ = some x → (∀ v ∈ cs, v.oneCell' = true) → x.oneCell' = true →
    ∀ (tA tB : TypeId) (kA kB : Nat), w.shape? vb = some (tA, kA) → w.shape? b = some (tB, kB) → kB ≠ 0 → w.frozen? ⟨vb, voff, none⟩ = false → w.frozen? ⟨vb, kA, none⟩ = false →
    Calls P f #[.slice (some ⟨b, off, none⟩) n c, .int .i64 0, .slice (some ⟨vb, voff, none⟩) 1 vc] w fun e w' =>
      e = .returned (.slice (some ⟨b, off, none⟩) (n + 1) c) ∧ w' = (w.drew.setCells b (off + 1) cs).setCells b off [x]
theorem cellP_one {v : Value} (h : cellP v = true) : v.oneCell' = true := by
  simp only [cellP, Bool.and_eq_true] at h
  have := h.2
  unfold cellOk at this
  unfold Value.oneCell'
  cases v <;> first | rfl | cases this
theorem LR.cons_inv {v : Value} {l l' : List Value} (h : LR ρ (v :: l) l') : ∃ v' r', l' = v' :: r' ∧ VR ρ v v' ∧ LR ρ l r' := by
  cases h with
  | cons h t => exact ⟨_, _, rfl, h, t⟩
theorem LR.refl_plain : ∀ {l : List Value}, (∀ v ∈ l, cellP v = true) → LR ρ l l
  | [], _ => .nil
  | v :: _, h => .cons (plain_refl ρ 8 v (cellP_plain (h v (List.mem_cons_self ..)))) (LR.refl_plain (fun x hx => h x (List.mem_cons_of_mem _ hx)))
/-- a row of cells written, as the library says it -/
theorem Gam.setCells (_ : Program) (g : Gam w0 ρ H w) {i k es : Nat} {m : Meta} {cs vs : List Value} (hm : ρ i = some m) (hg : H.get i = some (.sym cs true es)) (hi : mbase ≤ i) (hle : k + vs.length ≤ cs.length) (hp : ∀ v ∈ vs, cellP v = true) :
    Gam w0 ρ (H.set i (.sym (listSet cs k vs) true es)) (w.setCells m.b (m.o + k) vs) ∧ Ext ρ ρ H (H.set i (.sym (listSet cs k vs) true es)) := by
  have hobj := g.obj i m _ hm hg
  obtain ⟨⟨e1, e2, e3, c, ty, fz, ⟨hb, hfz⟩, hsz, hlr⟩, hps⟩ := hobj
  obtain rfl := hfz rfl
  have g1 : Gam w0 ρ (H.set i (.cells cs 0 true es)) w := g.recast hg rfl (fun m' _ r => obj_cells r)
  have hgetb : (H.set i (.cells cs 0 true es)).get i = some (.cells cs 0 true es) := by rw [Heap.get_set, if_pos rfl]
  have hw : (H.set i (.cells cs 0 true es)).write i k vs = some ((H.set i (.cells cs 0 true es)).set i (.cells (listSet cs k vs) 0 true es)) := by
    unfold Heap.write
    rw [hgetb]
    simp only
    rw [if_pos (by simp [hle, hi, all_cellOk hp])]
  have hlrv : LR ρ vs vs := LR.refl_plain hp
  obtain ⟨w', hst, g2, ext⟩ := g1.write (P := P) hm hlrv hw
  have hmw := m.hw
  have hrun := run_storeCells_cells (P := P) m.b (m.o + k) vs 0 w (fun j hj => by
    have hlt : m.o + k + 0 + j < c.size := by omega
    simp only [World.cell?, hb, Option.isSome_none, Bool.false_eq_true, if_false]
    rw [Array.getElem?_eq_getElem hlt]; rfl) (fun j hj => by simp [World.frozen?, hb]) (fun v hv => cellP_one (hp v hv))
  rw [hst] at hrun
  simp only [Result.ok.injEq, true_and, Nat.add_zero] at hrun
  have hall : ∀ x ∈ listSet cs k vs, cellP x = true := by
    intro x hx
    simp only [listSet, List.mem_append] at hx
    rcases hx with (hx | hx) | hx
    · exact hps x (List.mem_of_mem_take hx)
    · exact hp x hx
    · exact hps x (List.mem_of_mem_drop hx)
  have g3 := g2.recast (i := i) (o := .cells (listSet cs k vs) 0 true es) (o' := .sym (listSet cs k vs) true es) (by rw [Heap.get_set, if_pos rfl]) rfl (fun m' _ r => obj_sym hall r)
  have hget : ∀ j, (H.set i (.sym (listSet cs k vs) true es)).get j = (((H.set i (.cells cs 0 true es)).set i (.cells (listSet cs k vs) 0 true es)).set i (.sym (listSet cs k vs) true es)).get j := by
    intro j
    simp only [Heap.get_set]
    by_cases e : j = i
    · simp [e]
    · simp [e]
  rw [hrun] at g3
  refine ⟨g3.congr hget rfl, ?_⟩
  refine ext_congr ext rfl (fun j hj => ?_) rfl (fun j _ hj => ?_)
  · have : j ≠ i := fun e => by rw [e, hm] at hj; cases hj
    rw [Heap.get_set, if_neg this]
  · have : j ≠ i := fun e => by rw [e, hm] at hj; cases hj
    simp [Heap.get_set, this]
theorem ins_ok {f : FuncId} (hins : InsWalk P f) {args : Array Value} {k : Value → Heap → Prop} (h : wpIns args H k) : CallH P f args H k := by
  intro w0 ρ w args' n0 g ha
  unfold wpIns at h
  split at h
  case h_2 => cases h
  rename_i b n cap z vb vcap hargs
  split at h
  case h_2 => cases h
  rename_i cs x ty es hgb hgv
  split at h
  case isFalse => cases h
  rename_i hc
  obtain ⟨rfl, hib, hne, hn, hroom, hcap, hcl, hx⟩ := hc
  rw [hargs] at ha
  obtain ⟨s', t1, e1, h1, r1⟩ := LR.cons_inv ha
  obtain ⟨z', t2, e2, h2, r2⟩ := LR.cons_inv r1
  obtain ⟨v', t3, e3, h3, r3⟩ := LR.cons_inv r2
  cases r3
  subst e3
  subst e2
  obtain rfl : z' = .int .i64 0 := by cases h2; rfl
  obtain ⟨m, hm, off, capC, rfl, hcc, _, hx2⟩ := slice_inv h1
  obtain ⟨mv, hmv, offv, capv, rfl, _, hv1, _⟩ := slice_inv h3
  obtain ⟨⟨o1, o2, o3, c, ty', fz, ⟨hb, hfz⟩, hsz, hlr⟩, hps⟩ := g.obj b m _ hm hgb
  obtain rfl := hfz rfl
  obtain ⟨q1, q2, q3, c2, ty2, hb2, hsz2, hlr2⟩ := g.obj vb mv _ hmv hgv
  have hopen : m.isOpen 0 cap = true := by simp [Meta.isOpen, o2, o3, o1, hcl]
  have hoff : off = m.o + 0 ∧ off + capC * m.es ≤ m.size := by
    rcases hx2 hopen with h | h
    · exact h
    · omega
  have hoffv : offv = mv.o := by
    have := (hv1 (by simp [Meta.isOpen, q2])).1
    omega
  obtain ⟨rfl, hroomC⟩ := hoff
  subst hoffv
  rw [o3, Nat.mul_one] at hroomC
  have hbne : mv.b ≠ m.b := fun e => hne (g.inj b vb m mv hib ⟨_, hgb, rfl⟩ ⟨_, hgv, rfl⟩ hm hmv e.symm)
  have hvb := mv.hw
  have q1' : mv.known = 1 := q1
  have ecs := hlr.eq_of_plain hps
  have ex := hlr2.eq_of_plain (by intro v hv; rw [List.mem_singleton.1 hv]; exact hx)
  have hcell : ∀ j v, cs[j]? = some v → w.cell? ⟨m.b, m.o + 0 + j, none⟩ = some v := by
    intro j v hj
    have hjl : j < cs.length := (List.getElem?_eq_some_iff.1 hj).1
    rw [← ecs, List.getElem?_take, if_pos hjl, List.getElem?_drop, Array.getElem?_toList] at hj
    simpa [World.cell?, hb] using hj
  have hcellx : w.cell? ⟨mv.b, mv.o, none⟩ = some x := by
    have : ((c2.toList.drop mv.o).take 1)[0]? = some x := by rw [show List.take 1 (List.drop mv.o c2.toList) = [x] from ex]; rfl
    rw [List.getElem?_take, if_pos (by omega), List.getElem?_drop, Array.getElem?_toList] at this
    simpa [World.cell?, hb2] using this
  have harr : args' = #[.slice (some ⟨m.b, m.o + 0, none⟩) n capC, .int .i64 0, .slice (some ⟨mv.b, mv.o, none⟩) 1 capv] := by
    apply Array.ext'
    exact e1
  rw [harr]
  have hpt : ∀ v ∈ cs.take n, cellP v = true := fun v hv => hps v (List.mem_of_mem_take hv)
  refine callsIn_wide.2 ((hins m.b (m.o + 0) n capC mv.b mv.o capv (cs.take n) x w hn (by omega) (by omega) hbne (by rw [List.length_take]; omega)
    (fun j v hj => hcell j v (by rw [List.getElem?_take] at hj; split at hj; exact hj; cases hj))
    (fun j hj => by
      have hlt : m.o + 0 + j < c.size := by omega
      simp only [World.cell?, hb, Option.isSome_none, Bool.false_eq_true, if_false]
      rw [Array.getElem?_eq_getElem hlt]; rfl)
    (fun j hj => by simp [World.frozen?, hb]) hcellx (fun v hv => cellP_one (hpt v hv)) (cellP_one hx) ty2 ty' c2.size c.size (by simp [World.shape?, hb2]) (by simp [World.shape?, hb]) (by omega) (by simp [World.frozen?, hb2]) (by simp [World.frozen?, hb2])).mono ?_)
  rintro e w' ⟨rfl, rfl⟩
  have g0 : Gam w0 ρ H w.drew := g.drawn _
  obtain ⟨g1, x1⟩ := Gam.setCells P g0 (k := 1) (vs := cs.take n) hm hgb hib (by rw [List.length_take]; omega) hpt
  obtain ⟨g2, x2⟩ := Gam.setCells P g1 (k := 0) (vs := [x]) hm (by rw [Heap.get_set, if_pos rfl]) hib (by simp [listSet]; omega) (by intro v hv; rw [List.mem_singleton.1 hv]; exact hx)
  refine ⟨_, _, ρ, _, h, rfl, ?_, ?_, ?_⟩
  · exact .opened b 0 (n + 1) cap capC m hm hopen hcc (by rw [o3]; omega) hroom
  · refine g2.congr (fun j => ?_) rfl
    simp only [Heap.get_set]
    by_cases e : j = b
    · simp [e]
    · simp [e]
  · refine ext_congr (x1.trans x2) rfl (fun j _ => rfl) rfl (fun j _ hj => ?_)
    have : j ≠ b := fun e => by rw [e, hm] at hj; cases hj
    simp [Heap.get_set, this]
end Go.Abs
