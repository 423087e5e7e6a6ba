/- Texts of the proof, put together: GpP3, GpP4, GpP5, GpPR, GpP6, GpP7, AbsGood, GpPK0, GpPA0, GpPA1, GpPA2, GpPA3, GpPA, AbsPasD, AbsShort2. -/
import Derived.Test.YteadiejdhplokaaP5
import Derived.Test.YteadiejdhplokaaP4
import Derived.Test.YteadiejdhplokaaP3
import Derived.Test.YteadiejdhplokaaProg
import Derived.Lib.LaidTab
import Derived.Lib.ItoaNum
import Derived.Test.YteadiejdhplokaaRows
import Derived.Handed
import Derived.JoinedCond
/- Chapter 3: the reference's checks, in data. -/
namespace Go.Proofs.G5p
open Go Go.Abs Go.Proofs Go.Str
set_option maxRecDepth 100000
theorem sayW {a b c : Int} {A B : Prop} (h1 : b ≤ a ∧ a ≤ c → A) (h2 : ¬ (b ≤ a ∧ a ≤ c) → B) : (Says C5 18 [dI a, dI b, dI c] [.val (.bool true)] ∧ A) ∨ (Says C5 18 [dI a, dI b, dI c] [.val (.bool false)] ∧ B) := by
  by_cases h : b ≤ a ∧ a ≤ c
  · exact .inl ⟨sayWt h, h1 h⟩
  · exact .inr ⟨sayWf h, h2 h⟩
theorem chk_rng {r : Ru} (h : ¬ rngB r) : chk r = (0, 2) := by
  have : headE r = 2 := by rw [headE, if_neg h]
  rw [chk, this]; rfl
theorem chk_ord {r : Ru} (h1 : rngB r) (h2 : ¬ ordB r) : chk r = (0, 9) := by
  have : headE r = 9 := by rw [headE, if_pos h1, if_neg h2]
  rw [chk, this]; rfl
theorem chk_cnt {r : Ru} (h1 : rngB r) (h2 : ordB r) : chk r = if cntE r.ss.length = 0 then stsE 0 r.ss else (0, cntE r.ss.length) := by
  rw [chk, headE, if_pos h1, if_pos h2]
theorem conRK (r : Ru) (hlen : r.ss.length < 1000000000) : C5 14 [r.d] [dI (chk r).1, dI (chk r).2] := by
  let inv : Nat × Nat → Prop := fun x => x.1 ≤ r.ss.length ∧ chk r = stsE x.1 (r.ss.drop x.1)
  let st : Nat × Nat → Slots × Blocks := fun x => zRK1 x.1 r.w r.st r.fi r.hlo r.hhi r.co r.ss.length x.2 r.slo r.shi r.flo r.fhi (vs5 r.ss)
  refine con_of (L := fun _ s b => ∃ x, inv x ∧ st x = (s, b)) hokP mixed Try.func14 rfl (by show 1 ≤ 400; omega) rfl (ids := [0]) (by kernel_rfl) rfl (fun caps => ?_) (fun id hid => ?_)
  · show gRK _ _ r.w r.st r.fi r.hlo r.hhi r.co r.ss.length (caps 500) (vs5 r.ss) r.slo r.shi r.flo r.fhi _
    rw [gRK_text]
    have bad : ¬ rngB r → [dI 0, dI 2] = [dI (chk r).1, dI (chk r).2] := fun h => by rw [chk_rng h]
    refine sayW (fun h1 => ?_) (fun h1 => bad (fun h => h1 h.1))
    refine sayW (fun h2 => ?_) (fun h2 => bad (fun h => h2 h.2.1.1))
    refine sayW (fun h3 => ?_) (fun h3 => bad (fun h => h3 h.2.1.2))
    refine sayW (fun h4 => ?_) (fun h4 => bad (fun h => h4 h.2.2.1.1))
    refine sayW (fun h5 => ?_) (fun h5 => bad (fun h => h5 h.2.2.1.2.1))
    refine sayW (fun h6 => ?_) (fun h6 => bad (fun h => h6 h.2.2.1.2.2))
    refine sayW (fun h7 => ?_) (fun h7 => bad (fun h => h7 h.2.2.2.1.1))
    refine sayW (fun h8 => ?_) (fun h8 => bad (fun h => h8 h.2.2.2.1.2))
    refine sayW (fun h9 => ?_) (fun h9 => bad (fun h => h9 h.2.2.2.2.1))
    refine sayW (fun h10 => ?_) (fun h10 => bad (fun h => h10 h.2.2.2.2.2))
    have hr : rngB r := ⟨h1, ⟨h2, h3⟩, ⟨h4, h5, h6⟩, ⟨h7, h8⟩, h9, h10⟩
    have bad2 : ¬ ordB r → [dI 0, dI 9] = [dI (chk r).1, dI (chk r).2] := fun h => by rw [chk_ord hr h]
    refine bc_dec (fun g1 => bad2 (fun h => by have := h.1; omega)) (fun g1 => ?_)
    refine bc_dec (fun g2 => bad2 (fun h => by have := h.2.1; omega)) (fun g2 => ?_)
    refine bc_dec (fun g3 => bad2 (fun h => by have := h.2.2.1; omega)) (fun g3 => ?_)
    refine bc_dec (fun g4 => bad2 (fun h => by have := h.2.2.2; omega)) (fun g4 => ?_)
    have ho : ordB r := ⟨by omega, by omega, by omega, by omega⟩
    have hc := chk_cnt hr ho
    refine bc_beq (fun g5 => ?_) (fun g5 => bc_dec (fun g6 => ?_) (fun g6 => ?_))
    · have e : cntE r.ss.length = 10 := by rw [cntE, if_pos (by omega)]
      rw [hc, e]; rfl
    · have e : cntE r.ss.length = 8 := by rw [cntE, if_neg (by omega), if_pos (by omega)]
      rw [hc, e]; rfl
    · have e : cntE r.ss.length = 0 := by rw [cntE, if_neg (by omega), if_neg (by omega)]
      exact ⟨(0, caps 500), ⟨Nat.zero_le _, by rw [hc, e]; rfl⟩, rfl⟩
  · obtain rfl := List.mem_singleton.1 hid
    refine ⟨Nat × Nat, st, inv, fun x => r.ss.length - x.1, ⟨fun s b h => h, by kernel_rfl, ?_⟩⟩
    rintro ⟨i, cap⟩ ⟨hi', hr⟩
    simp only at hi' hr
    show rRK1 _ _ i r.w r.st r.fi r.hlo r.hhi r.co r.ss.length cap r.slo r.shi r.flo r.fhi (vs5 r.ss) _ _ _
    rw [rRK1_text]
    refine bc_dec (fun h => ?_) (fun h => ?_)
    · have hi2 : i < r.ss.length := by omega
      rw [stsE_drop r.ss i hi2] at hr
      simp only [bc_t h, bc_t (show (0 : Int) ≤ (i : Int) by omega), Int.toNat_natCast, at5 (vs5_all r.ss i hi2)]
      have bad : ¬ stB r.ss[i] → [dI (i : Int), dI 2] = [dI (chk r).1, dI (chk r).2] := fun h => by
        have e : stE r.ss[i] = 2 := by rw [stE, if_neg h]
        rw [e, if_neg (by omega)] at hr; rw [hr]
      refine sayW (fun h1 => ?_) (fun h1 => bad (fun h => h1 h.1))
      refine sayW (fun h2 => ?_) (fun h2 => bad (fun h => h2 h.2.1.1))
      refine sayW (fun h3 => ?_) (fun h3 => bad (fun h => h3 h.2.1.2))
      refine sayW (fun h4 => ?_) (fun h4 => bad (fun h => h4 h.2.2.1))
      refine sayW (fun h5 => ?_) (fun h5 => bad (fun h => h5 h.2.2.2))
      have hb : stB r.ss[i] := ⟨h1, ⟨h2, h3⟩, h4, h5⟩
      refine bc_dec (fun h6 => ?_) (fun h6 => ?_)
      · have e : stE r.ss[i] = 9 := by rw [stE, if_pos hb, if_neg (by omega)]
        rw [e, if_neg (by omega)] at hr
        show [dI (i : Int), dI 9] = _
        rw [hr]
      · have e : stE r.ss[i] = 0 := by rw [stE, if_pos hb, if_pos (by omega)]
        rw [if_pos e] at hr
        refine ⟨(i + 1, cap), ⟨hi2, hr⟩, by show r.ss.length - (i + 1) < r.ss.length - i; omega, ?_⟩
        rw [w64 (by omega) (by omega)]; rfl
    · show (if 0 = 0 then _ else _)
      rw [if_pos rfl]
      show nRK2 _ _ _
      rw [nRK2_text]
      have : i = r.ss.length := by omega
      rw [this, List.drop_length] at hr
      show [dI 0, dI 0] = _
      rw [hr]; rfl
theorem conRKn (r : Ru) (hnil : r.ss = []) : C5 14 [r.dn] [dI (chk r).1, dI (chk r).2] := by
  refine con_of (L := fun _ s b => False) hokP mixed Try.func14 rfl (by show 0 ≤ 400; omega) rfl (ids := [0]) (by kernel_rfl) rfl (fun caps => ?_) (fun id hid => ?_)
  · show gRKn _ _ r.w r.st r.fi r.hlo r.hhi r.co r.slo r.shi r.flo r.fhi _
    rw [gRKn_text]
    have bad : ¬ rngB r → [dI 0, dI 2] = [dI (chk r).1, dI (chk r).2] := fun h => by rw [chk_rng h]
    refine sayW (fun h1 => ?_) (fun h1 => bad (fun h => h1 h.1))
    refine sayW (fun h2 => ?_) (fun h2 => bad (fun h => h2 h.2.1.1))
    refine sayW (fun h3 => ?_) (fun h3 => bad (fun h => h3 h.2.1.2))
    refine sayW (fun h4 => ?_) (fun h4 => bad (fun h => h4 h.2.2.1.1))
    refine sayW (fun h5 => ?_) (fun h5 => bad (fun h => h5 h.2.2.1.2.1))
    refine sayW (fun h6 => ?_) (fun h6 => bad (fun h => h6 h.2.2.1.2.2))
    refine sayW (fun h7 => ?_) (fun h7 => bad (fun h => h7 h.2.2.2.1.1))
    refine sayW (fun h8 => ?_) (fun h8 => bad (fun h => h8 h.2.2.2.1.2))
    refine sayW (fun h9 => ?_) (fun h9 => bad (fun h => h9 h.2.2.2.2.1))
    refine sayW (fun h10 => ?_) (fun h10 => bad (fun h => h10 h.2.2.2.2.2))
    have hr : rngB r := ⟨h1, ⟨h2, h3⟩, ⟨h4, h5, h6⟩, ⟨h7, h8⟩, h9, h10⟩
    have bad2 : ¬ ordB r → [dI 0, dI 9] = [dI (chk r).1, dI (chk r).2] := fun h => by rw [chk_ord hr h]
    refine bc_dec (fun g1 => bad2 (fun h => by have := h.1; omega)) (fun g1 => ?_)
    refine bc_dec (fun g2 => bad2 (fun h => by have := h.2.1; omega)) (fun g2 => ?_)
    refine bc_dec (fun g3 => bad2 (fun h => by have := h.2.2.1; omega)) (fun g3 => ?_)
    refine bc_dec (fun g4 => bad2 (fun h => by have := h.2.2.2; omega)) (fun g4 => ?_)
    have ho : ordB r := ⟨by omega, by omega, by omega, by omega⟩
    have hc := chk_cnt hr ho
    have e : cntE r.ss.length = 10 := by rw [hnil]; rfl
    first
      | (refine bc_beq (fun g5 => ?_) (fun g5 => absurd rfl g5); rw [hc, e]; rfl)
      | (rw [hc, e]; rfl)
  · obtain rfl := List.mem_singleton.1 hid
    exact ⟨Unit, fun _ => ([], []), fun _ => False, fun _ => 0, ⟨fun s b h => h.elim, by kernel_rfl, fun _ h => h.elim⟩⟩
theorem conRS (r : Ru) (nm : List UInt8) (th : List Int) (hlen : r.ss.length < 1000000000) (hth : th.length < 1000000000) : C5 15 [r.d, scD nm th] [dI (schE r nm th).1, dI (schE r nm th).2] := by
  let inv : Nat × Nat × Nat × Int → Prop := fun x => x.1 ≤ th.length ∧ schE r nm th = thE r.ss.length r.fi x.1 x.2.2.2 (th.drop x.1)
  let st : Nat × Nat × Nat × Int → Slots × Blocks := fun x => zRS1 x.2.2.2 x.1 r.w r.st r.fi r.hlo r.hhi r.co r.ss.length x.2.1 r.slo r.shi r.flo r.fhi (bs nm) th.length x.2.2.1 (vs5 r.ss) (vi th)
  refine con_of (L := fun _ s b => ∃ x, inv x ∧ st x = (s, b)) hokP mixed Try.func15 rfl (by show 2 ≤ 400; omega) rfl (ids := [0]) (by kernel_rfl) rfl (fun caps => ?_) (fun id hid => ?_)
  · show gRS _ _ r.w r.st r.fi r.hlo r.hhi r.co r.ss.length (caps 500) (vs5 r.ss) r.slo r.shi r.flo r.fhi (bs nm) th.length (caps 501) (vi th) _
    rw [gRS_text]
    refine sayOr (conIN nm) (fun hn => bc_bne (fun h2 => ?_) (fun h2 => ?_)) (fun hn => ?_)
    · show [dI 0, dI 10] = _
      rw [schE, if_pos hn, if_neg (by omega)]
    · exact ⟨(0, caps 500, caps 501, r.st), ⟨Nat.zero_le _, by rw [schE, if_pos hn, if_pos (by omega)]; rfl⟩, rfl⟩
    · show [dI 0, dI 4] = _
      rw [schE, if_neg (by rw [hn]; simp)]
  · obtain rfl := List.mem_singleton.1 hid
    refine ⟨Nat × Nat × Nat × Int, st, inv, fun x => th.length - x.1, ⟨fun s b h => h, by kernel_rfl, ?_⟩⟩
    rintro ⟨i, c1, c2, b⟩ ⟨hi', hr⟩
    simp only at hi' hr
    show rRS1 _ _ b i r.w r.st r.fi r.hlo r.hhi r.co r.ss.length c1 r.slo r.shi r.flo r.fhi (bs nm) th.length c2 (vs5 r.ss) (vi th) _ _ _
    rw [rRS1_text]
    refine bc_dec (fun h => ?_) (fun h => ?_)
    · have hi2 : i < th.length := by omega
      rw [thE_drop th i hi2] at hr
      simp only [bc_t h, bc_t (show (0 : Int) ≤ (i : Int) by omega), Int.toNat_natCast, at1 (vi_at th i hi2)]
      refine sayW (fun h3 => ?_) (fun h3 => ?_)
      · rw [if_neg (fun hh => hh h3)] at hr
        refine bc_dec (fun h4 => ?_) (fun h4 => ?_)
        · rw [if_pos h4] at hr; show [dI (i : Int), dI 9] = _; rw [hr]
        · rw [if_neg h4] at hr
          refine ⟨(i + 1, c1, c2, th[i]), ⟨hi2, hr⟩, by show th.length - (i + 1) < th.length - i; omega, ?_⟩
          rw [w64 (by omega) (by omega)]; rfl
      · rw [if_pos h3] at hr
        show [dI (i : Int), dI 2] = _
        rw [hr]
    · show (if 0 = 0 then _ else _)
      rw [if_pos rfl]
      show nRS2 _ _ b r.w r.st r.fi r.hlo r.hhi r.co r.ss.length c1 r.slo r.shi r.flo r.fhi (vs5 r.ss) _
      rw [nRS2_text]
      have : i = th.length := by omega
      rw [this, List.drop_length, thE] at hr
      refine bc_bne (fun h2 => ?_) (fun h2 => ?_)
      · rw [if_pos h2] at hr; rw [hr, w64 (by omega) (by omega)]
      · rw [if_neg (by omega)] at hr; rw [hr]
end Go.Proofs.G5p

/- Chapter 3: what the reference gives back, in data. -/
namespace Go.Proofs.G5p
open Go Go.Abs Go.Proofs Go.Str
set_option maxRecDepth 100000
abbrev scN (nm : List UInt8) : D := .agg [dS nm, .nil]
theorem conRSn (r : Ru) (nm : List UInt8) (h0 : 0 < r.ss.length) (hlen : r.ss.length < 1000000000) : C5 15 [r.d, scN nm] [dI (schE r nm []).1, dI (schE r nm []).2] := by
  refine con_of (L := fun _ s b => False) hokP mixed Try.func15 rfl (by show 1 ≤ 400; omega) rfl (ids := [0]) (by kernel_rfl) rfl (fun caps => ?_) (fun id hid => ?_)
  · show gRSn _ _ r.w r.st r.fi r.hlo r.hhi r.co r.ss.length (caps 500) (vs5 r.ss) r.slo r.shi r.flo r.fhi (bs nm) _
    rw [gRSn_text]
    refine sayOr (conIN nm) (fun hn => bc_bne (fun h2 => ?_) (fun h2 => absurd h2 (by omega))) (fun hn => ?_)
    · show [dI 0, dI 10] = _
      rw [schE, if_pos hn, if_neg (by simp; omega)]
    · show [dI 0, dI 4] = _
      rw [schE, if_neg (by rw [hn]; simp)]
  · obtain rfl := List.mem_singleton.1 hid
    exact ⟨Unit, fun _ => ([], []), fun _ => False, fun _ => 0, ⟨fun s b h => h.elim, by kernel_rfl, fun _ h => h.elim⟩⟩
/-- the thickness before a stand -/
def bfr (b : Int) (th : List Int) : Nat → Int
  | 0 => b
  | i + 1 => th.getD i 0
/-- thicknesses descend -/
def Desc : Int → List Int → Prop
  | _, [] => True
  | b, h :: l => (1 ≤ h ∧ h ≤ 1000) ∧ h ≤ b ∧ Desc h l
theorem thE_ok {n : Nat} {fi : Int} : ∀ (l : List Int) (i b : Int), 0 ≤ i → (thE n fi i b l).2 = 0 → Desc b l
  | [], _, _, _, _ => trivial
  | h :: l, i, b, hi, e => by
    rw [thE] at e
    split at e
    · simp at e
    · split at e
      · simp at e
      · rename_i h1 h2
        exact ⟨by omega, by omega, thE_ok l (i + 1) h (by omega) e⟩
theorem desc_at : ∀ {l : List Int} {b : Int} (i : Nat) (hi : i < l.length), Desc b l → 1 ≤ b ∧ b ≤ 1000 → (1 ≤ l[i] ∧ l[i] ≤ 1000) ∧ l[i] ≤ bfr b l i ∧ 1 ≤ bfr b l i ∧ bfr b l i ≤ 1000
  | h :: l, b, 0, _, d, hb => ⟨d.1, d.2.1, hb⟩
  | h :: l, b, i + 1, hi, d, hb => by
    have hi' : i < l.length := by simpa using hi
    have := desc_at i hi' d.2.2 d.1
    have e : bfr b (h :: l) (i + 1) = bfr h l i := by cases i <;> simp [bfr]
    rw [e]; exact this
structure VS (r : Ru) (th : List Int) : Prop where
  rng : rngB r
  ord : ordB r
  n0 : 0 < r.ss.length
  n6 : r.ss.length ≤ 6
  len : th.length = r.ss.length
  desc : Desc r.st th
theorem VS.at {r : Ru} {th : List Int} (v : VS r th) {i : Nat} (hi : i < th.length) : (1 ≤ th[i] ∧ th[i] ≤ 1000) ∧ th[i] ≤ bfr r.st th i ∧ 1 ≤ bfr r.st th i ∧ bfr r.st th i ≤ 1000 := desc_at i hi v.desc v.rng.2.1.1
theorem vs_of {r : Ru} {nm : List UInt8} {th : List Int} (h1 : (chk r).2 = 0) (h2 : (schE r nm th).2 = 0) : VS r th := by
  have hr : rngB r := Decidable.byContradiction fun h => by rw [chk_rng h] at h1; simp at h1
  have ho : ordB r := Decidable.byContradiction fun h => by rw [chk_ord hr h] at h1; simp at h1
  rw [chk_cnt hr ho] at h1
  have hc : cntE r.ss.length = 0 := Decidable.byContradiction fun h => by rw [if_neg h] at h1; exact h h1
  unfold cntE at hc
  rw [schE] at h2
  split at h2
  · split at h2
    · exact ⟨hr, ho, by split at hc <;> omega, by split at hc <;> first | omega | (split at hc <;> omega), by assumption, thE_ok _ _ _ (Int.le_refl 0) h2⟩
    · simp at h2
  · simp at h2
theorem conbf (r : Ru) (nm : List UInt8) (th : List Int) (k : Nat) (hk : k < th.length) (hth : th.length < 1000000000) : C5 59 [r.d, scD nm th, dI (k : Int)] [dI (bfr r.st th k)] := by
  refine con_flat hokP mixed Try.func59 rfl (by show 2 ≤ 400; omega) rfl (by kernel_rfl) (fun caps => ?_)
  show gbf _ _ r.w r.st r.fi r.hlo r.hhi r.co r.ss.length (caps 500) (vs5 r.ss) r.slo r.shi r.flo r.fhi (bs nm) th.length (caps 501) (vi th) (k : Int) _
  rw [gbf_text]
  refine bc_beq (fun h => ?_) (fun h => ?_)
  · obtain rfl : k = 0 := by omega
    rfl
  · obtain ⟨j, rfl⟩ : ∃ j, k = j + 1 := ⟨k - 1, by omega⟩
    have e : IntKind.wrap .i64 (((j + 1 : Nat) : Int) - 1) = (j : Int) := by rw [w64 (by omega) (by omega)]; omega
    have hj : j < th.length := by omega
    simp only [e, bc_t (show (0 : Int) ≤ (j : Int) by omega), bc_t (show (j : Int) < (th.length : Int) by omega), Int.toNat_natCast, at1 (vi_at th j hj)]
    show [dI th[j]] = [dI (th.getD j 0)]
    simp [List.getD, List.getElem?_eq_getElem hj]
theorem vp_snoc {l : List (Int × Int)} {i : Nat} (h : i < l.length) {a b : Int} (e : l[i] = (a, b)) : List.take (i * 2) (List.drop 0 (vp (l.take i))) ++ [.int .i64 a, .int .i64 b] = vp (l.take (i + 1)) := by
  rw [List.take_succ_eq_append_getElem h, List.drop_zero, List.take_of_length_le (by simp; omega), e]
  generalize l.take i = m
  induction m with
  | nil => rfl
  | cons p r ih => simp only [List.cons_append, vp, ih]
/-- the relative reductions -/
def reds (b : Int) (th : List Int) : List (Int × Int) := (List.range th.length).map fun i => low (bfr b th i - th.getD i 0) (bfr b th i)
/-- the lengths after each stand -/
def lens (n : Int) (th : List Int) : List (Int × Int) := (List.range th.length).map fun i => low n (th.getD i 0)
theorem reds_len (b : Int) (th : List Int) : (reds b th).length = th.length := by simp [reds]
theorem lens_len (n : Int) (th : List Int) : (lens n th).length = th.length := by simp [lens]
theorem getD_at {th : List Int} {i : Nat} (hi : i < th.length) : th.getD i 0 = th[i] := by simp [List.getD, List.getElem?_eq_getElem hi]
theorem reds_at {b : Int} {th : List Int} {i : Nat} (hi : i < th.length) : (reds b th)[i]'(by rw [reds_len]; exact hi) = low (bfr b th i - th[i]) (bfr b th i) := by
  simp only [reds, List.getElem_map, List.getElem_range, getD_at hi]
theorem lens_at {n : Int} {th : List Int} {i : Nat} (hi : i < th.length) : (lens n th)[i]'(by rw [lens_len]; exact hi) = low n th[i] := by
  simp only [lens, List.getElem_map, List.getElem_range, getD_at hi]
theorem conRr (r : Ru) (nm : List UInt8) (th : List Int) (v : VS r th) : C5 17 [r.d, scD nm th] [.sl th.length 2 (vp (reds r.st th))] := by
  have hl := v.len
  have h6 := v.n6
  have h0 := v.n0
  let inv : Nat × Nat × Nat → Prop := fun x => x.1 ≤ th.length
  let st : Nat × Nat × Nat → Slots × Blocks := fun x => match x.1 with
    | 0 => zRr1 0 r.w r.st r.fi r.hlo r.hhi r.co r.ss.length x.2.1 r.slo r.shi r.flo r.fhi (bs nm) th.length x.2.2 (vs5 r.ss) (vi th)
    | i + 1 => zRr2 (i + 1) ((i + 1 : Nat) : Int) r.w r.st r.fi r.hlo r.hhi r.co r.ss.length x.2.1 r.slo r.shi r.flo r.fhi (bs nm) th.length x.2.2 (vp ((reds r.st th).take (i + 1))) (vs5 r.ss) (vi th)
  refine con_of (L := fun _ s b => ∃ x, inv x ∧ st x = (s, b)) hokP mixed Try.func17 rfl (by show 2 ≤ 400; omega) rfl (ids := [0]) (by kernel_rfl) rfl (fun caps => ?_) (fun id hid => ?_)
  · show gRr _ _ r.w r.st r.fi r.hlo r.hhi r.co r.ss.length (caps 500) (vs5 r.ss) r.slo r.shi r.flo r.fhi (bs nm) th.length (caps 501) (vi th) _
    rw [gRr_text]
    exact ⟨(0, caps 500, caps 501), Nat.zero_le _, rfl⟩
  · obtain rfl := List.mem_singleton.1 hid
    refine ⟨Nat × Nat × Nat, st, inv, fun x => th.length - x.1, ⟨fun s b h => h, by kernel_rfl, ?_⟩⟩
    rintro ⟨i, c1, c2⟩ hi
    have hi : i ≤ th.length := hi
    have go : ∀ (h : i < th.length), C5 41 [dI (IntKind.wrap .i64 (bfr r.st th i - th[i])), dI (bfr r.st th i)] [.agg [dI (low (bfr r.st th i - th[i]) (bfr r.st th i)).1, dI (low (bfr r.st th i - th[i]) (bfr r.st th i)).2]] := fun h => by
      have := v.at h
      rw [w64 (by omega) (by omega)]
      exact conLe _ _ (by omega) (by omega) (by omega)
    cases i with
    | zero =>
      have h : 0 < th.length := by omega
      show rRr1 _ _ ((0 : Nat) : Int) r.w r.st r.fi r.hlo r.hhi r.co r.ss.length c1 r.slo r.shi r.flo r.fhi (bs nm) th.length c2 (vs5 r.ss) (vi th) _ _ _
      rw [rRr1_text]
      rw [bc_t (show ((0 : Nat) : Int) < (r.ss.length : Int) by omega), bc_t (v5le r.ss), bc_t (v1le th), v5_whole, v1_whole]
      refine ⟨_, ⟨conbf r nm th 0 h (by omega)⟩, ?_⟩
      simp only [bc_t (show (0 : Int) ≤ ((0 : Nat) : Int) by omega), bc_t (show ((0 : Nat) : Int) < (th.length : Int) by omega), Int.toNat_natCast, at1 (vi_at th 0 h)]
      refine ⟨_, _, ⟨go h⟩, (1, c1, c2), h, by show th.length - 1 < th.length - 0; omega, ?_⟩
      have e := vp_snoc (l := reds r.st th) (i := 0) (by rw [reds_len]; exact h) (reds_at h)
      show zRr2 _ _ _ _ _ _ _ _ _ _ _ _ _ _ _ _ _ _ _ _ = _
      rw [w64 (by omega) (by omega), ← e]; rfl
    | succ i =>
      show rRr2 _ _ (i + 1) ((i + 1 : Nat) : Int) r.w r.st r.fi r.hlo r.hhi r.co r.ss.length c1 r.slo r.shi r.flo r.fhi (bs nm) th.length c2 (vp ((reds r.st th).take (i + 1))) (vs5 r.ss) (vi th) _ _ _
      rw [rRr2_text]
      have el : (vp ((reds r.st th).take (i + 1))).length = (i + 1) * 2 := by
        rw [vp_length, List.length_take, reds_len]; omega
      refine bc_dec (fun hlt => ?_) (fun hlt => ?_)
      · have h : i + 1 < th.length := by omega
        rw [bc_t (v5le r.ss), bc_t (v1le th), v5_whole, v1_whole]
        refine ⟨_, ⟨conbf r nm th (i + 1) h (by omega)⟩, ?_⟩
        simp only [bc_t (show (0 : Int) ≤ ((i + 1 : Nat) : Int) by omega), bc_t (show ((i + 1 : Nat) : Int) < (th.length : Int) by omega), Int.toNat_natCast, at1 (vi_at th (i + 1) h)]
        refine ⟨_, _, ⟨go h⟩, ?_⟩
        have e := vp_snoc (l := reds r.st th) (i := i + 1) (by rw [reds_len]; exact h) (reds_at h)
        rw [bc_t (show i + 1 < i + 1 + 1 by omega), bc_t (show (2 * (i + 1 + 1) + 768) * 16 ≤ 281474976710656 by omega), bc_t (show i + 1 + 1 ≤ 1099511627776 by omega), bc_t (show 0 + (i + 1) * 2 ≤ (vp ((reds r.st th).take (i + 1))).length by omega), bc_t (show 0 + (i + 1) * 2 = (vp ((reds r.st th).take (i + 1))).length by omega)]
        refine ⟨(i + 2, c1, c2), h, by show th.length - (i + 2) < th.length - (i + 1); omega, ?_⟩
        show zRr2 _ _ _ _ _ _ _ _ _ _ _ _ _ _ _ _ _ _ _ _ = _
        rw [← e, w64 (by omega) (by omega)]; rfl
      · show (if 0 = 0 then _ else _)
        rw [if_pos rfl]
        show nRr4 _ _ (i + 1) (vp ((reds r.st th).take (i + 1))) _
        have hl2 : i + 1 = th.length := by omega
        rw [nRr4_text]
        simp only [Qv, true_and]
        refine ⟨el, ?_⟩
        rw [List.take_of_length_le (by rw [reds_len]; omega), hl2]
theorem conRl (r : Ru) (nm : List UInt8) (th : List Int) (v : VS r th) (n : Int) (hn : 1 ≤ n ∧ n ≤ 1000000) : C5 19 [r.d, scD nm th, dI n] [.sl th.length 2 (vp (lens (n * r.st) th))] := by
  have hl := v.len
  have h6 := v.n6
  have h0 := v.n0
  have hst := v.rng.2.1.1
  have hb : 1 ≤ n * r.st ∧ n * r.st ≤ 1000000000 := by
    have h1 : 1 * 1 ≤ n * r.st := Int.mul_le_mul (by omega) (by omega) (by omega) (by omega)
    have h2 : n * r.st ≤ 1000000 * 1000 := Int.mul_le_mul (by omega) (by omega) (by omega) (by omega)
    omega
  let inv : Nat × Nat × Nat → Prop := fun x => x.1 ≤ th.length
  let st : Nat × Nat × Nat → Slots × Blocks := fun x => match x.1 with
    | 0 => zRl1 n 0 r.w r.st r.fi r.hlo r.hhi r.co r.ss.length x.2.1 r.slo r.shi r.flo r.fhi (bs nm) th.length x.2.2 (vs5 r.ss) (vi th)
    | i + 1 => zRl2 n (i + 1) ((i + 1 : Nat) : Int) r.w r.st r.fi r.hlo r.hhi r.co r.ss.length x.2.1 r.slo r.shi r.flo r.fhi (bs nm) th.length x.2.2 (vp ((lens (n * r.st) th).take (i + 1))) (vs5 r.ss) (vi th)
  refine con_of (L := fun _ s b => ∃ x, inv x ∧ st x = (s, b)) hokP mixed Try.func19 rfl (by show 2 ≤ 400; omega) rfl (ids := [0]) (by kernel_rfl) rfl (fun caps => ?_) (fun id hid => ?_)
  · show gRl _ _ r.w r.st r.fi r.hlo r.hhi r.co r.ss.length (caps 500) (vs5 r.ss) r.slo r.shi r.flo r.fhi (bs nm) th.length (caps 501) (vi th) n _
    rw [gRl_text]
    exact ⟨(0, caps 500, caps 501), Nat.zero_le _, rfl⟩
  · obtain rfl := List.mem_singleton.1 hid
    refine ⟨Nat × Nat × Nat, st, inv, fun x => th.length - x.1, ⟨fun s b h => h, by kernel_rfl, ?_⟩⟩
    rintro ⟨i, c1, c2⟩ hi
    have hi : i ≤ th.length := hi
    have go : ∀ (h : i < th.length), C5 41 [dI (IntKind.wrap .i64 (n * r.st)), dI th[i]] [.agg [dI (low (n * r.st) th[i]).1, dI (low (n * r.st) th[i]).2]] := fun h => by
      have := v.at h
      rw [w64 (by omega) (by omega)]
      exact conLe _ _ (by omega) (by omega) (by omega)
    cases i with
    | zero =>
      have h : 0 < th.length := by omega
      show rRl1 _ _ n ((0 : Nat) : Int) r.w r.st r.fi r.hlo r.hhi r.co r.ss.length c1 r.slo r.shi r.flo r.fhi (bs nm) th.length c2 (vs5 r.ss) (vi th) _ _ _
      rw [rRl1_text]
      rw [bc_t (show ((0 : Nat) : Int) < (r.ss.length : Int) by omega)]
      simp only [Qv, eq_self, true_and, and_true, bc_t (show (0 : Int) ≤ ((0 : Nat) : Int) by omega), bc_t (show ((0 : Nat) : Int) < (th.length : Int) by omega), Int.toNat_natCast, at1 (vi_at th 0 h)]
      refine ⟨_, _, ⟨go h⟩, (1, c1, c2), h, by show th.length - 1 < th.length - 0; omega, ?_⟩
      have e := vp_snoc (l := lens (n * r.st) th) (i := 0) (by rw [lens_len]; exact h) (lens_at h)
      show zRl2 _ _ _ _ _ _ _ _ _ _ _ _ _ _ _ _ _ _ _ _ _ = _
      rw [w64 (by omega) (by omega), ← e]; rfl
    | succ i =>
      show rRl2 _ _ n (i + 1) ((i + 1 : Nat) : Int) r.w r.st r.fi r.hlo r.hhi r.co r.ss.length c1 r.slo r.shi r.flo r.fhi (bs nm) th.length c2 (vp ((lens (n * r.st) th).take (i + 1))) (vs5 r.ss) (vi th) _ _ _
      rw [rRl2_text]
      have el : (vp ((lens (n * r.st) th).take (i + 1))).length = (i + 1) * 2 := by
        rw [vp_length, List.length_take, lens_len]; omega
      refine bc_dec (fun hlt => ?_) (fun hlt => ?_)
      · have h : i + 1 < th.length := by omega
        simp only [Qv, eq_self, true_and, and_true, bc_t (show (0 : Int) ≤ ((i + 1 : Nat) : Int) by omega), bc_t (show ((i + 1 : Nat) : Int) < (th.length : Int) by omega), Int.toNat_natCast, at1 (vi_at th (i + 1) h)]
        refine ⟨_, _, ⟨go h⟩, ?_⟩
        have e := vp_snoc (l := lens (n * r.st) th) (i := i + 1) (by rw [lens_len]; exact h) (lens_at h)
        simp only [bc_t (show i + 1 < i + 1 + 1 by omega), bc_t (show (2 * (i + 1 + 1) + 768) * 16 ≤ 281474976710656 by omega), bc_t (show i + 1 + 1 ≤ 1099511627776 by omega), bc_t (show 0 + (i + 1) * 2 ≤ (vp ((lens (n * r.st) th).take (i + 1))).length by omega), bc_t (show 0 + (i + 1) * 2 = (vp ((lens (n * r.st) th).take (i + 1))).length by omega)]
        refine ⟨(i + 2, c1, c2), h, by show th.length - (i + 2) < th.length - (i + 1); omega, ?_⟩
        show zRl2 _ _ _ _ _ _ _ _ _ _ _ _ _ _ _ _ _ _ _ _ _ = _
        rw [← e, w64 (by omega) (by omega)]; rfl
      · show (if 0 = 0 then _ else _)
        rw [if_pos rfl]
        show nRl4 _ _ (i + 1) (vp ((lens (n * r.st) th).take (i + 1))) _
        have hl2 : i + 1 = th.length := by omega
        rw [nRl4_text]
        simp only [Qv, true_and]
        refine ⟨el, ?_⟩
        rw [List.take_of_length_le (by rw [lens_len]; omega), hl2]
end Go.Proofs.G5p

/- Chapter 3: loads and margins of a draught, in data. -/
namespace Go.Proofs.G5p
open Go Go.Abs Go.Proofs Go.Str
set_option maxRecDepth 100000
/-- a draught of valid rules -/
structure DrOK (r : Ru) (k : Nat) (b h : Int) : Prop where
  rng : rngB r
  sts : ∀ s ∈ r.ss, stB s
  k : k < r.ss.length
  n : r.ss.length ≤ 6
  h1 : 1 ≤ h
  hb : h ≤ b
  b1 : b ≤ 1000
abbrev drD (k : Nat) (b h : Int) : D := .agg [dI k, dI b, dI h]
theorem mulB {a b : Int} (A B : Int) (ha : 0 ≤ a ∧ a ≤ A) (hb : 0 ≤ b ∧ b ≤ B) : 0 ≤ a * b ∧ a * b ≤ A * B :=
  ⟨Int.mul_nonneg ha.1 hb.1, Int.mul_le_mul ha.2 hb.2 hb.1 (by omega)⟩
theorem mulS {a b : Int} (A B : Int) (ha : -A ≤ a ∧ a ≤ A) (hb : 0 ≤ b ∧ b ≤ B) : -(A * B) ≤ a * b ∧ a * b ≤ A * B := by
  have hA : 0 ≤ A := by omega
  by_cases h : 0 ≤ a
  · have := mulB A B ⟨h, ha.2⟩ hb; have h2 : 0 ≤ A * B := Int.mul_nonneg hA (by omega); omega
  · have := mulB (a := -a) (b := b) A B ⟨by omega, by omega⟩ hb
    have h2 : 0 ≤ A * B := Int.mul_nonneg hA (by omega)
    rw [Int.neg_mul] at this; omega
def frc (w b h s f : Int) : Int := if b = h then 0 else w * (s * (b - h) + f * (b + h))
theorem frc_bd {w b h s f : Int} (hw : 1 ≤ w ∧ w ≤ 2500) (h1 : 1 ≤ h) (hb : h ≤ b) (b1 : b ≤ 1000) (hs : 0 ≤ s ∧ s ≤ 100) (hf : 0 ≤ f ∧ f ≤ 100) : (0 ≤ s * (b - h) ∧ s * (b - h) ≤ 100000) ∧ (0 ≤ f * (b + h) ∧ f * (b + h) ≤ 200000) ∧ (0 ≤ w * (s * (b - h) + f * (b + h)) ∧ w * (s * (b - h) + f * (b + h)) ≤ 750000000) ∧ 0 ≤ frc w b h s f ∧ frc w b h s f ≤ 750000000 := by
  have e1 := mulB (a := s) (b := b - h) 100 1000 hs (by omega)
  have e2 := mulB (a := f) (b := b + h) 100 2000 hf (by omega)
  have e3 := mulB (a := w) (b := s * (b - h) + f * (b + h)) 2500 300000 (by omega) (by omega)
  refine ⟨by omega, by omega, by omega, ?_⟩
  unfold frc; split <;> omega
theorem confB (r : Ru) (k : Nat) (b h s f : Int) (v : DrOK r k b h) (hs : 0 ≤ s ∧ s ≤ 100) (hf : 0 ≤ f ∧ f ≤ 100) : C5 105 [r.d, drD k b h, dI s, dI f] [dI (frc r.w b h s f)] := by
  refine con_flat hokP mixed Try.func105 rfl (by show 1 ≤ 400; omega) rfl (by kernel_rfl) (fun caps => ?_)
  show gfB _ _ r.w r.st r.fi r.hlo r.hhi r.co r.ss.length (caps 500) (vs5 r.ss) r.slo r.shi r.flo r.fhi (k : Int) b h s f _
  rw [gfB_text]
  have hw := v.rng.1
  have h1 := v.h1
  have h2 := v.hb
  have h3 := v.b1
  have e := frc_bd hw h1 h2 h3 hs hf
  refine bc_beq (fun g => ?_) (fun g => ?_)
  · show [dI 0] = _; rw [frc, if_pos g]
  · rw [w64 (z := b - h) (by omega) (by omega), w64 (z := s * (b - h)) (by omega) (by omega), w64 (z := b + h) (by omega) (by omega), w64 (z := f * (b + h)) (by omega) (by omega), w64 (z := s * (b - h) + f * (b + h)) (by omega) (by omega), w64 (by omega) (by omega)]
    simp only [Qv, true_and]
    rw [frc, if_neg g]
theorem DrOK.sl {r : Ru} {k : Nat} {b h : Int} (v : DrOK r k b h) : (0 ≤ r.slo ∧ r.slo ≤ 100) ∧ (0 ≤ r.shi ∧ r.shi ≤ 100) ∧ (0 ≤ r.flo ∧ r.flo ≤ 100) ∧ (0 ≤ r.fhi ∧ r.fhi ≤ 100) := by
  have := v.rng
  unfold rngB at this
  omega
abbrev fl (r : Ru) (b h : Int) : Int := frc r.w b h r.slo r.flo
abbrev fh (r : Ru) (b h : Int) : Int := frc r.w b h r.shi r.fhi
theorem DrOK.fl {r : Ru} {k : Nat} {b h : Int} (v : DrOK r k b h) : 0 ≤ fl r b h ∧ fl r b h ≤ 750000000 := (frc_bd v.rng.1 v.h1 v.hb v.b1 v.sl.1 v.sl.2.2.1).2.2.2
theorem DrOK.fh {r : Ru} {k : Nat} {b h : Int} (v : DrOK r k b h) : 0 ≤ fh r b h ∧ fh r b h ≤ 750000000 := (frc_bd v.rng.1 v.h1 v.hb v.b1 v.sl.2.1 v.sl.2.2.2).2.2.2
theorem confo (r : Ru) (k : Nat) (b h : Int) (v : DrOK r k b h) : C5 98 [r.d, drD k b h] [.agg [dI (fl r b h), dI (fh r b h)]] := by
  refine con_flat hokP mixed Try.func98 rfl (by show 1 ≤ 400; omega) rfl (by kernel_rfl) (fun caps => ?_)
  show gfo _ _ r.w r.st r.fi r.hlo r.hhi r.co r.ss.length (caps 500) (vs5 r.ss) r.slo r.shi r.flo r.fhi (k : Int) b h _
  rw [gfo_text]
  simp only [bc_t (v5le r.ss), v5_whole, Qv, true_and]
  exact ⟨_, ⟨confB r k b h r.slo r.flo v v.sl.1 v.sl.2.2.1⟩, _, ⟨confB r k b h r.shi r.fhi v v.sl.2.1 v.sl.2.2.2⟩, rfl⟩
theorem conto (r : Ru) (k : Nat) (b h : Int) (v : DrOK r k b h) : C5 89 [r.d, drD k b h] [.agg [dI (fl r b h * (b - h)), dI (fh r b h * (b - h))]] := by
  refine con_flat hokP mixed Try.func89 rfl (by show 1 ≤ 400; omega) rfl (by kernel_rfl) (fun caps => ?_)
  show gto _ _ r.w r.st r.fi r.hlo r.hhi r.co r.ss.length (caps 500) (vs5 r.ss) r.slo r.shi r.flo r.fhi (k : Int) b h _
  rw [gto_text, bc_t (v5le r.ss), v5_whole]
  have h1 := v.h1
  have h2 := v.hb
  have h3 := v.b1
  have e1 := mulB 750000000 1000 v.fl (show 0 ≤ b - h ∧ b - h ≤ 1000 by omega)
  have e2 := mulB 750000000 1000 v.fh (show 0 ≤ b - h ∧ b - h ≤ 1000 by omega)
  refine ⟨_, _, ⟨confo r k b h v⟩, ?_⟩
  rw [w64 (z := b - h) (by omega) (by omega), w64 (by omega) (by omega), w64 (by omega) (by omega)]
  simp only [Qv, true_and]
theorem conmT (l x y : Int) (hl : 0 ≤ l ∧ l ≤ 1000000000000) (hx : 0 ≤ x ∧ x ≤ 750000000000) (hy : 0 ≤ y ∧ y ≤ 750000000000) : C5 97 [dI l, .agg [dI x, dI y]] [.agg [dI (100 * (l - y)), dI (100 * (l - x))]] := by
  refine con_flat hokP mixed Try.func97 rfl (by show 0 ≤ 400; omega) rfl (by kernel_rfl) (fun caps => ?_)
  show gmT _ _ l x y _
  rw [gmT_text, w64 (z := l - y) (by omega) (by omega), w64 (z := l - x) (by omega) (by omega), w64 (by omega) (by omega), w64 (by omega) (by omega)]
def stA (r : Ru) (k : Nat) : Fv := r.ss.getD k ⟨0, 0, 0, 0, 0⟩
theorem stA_at {r : Ru} {k : Nat} (hk : k < r.ss.length) : stA r k = r.ss[k] := by simp [stA, List.getD, List.getElem?_eq_getElem hk]
def bit (r : Ru) (k : Nat) (b h f : Int) : Int := if b = h then 0 else f * (stA r k).a - 100 * (b - h)
theorem conbi (r : Ru) (k : Nat) (b h : Int) (v : DrOK r k b h) : C5 99 [r.d, drD k b h] [.agg [dI (bit r k b h r.flo), dI (bit r k b h r.fhi)]] := by
  refine con_flat hokP mixed Try.func99 rfl (by show 1 ≤ 400; omega) rfl (by kernel_rfl) (fun caps => ?_)
  show gbi _ _ r.w r.st r.fi r.hlo r.hhi r.co r.ss.length (caps 500) (vs5 r.ss) r.slo r.shi r.flo r.fhi (k : Int) b h _
  rw [gbi_text]
  simp only [Qv, eq_self, true_and, and_true]
  refine bc_beq (fun g => ?_) (fun g => ?_)
  · show [D.agg [dI 0, dI 0]] = _; rw [bit, bit, if_pos g, if_pos g]
  · have hk := v.k
    have h1 := v.h1
    have h2 := v.hb
    have h3 := v.b1
    have a1 := vs5_one r.ss k hk 0 (.int .i64 (r.ss[k]).a) rfl
    have hs := (v.sts _ (List.getElem_mem hk)).1
    simp only [Nat.add_zero] at a1
    simp only [bc_t (show (0 : Int) ≤ (k : Int) by omega), bc_t (show (k : Int) < (r.ss.length : Int) by omega), Int.toNat_natCast, at1 a1, eq_self, true_and, and_true, Int.one_mul]
    have e1 := mulB 100 1000 v.sl.2.2.1 (show 0 ≤ r.ss[k].a ∧ r.ss[k].a ≤ 1000 by omega)
    have e2 := mulB 100 1000 v.sl.2.2.2 (show 0 ≤ r.ss[k].a ∧ r.ss[k].a ≤ 1000 by omega)
    have b1 := v.sl.2.2
    rw [w64 (z := b - h) (by omega) (by omega), w64 (z := 100 * (b - h)) (by omega) (by omega), w64 (z := r.flo) (by omega) (by omega), w64 (z := r.fhi) (by omega) (by omega), w64 (z := r.flo * r.ss[k].a) (by omega) (by omega), w64 (z := r.fhi * r.ss[k].a) (by omega) (by omega), w64 (by omega) (by omega), w64 (by omega) (by omega)]
    rw [bit, bit, if_neg g, if_neg g, stA_at hk]
/-- the losses of some stands -/
def sumD : List Fv → Int
  | [] => 0
  | s :: r => s.d + sumD r
def sumE : List Fv → Int
  | [] => 0
  | s :: r => s.e + sumE r
theorem sumD_app (s : Fv) : ∀ l : List Fv, sumD (l ++ [s]) = sumD l + s.d
  | [] => by simp [sumD]
  | p :: r => by simp only [List.cons_append, sumD, sumD_app s r]; omega
theorem sumE_app (s : Fv) : ∀ l : List Fv, sumE (l ++ [s]) = sumE l + s.e
  | [] => by simp [sumE]
  | p :: r => by simp only [List.cons_append, sumE, sumE_app s r]; omega
theorem sumD_snoc {l : List Fv} {i : Nat} (h : i < l.length) : sumD (l.take (i + 1)) = sumD (l.take i) + l[i].d := by
  rw [List.take_succ_eq_append_getElem h, sumD_app]
theorem sumE_snoc {l : List Fv} {i : Nat} (h : i < l.length) : sumE (l.take (i + 1)) = sumE (l.take i) + l[i].e := by
  rw [List.take_succ_eq_append_getElem h, sumE_app]
theorem sum_bd {l : List Fv} (hs : ∀ s ∈ l, stB s) : ∀ i : Nat, i ≤ l.length → (0 ≤ sumD (l.take i) ∧ sumD (l.take i) ≤ 1000 * (i : Int)) ∧ 0 ≤ sumE (l.take i) ∧ sumE (l.take i) ≤ 1000 * (i : Int)
  | 0, _ => by simp [sumD, sumE]
  | i + 1, hi => by
    have := sum_bd hs i (by omega)
    have h2 := (hs _ (List.getElem_mem (show i < l.length by omega))).2.2
    rw [sumD_snoc (by omega), sumE_snoc (by omega)]
    omega
def hL (r : Ru) (k : Nat) (h : Int) : Int := 100 * (r.hlo - sumE (r.ss.take (k + 1))) + (r.st - h) * r.slo
def hH (r : Ru) (k : Nat) (h : Int) : Int := 100 * (r.hhi - sumD (r.ss.take (k + 1))) + (r.st - h) * r.shi
theorem DrOK.ht {r : Ru} {k : Nat} {b h : Int} (v : DrOK r k b h) : (-1000000000 ≤ hL r k h ∧ hL r k h ≤ 1000000000) ∧ -1000000000 ≤ hH r k h ∧ hH r k h ≤ 1000000000 := by
  have h1 := v.h1
  have h2 := v.hb
  have h3 := v.b1
  have hk := v.k
  have hn := v.n
  have hs := sum_bd v.sts (k + 1) (by omega)
  have hr := v.rng
  unfold rngB at hr
  have e1 := mulS (a := r.st - h) (b := r.slo) 1000 100 (by omega) (by omega)
  have e2 := mulS (a := r.st - h) (b := r.shi) 1000 100 (by omega) (by omega)
  unfold hL hH
  omega
theorem conhe (r : Ru) (k : Nat) (b h : Int) (v : DrOK r k b h) : C5 63 [r.d, drD k b h] [.agg [dI (hL r k h), dI (hH r k h)]] := by
  have hk := v.k
  have hn := v.n
  let inv : Nat × Nat × Nat → Prop := fun x => x.1 ≤ k + 1
  let st : Nat × Nat × Nat → Slots × Blocks := fun x => zhe1 (k + 1) x.2.1 ((k + 1 : Nat) : Int) x.1 r.w r.st r.fi r.hlo r.hhi r.co r.ss.length x.2.2 r.slo r.shi r.flo r.fhi (k : Int) b h 0 0 (sumD (r.ss.take x.1)) (sumE (r.ss.take x.1)) (vs5 r.ss)
  refine con_ofC (L := fun _ s b => ∃ x, inv x ∧ st x = (s, b)) hokP mixed Try.func63 rfl (by show 1 ≤ 400; omega) rfl (ids := [0]) (by kernel_rfl) rfl (fun caps hcap => ?_) (fun id hid => ?_)
  · show ghe _ _ r.w r.st r.fi r.hlo r.hhi r.co r.ss.length (caps 500) (vs5 r.ss) r.slo r.shi r.flo r.fhi (k : Int) b h _
    rw [ghe_text]
    have hc : r.ss.length ≤ caps 500 := by simp [capsL, layVals, layCells] at hcap; exact hcap
    rw [w64 (z := (k : Int) + 1) (by omega) (by omega), bc_t (show (0 : Int) ≤ (k : Int) + 1 by omega), bc_t (show (k : Int) + 1 ≤ (caps 500 : Int) by omega), show ((k : Int) + 1).toNat - 0 = k + 1 by omega]
    exact ⟨(0, caps 500 - 0, caps 500), Nat.zero_le _, rfl⟩
  · obtain rfl := List.mem_singleton.1 hid
    refine ⟨Nat × Nat × Nat, st, inv, fun x => k + 1 - x.1, ⟨fun s b h => h, by kernel_rfl, ?_⟩⟩
    rintro ⟨i, c1, c2⟩ hi
    have hi : i ≤ k + 1 := hi
    show rhe1 _ _ (k + 1) c1 ((k + 1 : Nat) : Int) i r.w r.st r.fi r.hlo r.hhi r.co r.ss.length c2 r.slo r.shi r.flo r.fhi (k : Int) b h 0 0 (sumD (r.ss.take i)) (sumE (r.ss.take i)) (vs5 r.ss) _ _ _
    rw [rhe1_text]
    refine bc_dec (fun g => ?_) (fun g => ?_)
    · have hi2 : i < r.ss.length := by omega
      simp only [bc_t (show (0 : Int) ≤ (i : Int) by omega), bc_t g, Int.toNat_natCast, at5 (vs5_all r.ss i hi2)]
      have hs := sum_bd v.sts (i + 1) (by omega)
      rw [sumD_snoc hi2, sumE_snoc hi2] at hs
      refine ⟨(i + 1, c1, c2), by show i + 1 ≤ k + 1; omega, by show k + 1 - (i + 1) < k + 1 - i; omega, ?_⟩
      show zhe1 _ _ _ _ _ _ _ _ _ _ _ _ _ _ _ _ _ _ _ _ _ _ _ _ = _
      rw [sumD_snoc hi2, sumE_snoc hi2, w64 (z := (i : Int) + 1) (by omega) (by omega), w64 (z := sumD _ + _) (by omega) (by omega), w64 (z := sumE _ + _) (by omega) (by omega)]; rfl
    · show (if 0 = 0 then _ else _)
      rw [if_pos rfl]
      obtain rfl : i = k + 1 := by omega
      show nhe2 _ _ r.w r.st r.fi r.hlo r.hhi r.co r.ss.length c2 r.slo r.shi r.flo r.fhi (k : Int) b h 0 0 (sumD (r.ss.take (k + 1))) (sumE (r.ss.take (k + 1))) (vs5 r.ss) _
      rw [nhe2_text]
      have h1 := v.h1
      have h2 := v.hb
      have h3 := v.b1
      have hs := sum_bd v.sts (k + 1) (by omega)
      have hr := v.rng
      unfold rngB at hr
      have e1 := mulS (a := r.st - h) (b := r.slo) 1000 100 (by omega) (by omega)
      have e2 := mulS (a := r.st - h) (b := r.shi) 1000 100 (by omega) (by omega)
      simp only [Int.one_mul]
      rw [w64 (z := r.hlo - _) (by omega) (by omega), w64 (z := r.hhi - _) (by omega) (by omega), w64 (z := 100 * (r.hlo - _)) (by omega) (by omega), w64 (z := 100 * (r.hhi - _)) (by omega) (by omega), w64 (z := r.st - h) (by omega) (by omega), w64 (z := r.st - h) (by omega) (by omega), w64 (z := (r.st - h) * r.slo) (by omega) (by omega), w64 (z := (r.st - h) * r.shi) (by omega) (by omega), w64 (by omega) (by omega), w64 (by omega) (by omega)]
      rfl
/-- the margins of a draught, by their limits -/
def mar (r : Ru) (k : Nat) (b h : Int) : List (Int × Int) := [(100 * ((stA r k).b - fh r b h), 100 * ((stA r k).b - fl r b h)), (100 * ((stA r k).c - fh r b h * (b - h)), 100 * ((stA r k).c - fl r b h * (b - h))), (bit r k b h r.flo, bit r k b h r.fhi), (hL r k h - 100 * r.co, hH r k h - 100 * r.co)]
def marD (l : List (Int × Int)) : D := .agg (l.flatMap fun p => [dI p.1, dI p.2])
theorem conma (r : Ru) (k : Nat) (b h : Int) (v : DrOK r k b h) : C5 86 [r.d, drD k b h] [marD (mar r k b h)] := by
  refine con_flat hokP mixed Try.func86 rfl (by show 1 ≤ 400; omega) rfl (by kernel_rfl) (fun caps => ?_)
  show gma _ _ r.w r.st r.fi r.hlo r.hhi r.co r.ss.length (caps 500) (vs5 r.ss) r.slo r.shi r.flo r.fhi (k : Int) b h _
  rw [gma_text]
  have hk := v.k
  have h1 := v.h1
  have h2 := v.hb
  have h3 := v.b1
  have hs := v.sts _ (List.getElem_mem hk)
  unfold stB at hs
  have hco := v.rng.2.2.1.2.2
  have e1 := mulB 750000000 1000 v.fl (show 0 ≤ b - h ∧ b - h ≤ 1000 by omega)
  have e2 := mulB 750000000 1000 v.fh (show 0 ≤ b - h ∧ b - h ≤ 1000 by omega)
  have hfl := v.fl
  have hfh := v.fh
  have hht := v.ht
  simp only [bc_t (show (0 : Int) ≤ (k : Int) by omega), bc_t (show (k : Int) < (r.ss.length : Int) by omega), Int.toNat_natCast, at5 (vs5_all r.ss k hk), Qv, eq_self, true_and, and_true, bc_t (v5le r.ss), v5_whole]
  refine ⟨_, _, ⟨conhe r k b h v⟩, _, _, ⟨confo r k b h v⟩, _, _, ⟨conmT _ _ _ (by omega) (by omega) (by omega)⟩, _, _, ⟨conto r k b h v⟩, _, _, ⟨conmT _ _ _ (by omega) (by omega) (by omega)⟩, _, _, ⟨conbi r k b h v⟩, ?_⟩
  rw [w64 (z := 100 * r.co) (by omega) (by omega), w64 (by omega) (by omega), w64 (by omega) (by omega)]
  simp only [marD, mar, stA_at hk, List.flatMap_cons, List.flatMap_nil, List.cons_append, List.nil_append]
end Go.Proofs.G5p

/- What is left to show of each function, written out; the kernel reckons it. -/
namespace Go.Proofs.G5p.R
open Go Go.Abs Go.Proofs
set_option maxRecDepth 100000
set_option linter.unusedVariables false
abbrev vI (n : Int) : Value := .int .i64 n
abbrev Ct := FuncId → List D → List D → Prop
abbrev Bx := Slots → Blocks → Prop
abbrev Xx := Nat → Slots → Blocks → Prop
abbrev Ex := Exit → Slots → Blocks → Prop
abbrev Kh := FuncId → List Value → Blocks → Slots → Blocks → Prop
abbrev hE (C : Ct) : Handler := handlerX Try.prog (fun _ => none) 12 6
def preP (C : Ct) : FuncId → Option Handler := fun g => if [42, 43, 44, 53, 63, 86, 98, 89, 99, 97, 105].contains g then some (saidH Try.prog C) else none
abbrev hP (C : Ct) : Handler := handlerX Try.prog (preP C) 12 6
def geL (C : Ct) (L : AtLoop) (w : Int) (st : Int) (fi : Int) (ha : Int) (hb : Int) (co : Int) (sa : Int) (sb : Int) (fa : Int) (fb : Int) (n0 : Nat) (c0 : Nat) (l0 : List Value) (nm : ByteArray) (n1 : Nat) (c1 : Nat) (l1 : List Value) (len : Int) (K : Value → Blocks → Prop) : Prop := jFn Try.prog (hP C) L [] 51 #[.agg #[.int .i64 w, .int .i64 st, .int .i64 fi, .int .i64 ha, .int .i64 hb, .int .i64 co, .slice (some ⟨500, 0, none⟩) n0 c0, .int .i64 sa, .int .i64 sb, .int .i64 fa, .int .i64 fb], .agg #[.string nm, .slice (some ⟨501, 0, none⟩) n1 c1], .func (.func 55) #[] #[.pointer (some ⟨502, 0, none⟩), .pointer (some ⟨503, 0, none⟩)]] (heapOf [(500, .sym l0 false 5), (501, .sym l1 false 1), (502, .cells [.int .i64 len] 3 false 1), (503, .cells [.int .i64 w, .int .i64 st, .int .i64 fi, .int .i64 ha, .int .i64 hb, .int .i64 co, .slice (some ⟨500, 0, none⟩) n0 c0, .int .i64 sa, .int .i64 sb, .int .i64 fa, .int .i64 fb] 95 false 11)]) (stateK K)
theorem geL_text (C : Ct) (L : AtLoop) (w : Int) (st : Int) (fi : Int) (ha : Int) (hb : Int) (co : Int) (sa : Int) (sb : Int) (fa : Int) (fb : Int) (n0 : Nat) (c0 : Nat) (l0 : List Go.Value) (nm : ByteArray) (n1 : Nat) (c1 : Nat) (l1 : List Go.Value) (len : Int) (K : Go.Value → Blocks → Prop) : geL C L w st fi ha hb co sa sb fa fb n0 c0 l0 nm n1 c1 l1 len K =
 (L 50003 [(Prod.mk 5 (Pt 1000 0)), (Prod.mk 6 (Value.slice none 0 0)), (Prod.mk 7 (Pt 1001 0)), (Prod.mk 11 (Value.func (Go.Fn.func 96) [].toArray [(Pt 1002 0), (Pt 1003 0)].toArray))] [(Prod.mk 1000 (AObj.cells [(Value.func (Go.Fn.func 55) [].toArray [(Pt 502 0), (Pt 503 0)].toArray)] 102 false 1)), (Prod.mk 1001 (AObj.cells [(Value.slice none 0 0)] 38 false 1)), (Prod.mk 1002 (AObj.cells [(vI w), (vI st), (vI fi), (vI ha), (vI hb), (vI co), (Sl 500 (n0) (c0)), (vI sa), (vI sb), (vI fa), (vI fb)] 95 false 1)), (Prod.mk 1003 (AObj.cells [(Value.string (nm)), (Sl 501 (n1) (c1))] 29 false 1)), (Prod.mk 502 (AObj.cells [(vI len)] 3 false 1)), (Prod.mk 503 (AObj.cells [(vI w), (vI st), (vI fi), (vI ha), (vI hb), (vI co), (Sl 500 (n0) (c0)), (vI sa), (vI sb), (vI fa), (vI fb)] 95 false 11)), (Prod.mk 500 (AObj.sym (l0) false 5)), (Prod.mk 501 (AObj.sym (l1) false 1))]) := by kernel_rfl
abbrev zeL1 (x0 : Int) (x1 : Int) (x2 : Int) (x3 : Int) (x4 : Int) (x5 : Int) (n6 : Nat) (c7 : Nat) (x8 : Int) (x9 : Int) (x10 : Int) (x11 : Int) (s12 : ByteArray) (n13 : Nat) (c14 : Nat) (x15 : Int) (x16 : Int) (x17 : Int) (x18 : Int) (x19 : Int) (x20 : Int) (x21 : Int) (n22 : Nat) (c23 : Nat) (x24 : Int) (x25 : Int) (x26 : Int) (x27 : Int) (l28 : List Value) (l29 : List Value) : Slots × Blocks := ([(5, (Value.pointer (some ⟨1000, 0, none⟩))), (6, (Value.slice none 0 0)), (7, (Value.pointer (some ⟨1001, 0, none⟩))), (11, (Value.func (.func 96) #[] #[(Value.pointer (some ⟨1002, 0, none⟩)), (Value.pointer (some ⟨1003, 0, none⟩))]))], [(1000, (AObj.cells [(Value.func (.func 55) #[] #[(Value.pointer (some ⟨502, 0, none⟩)), (Value.pointer (some ⟨503, 0, none⟩))])] 102 false 1)), (1001, (AObj.cells [(Value.slice none 0 0)] 38 false 1)), (1002, (AObj.cells [(Value.int .i64 x0), (Value.int .i64 x1), (Value.int .i64 x2), (Value.int .i64 x3), (Value.int .i64 x4), (Value.int .i64 x5), (Value.slice (some ⟨500, 0, none⟩) n6 c7), (Value.int .i64 x8), (Value.int .i64 x9), (Value.int .i64 x10), (Value.int .i64 x11)] 95 false 1)), (1003, (AObj.cells [(Value.string s12), (Value.slice (some ⟨501, 0, none⟩) n13 c14)] 29 false 1)), (502, (AObj.cells [(Value.int .i64 x15)] 3 false 1)), (503, (AObj.cells [(Value.int .i64 x16), (Value.int .i64 x17), (Value.int .i64 x18), (Value.int .i64 x19), (Value.int .i64 x20), (Value.int .i64 x21), (Value.slice (some ⟨500, 0, none⟩) n22 c23), (Value.int .i64 x24), (Value.int .i64 x25), (Value.int .i64 x26), (Value.int .i64 x27)] 95 false 11)), (500, (AObj.sym l28 false 5)), (501, (AObj.sym l29 false 1))])
def heL1 (x0 : Int) (x1 : Int) (x2 : Int) (x3 : Int) (x4 : Int) (x5 : Int) (n6 : Nat) (c7 : Nat) (x8 : Int) (x9 : Int) (x10 : Int) (x11 : Int) (s12 : ByteArray) (n13 : Nat) (c14 : Nat) (x15 : Int) (x16 : Int) (x17 : Int) (x18 : Int) (x19 : Int) (x20 : Int) (x21 : Int) (n22 : Nat) (c23 : Nat) (x24 : Int) (x25 : Int) (x26 : Int) (x27 : Int) (l28 : List Value) (l29 : List Value) (Kr : Kh) : Prop := rHead Try.prog 51 50003 [(5, (Value.pointer (some ⟨1000, 0, none⟩))), (6, (Value.slice none 0 0)), (7, (Value.pointer (some ⟨1001, 0, none⟩))), (11, (Value.func (.func 96) #[] #[(Value.pointer (some ⟨1002, 0, none⟩)), (Value.pointer (some ⟨1003, 0, none⟩))]))] [(1000, (AObj.cells [(Value.func (.func 55) #[] #[(Value.pointer (some ⟨502, 0, none⟩)), (Value.pointer (some ⟨503, 0, none⟩))])] 102 false 1)), (1001, (AObj.cells [(Value.slice none 0 0)] 38 false 1)), (1002, (AObj.cells [(Value.int .i64 x0), (Value.int .i64 x1), (Value.int .i64 x2), (Value.int .i64 x3), (Value.int .i64 x4), (Value.int .i64 x5), (Value.slice (some ⟨500, 0, none⟩) n6 c7), (Value.int .i64 x8), (Value.int .i64 x9), (Value.int .i64 x10), (Value.int .i64 x11)] 95 false 1)), (1003, (AObj.cells [(Value.string s12), (Value.slice (some ⟨501, 0, none⟩) n13 c14)] 29 false 1)), (502, (AObj.cells [(Value.int .i64 x15)] 3 false 1)), (503, (AObj.cells [(Value.int .i64 x16), (Value.int .i64 x17), (Value.int .i64 x18), (Value.int .i64 x19), (Value.int .i64 x20), (Value.int .i64 x21), (Value.slice (some ⟨500, 0, none⟩) n22 c23), (Value.int .i64 x24), (Value.int .i64 x25), (Value.int .i64 x26), (Value.int .i64 x27)] 95 false 11)), (500, (AObj.sym l28 false 5)), (501, (AObj.sym l29 false 1))] Kr
theorem heL1_text (x0 : Int) (x1 : Int) (x2 : Int) (x3 : Int) (x4 : Int) (x5 : Int) (n6 : Nat) (c7 : Nat) (x8 : Int) (x9 : Int) (x10 : Int) (x11 : Int) (s12 : ByteArray) (n13 : Nat) (c14 : Nat) (x15 : Int) (x16 : Int) (x17 : Int) (x18 : Int) (x19 : Int) (x20 : Int) (x21 : Int) (n22 : Nat) (c23 : Nat) (x24 : Int) (x25 : Int) (x26 : Int) (x27 : Int) (l28 : List Go.Value) (l29 : List Go.Value) (Kr : Kh) : heL1 x0 x1 x2 x3 x4 x5 n6 c7 x8 x9 x10 x11 s12 n13 c14 x15 x16 x17 x18 x19 x20 x21 n22 c23 x24 x25 x26 x27 l28 l29 Kr =
 (Kr 96 [(Value.func (Go.Fn.yield 915) [].toArray [].toArray), (Pt 500 0), (Pt 501 0)] [(Prod.mk 500 (AObj.cells [(vI x0), (vI x1), (vI x2), (vI x3), (vI x4), (vI x5), (Sl 502 (n6) (c7)), (vI x8), (vI x9), (vI x10), (vI x11)] 95 false 1)), (Prod.mk 501 (AObj.cells [(Value.string (s12)), (Sl 503 (n13) (c14))] 29 false 1)), (Prod.mk 502 (AObj.sym (l28) false 5)), (Prod.mk 503 (AObj.sym (l29) false 1))] [(Prod.mk 5 (Pt 1000 0)), (Prod.mk 6 (Value.slice none 0 0)), (Prod.mk 7 (Pt 1001 0)), (Prod.mk 1000000 (Value.map (some 1002)))] [(Prod.mk 1000 (AObj.cells [(Value.func (Go.Fn.func 55) [].toArray [(Pt 502 0), (Pt 503 0)].toArray)] 102 false 1)), (Prod.mk 1001 (AObj.cells [(Value.slice none 0 0)] 38 false 1)), (Prod.mk 1002 AObj.deferred), (Prod.mk 502 (AObj.cells [(vI x15)] 3 false 1)), (Prod.mk 503 (AObj.cells [(vI x16), (vI x17), (vI x18), (vI x19), (vI x20), (vI x21), (Sl 500 (n22) (c23)), (vI x24), (vI x25), (vI x26), (vI x27)] 95 false 11)), (Prod.mk 500 (AObj.sym (l28) false 5))]) := by kernel_rfl
abbrev zeL2 (x0 : Int) (x1 : Int) (x2 : Int) (x3 : Int) (x4 : Int) (x5 : Int) (x6 : Int) (n7 : Nat) (c8 : Nat) (x9 : Int) (x10 : Int) (x11 : Int) (x12 : Int) (l13 : List Value) : Slots × Blocks := ([(5, (Value.pointer (some ⟨1000, 0, none⟩))), (6, (Value.slice none 0 0)), (7, (Value.pointer (some ⟨1001, 0, none⟩))), (1000000, (Go.Value.map (Option.some 1002)))], [(1000, (AObj.cells [(Value.func (.func 55) #[] #[(Value.pointer (some ⟨502, 0, none⟩)), (Value.pointer (some ⟨503, 0, none⟩))])] 102 false 1)), (1001, (AObj.cells [(Value.slice none 0 0)] 38 false 1)), (1002, AObj.deferred), (502, (AObj.cells [(Value.int .i64 x0)] 3 false 1)), (503, (AObj.cells [(Value.int .i64 x1), (Value.int .i64 x2), (Value.int .i64 x3), (Value.int .i64 x4), (Value.int .i64 x5), (Value.int .i64 x6), (Value.slice (some ⟨500, 0, none⟩) n7 c8), (Value.int .i64 x9), (Value.int .i64 x10), (Value.int .i64 x11), (Value.int .i64 x12)] 95 false 11)), (500, (AObj.sym l13 false 5))])
def weL2 (C : Ct) (x0 : Int) (x1 : Int) (x2 : Int) (x3 : Int) (x4 : Int) (x5 : Int) (x6 : Int) (n7 : Nat) (c8 : Nat) (x9 : Int) (x10 : Int) (x11 : Int) (x12 : Int) (l13 : List Value) (y0 : Int) (y1 : Int) (y2 : Int) (B : Bx) (X : Ex) : Prop := rRound Try.prog (hP C) 51 50003 [(5, (Value.pointer (some ⟨1000, 0, none⟩))), (6, (Value.slice none 0 0)), (7, (Value.pointer (some ⟨1001, 0, none⟩))), (1000000, (Go.Value.map (Option.some 1002)))] [(1000, (AObj.cells [(Value.func (.func 55) #[] #[(Value.pointer (some ⟨502, 0, none⟩)), (Value.pointer (some ⟨503, 0, none⟩))])] 102 false 1)), (1001, (AObj.cells [(Value.slice none 0 0)] 38 false 1)), (1002, AObj.deferred), (502, (AObj.cells [(Value.int .i64 x0)] 3 false 1)), (503, (AObj.cells [(Value.int .i64 x1), (Value.int .i64 x2), (Value.int .i64 x3), (Value.int .i64 x4), (Value.int .i64 x5), (Value.int .i64 x6), (Value.slice (some ⟨500, 0, none⟩) n7 c8), (Value.int .i64 x9), (Value.int .i64 x10), (Value.int .i64 x11), (Value.int .i64 x12)] 95 false 11)), (500, (AObj.sym l13 false 5))] [(.agg [(.val (.int .i64 y0)), (.val (.int .i64 y1)), (.val (.int .i64 y2))])] B X
theorem weL2_text (C : Ct) (x0 : Int) (x1 : Int) (x2 : Int) (x3 : Int) (x4 : Int) (x5 : Int) (x6 : Int) (n7 : Nat) (c8 : Nat) (x9 : Int) (x10 : Int) (x11 : Int) (x12 : Int) (l13 : List Go.Value) (y0 : Int) (y1 : Int) (y2 : Int) (B : Bx) (X : Ex) : weL2 C x0 x1 x2 x3 x4 x5 x6 n7 c8 x9 x10 x11 x12 l13 y0 y1 y2 B X =
 (∀ caps : Nat → Nat,
 (((Qv (Value.agg [(vI y0), (vI y1), (vI y2)].toArray)) ∧
 ((Qv (Value.func (Go.Fn.func 55) [].toArray [(Pt 502 0), (Pt 503 0)].toArray)) ∧
 ((Qv (Value.slice none 0 0)) ∧
 True))) ∧
 (∃ n1 : Int,
 (∃ n2 : Int,
 ((Says C 53 [(D.val (vI (IntKind.wrap .i64 (x0 * x2)))), (D.val (vI y2))] [(D.agg [(D.val (vI n1)), (D.val (vI n2))])]) ∧
 ((((Qv (Sl 1006 1 1)) ∧
 (Qv (some (AObj.cells [(vI n1), (vI n2)] 68 false 2)))) ∧
 ((Qv (Value.slice none 0 0)) ∧
 True)) ∧
 (True ∧
 (True ∧
 (B [(Prod.mk 5 (Pt 1000 0)), (Prod.mk 6 (Value.slice none 0 0)), (Prod.mk 7 (Pt 1001 0)), (Prod.mk 1000000 (Value.map (some 1002)))] [(Prod.mk 1000 (AObj.cells [(Value.func (Go.Fn.func 55) [].toArray [(Pt 502 0), (Pt 503 0)].toArray)] 102 false 1)), (Prod.mk 1001 (AObj.cells [(Sl 1003 1 1)] 38 false 1)), (Prod.mk 1002 AObj.deferred), (Prod.mk 502 (AObj.cells [(vI x0)] 3 false 1)), (Prod.mk 503 (AObj.cells [(vI x1), (vI x2), (vI x3), (vI x4), (vI x5), (vI x6), (Sl 500 (n7) (c8)), (vI x9), (vI x10), (vI x11), (vI x12)] 95 false 11)), (Prod.mk 1003 (AObj.sym [(vI n1), (vI n2)] true 2)), (Prod.mk 500 (AObj.sym (l13) false 5))]))))))))) := by kernel_rfl
abbrev zeL4 (n0 : Nat) (x1 : Int) (x2 : Int) (x3 : Int) (x4 : Int) (x5 : Int) (x6 : Int) (x7 : Int) (n8 : Nat) (c9 : Nat) (x10 : Int) (x11 : Int) (x12 : Int) (x13 : Int) (l14 : List Value) (l15 : List Value) : Slots × Blocks := ([(5, (Value.pointer (some ⟨1000, 0, none⟩))), (6, (Value.slice none 0 0)), (7, (Value.pointer (some ⟨1001, 0, none⟩))), (1000000, (Go.Value.map (Option.some 1002)))], [(1000, (AObj.cells [(Value.func (.func 55) #[] #[(Value.pointer (some ⟨502, 0, none⟩)), (Value.pointer (some ⟨503, 0, none⟩))])] 102 false 1)), (1001, (AObj.cells [(Value.slice (some ⟨1003, 0, none⟩) n0 n0)] 38 false 1)), (1002, AObj.deferred), (502, (AObj.cells [(Value.int .i64 x1)] 3 false 1)), (503, (AObj.cells [(Value.int .i64 x2), (Value.int .i64 x3), (Value.int .i64 x4), (Value.int .i64 x5), (Value.int .i64 x6), (Value.int .i64 x7), (Value.slice (some ⟨500, 0, none⟩) n8 c9), (Value.int .i64 x10), (Value.int .i64 x11), (Value.int .i64 x12), (Value.int .i64 x13)] 95 false 11)), (1003, (AObj.sym l14 true 2)), (500, (AObj.sym l15 false 5))])
def weL4 (C : Ct) (n0 : Nat) (x1 : Int) (x2 : Int) (x3 : Int) (x4 : Int) (x5 : Int) (x6 : Int) (x7 : Int) (n8 : Nat) (c9 : Nat) (x10 : Int) (x11 : Int) (x12 : Int) (x13 : Int) (l14 : List Value) (l15 : List Value) (y0 : Int) (y1 : Int) (y2 : Int) (B : Bx) (X : Ex) : Prop := rRound Try.prog (hP C) 51 50003 [(5, (Value.pointer (some ⟨1000, 0, none⟩))), (6, (Value.slice none 0 0)), (7, (Value.pointer (some ⟨1001, 0, none⟩))), (1000000, (Go.Value.map (Option.some 1002)))] [(1000, (AObj.cells [(Value.func (.func 55) #[] #[(Value.pointer (some ⟨502, 0, none⟩)), (Value.pointer (some ⟨503, 0, none⟩))])] 102 false 1)), (1001, (AObj.cells [(Value.slice (some ⟨1003, 0, none⟩) n0 n0)] 38 false 1)), (1002, AObj.deferred), (502, (AObj.cells [(Value.int .i64 x1)] 3 false 1)), (503, (AObj.cells [(Value.int .i64 x2), (Value.int .i64 x3), (Value.int .i64 x4), (Value.int .i64 x5), (Value.int .i64 x6), (Value.int .i64 x7), (Value.slice (some ⟨500, 0, none⟩) n8 c9), (Value.int .i64 x10), (Value.int .i64 x11), (Value.int .i64 x12), (Value.int .i64 x13)] 95 false 11)), (1003, (AObj.sym l14 true 2)), (500, (AObj.sym l15 false 5))] [(.agg [(.val (.int .i64 y0)), (.val (.int .i64 y1)), (.val (.int .i64 y2))])] B X
theorem weL4_text (C : Ct) (n0 : Nat) (x1 : Int) (x2 : Int) (x3 : Int) (x4 : Int) (x5 : Int) (x6 : Int) (x7 : Int) (n8 : Nat) (c9 : Nat) (x10 : Int) (x11 : Int) (x12 : Int) (x13 : Int) (l14 : List Go.Value) (l15 : List Go.Value) (y0 : Int) (y1 : Int) (y2 : Int) (B : Bx) (X : Ex) : weL4 C n0 x1 x2 x3 x4 x5 x6 x7 n8 c9 x10 x11 x12 x13 l14 l15 y0 y1 y2 B X =
 (∀ caps : Nat → Nat,
 (((Qv (Value.agg [(vI y0), (vI y1), (vI y2)].toArray)) ∧
 ((Qv (Value.func (Go.Fn.func 55) [].toArray [(Pt 502 0), (Pt 503 0)].toArray)) ∧
 ((Qv (Sl 1003 (n0) (n0))) ∧
 True))) ∧
 (∃ n1 : Int,
 (∃ n2 : Int,
 ((Says C 53 [(D.val (vI (IntKind.wrap .i64 (x1 * x3)))), (D.val (vI y2))] [(D.agg [(D.val (vI n1)), (D.val (vI n2))])]) ∧
 ((((Qv (Sl 1007 1 1)) ∧
 (Qv (some (AObj.cells [(vI n1), (vI n2)] 68 false 2)))) ∧
 ((Qv (Sl 1003 (n0) (n0))) ∧
 True)) ∧
 (bcase (decide (n0 < n0 + 1))
 (bcase (decide ((2 * (n0 + 1) + 768) * 16 ≤ 281474976710656))
 (bcase (decide (n0 + 1 ≤ 1099511627776))
 (bcase (decide (0 + n0 * 2 ≤ List.length l14))
 (bcase (decide (0 + n0 * 2 = List.length l14))
 (True ∧
 (True ∧
 (B [(Prod.mk 5 (Pt 1000 0)), (Prod.mk 6 (Value.slice none 0 0)), (Prod.mk 7 (Pt 1001 0)), (Prod.mk 1000000 (Value.map (some 1002)))] [(Prod.mk 1000 (AObj.cells [(Value.func (Go.Fn.func 55) [].toArray [(Pt 502 0), (Pt 503 0)].toArray)] 102 false 1)), (Prod.mk 1001 (AObj.cells [(Sl 1003 (n0 + 1) (n0 + 1))] 38 false 1)), (Prod.mk 1002 AObj.deferred), (Prod.mk 502 (AObj.cells [(vI x1)] 3 false 1)), (Prod.mk 503 (AObj.cells [(vI x2), (vI x3), (vI x4), (vI x5), (vI x6), (vI x7), (Sl 500 (n8) (c9)), (vI x10), (vI x11), (vI x12), (vI x13)] 95 false 11)), (Prod.mk 1003 (AObj.sym ((List.take (n0 * 2) (List.drop 0 l14)) ++ [(vI n1), (vI n2)]) true 2)), (Prod.mk 500 (AObj.sym (l15) false 5))])))
 False)
 False)
 False)
 False)
 False))))))) := by kernel_rfl
def neL5 (C : Ct) (L : AtLoop) (n0 : Nat) (x1 : Int) (x2 : Int) (x3 : Int) (x4 : Int) (x5 : Int) (x6 : Int) (x7 : Int) (n8 : Nat) (c9 : Nat) (x10 : Int) (x11 : Int) (x12 : Int) (x13 : Int) (l14 : List Value) (l15 : List Value) (K : Value → Blocks → Prop) : Prop := jNext Try.prog (hP C) L [] 51 50003 .normal [(5, (Value.pointer (some ⟨1000, 0, none⟩))), (6, (Value.slice none 0 0)), (7, (Value.pointer (some ⟨1001, 0, none⟩))), (1000000, (Go.Value.map (Option.some 1002)))] [(1000, (AObj.cells [(Value.func (.func 55) #[] #[(Value.pointer (some ⟨502, 0, none⟩)), (Value.pointer (some ⟨503, 0, none⟩))])] 102 false 1)), (1001, (AObj.cells [(Value.slice (some ⟨1003, 0, none⟩) n0 n0)] 38 false 1)), (1002, AObj.deferred), (502, (AObj.cells [(Value.int .i64 x1)] 3 false 1)), (503, (AObj.cells [(Value.int .i64 x2), (Value.int .i64 x3), (Value.int .i64 x4), (Value.int .i64 x5), (Value.int .i64 x6), (Value.int .i64 x7), (Value.slice (some ⟨500, 0, none⟩) n8 c9), (Value.int .i64 x10), (Value.int .i64 x11), (Value.int .i64 x12), (Value.int .i64 x13)] 95 false 11)), (1003, (AObj.sym l14 true 2)), (500, (AObj.sym l15 false 5))] (stateK K)
theorem neL5_text (C : Ct) (L : AtLoop) (n0 : Nat) (x1 : Int) (x2 : Int) (x3 : Int) (x4 : Int) (x5 : Int) (x6 : Int) (x7 : Int) (n8 : Nat) (c9 : Nat) (x10 : Int) (x11 : Int) (x12 : Int) (x13 : Int) (l14 : List Go.Value) (l15 : List Go.Value) (K : Go.Value → Blocks → Prop) : neL5 C L n0 x1 x2 x3 x4 x5 x6 x7 n8 c9 x10 x11 x12 x13 l14 l15 K =
 (K (Sl 1000 (n0) (n0)) [(Prod.mk 1000 (AObj.sym (l14) true 2))]) := by kernel_rfl
def geR (C : Ct) (L : AtLoop) (w : Int) (st : Int) (fi : Int) (ha : Int) (hb : Int) (co : Int) (sa : Int) (sb : Int) (fa : Int) (fb : Int) (n0 : Nat) (c0 : Nat) (l0 : List Value) (nm : ByteArray) (n1 : Nat) (c1 : Nat) (l1 : List Value) (K : Value → Blocks → Prop) : Prop := jFn Try.prog (hP C) L [] 51 #[.agg #[.int .i64 w, .int .i64 st, .int .i64 fi, .int .i64 ha, .int .i64 hb, .int .i64 co, .slice (some ⟨500, 0, none⟩) n0 c0, .int .i64 sa, .int .i64 sb, .int .i64 fa, .int .i64 fb], .agg #[.string nm, .slice (some ⟨501, 0, none⟩) n1 c1], .func (.func 52) #[] #[]] (heapOf [(500, .sym l0 false 5), (501, .sym l1 false 1)]) (stateK K)
theorem geR_text (C : Ct) (L : AtLoop) (w : Int) (st : Int) (fi : Int) (ha : Int) (hb : Int) (co : Int) (sa : Int) (sb : Int) (fa : Int) (fb : Int) (n0 : Nat) (c0 : Nat) (l0 : List Go.Value) (nm : ByteArray) (n1 : Nat) (c1 : Nat) (l1 : List Go.Value) (K : Go.Value → Blocks → Prop) : geR C L w st fi ha hb co sa sb fa fb n0 c0 l0 nm n1 c1 l1 K =
 (L 50003 [(Prod.mk 5 (Pt 1000 0)), (Prod.mk 6 (Value.slice none 0 0)), (Prod.mk 7 (Pt 1001 0)), (Prod.mk 11 (Value.func (Go.Fn.func 96) [].toArray [(Pt 1002 0), (Pt 1003 0)].toArray))] [(Prod.mk 1000 (AObj.cells [(Value.func (Go.Fn.func 52) [].toArray [].toArray)] 102 false 1)), (Prod.mk 1001 (AObj.cells [(Value.slice none 0 0)] 38 false 1)), (Prod.mk 1002 (AObj.cells [(vI w), (vI st), (vI fi), (vI ha), (vI hb), (vI co), (Sl 500 (n0) (c0)), (vI sa), (vI sb), (vI fa), (vI fb)] 95 false 1)), (Prod.mk 1003 (AObj.cells [(Value.string (nm)), (Sl 501 (n1) (c1))] 29 false 1)), (Prod.mk 500 (AObj.sym (l0) false 5)), (Prod.mk 501 (AObj.sym (l1) false 1))]) := by kernel_rfl
abbrev zeR1 (x0 : Int) (x1 : Int) (x2 : Int) (x3 : Int) (x4 : Int) (x5 : Int) (n6 : Nat) (c7 : Nat) (x8 : Int) (x9 : Int) (x10 : Int) (x11 : Int) (s12 : ByteArray) (n13 : Nat) (c14 : Nat) (l15 : List Value) (l16 : List Value) : Slots × Blocks := ([(5, (Value.pointer (some ⟨1000, 0, none⟩))), (6, (Value.slice none 0 0)), (7, (Value.pointer (some ⟨1001, 0, none⟩))), (11, (Value.func (.func 96) #[] #[(Value.pointer (some ⟨1002, 0, none⟩)), (Value.pointer (some ⟨1003, 0, none⟩))]))], [(1000, (AObj.cells [(Value.func (.func 52) #[] #[])] 102 false 1)), (1001, (AObj.cells [(Value.slice none 0 0)] 38 false 1)), (1002, (AObj.cells [(Value.int .i64 x0), (Value.int .i64 x1), (Value.int .i64 x2), (Value.int .i64 x3), (Value.int .i64 x4), (Value.int .i64 x5), (Value.slice (some ⟨500, 0, none⟩) n6 c7), (Value.int .i64 x8), (Value.int .i64 x9), (Value.int .i64 x10), (Value.int .i64 x11)] 95 false 1)), (1003, (AObj.cells [(Value.string s12), (Value.slice (some ⟨501, 0, none⟩) n13 c14)] 29 false 1)), (500, (AObj.sym l15 false 5)), (501, (AObj.sym l16 false 1))])
def heR1 (x0 : Int) (x1 : Int) (x2 : Int) (x3 : Int) (x4 : Int) (x5 : Int) (n6 : Nat) (c7 : Nat) (x8 : Int) (x9 : Int) (x10 : Int) (x11 : Int) (s12 : ByteArray) (n13 : Nat) (c14 : Nat) (l15 : List Value) (l16 : List Value) (Kr : Kh) : Prop := rHead Try.prog 51 50003 [(5, (Value.pointer (some ⟨1000, 0, none⟩))), (6, (Value.slice none 0 0)), (7, (Value.pointer (some ⟨1001, 0, none⟩))), (11, (Value.func (.func 96) #[] #[(Value.pointer (some ⟨1002, 0, none⟩)), (Value.pointer (some ⟨1003, 0, none⟩))]))] [(1000, (AObj.cells [(Value.func (.func 52) #[] #[])] 102 false 1)), (1001, (AObj.cells [(Value.slice none 0 0)] 38 false 1)), (1002, (AObj.cells [(Value.int .i64 x0), (Value.int .i64 x1), (Value.int .i64 x2), (Value.int .i64 x3), (Value.int .i64 x4), (Value.int .i64 x5), (Value.slice (some ⟨500, 0, none⟩) n6 c7), (Value.int .i64 x8), (Value.int .i64 x9), (Value.int .i64 x10), (Value.int .i64 x11)] 95 false 1)), (1003, (AObj.cells [(Value.string s12), (Value.slice (some ⟨501, 0, none⟩) n13 c14)] 29 false 1)), (500, (AObj.sym l15 false 5)), (501, (AObj.sym l16 false 1))] Kr
theorem heR1_text (x0 : Int) (x1 : Int) (x2 : Int) (x3 : Int) (x4 : Int) (x5 : Int) (n6 : Nat) (c7 : Nat) (x8 : Int) (x9 : Int) (x10 : Int) (x11 : Int) (s12 : ByteArray) (n13 : Nat) (c14 : Nat) (l15 : List Go.Value) (l16 : List Go.Value) (Kr : Kh) : heR1 x0 x1 x2 x3 x4 x5 n6 c7 x8 x9 x10 x11 s12 n13 c14 l15 l16 Kr =
 (Kr 96 [(Value.func (Go.Fn.yield 915) [].toArray [].toArray), (Pt 500 0), (Pt 501 0)] [(Prod.mk 500 (AObj.cells [(vI x0), (vI x1), (vI x2), (vI x3), (vI x4), (vI x5), (Sl 502 (n6) (c7)), (vI x8), (vI x9), (vI x10), (vI x11)] 95 false 1)), (Prod.mk 501 (AObj.cells [(Value.string (s12)), (Sl 503 (n13) (c14))] 29 false 1)), (Prod.mk 502 (AObj.sym (l15) false 5)), (Prod.mk 503 (AObj.sym (l16) false 1))] [(Prod.mk 5 (Pt 1000 0)), (Prod.mk 6 (Value.slice none 0 0)), (Prod.mk 7 (Pt 1001 0)), (Prod.mk 1000000 (Value.map (some 1002)))] [(Prod.mk 1000 (AObj.cells [(Value.func (Go.Fn.func 52) [].toArray [].toArray)] 102 false 1)), (Prod.mk 1001 (AObj.cells [(Value.slice none 0 0)] 38 false 1)), (Prod.mk 1002 AObj.deferred)]) := by kernel_rfl
abbrev zeR2 : Slots × Blocks := ([(5, (Value.pointer (some ⟨1000, 0, none⟩))), (6, (Value.slice none 0 0)), (7, (Value.pointer (some ⟨1001, 0, none⟩))), (1000000, (Go.Value.map (Option.some 1002)))], [(1000, (AObj.cells [(Value.func (.func 52) #[] #[])] 102 false 1)), (1001, (AObj.cells [(Value.slice none 0 0)] 38 false 1)), (1002, AObj.deferred)])
def weR2 (C : Ct) (y0 : Int) (y1 : Int) (y2 : Int) (B : Bx) (X : Ex) : Prop := rRound Try.prog (hP C) 51 50003 [(5, (Value.pointer (some ⟨1000, 0, none⟩))), (6, (Value.slice none 0 0)), (7, (Value.pointer (some ⟨1001, 0, none⟩))), (1000000, (Go.Value.map (Option.some 1002)))] [(1000, (AObj.cells [(Value.func (.func 52) #[] #[])] 102 false 1)), (1001, (AObj.cells [(Value.slice none 0 0)] 38 false 1)), (1002, AObj.deferred)] [(.agg [(.val (.int .i64 y0)), (.val (.int .i64 y1)), (.val (.int .i64 y2))])] B X
theorem weR2_text (C : Ct) (y0 : Int) (y1 : Int) (y2 : Int) (B : Bx) (X : Ex) : weR2 C y0 y1 y2 B X =
 (∀ caps : Nat → Nat,
 (((Qv (Value.agg [(vI y0), (vI y1), (vI y2)].toArray)) ∧
 ((Qv (Value.func (Go.Fn.func 52) [].toArray [].toArray)) ∧
 ((Qv (Value.slice none 0 0)) ∧
 True))) ∧
 (((Qv (vI y1)) ∧
 ((Qv (Pt 1004 1)) ∧
 ((Qv (Value.agg [(vI y0), (vI y1), (vI y2)].toArray)) ∧
 True))) ∧
 (((Qv (vI y1)) ∧
 ((Qv (Pt 1004 1)) ∧
 True)) ∧
 (∃ n1 : Int,
 (∃ n2 : Int,
 ((Says C 53 [(D.val (vI (IntKind.wrap .i64 (y1 - y2)))), (D.val (vI y1))] [(D.agg [(D.val (vI n1)), (D.val (vI n2))])]) ∧
 (((Qv (Pt 1004 1)) ∧
 True) ∧
 (True ∧
 ((((Qv (Sl 1007 1 1)) ∧
 (Qv (some (AObj.cells [(vI n1), (vI n2)] 68 false 2)))) ∧
 ((Qv (Value.slice none 0 0)) ∧
 True)) ∧
 (True ∧
 (True ∧
 (B [(Prod.mk 5 (Pt 1000 0)), (Prod.mk 6 (Value.slice none 0 0)), (Prod.mk 7 (Pt 1001 0)), (Prod.mk 1000000 (Value.map (some 1002)))] [(Prod.mk 1000 (AObj.cells [(Value.func (Go.Fn.func 52) [].toArray [].toArray)] 102 false 1)), (Prod.mk 1001 (AObj.cells [(Sl 1003 1 1)] 38 false 1)), (Prod.mk 1002 AObj.deferred), (Prod.mk 1003 (AObj.sym [(vI n1), (vI n2)] true 2))]))))))))))))) := by kernel_rfl
abbrev zeR4 (n0 : Nat) (l1 : List Value) : Slots × Blocks := ([(5, (Value.pointer (some ⟨1000, 0, none⟩))), (6, (Value.slice none 0 0)), (7, (Value.pointer (some ⟨1001, 0, none⟩))), (1000000, (Go.Value.map (Option.some 1002)))], [(1000, (AObj.cells [(Value.func (.func 52) #[] #[])] 102 false 1)), (1001, (AObj.cells [(Value.slice (some ⟨1003, 0, none⟩) n0 n0)] 38 false 1)), (1002, AObj.deferred), (1003, (AObj.sym l1 true 2))])
def weR4 (C : Ct) (n0 : Nat) (l1 : List Value) (y0 : Int) (y1 : Int) (y2 : Int) (B : Bx) (X : Ex) : Prop := rRound Try.prog (hP C) 51 50003 [(5, (Value.pointer (some ⟨1000, 0, none⟩))), (6, (Value.slice none 0 0)), (7, (Value.pointer (some ⟨1001, 0, none⟩))), (1000000, (Go.Value.map (Option.some 1002)))] [(1000, (AObj.cells [(Value.func (.func 52) #[] #[])] 102 false 1)), (1001, (AObj.cells [(Value.slice (some ⟨1003, 0, none⟩) n0 n0)] 38 false 1)), (1002, AObj.deferred), (1003, (AObj.sym l1 true 2))] [(.agg [(.val (.int .i64 y0)), (.val (.int .i64 y1)), (.val (.int .i64 y2))])] B X
theorem weR4_text (C : Ct) (n0 : Nat) (l1 : List Go.Value) (y0 : Int) (y1 : Int) (y2 : Int) (B : Bx) (X : Ex) : weR4 C n0 l1 y0 y1 y2 B X =
 (∀ caps : Nat → Nat,
 (((Qv (Value.agg [(vI y0), (vI y1), (vI y2)].toArray)) ∧
 ((Qv (Value.func (Go.Fn.func 52) [].toArray [].toArray)) ∧
 ((Qv (Sl 1003 (n0) (n0))) ∧
 True))) ∧
 (((Qv (vI y1)) ∧
 ((Qv (Pt 1005 1)) ∧
 ((Qv (Value.agg [(vI y0), (vI y1), (vI y2)].toArray)) ∧
 True))) ∧
 (((Qv (vI y1)) ∧
 ((Qv (Pt 1005 1)) ∧
 True)) ∧
 (∃ n1 : Int,
 (∃ n2 : Int,
 ((Says C 53 [(D.val (vI (IntKind.wrap .i64 (y1 - y2)))), (D.val (vI y1))] [(D.agg [(D.val (vI n1)), (D.val (vI n2))])]) ∧
 (((Qv (Pt 1005 1)) ∧
 True) ∧
 (True ∧
 ((((Qv (Sl 1008 1 1)) ∧
 (Qv (some (AObj.cells [(vI n1), (vI n2)] 68 false 2)))) ∧
 ((Qv (Sl 1003 (n0) (n0))) ∧
 True)) ∧
 (bcase (decide (n0 < n0 + 1))
 (bcase (decide ((2 * (n0 + 1) + 768) * 16 ≤ 281474976710656))
 (bcase (decide (n0 + 1 ≤ 1099511627776))
 (bcase (decide (0 + n0 * 2 ≤ List.length l1))
 (bcase (decide (0 + n0 * 2 = List.length l1))
 (True ∧
 (True ∧
 (B [(Prod.mk 5 (Pt 1000 0)), (Prod.mk 6 (Value.slice none 0 0)), (Prod.mk 7 (Pt 1001 0)), (Prod.mk 1000000 (Value.map (some 1002)))] [(Prod.mk 1000 (AObj.cells [(Value.func (Go.Fn.func 52) [].toArray [].toArray)] 102 false 1)), (Prod.mk 1001 (AObj.cells [(Sl 1003 (n0 + 1) (n0 + 1))] 38 false 1)), (Prod.mk 1002 AObj.deferred), (Prod.mk 1003 (AObj.sym ((List.take (n0 * 2) (List.drop 0 l1)) ++ [(vI n1), (vI n2)]) true 2))])))
 False)
 False)
 False)
 False)
 False))))))))))) := by kernel_rfl
def neR5 (C : Ct) (L : AtLoop) (n0 : Nat) (l1 : List Value) (K : Value → Blocks → Prop) : Prop := jNext Try.prog (hP C) L [] 51 50003 .normal [(5, (Value.pointer (some ⟨1000, 0, none⟩))), (6, (Value.slice none 0 0)), (7, (Value.pointer (some ⟨1001, 0, none⟩))), (1000000, (Go.Value.map (Option.some 1002)))] [(1000, (AObj.cells [(Value.func (.func 52) #[] #[])] 102 false 1)), (1001, (AObj.cells [(Value.slice (some ⟨1003, 0, none⟩) n0 n0)] 38 false 1)), (1002, AObj.deferred), (1003, (AObj.sym l1 true 2))] (stateK K)
theorem neR5_text (C : Ct) (L : AtLoop) (n0 : Nat) (l1 : List Go.Value) (K : Go.Value → Blocks → Prop) : neR5 C L n0 l1 K =
 (K (Sl 1000 (n0) (n0)) [(Prod.mk 1000 (AObj.sym (l1) true 2))]) := by kernel_rfl
def gDo (C : Ct) (L : AtLoop) (rs : List (List D)) (w : Int) (st : Int) (fi : Int) (ha : Int) (hb : Int) (co : Int) (sa : Int) (sb : Int) (fa : Int) (fb : Int) (n0 : Nat) (c0 : Nat) (l0 : List Value) (nm : ByteArray) (n1 : Nat) (c1 : Nat) (l1 : List Value) (K : Value → Blocks → Prop) : Prop := jFn Try.prog (hE C) L [] 96 #[.func (.yield 915) #[] #[], .pointer (some ⟨500, 0, none⟩), .pointer (some ⟨501, 0, none⟩)] (heapOf [(915, .yld false (some rs)), (500, .cells [.int .i64 w, .int .i64 st, .int .i64 fi, .int .i64 ha, .int .i64 hb, .int .i64 co, .slice (some ⟨502, 0, none⟩) n0 c0, .int .i64 sa, .int .i64 sb, .int .i64 fa, .int .i64 fb] 95 false 1), (501, .cells [.string nm, .slice (some ⟨503, 0, none⟩) n1 c1] 29 false 1), (502, .sym l0 false 5), (503, .sym l1 false 1)]) (stateK K)
theorem gDo_text (C : Ct) (L : AtLoop) (rs : List (List D)) (w : Int) (st : Int) (fi : Int) (ha : Int) (hb : Int) (co : Int) (sa : Int) (sb : Int) (fa : Int) (fb : Int) (n0 : Nat) (c0 : Nat) (l0 : List Go.Value) (nm : ByteArray) (n1 : Nat) (c1 : Nat) (l1 : List Go.Value) (K : Go.Value → Blocks → Prop) : gDo C L rs w st fi ha hb co sa sb fa fb n0 c0 l0 nm n1 c1 l1 K =
 (L 0 [(Prod.mk 0 (Value.func (Go.Fn.yield 915) [].toArray [].toArray)), (Prod.mk 4 (vI st)), (Prod.mk 11 (Sl 503 (n1) (c1))), (Prod.mk 12 (vI ((↑n1 : Int)))), (Prod.mk 13 (vI 0))] [(Prod.mk 915 (AObj.yld false (some (rs)))), (Prod.mk 503 (AObj.sym (l1) false 1))]) := by kernel_rfl
abbrev zDo1 (x0 : Int) (n1 : Nat) (c2 : Nat) (x3 : Int) (x4 : Int) (rs5 : List (List D)) (l6 : List Value) : Slots × Blocks := ([(0, (Value.func (.yield 915) #[] #[])), (4, (Value.int .i64 x0)), (11, (Value.slice (some ⟨503, 0, none⟩) n1 c2)), (12, (Value.int .i64 x3)), (13, (Value.int .i64 x4))], [(915, (AObj.yld false (some rs5))), (503, (AObj.sym l6 false 1))])
def rDo1 (C : Ct) (L : AtLoop) (x0 : Int) (n1 : Nat) (c2 : Nat) (x3 : Int) (x4 : Int) (rs5 : List (List D)) (l6 : List Value) (B : Bx) (X : Xx) (K : Value → Blocks → Prop) : Prop := jRound Try.prog (hE C) L [] 96 0 [(0, (Value.func (.yield 915) #[] #[])), (4, (Value.int .i64 x0)), (11, (Value.slice (some ⟨503, 0, none⟩) n1 c2)), (12, (Value.int .i64 x3)), (13, (Value.int .i64 x4))] [(915, (AObj.yld false (some rs5))), (503, (AObj.sym l6 false 1))] B X (stateK K)
theorem rDo1_text (C : Ct) (L : AtLoop) (x0 : Int) (n1 : Nat) (c2 : Nat) (x3 : Int) (x4 : Int) (rs5 : List (List D)) (l6 : List Go.Value) (B : Bx) (X : Xx) (K : Go.Value → Blocks → Prop) : rDo1 C L x0 n1 c2 x3 x4 rs5 l6 B X K =
 (bcase (decide (x4 < x3))
 (bcase (decide (0 ≤ x4))
 (bcase (decide (x4 < (↑n1 : Int)))
 (∃ n2 : Int,
 ((At (l6) (0 + Int.toNat x4 * 1) 1 [(vI n2)]) ∧
 (∃ rest'1 : List (List D),
 ((NextIs (rs5) [(D.agg [(D.val (vI x4)), (D.val (vI x0)), (D.val (vI n2))])] (rest'1)) ∧
 ((B [(Prod.mk 0 (Value.func (Go.Fn.yield 915) [].toArray [].toArray)), (Prod.mk 4 (vI n2)), (Prod.mk 11 (Sl 503 (n1) (c2))), (Prod.mk 12 (vI x3)), (Prod.mk 13 (vI (IntKind.wrap .i64 (x4 + 1))))] [(Prod.mk 915 (AObj.yld false (some (rest'1)))), (Prod.mk 503 (AObj.sym (l6) false 1))]) ∧
 (K (Value.tuple [].toArray) [(Prod.mk 915 (AObj.yld false none))]))))))
 False)
 False)
 (X 0 [] [(Prod.mk 915 (AObj.yld false (some (rs5))))])) := by kernel_rfl
def nDo2 (C : Ct) (L : AtLoop) (rs0 : List (List D)) (K : Value → Blocks → Prop) : Prop := jNext Try.prog (hE C) L [] 96 0 .normal [] [(915, (AObj.yld false (some rs0)))] (stateK K)
theorem nDo2_text (C : Ct) (L : AtLoop) (rs0 : List (List D)) (K : Go.Value → Blocks → Prop) : nDo2 C L rs0 K =
 (K (Value.tuple [].toArray) [(Prod.mk 915 (AObj.yld false (some (rs0))))]) := by kernel_rfl
end Go.Proofs.G5p.R

/- Chapter 3: the draughts of a schedule, and what is collected of them. -/
namespace Go.Proofs.G5p
open Go Go.Abs Go.Proofs Go.Str
set_option maxRecDepth 100000
theorem hokRE : HandlerOK Try.prog (R.hE C5) := handlerX_ok mixed (fun g h he => by cases he) (by decide) 6
theorem preROK : PreOK Try.prog (R.preP C5) := by
  intro g h he args ats H k hk
  unfold R.preP at he
  rcases ite_so he with ⟨_, rfl⟩ | he
  · exact saidH_ok (fun _ _ _ h => h) _ _ _ _ _ hk
  · cases he
theorem hokRP : HandlerOK Try.prog (R.hP C5) := handlerX_ok mixed preROK (by decide) 6
/-- the draughts of a schedule, as they are handed on -/
def drows (b : Int) (k : Nat) : List Int → List (List D)
  | [] => []
  | h :: l => [drD k b h] :: drows h (k + 1) l
theorem drows_drop {b : Int} {k : Nat} {th : List Int} (h : k < th.length) : drows b k (th.drop k) = [drD k b th[k]] :: drows th[k] (k + 1) (th.drop (k + 1)) := by
  rw [List.drop_eq_getElem_cons h]; rfl
theorem bfr_succ {b : Int} {th : List Int} {k : Nat} (h : k < th.length) : bfr b th (k + 1) = th[k] := by simp [bfr, List.getD, List.getElem?_eq_getElem h]
theorem runDo (r : Ru) (c0 c1 : Nat) (nm : List UInt8) (th : List Int) (hth : th.length < 1000000000) :
    CallS Try.prog 96 [.func (.yield 915) #[] #[], .pointer (some ⟨500, 0, none⟩), .pointer (some ⟨501, 0, none⟩)] [(915, .yld false (some (drows r.st 0 th))), (500, .cells [.int .i64 r.w, .int .i64 r.st, .int .i64 r.fi, .int .i64 r.hlo, .int .i64 r.hhi, .int .i64 r.co, .slice (some ⟨502, 0, none⟩) r.ss.length c0, .int .i64 r.slo, .int .i64 r.shi, .int .i64 r.flo, .int .i64 r.fhi] 95 false 1), (501, .cells [.string (bs nm), .slice (some ⟨503, 0, none⟩) th.length c1] 29 false 1), (502, .sym (vs5 r.ss) false 5), (503, .sym (vi th) false 1)] EndY := by
  let st : Nat → Slots × Blocks := fun i => R.zDo1 (bfr r.st th i) th.length c1 th.length i (drows (bfr r.st th i) i (th.drop i)) (vi th)
  refine callS_JR hokRE mixed [] (L := fun _ x bl => ∃ i, i ≤ th.length ∧ st i = (x, bl)) Try.func96 rfl (.inr rfl) (pts := [0]) (loops := [0]) (by kernel_rfl) (by kernel_rfl) ?_ (fun id q1 q2 => absurd q1 q2) (fun id hid hlt => ?_) (fun id hid hlt => absurd (by obtain rfl := List.mem_singleton.1 hid; decide) hlt)
  · show R.gDo C5 _ (drows r.st 0 th) r.w r.st r.fi r.hlo r.hhi r.co r.slo r.shi r.flo r.fhi r.ss.length c0 (vs5 r.ss) (bs nm) th.length c1 (vi th) _
    rw [R.gDo_text]
    exact ⟨0, Nat.zero_le _, rfl⟩
  · obtain rfl := List.mem_singleton.1 hid
    refine ⟨⟨Nat, st, fun i => i ≤ th.length, fun i => th.length - i, fun s bl h => h, [], [], by kernel_rfl, by kernel_rfl, by decide, ?_⟩⟩
    intro i hi
    refine ⟨fun _ _ _ => False, ?_, (fun id2 q1 _ => by cases q1), (fun id2 q1 => by cases q1), (fun id2 q1 => by cases q1)⟩
    show R.rDo1 C5 _ (bfr r.st th i) th.length c1 th.length i (drows (bfr r.st th i) i (th.drop i)) (vi th) _ _ _
    rw [R.rDo1_text]
    refine bc_dec (fun h => ?_) (fun h => ?_)
    · have hi2 : i < th.length := by omega
      simp only [bc_t h, bc_t (show (0 : Int) ≤ (i : Int) by omega), Int.toNat_natCast, at1 (vi_at th i hi2)]
      refine ⟨_, ⟨drows_drop hi2⟩, ⟨i + 1, hi2, by omega, ?_⟩, ⟨none, rfl, .inr rfl⟩⟩
      show R.zDo1 _ _ _ _ _ _ _ = _
      rw [bfr_succ hi2, w64 (by omega) (by omega)]; rfl
    · show (if 0 = 0 then _ else _)
      rw [if_pos rfl]
      show R.nDo2 C5 _ (drows (bfr r.st th i) i (th.drop i)) _
      rw [R.nDo2_text]
      have : i = th.length := by omega
      have e : drows (bfr r.st th i) i (th.drop i) = [] := by rw [this, List.drop_length, drows]
      rw [e]
      exact ⟨some [], rfl, .inl rfl⟩
theorem runER (r : Ru) (c0 c1 : Nat) (nm : List UInt8) (th : List Int) (v : VS r th) :
    freshS Try.prog 51 2 [.agg #[.int .i64 r.w, .int .i64 r.st, .int .i64 r.fi, .int .i64 r.hlo, .int .i64 r.hhi, .int .i64 r.co, .slice (some ⟨500, 0, none⟩) r.ss.length c0, .int .i64 r.slo, .int .i64 r.shi, .int .i64 r.flo, .int .i64 r.fhi], .agg #[.string (bs nm), .slice (some ⟨501, 0, none⟩) th.length c1], .func (.func 52) #[] #[]] [(500, .sym (vs5 r.ss) false 5), (501, .sym (vi th) false 1)] th.length (vp (reds r.st th)) := by
  have hl := v.len
  have h6 := v.n6
  have h0 := v.n0
  let st : Nat → Slots × Blocks := fun i => match i with
    | 0 => R.zeR2
    | i + 1 => R.zeR4 (i + 1) (vp ((reds r.st th).take (i + 1)))
  refine callS_JR hokRP mixed [] (L := fun _ s b => R.zeR1 r.w r.st r.fi r.hlo r.hhi r.co r.ss.length c0 r.slo r.shi r.flo r.fhi (bs nm) th.length c1 (vs5 r.ss) (vi th) = (s, b)) Try.func51 rfl (.inl rfl) (pts := [50003]) (loops := [50003]) (by kernel_rfl) (by kernel_rfl) ?_ (fun id q1 q2 => absurd q1 q2) (fun id hid hlt => absurd hlt (by obtain rfl := List.mem_singleton.1 hid; decide)) (fun id hid hlt => ?_)
  · show R.geR C5 _ r.w r.st r.fi r.hlo r.hhi r.co r.slo r.shi r.flo r.fhi r.ss.length c0 (vs5 r.ss) (bs nm) th.length c1 (vi th) _
    rw [R.geR_text]
  · obtain rfl := List.mem_singleton.1 hid
    refine ⟨⟨?_⟩⟩
    rintro s b e
    cases e
    show R.heR1 r.w r.st r.fi r.hlo r.hhi r.co r.ss.length c0 r.slo r.shi r.flo r.fhi (bs nm) th.length c1 (vs5 r.ss) (vi th) _
    rw [R.heR1_text]
    refine ⟨drows r.st 0 th, fun rest s b => ∃ i, i ≤ th.length ∧ rest = drows (bfr r.st th i) i (th.drop i) ∧ st i = (s, b), runDo r c0 c1 nm th (by omega), ⟨0, Nat.zero_le _, rfl, rfl⟩, ?_, ?_⟩
    · rintro row rest s b ⟨i, hi, e1, e2⟩
      have hi2 : i < th.length := by
        refine Nat.lt_of_le_of_ne hi (fun h => ?_)
        rw [h, List.drop_length] at e1; cases e1
      rw [drows_drop hi2] at e1
      obtain ⟨rfl, rfl⟩ := List.cons.inj e1
      have ha := v.at hi2
      have go : C5 53 [dI (IntKind.wrap .i64 (bfr r.st th i - th[i])), dI (bfr r.st th i)] [.agg [dI (low (bfr r.st th i - th[i]) (bfr r.st th i)).1, dI (low (bfr r.st th i - th[i]) (bfr r.st th i)).2]] := by
        rw [w64 (by omega) (by omega)]
        exact conlT _ _ (by omega) (by omega)
      have e := vp_snoc (l := reds r.st th) (i := i) (by rw [reds_len]; exact hi2) (reds_at hi2)
      cases i with
      | zero =>
        cases e2
        show R.weR2 C5 ((0 : Nat) : Int) (bfr r.st th 0) th[0] _ _
        rw [R.weR2_text]
        intro caps
        simp only [Qv, eq_self, true_and, and_true]
        refine ⟨_, _, ⟨go⟩, 1, hi2, by rw [bfr_succ hi2], ?_⟩
        show R.zeR4 _ _ = _
        rw [← e]; rfl
      | succ i =>
        cases e2
        show R.weR4 C5 (i + 1) (vp ((reds r.st th).take (i + 1))) ((i + 1 : Nat) : Int) (bfr r.st th (i + 1)) th[i + 1] _ _
        rw [R.weR4_text]
        intro caps
        simp only [Qv, eq_self, true_and, and_true]
        have el : (vp ((reds r.st th).take (i + 1))).length = (i + 1) * 2 := by
          rw [vp_length, List.length_take, reds_len]; omega
        refine ⟨_, _, ⟨go⟩, ?_⟩
        rw [bc_t (show i + 1 < i + 1 + 1 by omega), bc_t (show (2 * (i + 1 + 1) + 768) * 16 ≤ 281474976710656 by omega), bc_t (show i + 1 + 1 ≤ 1099511627776 by omega), bc_t (show 0 + (i + 1) * 2 ≤ (vp ((reds r.st th).take (i + 1))).length by omega), bc_t (show 0 + (i + 1) * 2 = (vp ((reds r.st th).take (i + 1))).length by omega)]
        refine ⟨i + 2, hi2, by rw [bfr_succ hi2], ?_⟩
        show R.zeR4 _ _ = _
        rw [← e]; rfl
    · rintro s b ⟨i, hi, e1, e2⟩
      have hi2 : i = th.length := Decidable.byContradiction fun h => by
        rw [drows_drop (show i < th.length by omega)] at e1; cases e1
      obtain ⟨j, rfl⟩ : ∃ j, i = j + 1 := ⟨i - 1, by omega⟩
      cases e2
      show R.neR5 C5 _ (j + 1) (vp ((reds r.st th).take (j + 1))) _
      rw [R.neR5_text, List.take_of_length_le (by rw [reds_len]; omega), hi2]
      exact ⟨rfl, rfl⟩
theorem runEL (r : Ru) (c0 c1 : Nat) (nm : List UInt8) (th : List Int) (v : VS r th) (n : Int) (hn : 1 ≤ n ∧ n ≤ 1000000) :
    freshS Try.prog 51 2 [.agg #[.int .i64 r.w, .int .i64 r.st, .int .i64 r.fi, .int .i64 r.hlo, .int .i64 r.hhi, .int .i64 r.co, .slice (some ⟨500, 0, none⟩) r.ss.length c0, .int .i64 r.slo, .int .i64 r.shi, .int .i64 r.flo, .int .i64 r.fhi], .agg #[.string (bs nm), .slice (some ⟨501, 0, none⟩) th.length c1], .func (.func 55) #[] #[.pointer (some ⟨502, 0, none⟩), .pointer (some ⟨503, 0, none⟩)]] [(500, .sym (vs5 r.ss) false 5), (501, .sym (vi th) false 1), (502, .cells [.int .i64 n] 3 false 1), (503, .cells [.int .i64 r.w, .int .i64 r.st, .int .i64 r.fi, .int .i64 r.hlo, .int .i64 r.hhi, .int .i64 r.co, .slice (some ⟨500, 0, none⟩) r.ss.length c0, .int .i64 r.slo, .int .i64 r.shi, .int .i64 r.flo, .int .i64 r.fhi] 95 false 11)] th.length (vp (lens (n * r.st) th)) := by
  have hl := v.len
  have h6 := v.n6
  have h0 := v.n0
  have hst := v.rng.2.1.1
  have hb : 1 ≤ n * r.st ∧ n * r.st ≤ 1000000000 := by
    have h1 : 1 * 1 ≤ n * r.st := Int.mul_le_mul (by omega) (by omega) (by omega) (by omega)
    have h2 : n * r.st ≤ 1000000 * 1000 := Int.mul_le_mul (by omega) (by omega) (by omega) (by omega)
    omega
  let st : Nat → Slots × Blocks := fun i => match i with
    | 0 => R.zeL2 n r.w r.st r.fi r.hlo r.hhi r.co r.ss.length c0 r.slo r.shi r.flo r.fhi (vs5 r.ss)
    | i + 1 => R.zeL4 (i + 1) n r.w r.st r.fi r.hlo r.hhi r.co r.ss.length c0 r.slo r.shi r.flo r.fhi (vp ((lens (n * r.st) th).take (i + 1))) (vs5 r.ss)
  refine callS_JR hokRP mixed [] (L := fun _ s b => R.zeL1 r.w r.st r.fi r.hlo r.hhi r.co r.ss.length c0 r.slo r.shi r.flo r.fhi (bs nm) th.length c1 n r.w r.st r.fi r.hlo r.hhi r.co r.ss.length c0 r.slo r.shi r.flo r.fhi (vs5 r.ss) (vi th) = (s, b)) Try.func51 rfl (.inl rfl) (pts := [50003]) (loops := [50003]) (by kernel_rfl) (by kernel_rfl) ?_ (fun id q1 q2 => absurd q1 q2) (fun id hid hlt => absurd hlt (by obtain rfl := List.mem_singleton.1 hid; decide)) (fun id hid hlt => ?_)
  · show R.geL C5 _ r.w r.st r.fi r.hlo r.hhi r.co r.slo r.shi r.flo r.fhi r.ss.length c0 (vs5 r.ss) (bs nm) th.length c1 (vi th) n _
    rw [R.geL_text]
  · obtain rfl := List.mem_singleton.1 hid
    refine ⟨⟨?_⟩⟩
    rintro s b e
    cases e
    show R.heL1 r.w r.st r.fi r.hlo r.hhi r.co r.ss.length c0 r.slo r.shi r.flo r.fhi (bs nm) th.length c1 n r.w r.st r.fi r.hlo r.hhi r.co r.ss.length c0 r.slo r.shi r.flo r.fhi (vs5 r.ss) (vi th) _
    rw [R.heL1_text]
    refine ⟨drows r.st 0 th, fun rest s b => ∃ i, i ≤ th.length ∧ rest = drows (bfr r.st th i) i (th.drop i) ∧ st i = (s, b), runDo r c0 c1 nm th (by omega), ⟨0, Nat.zero_le _, rfl, rfl⟩, ?_, ?_⟩
    · rintro row rest s b ⟨i, hi, e1, e2⟩
      have hi2 : i < th.length := by
        refine Nat.lt_of_le_of_ne hi (fun h => ?_)
        rw [h, List.drop_length] at e1; cases e1
      rw [drows_drop hi2] at e1
      obtain ⟨rfl, rfl⟩ := List.cons.inj e1
      have ha := v.at hi2
      have go : C5 53 [dI (IntKind.wrap .i64 (n * r.st)), dI th[i]] [.agg [dI (low (n * r.st) th[i]).1, dI (low (n * r.st) th[i]).2]] := by
        rw [w64 (by omega) (by omega)]
        exact conlT _ _ (by omega) (by omega)
      have e := vp_snoc (l := lens (n * r.st) th) (i := i) (by rw [lens_len]; exact hi2) (lens_at hi2)
      cases i with
      | zero =>
        cases e2
        show R.weL2 C5 n r.w r.st r.fi r.hlo r.hhi r.co r.ss.length c0 r.slo r.shi r.flo r.fhi (vs5 r.ss) ((0 : Nat) : Int) (bfr r.st th 0) th[0] _ _
        rw [R.weL2_text]
        intro caps
        simp only [Qv, eq_self, true_and, and_true]
        refine ⟨_, _, ⟨go⟩, 1, hi2, by rw [bfr_succ hi2], ?_⟩
        show R.zeL4 _ _ _ _ _ _ _ _ _ _ _ _ _ _ _ _ = _
        rw [← e]; rfl
      | succ i =>
        cases e2
        show R.weL4 C5 (i + 1) n r.w r.st r.fi r.hlo r.hhi r.co r.ss.length c0 r.slo r.shi r.flo r.fhi (vp ((lens (n * r.st) th).take (i + 1))) (vs5 r.ss) ((i + 1 : Nat) : Int) (bfr r.st th (i + 1)) th[i + 1] _ _
        rw [R.weL4_text]
        intro caps
        simp only [Qv, eq_self, true_and, and_true]
        have el : (vp ((lens (n * r.st) th).take (i + 1))).length = (i + 1) * 2 := by
          rw [vp_length, List.length_take, lens_len]; omega
        refine ⟨_, _, ⟨go⟩, ?_⟩
        rw [bc_t (show i + 1 < i + 1 + 1 by omega), bc_t (show (2 * (i + 1 + 1) + 768) * 16 ≤ 281474976710656 by omega), bc_t (show i + 1 + 1 ≤ 1099511627776 by omega), bc_t (show 0 + (i + 1) * 2 ≤ (vp ((lens (n * r.st) th).take (i + 1))).length by omega), bc_t (show 0 + (i + 1) * 2 = (vp ((lens (n * r.st) th).take (i + 1))).length by omega)]
        refine ⟨i + 2, hi2, by rw [bfr_succ hi2], ?_⟩
        show R.zeL4 _ _ _ _ _ _ _ _ _ _ _ _ _ _ _ _ = _
        rw [← e]; rfl
    · rintro s b ⟨i, hi, e1, e2⟩
      have hi2 : i = th.length := Decidable.byContradiction fun h => by
        rw [drows_drop (show i < th.length by omega)] at e1; cases e1
      obtain ⟨j, rfl⟩ : ∃ j, i = j + 1 := ⟨i - 1, by omega⟩
      cases e2
      show R.neL5 C5 _ (j + 1) n r.w r.st r.fi r.hlo r.hhi r.co r.ss.length c0 r.slo r.shi r.flo r.fhi (vp ((lens (n * r.st) th).take (j + 1))) (vs5 r.ss) _
      rw [R.neL5_text, List.take_of_length_le (by rw [lens_len]; omega), hi2]
      exact ⟨rfl, rfl⟩
end Go.Proofs.G5p

/- Chapter 3: reductions and lengths of a schedule, in data. -/
namespace Go.Proofs.G5p
open Go Go.Abs Go.Proofs Go.Str
set_option maxRecDepth 100000
theorem schP_at {r : Ru} {nm : List UInt8} {th : List Int} (h : (schP r nm th).2 = 0) : VS r th := by
  have h1 : (chk r).2 = 0 := Decidable.byContradiction fun hc => by
    have e : schP r nm th = (0, (chk r).2) := by rw [schP, if_neg hc]
    rw [e] at h; exact hc h
  rw [schP, if_pos h1] at h
  exact vs_of h1 h
theorem conROb (r : Ru) (nm : List UInt8) (th : List Int) (hlen : r.ss.length < 1000000000) (hth : th.length < 1000000000) (h : (schP r nm th).2 ≠ 0) : C5 12 [r.d, scD nm th] [.nil, dI (schP r nm th).2] := by
  refine con_flat hokP mixed Try.func12 rfl (by show 2 ≤ 400; omega) rfl (by kernel_rfl) (fun caps => ?_)
  show gRO _ _ r.w r.st r.fi r.hlo r.hhi r.co r.ss.length (caps 500) (vs5 r.ss) r.slo r.shi r.flo r.fhi (bs nm) th.length (caps 501) (vi th) _
  rw [gRO_text, bc_t (v5le r.ss), bc_t (v1le th), v5_whole, v1_whole]
  refine ⟨_, _, ⟨conKS r nm th hlen hth⟩, ?_⟩
  rw [bc_n h, bc_n h]
theorem conRO (r : Ru) (nm : List UInt8) (th : List Int) (h : (schP r nm th).2 = 0) : C5 12 [r.d, scD nm th] [.sl th.length 2 (vp (reds r.st th)), dI 0] := by
  have v := schP_at h
  have hl := v.len
  have h6 := v.n6
  refine con_flat hokP mixed Try.func12 rfl (by show 2 ≤ 400; omega) rfl (by kernel_rfl) (fun caps => ?_)
  show gRO _ _ r.w r.st r.fi r.hlo r.hhi r.co r.ss.length (caps 500) (vs5 r.ss) r.slo r.shi r.flo r.fhi (bs nm) th.length (caps 501) (vi th) _
  rw [gRO_text, bc_t (v5le r.ss), bc_t (v1le th), v5_whole, v1_whole]
  refine ⟨_, _, ⟨conKS r nm th (by omega) (by omega)⟩, bc_bne (fun hc => absurd h hc) (fun _ => ?_)⟩
  refine ⟨th.length, vp (reds r.st th), ⟨runER r _ _ nm th v⟩, ?_⟩
  simp only [vp_length, reds_len, Qv, eq_self, true_and]
theorem conLOb (r : Ru) (nm : List UInt8) (th : List Int) (n : Int) (hlen : r.ss.length < 1000000000) (hth : th.length < 1000000000) (h : fst0 [(schP r nm th).2, wE 1 1000000 [n]] ≠ 0) : C5 13 [r.d, scD nm th, dI n] [.nil, dI (fst0 [(schP r nm th).2, wE 1 1000000 [n]])] := by
  refine con_flat hokP mixed Try.func13 rfl (by show 2 ≤ 400; omega) rfl (by kernel_rfl) (fun caps => ?_)
  show gLO _ _ r.w r.st r.fi r.hlo r.hhi r.co r.ss.length (caps 500) (vs5 r.ss) r.slo r.shi r.flo r.fhi (bs nm) th.length (caps 501) (vi th) n _
  rw [gLO_text, bc_t (v5le r.ss), bc_t (v1le th), v5_whole, v1_whole]
  simp only [Qv, eq_self, true_and]
  refine ⟨_, _, ⟨conKS r nm th hlen hth⟩, bc_bne (fun hc => ?_) (fun hc => ?_)⟩
  · refine ⟨_, ⟨conCW 1 1000000 [n] (by simp)⟩, _, ⟨conFE [_, _] (by simp)⟩, ?_⟩
    rw [bc_n h]
  · rw [hc] at h
    refine ⟨_, ⟨conCW 1 1000000 [n] (by simp)⟩, _, ⟨conFE [_, _] (by simp)⟩, ?_⟩
    rw [bc_n h, hc]
theorem conLO (r : Ru) (nm : List UInt8) (th : List Int) (n : Int) (h : (schP r nm th).2 = 0) (hn : 1 ≤ n ∧ n ≤ 1000000) : C5 13 [r.d, scD nm th, dI n] [.sl th.length 2 (vp (lens (n * r.st) th)), dI 0] := by
  have v := schP_at h
  have hl := v.len
  have h6 := v.n6
  refine con_flat hokP mixed Try.func13 rfl (by show 2 ≤ 400; omega) rfl (by kernel_rfl) (fun caps => ?_)
  show gLO _ _ r.w r.st r.fi r.hlo r.hhi r.co r.ss.length (caps 500) (vs5 r.ss) r.slo r.shi r.flo r.fhi (bs nm) th.length (caps 501) (vi th) n _
  rw [gLO_text, bc_t (v5le r.ss), bc_t (v1le th), v5_whole, v1_whole]
  simp only [Qv, eq_self, true_and]
  refine ⟨_, _, ⟨conKS r nm th (by omega) (by omega)⟩, bc_bne (fun hc => absurd h hc) (fun _ => ?_)⟩
  refine ⟨_, ⟨conCW 1 1000000 [n] (by simp)⟩, _, ⟨conFE [_, _] (by simp)⟩, ?_⟩
  have e : fst0 [0, wE 1 1000000 [n]] = 0 := by rw [fst0_z, wE1, if_pos hn]; rfl
  refine bc_bne (fun hc => absurd e hc) (fun _ => ?_)
  refine ⟨th.length, vp (lens (n * r.st) th), ⟨runEL r _ _ nm th v n hn⟩, ?_⟩
  simp only [vp_length, lens_len, eq_self, true_and]
theorem conFr (l : List (Int × Int)) (hlen : l.length < 1000000000) : C5 16 [.sl l.length 2 (vp l), .sl l.length 2 (vp l)] [dB true] := by
  let inv : Nat × Nat × Nat → Prop := fun x => x.1 ≤ l.length
  let st : Nat × Nat × Nat → Slots × Blocks := fun x => zFr1 l.length x.2.1 l.length x.2.2 x.1 (vp l) (vp l)
  refine con_of (L := fun _ s b => ∃ x, inv x ∧ st x = (s, b)) hokP mixed Try.func16 rfl (by show 2 ≤ 400; omega) rfl (ids := [0]) (by kernel_rfl) rfl (fun caps => ?_) (fun id hid => ?_)
  · show gFr _ _ l.length (caps 500) (vp l) l.length (caps 501) (vp l) _
    rw [gFr_text]
    exact bc_bne (fun h => absurd rfl h) (fun _ => ⟨(0, caps 500, caps 501), Nat.zero_le _, rfl⟩)
  · obtain rfl := List.mem_singleton.1 hid
    refine ⟨Nat × Nat × Nat, st, inv, fun x => l.length - x.1, ⟨fun s b h => h, by kernel_rfl, ?_⟩⟩
    rintro ⟨i, c1, c2⟩ hi
    have hi : i ≤ l.length := hi
    show rFr1 _ _ l.length c1 l.length c2 i (vp l) (vp l) _ _ _
    rw [rFr1_text]
    refine bc_dec (fun h => ?_) (fun h => ?_)
    · have hi2 : i < l.length := by omega
      simp only [bc_t (show (0 : Int) ≤ (i : Int) by omega), bc_t h, Int.toNat_natCast, at2 (vp_two l i hi2), Qv, eq_self, true_and, and_true, beq_self_eq_true, Bool.and_self, Bool.not_true, if_true, bcF]
      refine ⟨(i + 1, c1, c2), hi2, by show l.length - (i + 1) < l.length - i; omega, ?_⟩
      show zFr1 _ _ _ _ _ _ _ = _
      rw [w64 (by omega) (by omega)]; rfl
    · show (if 0 = 0 then _ else _)
      rw [if_pos rfl]
      show nFr2 _ _ _
      rw [nFr2_text]
end Go.Proofs.G5p

/- What a good world's variables hold, as the library's contracts ask it. -/
namespace Go.Abs
variable {P : Program} {w : World}
end Go.Abs

/- Chapter 3: what the frames of the laws share. -/
namespace Go.Proofs.Yteadiejdhplokaa.K
open Go Go.Abs Go.RowKit Go.ChangeShapes Go.WideShapes Go.ChangeAt Go.Proofs Go.Flat
set_option maxRecDepth 100000
theorem own : ownKnob Try.prog.godebug = none := by kernel_rfl
theorem laidP : laidOutB Try.prog = true := by kernel_rfl
theorem mapsP : mapsRowed Try.prog = true := by kernel_rfl
theorem slicesP : ∀ t e, t < Try.prog.types.size → Try.prog.underlying t = some (.slice e) → 0 < Try.prog.cellsOf e := slices_full_of Try.prog (by kernel_rfl)
theorem tsP {l : List TypeId} (h : l.all (fun t => decide (t < Try.prog.types.size)) = true) : ∀ t ∈ l, t < Try.prog.types.size := fun t ht => of_decide_eq_true (List.all_eq_true.1 h t ht)
theorem flat_vi : ∀ l : List Int, (l.flatMap fun a => [Value.int .i64 a]) = vi l
  | [] => rfl
  | a :: r => by rw [List.flatMap_cons, flat_vi r]; rfl
/-- lists of whole numbers -/
theorem leaf_ints {t e : TypeId} {d : D} (ht : Try.prog.underlying t = some (.slice e)) (he : leaves Try.prog 10 e = some [.int .i64]) (h : LeafD Try.prog t d) : d = .nil ∨ ∃ l : List Int, d = .sl l.length 1 (vi l) := by
  unfold LeafD at h
  rw [ht] at h
  simp only at h
  rcases h with h | ⟨n, cs, L, rfl, hL, hn, hl, hc⟩
  · exact .inl h
  · rw [he] at hL
    obtain rfl := Option.some.inj hL
    simp only [List.length_cons, List.length_nil, Nat.zero_add] at hl hc ⊢
    obtain ⟨ps, hp, rfl⟩ := chunks_of (f := fun a : Int => [Value.int .i64 a]) (k := 1) (fun _ => rfl) n cs hl (fun i hi => by
      have := hc i hi
      generalize (cs.drop (i * 1)).take 1 = x at this ⊢
      cases this with
      | cons h t => cases t; obtain ⟨a, rfl, _⟩ := h; exact ⟨a, rfl⟩)
    refine .inr ⟨ps, ?_⟩
    rw [hp]
    rw [flat_vi]
theorem leaf_int {t : TypeId} {d : D} (ht : Try.prog.underlying t = some (.int .i64)) (h : LeafD Try.prog t d) : ∃ n : Int, d = dI n ∧ (-9223372036854775808 ≤ n ∧ n ≤ 9223372036854775807) := by
  unfold LeafD at h
  rw [ht] at h
  obtain ⟨n, rfl, hw⟩ := h
  exact ⟨n, rfl, wf64 hw⟩
end Go.Proofs.Yteadiejdhplokaa.K
namespace Go.Proofs.Yteadiejdhplokaa.K
open Go Go.Abs Go.RowKit Go.ChangeShapes Go.WideShapes Go.ChangeAt Go.Proofs Go.Flat
set_option maxRecDepth 100000
/-- lists of five whole numbers -/
theorem leaf_fvs {t e : TypeId} {d : D} (ht : Try.prog.underlying t = some (.slice e)) (he : leaves Try.prog 10 e = some [.int .i64, .int .i64, .int .i64, .int .i64, .int .i64]) (h : LeafD Try.prog t d) : d = .nil ∨ ∃ l : List Fv, d = .sl l.length 5 (vs5 l) := by
  unfold LeafD at h
  rw [ht] at h
  simp only at h
  rcases h with h | ⟨n, cs, L, rfl, hL, hn, hl, hc⟩
  · exact .inl h
  · rw [he] at hL
    obtain rfl := Option.some.inj hL
    simp only [List.length_cons, List.length_nil, Nat.zero_add] at hl hc ⊢
    obtain ⟨ps, hp, rfl⟩ := chunks_of (f := Fv.row) (k := 5) (fun _ => rfl) n cs hl (fun i hi => by
      have := hc i hi
      generalize (cs.drop (i * 5)).take 5 = x at this ⊢
      cases this with | cons h1 t => cases t with | cons h2 t => cases t with | cons h3 t => cases t with | cons h4 t => cases t with | cons h5 t =>
      cases t
      obtain ⟨a, rfl, _⟩ := h1
      obtain ⟨b, rfl, _⟩ := h2
      obtain ⟨c, rfl, _⟩ := h3
      obtain ⟨d, rfl, _⟩ := h4
      obtain ⟨e, rfl, _⟩ := h5
      exact ⟨⟨a, b, c, d, e⟩, rfl⟩)
    exact .inr ⟨ps, by rw [hp]; rfl⟩
open Go.Str in
theorem leaf_str {t : TypeId} {d : D} (ht : Try.prog.underlying t = some .string) (h : LeafD Try.prog t d) : ∃ s : List UInt8, d = G5p.dS s := by
  unfold LeafD at h
  rw [ht] at h
  obtain ⟨s, rfl, _⟩ := h
  exact ⟨s.data.toList, by show _ = D.val _; rw [Go.Str.bs_data]⟩
theorem good0 (W : World) : GoodW Try.prog W := fun p hp => by
  rw [show varsOf Try.prog = [] by kernel_rfl] at hp
  cases hp
end Go.Proofs.Yteadiejdhplokaa.K

/- awake of chapter 3, for every tape: by what is known of some functions. -/
namespace Go.Proofs.G5p
open Go Go.Abs Go.Proofs Go.Str
set_option maxRecDepth 100000
def unFv : List Value → Option (List Fv)
  | [] => some []
  | .int .i64 a :: .int .i64 b :: .int .i64 c :: .int .i64 d :: .int .i64 e :: r => (unFv r).map (⟨a, b, c, d, e⟩ :: ·)
  | _ => none
theorem unFv_ok : ∀ {l : List Value} {ss : List Fv}, unFv l = some ss → l = vs5 ss := by
  intro l
  induction l using unFv.induct with
  | case1 => intro ss h; rw [unFv] at h; obtain rfl := Option.some.inj h; rfl
  | case2 a b c d e r ih =>
    intro ss h
    rw [unFv] at h
    obtain ⟨t, ht, rfl⟩ := Option.map_eq_some_iff.1 h
    rw [ih ht]; rfl
  | case3 l h1 h2 => intro ss h; rw [unFv] at h <;> first | (cases h; done) | assumption
def parR : D → Option Ru
  | .agg [.val (.int .i64 w), .val (.int .i64 st), .val (.int .i64 fi), .val (.int .i64 hlo), .val (.int .i64 hhi), .val (.int .i64 co), .sl n 5 l, .val (.int .i64 slo), .val (.int .i64 shi), .val (.int .i64 flo), .val (.int .i64 fhi)] =>
    match unFv l with
    | some ss => if ss.length = n then some ⟨w, st, fi, hlo, hhi, co, ss, slo, shi, flo, fhi⟩ else none
    | none => none
  | _ => none
theorem parR_ok {d : D} {r : Ru} (h : parR d = some r) : d = r.d := by
  unfold parR at h
  split at h
  · split at h
    · rename_i e
      split at h
      · obtain rfl := Option.some.inj h
        rename_i hn; subst hn
        rw [unFv_ok e]
      · cases h
    · cases h
  · cases h
def drB (r : Ru) (k : Int) (b h : Int) : Bool := decide (rngB r) && r.ss.all (fun s => decide (stB s)) && decide (0 ≤ k) && decide (k.toNat < r.ss.length) && decide (r.ss.length ≤ 6) && decide (1 ≤ h) && decide (h ≤ b) && decide (b ≤ 1000)
theorem drB_ok {r : Ru} {k b h : Int} (e : drB r k b h = true) : DrOK r k.toNat b h ∧ k = (k.toNat : Int) := by
  simp only [drB, Bool.and_eq_true, decide_eq_true_eq, List.all_eq_true] at e
  obtain ⟨⟨⟨⟨⟨⟨⟨h1, h2⟩, h3⟩, h4⟩, h5⟩, h6⟩, h7⟩, h8⟩ := e
  exact ⟨⟨h1, h2, h4, h5, h6, h7, h8⟩, by omega⟩
def marT (d : D) (k b h : Int) : Option (List D) :=
  match parR d with
  | some r => if drB r k b h = true then some [marD (mar r k.toNat b h)] else none
  | none => none
def torT (d : D) (k b h : Int) : Option (List D) :=
  match parR d with
  | some r => if drB r k b h = true then some [.agg [dI (fl r b h * (b - h)), dI (fh r b h * (b - h))]] else none
  | none => none
def keyD : List D → Int
  | [_, .agg [.val (.int _ k), .val (.int _ b), .val (.int _ h)], _] => k * 1000000 + b * 1000 + h
  | _ => -1
def lookK : List (List D × List D) → Int → List D → Option (List D)
  | [], _, _ => none
  | p :: r, q, ds => if keyD p.1 = q then (if dsEq p.1 ds then some p.2 else lookK r q ds) else lookK r q ds
theorem lookK_ok : ∀ {t : List (List D × List D)} {q : Int} {ds rs : List D}, lookK t q ds = some rs → (ds, rs) ∈ t
  | [], _, _, _, h => by cases h
  | p :: r, q, ds, rs, h => by
    unfold lookK at h
    split at h
    · split at h
      · rename_i e
        obtain rfl := Option.some.inj h
        rw [← dsEq_ok e]; exact List.mem_cons_self
      · exact List.mem_cons_of_mem _ (lookK_ok h)
    · exact List.mem_cons_of_mem _ (lookK_ok h)
def tabP : Tab := fun f =>
  if f = 86 then some fun ds => match ds with
    | [d, .agg [.val (.int .i64 k), .val (.int .i64 b), .val (.int .i64 h)]] => marT d k b h
    | _ => none
  else if f = 89 then some fun ds => match ds with
    | [d, .agg [.val (.int .i64 k), .val (.int .i64 b), .val (.int .i64 h)]] => torT d k b h
    | _ => none
  else if f = 8 then some fun ds => match ds with
    | [d] => (match parR d with | some r => if r.ss.length ≤ 6 then some [dI (chk r).1, dI (chk r).2] else none | none => none)
    | _ => none
  else if f = 53 then some fun ds => match ds with
    | [.val (.int .i64 n), .val (.int .i64 d)] => if -4611686018427387904 ≤ n ∧ n ≤ 4611686018427387904 ∧ 0 < d ∧ d ≤ 4611686018427387904 then some [.agg [dI (low n d).1, dI (low n d).2]] else none
    | _ => none
  else none
theorem tabP_ok : TabOK Try.prog tabP := by
  intro f t ht ds rs h
  unfold tabP at ht
  split at ht
  · rename_i e; subst e; obtain rfl := Option.some.inj ht
    simp only at h
    split at h
    · rename_i d k b hh
      unfold marT at h
      split at h
      · rename_i r hr
        split at h
        · rename_i hd
          obtain rfl := Option.some.inj h
          obtain ⟨hv, hk⟩ := drB_ok hd
          rw [parR_ok hr]
          have := conma r k.toNat b hh hv
          unfold drD at this
          rw [← hk] at this
          exact this
        · cases h
      · cases h
    · cases h
  · split at ht
    · rename_i e; subst e; obtain rfl := Option.some.inj ht
      simp only at h
      split at h
      · rename_i d k b hh
        unfold torT at h
        split at h
        · rename_i r hr
          split at h
          · rename_i hd
            obtain rfl := Option.some.inj h
            obtain ⟨hv, hk⟩ := drB_ok hd
            rw [parR_ok hr]
            have := conto r k.toNat b hh hv
            unfold drD at this
            rw [← hk] at this
            exact this
          · cases h
        · cases h
      · cases h
    · split at ht
      · rename_i e; subst e; obtain rfl := Option.some.inj ht
        simp only at h
        split at h
        · split at h
          · rename_i r hr
            split at h
            · obtain rfl := Option.some.inj h
              rw [parR_ok hr]
              exact conKR r (by omega)
            · cases h
          · cases h
        · cases h
      · split at ht
        · rename_i e; subst e; obtain rfl := Option.some.inj ht
          simp only at h
          split at h
          · split at h
            · rename_i hb
              obtain rfl := Option.some.inj h
              exact conlT _ _ ⟨hb.1, hb.2.1⟩ hb.2.2
            · cases h
          · cases h
        · cases ht
theorem look_all {tab : Tab} (ht : TabOK Try.prog tab) {f : FuncId} {lk : List (List D × List D)} (h : ∀ caps, (lk.all fun p => runOK Try.prog tab 1000 f p.1 p.2 caps) = true) (hc : (lk.all fun p => decide (countV p.1 ≤ 400)) = true) {ds rs : List D} (hm : (ds, rs) ∈ lk) : C5 f ds rs :=
  con_run ht mixed (by simpa using List.all_eq_true.1 hc _ hm) (fun caps => List.all_eq_true.1 (h caps) _ hm)
abbrev rulD : D := .agg [dI 10, dI 100, dI 60, dI 10000, dI 10000, dI 9000, .sl 2 5 [vI 300, vI 20000, vI 400000, vI 0, vI 100, vI 300, vI 20000, vI 400000, vI 0, vI 100], dI 2, dI 3, dI 7, dI 8]
abbrev oneD : D := .agg [dI 10, dI 100, dI 60, dI 10000, dI 10000, dI 9000, .sl 1 5 [vI 300, vI 20000, vI 400000, vI 0, vI 100], dI 2, dI 3, dI 7, dI 8]
abbrev bestD : D := .agg [.val (.string ⟨#[98, 101, 115, 116]⟩), .sl 2 1 [vI 80, vI 60]]
end Go.Proofs.G5p

/- awake of chapter 3: which draughts keep which limits. -/
namespace Go.Proofs.G5p
open Go Go.Abs Go.Proofs Go.Str
set_option maxRecDepth 100000
def lk1 : List (List D × List D) := [([rulD, drD 0 100 100, .sl 4 1 [vI 0, vI 1, vI 2, vI 3]], [dB true]),
  ([rulD, drD 0 100 90, .sl 4 1 [vI 0, vI 1, vI 2, vI 3]], [dB true]),
  ([rulD, drD 0 100 80, .sl 4 1 [vI 0, vI 1, vI 2, vI 3]], [dB true]),
  ([rulD, drD 0 100 70, .sl 4 1 [vI 0, vI 1, vI 2, vI 3]], [dB false]),
  ([rulD, drD 0 100 60, .sl 4 1 [vI 0, vI 1, vI 2, vI 3]], [dB false]),
  ([rulD, drD 0 90 90, .sl 4 1 [vI 0, vI 1, vI 2, vI 3]], [dB true]),
  ([rulD, drD 0 90 80, .sl 4 1 [vI 0, vI 1, vI 2, vI 3]], [dB true]),
  ([rulD, drD 0 90 70, .sl 4 1 [vI 0, vI 1, vI 2, vI 3]], [dB true]),
  ([rulD, drD 0 90 60, .sl 4 1 [vI 0, vI 1, vI 2, vI 3]], [dB false]),
  ([rulD, drD 0 80 80, .sl 4 1 [vI 0, vI 1, vI 2, vI 3]], [dB true]),
  ([rulD, drD 0 80 70, .sl 4 1 [vI 0, vI 1, vI 2, vI 3]], [dB true]),
  ([rulD, drD 0 80 60, .sl 4 1 [vI 0, vI 1, vI 2, vI 3]], [dB true]),
  ([rulD, drD 0 70 70, .sl 4 1 [vI 0, vI 1, vI 2, vI 3]], [dB true]),
  ([rulD, drD 0 70 60, .sl 4 1 [vI 0, vI 1, vI 2, vI 3]], [dB true]),
  ([rulD, drD 0 60 60, .sl 4 1 [vI 0, vI 1, vI 2, vI 3]], [dB true]),
  ([rulD, drD 1 100 100, .sl 4 1 [vI 0, vI 1, vI 2, vI 3]], [dB true]),
  ([rulD, drD 1 100 90, .sl 4 1 [vI 0, vI 1, vI 2, vI 3]], [dB true]),
  ([rulD, drD 1 100 80, .sl 4 1 [vI 0, vI 1, vI 2, vI 3]], [dB true]),
  ([rulD, drD 1 100 70, .sl 4 1 [vI 0, vI 1, vI 2, vI 3]], [dB false]),
  ([rulD, drD 1 100 60, .sl 4 1 [vI 0, vI 1, vI 2, vI 3]], [dB false]),
  ([rulD, drD 1 90 90, .sl 4 1 [vI 0, vI 1, vI 2, vI 3]], [dB true]),
  ([rulD, drD 1 90 80, .sl 4 1 [vI 0, vI 1, vI 2, vI 3]], [dB true]),
  ([rulD, drD 1 90 70, .sl 4 1 [vI 0, vI 1, vI 2, vI 3]], [dB true]),
  ([rulD, drD 1 90 60, .sl 4 1 [vI 0, vI 1, vI 2, vI 3]], [dB false]),
  ([rulD, drD 1 80 80, .sl 4 1 [vI 0, vI 1, vI 2, vI 3]], [dB true]),
  ([rulD, drD 1 80 70, .sl 4 1 [vI 0, vI 1, vI 2, vI 3]], [dB true]),
  ([rulD, drD 1 80 60, .sl 4 1 [vI 0, vI 1, vI 2, vI 3]], [dB true]),
  ([rulD, drD 1 70 70, .sl 4 1 [vI 0, vI 1, vI 2, vI 3]], [dB true]),
  ([rulD, drD 1 70 60, .sl 4 1 [vI 0, vI 1, vI 2, vI 3]], [dB true]),
  ([rulD, drD 1 60 60, .sl 4 1 [vI 0, vI 1, vI 2, vI 3]], [dB true])]
theorem run1 : ∀ caps, (lk1.all fun p => runOK Try.prog tabP 1000 102 p.1 p.2 caps) = true := by intro caps; kernel_rfl
end Go.Proofs.G5p

/- awake of chapter 3: which draughts keep which limits. -/
namespace Go.Proofs.G5p
open Go Go.Abs Go.Proofs Go.Str
set_option maxRecDepth 100000
def lk2 : List (List D × List D) := [([oneD, drD 0 100 100, .sl 4 1 [vI 0, vI 1, vI 2, vI 3]], [dB true]),
  ([oneD, drD 0 100 90, .sl 4 1 [vI 0, vI 1, vI 2, vI 3]], [dB true]),
  ([oneD, drD 0 100 80, .sl 4 1 [vI 0, vI 1, vI 2, vI 3]], [dB true]),
  ([oneD, drD 0 100 70, .sl 4 1 [vI 0, vI 1, vI 2, vI 3]], [dB false]),
  ([oneD, drD 0 100 60, .sl 4 1 [vI 0, vI 1, vI 2, vI 3]], [dB false]),
  ([oneD, drD 0 90 90, .sl 4 1 [vI 0, vI 1, vI 2, vI 3]], [dB true]),
  ([oneD, drD 0 90 80, .sl 4 1 [vI 0, vI 1, vI 2, vI 3]], [dB true]),
  ([oneD, drD 0 90 70, .sl 4 1 [vI 0, vI 1, vI 2, vI 3]], [dB true]),
  ([oneD, drD 0 90 60, .sl 4 1 [vI 0, vI 1, vI 2, vI 3]], [dB false]),
  ([oneD, drD 0 80 80, .sl 4 1 [vI 0, vI 1, vI 2, vI 3]], [dB true]),
  ([oneD, drD 0 80 70, .sl 4 1 [vI 0, vI 1, vI 2, vI 3]], [dB true]),
  ([oneD, drD 0 80 60, .sl 4 1 [vI 0, vI 1, vI 2, vI 3]], [dB true]),
  ([oneD, drD 0 70 70, .sl 4 1 [vI 0, vI 1, vI 2, vI 3]], [dB true]),
  ([oneD, drD 0 70 60, .sl 4 1 [vI 0, vI 1, vI 2, vI 3]], [dB true]),
  ([oneD, drD 0 60 60, .sl 4 1 [vI 0, vI 1, vI 2, vI 3]], [dB true]),
  ([oneD, drD 0 100 100, .nil], [dB true]),
  ([oneD, drD 0 100 90, .nil], [dB true]),
  ([oneD, drD 0 100 80, .nil], [dB true]),
  ([oneD, drD 0 100 70, .nil], [dB true]),
  ([oneD, drD 0 100 60, .nil], [dB true]),
  ([oneD, drD 0 90 90, .nil], [dB true]),
  ([oneD, drD 0 90 80, .nil], [dB true]),
  ([oneD, drD 0 90 70, .nil], [dB true]),
  ([oneD, drD 0 90 60, .nil], [dB true]),
  ([oneD, drD 0 80 80, .nil], [dB true]),
  ([oneD, drD 0 80 70, .nil], [dB true]),
  ([oneD, drD 0 80 60, .nil], [dB true]),
  ([oneD, drD 0 70 70, .nil], [dB true]),
  ([oneD, drD 0 70 60, .nil], [dB true]),
  ([oneD, drD 0 60 60, .nil], [dB true]),
  ([oneD, drD 0 100 100, .sl 1 1 [vI 0]], [dB true]),
  ([oneD, drD 0 100 90, .sl 1 1 [vI 0]], [dB true]),
  ([oneD, drD 0 100 80, .sl 1 1 [vI 0]], [dB true]),
  ([oneD, drD 0 100 70, .sl 1 1 [vI 0]], [dB true]),
  ([oneD, drD 0 100 60, .sl 1 1 [vI 0]], [dB true]),
  ([oneD, drD 0 90 90, .sl 1 1 [vI 0]], [dB true]),
  ([oneD, drD 0 90 80, .sl 1 1 [vI 0]], [dB true]),
  ([oneD, drD 0 90 70, .sl 1 1 [vI 0]], [dB true]),
  ([oneD, drD 0 90 60, .sl 1 1 [vI 0]], [dB true]),
  ([oneD, drD 0 80 80, .sl 1 1 [vI 0]], [dB true]),
  ([oneD, drD 0 80 70, .sl 1 1 [vI 0]], [dB true]),
  ([oneD, drD 0 80 60, .sl 1 1 [vI 0]], [dB true]),
  ([oneD, drD 0 70 70, .sl 1 1 [vI 0]], [dB true]),
  ([oneD, drD 0 70 60, .sl 1 1 [vI 0]], [dB true]),
  ([oneD, drD 0 60 60, .sl 1 1 [vI 0]], [dB true]),
  ([oneD, drD 0 100 100, .sl 1 1 [vI 1]], [dB true]),
  ([oneD, drD 0 100 90, .sl 1 1 [vI 1]], [dB true]),
  ([oneD, drD 0 100 80, .sl 1 1 [vI 1]], [dB true]),
  ([oneD, drD 0 100 70, .sl 1 1 [vI 1]], [dB false]),
  ([oneD, drD 0 100 60, .sl 1 1 [vI 1]], [dB false]),
  ([oneD, drD 0 90 90, .sl 1 1 [vI 1]], [dB true]),
  ([oneD, drD 0 90 80, .sl 1 1 [vI 1]], [dB true]),
  ([oneD, drD 0 90 70, .sl 1 1 [vI 1]], [dB true]),
  ([oneD, drD 0 90 60, .sl 1 1 [vI 1]], [dB true]),
  ([oneD, drD 0 80 80, .sl 1 1 [vI 1]], [dB true]),
  ([oneD, drD 0 80 70, .sl 1 1 [vI 1]], [dB true]),
  ([oneD, drD 0 80 60, .sl 1 1 [vI 1]], [dB true]),
  ([oneD, drD 0 70 70, .sl 1 1 [vI 1]], [dB true]),
  ([oneD, drD 0 70 60, .sl 1 1 [vI 1]], [dB true]),
  ([oneD, drD 0 60 60, .sl 1 1 [vI 1]], [dB true])]
theorem run2 : ∀ caps, (lk2.all fun p => runOK Try.prog tabP 1000 102 p.1 p.2 caps) = true := by intro caps; kernel_rfl
end Go.Proofs.G5p

/- awake of chapter 3: what is known of some calls. -/
namespace Go.Proofs.G5p
open Go Go.Abs Go.Proofs Go.Str
set_option maxRecDepth 100000
def lkH : List (List D × List D) := [([rulD, bestD], [dI 2, dI 0])]
def lkR : List (List D × List D) := [([rulD, bestD, .agg [dI 2, dI 8, dI 10000, .sl 2 1 [vI 50, vI 50]]], [.sl 2 2 [vI 49752, vI 5, vI 49504, vI 5], .val (.bool true), dI 0])]
def lkT : List (List D × List D) := [([rulD, bestD, dI 300], [.sl 2 2 [vI 375, vI 1, vI 500, vI 1], dI 0])]
def lkQ : List (List D × List D) := [([rulD, dI 10], [.sl 5 1 [vI 100, vI 90, vI 80, vI 70, vI 60]]), ([oneD, dI 10], [.sl 5 1 [vI 100, vI 90, vI 80, vI 70, vI 60]])]
theorem runH : ∀ caps, (lkH.all fun p => runOK Try.prog tabP 1000 29 p.1 p.2 caps) = true := by intro caps; kernel_rfl
theorem runR : ∀ caps, (lkR.all fun p => runOK Try.prog tabP 1000 22 p.1 p.2 caps) = true := by intro caps; kernel_rfl
theorem runT : ∀ caps, (lkT.all fun p => runOK Try.prog tabP 1000 13 p.1 p.2 caps) = true := by intro caps; kernel_rfl
theorem runQ : ∀ caps, (lkQ.all fun p => runOK Try.prog tabP 1000 92 p.1 p.2 caps) = true := by intro caps; kernel_rfl
end Go.Proofs.G5p

/- awake of chapter 3, for every tape: by tables. -/
namespace Go.Proofs.G5p
open Go Go.Abs Go.Proofs Go.Str
set_option maxRecDepth 100000
theorem runP : ∀ caps, ((lk1 ++ lk2).all fun p => runOK Try.prog tabP 1000 102 p.1 p.2 caps) = true := fun caps => by rw [List.all_append, run1, run2]; rfl
def tabA : Tab := fun f => if f == 102 then some (fun ds => lookK (lk1 ++ lk2) (keyD ds) ds) else if f == 29 then some (tabLook lkH) else if f == 22 then some (tabLook lkR) else if f == 13 then some (tabLook lkT) else if f == 92 then some (tabLook lkQ) else tabP f
theorem tabA_ok : TabOK Try.prog tabA := by
  intro f t ht ds rs h
  unfold tabA at ht
  split at ht
  · rename_i e; obtain rfl := Option.some.inj ht; rw [beq_iff_eq] at e; subst e; exact look_all tabP_ok runP (by kernel_rfl) (lookK_ok h)
  · split at ht
    · rename_i e; obtain rfl := Option.some.inj ht; rw [beq_iff_eq] at e; subst e; exact look_all tabP_ok runH (by kernel_rfl) (tabLook_ok h)
    · split at ht
      · rename_i e; obtain rfl := Option.some.inj ht; rw [beq_iff_eq] at e; subst e; exact look_all tabP_ok runR (by kernel_rfl) (tabLook_ok h)
      · split at ht
        · rename_i e; obtain rfl := Option.some.inj ht; rw [beq_iff_eq] at e; subst e; exact look_all tabP_ok runT (by kernel_rfl) (tabLook_ok h)
        · split at ht
          · rename_i e; obtain rfl := Option.some.inj ht; rw [beq_iff_eq] at e; subst e; exact look_all tabP_ok runQ (by kernel_rfl) (tabLook_ok h)
          · exact tabP_ok f t ht ds rs h
theorem runA : ∀ caps, runOK Try.prog tabA 1000 6 [] [.val (.bool true)] caps = true := by intro caps; kernel_rfl
theorem conA : C5 6 [] [.val (.bool true)] := con_run tabA_ok mixed (by show 0 ≤ 400; omega) runA
end Go.Proofs.G5p

/- Chapter 3: copies, by the shape of what is copied. -/
namespace Go.Abs
def copyPR : List D → Option (List D)
  | [.agg [a, b, c, d, e, f, .nil, g, h, i, j]] => some [.agg [a, b, c, d, e, f, .sl 0 5 [], g, h, i, j]]
  | [.agg [a, b, c, d, e, f, .sl n es cs, g, h, i, j]] => some [.agg [a, b, c, d, e, f, .sl n es cs, g, h, i, j]]
  | _ => none
def copyPS : List D → Option (List D)
  | [.agg [a, .nil]] => some [.agg [a, .sl 0 1 []]]
  | [.agg [a, .sl n es cs]] => some [.agg [a, .sl n es cs]]
  | _ => none
def copyPM : List D → Option (List D)
  | [.agg [a, b, c, .nil]] => some [.agg [a, b, c, .sl 0 1 []]]
  | [.agg [a, b, c, .sl n es cs]] => some [.agg [a, b, c, .sl n es cs]]
  | _ => none
end Go.Abs

/- Short names for what stands often in printed texts of laws. -/
namespace Go.Abs
abbrev Tk (n k : Nat) (l : List Value) : List Value := List.take (n * k) (List.drop 0 l)
abbrev Dw (n k : Nat) (l : List Value) : D := .sl n k (Tk n k l)
abbrev dL (n k : Nat) (l : List Value) : Bool := decide (0 + n * k ≤ List.length l)
abbrev kT : List D := [.val (.bool true)]
abbrev kF : List D := [.val (.bool false)]
end Go.Abs
