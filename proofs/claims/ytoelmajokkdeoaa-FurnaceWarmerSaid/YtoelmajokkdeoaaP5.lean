/- Texts of the proof, put together: GhH3, GhH4, GhH5, GhHA, AbsShort2, GhHLs, GhH6, GhHLa, GhHLb, GhHLc, GhH7, GhHWT, GhH8, GhH9, GhHKW. -/
import Derived.Test.YtoelmajokkdeoaaP4
/- Chapter 2, heating: radiance, rules, slabs, means, in data. -/
namespace Go.Proofs.G5h
open Go Go.Abs Go.Proofs Go.Proofs.G2
set_option maxRecDepth 100000
theorem chain_get : ∀ {p : Pt} {r : List Pt}, Chain p r → ∀ (j : Nat) (h : j + 1 < (p :: r).length), Fol ((p :: r)[j]'(by omega)) (p :: r)[j + 1]
  | p, [], _, j, h => by simp at h
  | p, q :: r, hc, 0, _ => hc.1
  | p, q :: r, hc, j + 1, h => chain_get hc.2 j (by simpa using h)
theorem okT_fol {l : List Pt} (h : OkT l) (j : Nat) (hj : j + 1 < l.length) : Fol (l[j]'(by omega)) l[j + 1] := by
  cases l with
  | nil => simp at hj
  | cons p r => exact chain_get h.2 j hj
theorem okT_in {l : List Pt} (h : OkT l) (j : Nat) (hj : j < l.length) : In20 l[j] := by
  cases l with
  | nil => simp at hj
  | cons p r => exact h.1 _ (List.getElem_mem hj)
theorem okT_pos {l : List Pt} (h : OkT l) : 0 < l.length := by
  cases l with
  | nil => exact h.elim
  | cons p r => simp
theorem rad_le {ps : List Pt} (h : 0 < ps.length) {x : Int} (hx : x ≤ ps[0].1) : rad x ps = ps[0].2 := by
  cases ps with
  | nil => simp at h
  | cons p r => exact if_pos hx
theorem rad_gt {ps : List Pt} (h : 0 < ps.length) {x : Int} (hx : ¬ x ≤ ps[0].1) : rad x ps = radG x ps[0] (ps.drop 1) := by
  cases ps with
  | nil => simp at h
  | cons p r => exact if_neg hx
theorem lin_w {p q : Pt} (hp : In20 p) (hq : In20 q) (h : Fol p q) {x : Int} (h1 : p.1 ≤ x) (h2 : x ≤ q.1) : IntKind.wrap .i64 (p.2 + IntKind.wrap .i64 (Int.tdiv (IntKind.wrap .i64 (IntKind.wrap .i64 (x - p.1) * IntKind.wrap .i64 (q.2 - p.2))) (IntKind.wrap .i64 (q.1 - p.1)))) = lin p q x := by
  have hl := lin_in h h1 h2
  obtain ⟨a1, a2⟩ := hp
  obtain ⟨b1, b2⟩ := hq
  obtain ⟨c1, c2, c3⟩ := h
  have m1 := Int.mul_nonneg (show 0 ≤ x - p.1 by omega) (show 0 ≤ q.2 - p.2 by omega)
  have m2 := Int.mul_le_mul (show x - p.1 ≤ 20000 by omega) (show q.2 - p.2 ≤ 20000 by omega) (by omega) (by decide : (0 : Int) ≤ 20000)
  rw [w64 (z := x - p.1) (by omega) (by omega), w64 (z := q.2 - p.2) (by omega) (by omega), w64 (z := q.1 - p.1) (by omega) (by omega), w64 (z := (x - p.1) * (q.2 - p.2)) (by omega) (by omega), tdiv_nn m1]
  unfold lin at hl ⊢
  rw [w64 (z := (x - p.1) * (q.2 - p.2) / (q.1 - p.1)) (by omega) (by omega), w64 (by omega) (by omega)]
theorem conrI {ps : List Pt} (hv : OkT ps) (hl : ps.length ≤ 10) (x : Int) : C5 56 [dTab ps, dI x] [dI (rad x ps)] := by
  have hpos := okT_pos hv
  let at_ : Nat → Prop := fun i => match i with
    | 0 => True
    | j + 1 => ∀ h : j < ps.length, ps[j].1 < x ∧ rad x ps = radG x ps[j] (ps.drop (j + 1))
  let inv : Nat × Nat → Prop := fun y => y.1 ≤ ps.length ∧ at_ y.1
  let st : Nat × Nat → Slots × Blocks := fun y => zrI1 x y.1 ps.length y.2 (vp ps)
  refine con_of (L := fun _ s b => ∃ x, inv x ∧ st x = (s, b)) hokH mixed Try.func56 rfl (by show 1 ≤ 400; omega) rfl (ids := [0]) (by kernel_rfl) rfl (fun caps => ?_) (fun id hid => ?_)
  · show grI _ _ ps.length (caps 500) (vp ps) x _
    rw [grI_text]
    exact ⟨(0, caps 500), ⟨by simp, trivial⟩, rfl⟩
  · obtain rfl := List.mem_singleton.1 hid
    refine ⟨Nat × Nat, st, inv, fun x => ps.length - x.1, ⟨fun s b h => h, by kernel_rfl, ?_⟩⟩
    rintro ⟨i, cap⟩ ⟨hi, hr⟩
    simp only at hi hr
    have out : (∀ h : i < ps.length, x ≤ ps[i].1) → nrI2 C5 (fun _ s b => ∃ x, inv x ∧ st x = (s, b)) x i ps.length cap (vp ps) (· = [dI (rad x ps)]) := by
      intro hx
      rw [nrI2_text]
      cases i with
      | zero =>
        refine bc_true (by simp) (bc_yes (by omega) ⟨_, vp_snd ps 0 hpos, ?_⟩)
        show [dI _] = [dI _]
        rw [rad_le hpos (hx hpos)]
      | succ j =>
        have hj : j < ps.length := by omega
        obtain ⟨hxj, hr⟩ := hr hj
        have hw : IntKind.wrap .i64 (((j + 1 : Nat) : Int) - 1) = (j : Int) := by rw [w64 (by omega) (by omega)]; omega
        have hz0 : (0 : Int) ≤ (j : Int) := by omega
        have hz1 : (j : Int) < (ps.length : Int) := by omega
        simp only [hw]
        refine bc_false (by simp; omega) (bc_beq (fun he => ?_) (fun hne => ?_))
        · refine bc_yes hz0 (bc_yes hz1 ⟨_, vp_snd ps j hj, ?_⟩)
          rw [List.drop_eq_nil_of_le (by omega)] at hr
          show [dI _] = [dI _]
          rw [hr]; rfl
        · have hi' : j + 1 < ps.length := by omega
          have hy0 : (0 : Int) ≤ ((j + 1 : Nat) : Int) := by omega
          have hy1 : ((j + 1 : Nat) : Int) < (ps.length : Int) := by omega
          rw [List.drop_eq_getElem_cons hi', radG, if_pos (hx hi')] at hr
          have hf := okT_fol hv j hi'
          have hd : IntKind.wrap .i64 (ps[j + 1].1 - ps[j].1) ≠ 0 := by
            obtain ⟨h1, _⟩ := okT_in hv j hj
            obtain ⟨h2, _⟩ := okT_in hv (j + 1) hi'
            have h3 := hf.1
            rw [w64 (by omega) (by omega)]
            omega
          refine bc_yes hz0 (bc_yes hz1 ⟨_, _, vp_two ps j hj, bc_yes hy0 (bc_yes hy1 ⟨_, _, vp_two ps (j + 1) hi', ?_⟩)⟩)
          simp only [load2 (vp_two ps j hj), load2 (vp_two ps (j + 1) hi'), Int.toNat_natCast, bc_t hz0, bc_t hz1, bc_t hy0, bc_t hy1, bc_n hd, true_and]
          show [dI _] = [dI _]
          rw [hr, Int.mul_comm, lin_w (okT_in hv j hj) (okT_in hv (j + 1) hi') hf (by omega) (hx hi')]
    show rrI1 _ _ x i ps.length cap (vp ps) _ _ _
    rw [rrI1_text]
    refine bc_dec (fun h => ?_) (fun h => ?_)
    · have hi' : i < ps.length := by omega
      refine bc_yes (by omega) (bc_yes h ⟨_, vp_one ps i hi', bc_dec (fun hx => ?_) (fun hx => ?_)⟩)
      · refine ⟨(i + 1, cap), ⟨by show i + 1 ≤ ps.length; omega, ?_⟩, by show ps.length - (i + 1) < ps.length - i; omega, ?_⟩
        · intro _
          refine ⟨hx, ?_⟩
          cases i with
          | zero => exact rad_gt hpos (by omega)
          | succ j =>
            have hr := (hr (show j < ps.length by omega)).2
            rw [List.drop_eq_getElem_cons hi', radG, if_neg (by omega)] at hr
            exact hr
        · rw [w64 (by omega) (by omega)]; rfl
      · show (if 0 = 0 then _ else _)
        rw [if_pos rfl]
        exact out (fun _ => by omega)
    · show (if 0 = 0 then _ else _)
      rw [if_pos rfl]
      exact out (fun h' => by omega)
/-! ### rules and slabs -/
def tabE (ps : List Pt) : Int := match tabRes ps with | [_, .val (.int _ e)] => e | _ => 0
theorem tab_e (ps : List Pt) : ∃ a, tabRes ps = [dI a, dI (tabE ps)] := by
  obtain ⟨a, e, h, _⟩ := tab_shape ps
  exact ⟨a, by rw [tabE, h]⟩
theorem tab_ok {ps : List Pt} (h0 : tabE ps = 0) : OkT ps ∧ ps.length ≤ 10 := by
  obtain ⟨a, e, h, h1⟩ := tab_shape ps
  refine h1 ?_
  rw [tabE, h] at h0; exact h0
def rulE (ps : List Pt) (m lo hi : Int) : Int := if tabE ps ≠ 0 then tabE ps else if (0 ≤ m ∧ m ≤ 50) ∧ (0 ≤ lo ∧ lo ≤ 1000) ∧ 0 ≤ hi ∧ hi ≤ 1000 then (if lo > hi then 9 else 0) else 2
abbrev dRu (ps : List Pt) (m lo hi : Int) : D := .agg [.sl ps.length 2 (vp ps), dI m, dI lo, dI hi]
abbrev dRn (m lo hi : Int) : D := .agg [.nil, dI m, dI lo, dI hi]
theorem fst0_four (a b c d : Int) : fst0 [a, b, c, d] = if a = 0 then (if b = 0 then (if c = 0 then d else c) else b) else a := by
  simp only [fst0]; repeat' split
  all_goals first | rfl | omega
theorem fst0_three (a b c : Int) : fst0 [a, b, c] = if a = 0 then (if b = 0 then c else b) else a := by
  simp only [fst0]; repeat' split
  all_goals first | rfl | omega
theorem conCR (ps : List Pt) (hl : ps.length < 1000000000) (m lo hi : Int) : C5 11 [dRu ps m lo hi] [dI (rulE ps m lo hi)] := by
  refine con_flat hokH mixed Try.func11 rfl (by show 1 ≤ 400; omega) rfl (by kernel_rfl) (fun caps => ?_)
  show gCR _ _ ps.length (caps 500) (vp ps) m lo hi _
  rw [gCR_text]
  obtain ⟨a, ha⟩ := tab_e ps
  have c1 := conCT ps hl
  rw [ha] at c1
  simp only [vp_whole, bc_t (v2le ps), eq_self, true_and]
  have c2 := concP [lo, hi] (by simp)
  rw [show limE 0 1000 (vi [lo, hi]) = _ from limE2 ..] at c2
  refine ⟨a, tabE ps, ⟨c1⟩, ?_⟩
  try simp only [eq_self, true_and]
  refine ⟨_, ⟨limC_of (limE1 0 50 m).symm⟩, ?_⟩
  try simp only [eq_self, true_and]
  refine ⟨_, ⟨c2⟩, ?_⟩
  try simp only [eq_self, true_and]
  refine ⟨_, ⟨concE lo hi⟩, ?_⟩
  try simp only [eq_self, true_and]
  refine ⟨_, ⟨conFE [tabE ps, if 0 ≤ m ∧ m ≤ 50 then 0 else 2, if (0 ≤ lo ∧ lo ≤ 1000) ∧ 0 ≤ hi ∧ hi ≤ 1000 then 0 else 2, if lo > hi then 9 else 0] (by simp)⟩, ?_⟩
  show [dI _] = [dI _]
  rw [fst0_four, rulE]
  repeat' split
  all_goals first | rfl | omega
theorem conRE (ps : List Pt) (hl : ps.length < 1000000000) (m lo hi : Int) : C5 12 [dRu ps m lo hi] [dI (rulE ps m lo hi)] := by
  refine con_flat hokH mixed Try.func12 rfl (by show 1 ≤ 400; omega) rfl (by kernel_rfl) (fun caps => ?_)
  show gRE _ _ ps.length (caps 500) (vp ps) m lo hi _
  rw [gRE_text]
  obtain ⟨a, ha⟩ := tab_e ps
  have c1 := conRT ps hl
  rw [ha] at c1
  simp only [vp_whole, bc_t (v2le ps)]
  refine ⟨a, tabE ps, ⟨c1⟩, bc_bne (fun h => ?_) (fun h => ?_)⟩
  · show _ = _; rw [rulE, if_pos h]
  · by_cases hm : 0 ≤ m ∧ m ≤ 50
    · refine .inl ⟨sayWt hm, eErr lo, ⟨conEE lo⟩, bc_bne (fun h1 => ?_) (fun h1 => ⟨eErr hi, ⟨conEE hi⟩, bc_bne (fun h2 => ?_) (fun h2 => ?_)⟩)⟩
      · show _ = _; rw [rulE, if_neg (by omega), if_neg (fun hh => h1 (eErr0.2 hh.2.1))]
      · show _ = _; rw [rulE, if_neg (by omega), if_neg (fun hh => h2 (eErr0.2 hh.2.2))]
      · rw [rulE, if_neg (by omega), if_pos ⟨hm, eErr0.1 h1, eErr0.1 h2⟩]
        refine bc_dec (fun h3 => ?_) (fun h3 => ?_)
        · show _ = _; rw [if_pos h3]
        · show _ = _; rw [if_neg h3]
    · refine .inr ⟨sayWf hm, ?_⟩
      show _ = _; rw [rulE, if_neg (by omega), if_neg (fun hh => hm hh.1)]
theorem conREn (m lo hi : Int) : C5 12 [dRn m lo hi] [dI 10] := by
  refine con_flat hokH mixed Try.func12 rfl (by show 0 ≤ 400; omega) rfl (by kernel_rfl) (fun caps => ?_)
  show gREn _ _ m lo hi _
  rw [gREn_text]
  exact ⟨0, 10, ⟨conRTn⟩, bc_true (by simp) rfl⟩
def slE (l : List Int) (bo : Int) : Int := if l.length < 2 then 10 else if 8 < l.length then 8 else if (∀ z ∈ l, 0 ≤ z ∧ z ≤ 20000) ∧ 0 ≤ bo ∧ bo ≤ 1000 then 0 else 2
abbrev dSl (l : List Int) (bo : Int) : D := .agg [.sl l.length 1 (vi l), dI bo]
abbrev dSn (bo : Int) : D := .agg [.nil, dI bo]
theorem conCS (l : List Int) (hl : l.length < 1000000000) (bo : Int) : C5 13 [dSl l bo] [dI (slE l bo)] := by
  refine con_flat hokH mixed Try.func13 rfl (by show 1 ≤ 400; omega) rfl (by kernel_rfl) (fun caps => ?_)
  show gCS _ _ l.length (caps 500) (vi l) bo _
  rw [gCS_text]
  refine bc_dec (fun h => ?_) (fun h => bc_dec (fun h2 => ?_) (fun h2 => ?_))
  · show _ = _; rw [slE, if_pos (by omega)]
  · show _ = _; rw [slE, if_neg (by omega), if_pos (by omega)]
  · have c1 := concT l hl
    rw [limE_all] at c1
    simp only [vi_whole, bc_t (v1le l), eq_self, true_and]
    refine ⟨_, ⟨c1⟩, ?_⟩
    try simp only [eq_self, true_and]
    refine ⟨eErr bo, ⟨concP1 bo⟩, ?_⟩
    try simp only [eq_self, true_and]
    refine ⟨_, ⟨conFE [if ∀ z ∈ l, 0 ≤ z ∧ z ≤ 20000 then 0 else 2, eErr bo] (by simp)⟩, ?_⟩
    have e : fst0 [if ∀ z ∈ l, 0 ≤ z ∧ z ≤ 20000 then 0 else 2, eErr bo] = slE l bo := by
      rw [fst0_two, slE, if_neg (show ¬ l.length < 2 by omega), if_neg (show ¬ 8 < l.length by omega)]
      by_cases h3 : ∀ z ∈ l, 0 ≤ z ∧ z ≤ 20000
      · by_cases h4 : 0 ≤ bo ∧ bo ≤ 1000
        · rw [if_pos h3, if_pos rfl, if_pos ⟨h3, h4⟩, eErr, if_pos h4]
        · rw [if_pos h3, if_pos rfl, if_neg (fun hh => h4 hh.2), eErr, if_neg h4]
      · rw [if_neg h3, if_neg (by omega), if_neg (fun hh => h3 hh.1)]
    show [dI _] = [dI _]
    rw [← e]
theorem conSE (l : List Int) (hl : l.length < 1000000000) (bo : Int) : C5 14 [dSl l bo] [dI (slE l bo)] := by
  let inv : Nat × Nat → Prop := fun x => x.1 ≤ l.length ∧ 2 ≤ l.length ∧ l.length ≤ 8 ∧ ∀ z ∈ l.take x.1, 0 ≤ z ∧ z ≤ 20000
  let st : Nat × Nat → Slots × Blocks := fun x => zSE1 x.1 l.length x.2 bo (vi l)
  refine con_of (L := fun _ s b => ∃ x, inv x ∧ st x = (s, b)) hokH mixed Try.func14 rfl (by show 1 ≤ 400; omega) rfl (ids := [0]) (by kernel_rfl) rfl (fun caps => ?_) (fun id hid => ?_)
  · show gSE _ _ l.length (caps 500) (vi l) bo _
    rw [gSE_text]
    refine bc_dec (fun h => ?_) (fun h => bc_dec (fun h2 => ?_) (fun h2 => ?_))
    · show _ = _; rw [slE, if_pos (by omega)]
    · show _ = _; rw [slE, if_neg (by omega), if_pos (by omega)]
    · exact ⟨(0, caps 500), ⟨Nat.zero_le _, by omega, by omega, by simp⟩, rfl⟩
  · obtain rfl := List.mem_singleton.1 hid
    refine ⟨Nat × Nat, st, inv, fun x => l.length - x.1, ⟨fun s b h => h, by kernel_rfl, ?_⟩⟩
    rintro ⟨i, cap⟩ ⟨hi, h2, h8, ha⟩
    simp only at hi ha
    show rSE1 _ _ i l.length cap bo (vi l) _ _ _
    rw [rSE1_text]
    refine bc_dec (fun h => ?_) (fun h => ?_)
    · have hi' : i < l.length := by omega
      simp only [bc_t h, bc_t (show (0 : Int) ≤ (i : Int) by omega), Int.toNat_natCast, at1 (vi_at l i hi')]
      refine ⟨tErr l[i], ⟨conTE _⟩, bc_bne (fun h1 => ?_) (fun h1 => ?_)⟩
      · show [dI _] = [dI _]
        have hn : ¬ ∀ z ∈ l, 0 ≤ z ∧ z ≤ 20000 := fun hh => h1 (tErr0.2 (hh _ (List.getElem_mem hi')))
        rw [slE, if_neg (by omega), if_neg (by omega), if_neg (fun hh => hn hh.1)]
        rcases tErr_or l[i] with h | h
        · exact absurd h h1
        · rw [h]
      · refine ⟨(i + 1, cap), ⟨hi', h2, h8, ?_⟩, by show l.length - (i + 1) < l.length - i; omega, ?_⟩
        · intro z hz
          rw [List.take_succ_eq_append_getElem hi'] at hz
          rcases List.mem_append.1 hz with h | h
          · exact ha z h
          · rw [List.mem_singleton.1 h]; exact tErr0.1 h1
        · rw [w64 (by omega) (by omega)]; rfl
    · show (if 0 = 0 then _ else _)
      rw [if_pos rfl]
      show nSE2 _ _ l.length cap bo (vi l) _
      rw [nSE2_text]
      have hall : ∀ z ∈ l, 0 ≤ z ∧ z ≤ 20000 := by
        rw [List.take_of_length_le (by omega)] at ha; exact ha
      rw [slE, if_neg (by omega), if_neg (by omega)]
      by_cases hb : 0 ≤ bo ∧ bo ≤ 1000
      · rw [if_pos ⟨hall, hb⟩]; exact .inl ⟨sayWt hb, rfl⟩
      · rw [if_neg (fun hh => hb hh.2)]; exact .inr ⟨sayWf hb, rfl⟩
theorem conSEn (bo : Int) : C5 14 [dSn bo] [dI 10] := by
  refine con_of (L := fun _ _ _ => False) hokH mixed Try.func14 rfl (by show 0 ≤ 400; omega) rfl (ids := [0]) (by kernel_rfl) rfl (fun caps => ?_) (fun id hid => ?_)
  · show gSEn _ _ bo _
    rw [gSEn_text]
  · obtain rfl := List.mem_singleton.1 hid
    exact ⟨Unit, fun _ => (default, []), fun _ => False, fun _ => 0, ⟨fun s b h => h.elim, by kernel_rfl, fun x h => h.elim⟩⟩
theorem sl_ok {l : List Int} {bo : Int} (h : slE l bo = 0) : 2 ≤ l.length ∧ l.length ≤ 8 ∧ (∀ z ∈ l, 0 ≤ z ∧ z ≤ 20000) ∧ 0 ≤ bo ∧ bo ≤ 1000 := by
  unfold slE at h
  split at h
  · omega
  · split at h
    · omega
    · split at h
      · rename_i hh; exact ⟨by omega, by omega, hh.1, hh.2⟩
      · omega
theorem rul_ok {ps : List Pt} {m lo hi : Int} (h : rulE ps m lo hi = 0) : (OkT ps ∧ ps.length ≤ 10) ∧ 0 ≤ m ∧ m ≤ 50 := by
  unfold rulE at h
  split at h
  · omega
  · split at h
    · rename_i h1 h2; exact ⟨tab_ok (by omega), h2.1⟩
    · omega
/-! ### means -/
end Go.Proofs.G5h

/- Chapter 2, heating: a step, in data. -/
namespace Go.Proofs.G5h
open Go Go.Abs Go.Proofs Go.Proofs.G2
set_option maxRecDepth 100000
theorem em_bd {em a b : Int} (he : 0 ≤ em ∧ em ≤ 1000) (ha : 0 ≤ a ∧ a ≤ 20000) (hb : 0 ≤ b ∧ b ≤ 20000) : -20000000 ≤ em * (a - b) ∧ em * (a - b) ≤ 20000000 := by
  have h1 := Int.mul_le_mul_of_nonneg_left (show a - b ≤ 20000 by omega) he.1
  have h2 := Int.mul_le_mul_of_nonneg_left (show -20000 ≤ a - b by omega) he.1
  omega
theorem bo_bd {g bo : Int} (hg : -20000000 ≤ g ∧ g ≤ 20000000) (hb : 0 ≤ bo ∧ bo ≤ 1000) : -20000000000 ≤ g * bo ∧ g * bo ≤ 20000000000 := by
  have h1 := Int.mul_le_mul_of_nonneg_right hg.2 hb.1
  have h2 := Int.mul_le_mul_of_nonneg_right hg.1 hb.1
  omega
theorem div_in {x k B : Int} (hk : 0 < k) (h : -(B * k) ≤ x ∧ x ≤ B * k) : -B ≤ x / k ∧ x / k ≤ B := by
  refine ⟨(Int.le_ediv_iff_mul_le hk).2 (by rw [Int.neg_mul]; exact h.1), ?_⟩
  have := Int.ediv_le_ediv hk h.2
  rwa [Int.mul_ediv_cancel _ (by omega)] at this
end Go.Proofs.G5h

/- Chapter 2, heating: steps of slabs, in data. -/
namespace Go.Proofs.G5h
open Go Go.Abs Go.Proofs Go.Proofs.G2
set_option maxRecDepth 100000
theorem set0 (l : List Int) (v : Int) (h : 0 < l.length) : (vI v :: List.drop (0 + [vI v].length) (vi l)) = vi (l.set 0 v) := by
  cases l with
  | nil => simp at h
  | cons x r => rfl
theorem vi_take {l : List Int} {n : Nat} (h : l.length = n) : List.take (n * 1) (List.drop 0 (vi l)) = vi l := by subst h; exact vi_whole l
theorem w_last {n : Nat} (h : 0 < n) (h2 : n < 1000000000) : IntKind.wrap .i64 ((n : Int) - 1) = ((n - 1 : Nat) : Int) := by rw [w64 (by omega) (by omega)]; omega
theorem first_good {ps : List Pt} {em set bo : Int} (hv : OkT ps) (he : 0 ≤ em ∧ em ≤ 1000) (hb : 0 ≤ bo ∧ bo ≤ 1000) (hs : 0 ≤ set ∧ set ≤ 20000) {l : List Int} (hg : ∀ z ∈ l, 0 ≤ z ∧ z ≤ 20000) {i : Nat} (hi : i < l.length) : 0 ≤ gd (firstL ps em set bo l) i ∧ gd (firstL ps em set bo l) i ≤ 20000 :=
  first_in (mix := 0) ⟨hv, by decide, he, hb⟩ hs (fun j hj => hg _ (gd_mem hj)) hi
/-- the error of a step -/
def heE (ps : List Pt) (m lo hi : Int) (l : List Int) (bo em set : Int) : Int := fst0 [fst0 [rulE ps m lo hi, slE l bo], eErr em, tErr set]
theorem he_ok {ps : List Pt} {m lo hi : Int} {l : List Int} {bo em set : Int} (h : heE ps m lo hi l bo em set = 0) : rulE ps m lo hi = 0 ∧ slE l bo = 0 ∧ eErr em = 0 ∧ tErr set = 0 := by
  unfold heE at h
  rw [fst0_three, fst0_two] at h
  by_cases h1 : rulE ps m lo hi = 0
  · rw [if_pos h1] at h
    by_cases h2 : slE l bo = 0
    · rw [if_pos h2] at h
      by_cases h3 : eErr em = 0
      · rw [if_pos h3] at h; exact ⟨h1, h2, h3, h⟩
      · rw [if_neg h3] at h; exact absurd h h3
    · rw [if_neg h2] at h; exact absurd h h2
  · rw [if_neg h1, if_neg h1] at h; exact absurd h h1
theorem conHe (ps : List Pt) (hp : ps.length < 1000000000) (m lo hi : Int) (l : List Int) (hl : l.length < 1000000) (bo em set : Int) :
    C5 7 [dRu ps m lo hi, dSl l bo, .agg [dI em, dI set]] (if heE ps m lo hi l bo em set = 0 then [dSl (stepL ps m em set bo l) bo, dI 0] else [dSn 0, dI (heE ps m lo hi l bo em set)]) := by
  refine con_walk hokH mixed (u := 8) (by decide) Try.func7 rfl (by show 2 ≤ 400; omega) (fun caps => ?_)
  show gHe _ ps.length (caps 500) (vp ps) m lo hi l.length (caps 501) (vi l) bo em set _
  rw [gHe_text]
  simp only [vp_whole, vi_whole, bc_t (v2le ps), bc_t (v1le l), eq_self, true_and, and_true]
  refine ⟨_, ⟨conCR ps hp m lo hi⟩, _, ⟨conCS l (by omega) bo⟩, ?_⟩
  refine ⟨_, ⟨conFE [rulE ps m lo hi, slE l bo] (by simp)⟩, ?_⟩
  refine bc_bne (fun h => ?_) (fun h => ?_)
  · refine ⟨_, ⟨concP1 em⟩, _, ⟨concT1 set⟩, _, ⟨conFE [fst0 [rulE ps m lo hi, slE l bo], eErr em, tErr set] (by simp)⟩, ?_⟩
    have hne : heE ps m lo hi l bo em set ≠ 0 := by
      unfold heE; rw [fst0_three, if_neg h]; exact h
    refine bc_bne (fun _ => ?_) (fun h0 => absurd h0 hne)
    show _ = _; rw [if_neg hne]; rfl
  · refine ⟨⟨conCl l (by omega)⟩, ?_⟩
    refine ⟨_, ⟨concP1 em⟩, _, ⟨concT1 set⟩, _, ⟨conFE [0, eErr em, tErr set] (by simp)⟩, ?_⟩
    have hE : heE ps m lo hi l bo em set = fst0 [0, eErr em, tErr set] := by unfold heE; rw [h]
    refine bc_bne (fun h1 => ?_) (fun h1 => ?_)
    · show _ = _; rw [if_neg (by rw [hE]; exact h1), hE]
    · rw [← hE] at h1
      obtain ⟨e1, e2, e3, e4⟩ := he_ok h1
      obtain ⟨⟨hv, hl10⟩, hm⟩ := rul_ok e1
      obtain ⟨h2, h8, hg, hb⟩ := sl_ok e2
      have he := eErr0.1 e3
      have hs := tErr0.1 e4
      have hp0 : (0 : Int) < (l.length : Int) := by omega
      have z0 : (0 : Int) ≤ ((l.length - 1 : Nat) : Int) := by omega
      have z1 : ((l.length - 1 : Nat) : Int) < (l.length : Int) := by omega
      have g0 := hg _ (gd_mem (l := l) (i := 0) (by omega))
      have g1 := hg _ (gd_mem (l := l) (i := l.length - 1) (by omega))
      have a0 : At (vi l) 0 1 [vI (gd l 0)] := at_gd (i := 0) (by omega)
      have r1 := rad_in hv set
      have r2 := rad_in hv (gd l 0)
      have r3 := rad_in hv (gd l (l.length - 1))
      have b1 := em_bd he r1 r2
      have b2 := bo_bd b1 hb
      have b3 := div_in (x := em * (rad set ps - rad (gd l 0) ps) * bo) (k := 1000000) (B := 20000) (by decide) (by omega)
      have b4 := em_bd he r1 r3
      have b5 := bo_bd b4 (bo := 1000) (by decide)
      have b6 := div_in (x := em * (rad set ps - rad (gd l (l.length - 1)) ps) * 1000) (k := 1000000) (B := 20000) (by decide) (by omega)
      simp only [w_last (show 0 < l.length by omega) (by omega), bc_t hp0, bc_t z0, bc_t z1, Int.toNat_natCast, at1 a0, eq_self, true_and, and_true]
      refine ⟨_, ⟨conrI hv hl10 set⟩, _, ⟨conrI hv hl10 (gd l 0)⟩, ?_⟩
      rw [w64 (z := rad set ps - rad (gd l 0) ps) (by omega) (by omega), w64 (z := em * (rad set ps - rad (gd l 0) ps)) (by omega) (by omega), w64 (z := em * (rad set ps - rad (gd l 0) ps) * bo) (by omega) (by omega)]
      refine ⟨_, ⟨conQu _ 1000000 (by omega) (by omega)⟩, ?_⟩
      rw [w64 (z := gd l 0 + em * (rad set ps - rad (gd l 0) ps) * bo / 1000000) (by omega) (by omega), set0 _ _ (by omega)]
      have a1 : At (vi (l.set 0 (gd l 0 + em * (rad set ps - rad (gd l 0) ps) * bo / 1000000))) (0 + (l.length - 1) * 1) 1 [vI (gd l (l.length - 1))] := by
        have := at_gd (l := l.set 0 (gd l 0 + em * (rad set ps - rad (gd l 0) ps) * bo / 1000000)) (i := l.length - 1) (by simp; omega)
        rwa [gd_set (by omega), if_neg (by omega)] at this
      simp only [at1 a1]
      refine bc_yes (by simp; omega) ?_
      refine ⟨trivial, _, ⟨conrI hv hl10 (gd l (l.length - 1))⟩, ?_⟩
      rw [w64 (z := rad set ps - rad (gd l (l.length - 1)) ps) (by omega) (by omega), w64 (z := em * (rad set ps - rad (gd l (l.length - 1)) ps)) (by omega) (by omega), w64 (z := em * (rad set ps - rad (gd l (l.length - 1)) ps) * 1000) (by omega) (by omega)]
      refine ⟨_, ⟨conQu _ 1000000 (by omega) (by omega)⟩, ?_⟩
      rw [w64 (z := gd l (l.length - 1) + em * (rad set ps - rad (gd l (l.length - 1)) ps) * 1000 / 1000000) (by omega) (by omega)]
      refine bc_yes (by simp; omega) ?_
      rw [listSet_vi _ _ _ (by simp; omega)]
      refine ⟨firstL ps em set bo l, rfl, by simp, by simp; omega, by simp; omega, hm.1, hm.2, ⟨?_⟩, ?_⟩
      · intro z hz
        obtain ⟨i, hi, rfl⟩ := List.getElem_of_mem hz
        rw [gd_at hi]
        have := first_good hv he hb hs hg (by simpa using hi); omega
      · refine ⟨by simp [firstL], ?_⟩
        show [D.agg [D.sl l.length 1 _, _], _] = _
        rw [if_pos h1]
        show _ = [D.agg [D.sl (stepL ps m em set bo l).length 1 _, _], _]
        rw [stepL_length]; rfl
/-- the error of rules, then of a slab -/
def both (a b : Int) : Int := if a ≠ 0 then a else b
theorem conbE (ps : List Pt) (hp : ps.length < 1000000000) (m lo hi : Int) (l : List Int) (hl : l.length < 1000000000) (bo : Int) : C5 16 [dRu ps m lo hi, dSl l bo] [dI (both (rulE ps m lo hi) (slE l bo))] := by
  refine con_flat hokH mixed Try.func16 rfl (by show 2 ≤ 400; omega) rfl (by kernel_rfl) (fun caps => ?_)
  show gbE _ _ ps.length (caps 500) (vp ps) m lo hi l.length (caps 501) (vi l) bo _
  rw [gbE_text]
  simp only [vp_whole, vi_whole, bc_t (v2le ps), bc_t (v1le l)]
  refine ⟨_, ⟨conRE ps hp m lo hi⟩, bc_bne (fun h => ?_) (fun h => ⟨_, ⟨conSE l hl bo⟩, ?_⟩)⟩
  · show _ = _; rw [both, if_pos h]
  · show _ = _; rw [both, if_neg (by omega)]
theorem conbE1 (ps : List Pt) (hp : ps.length < 1000000000) (m lo hi bo : Int) : C5 16 [dRu ps m lo hi, dSn bo] [dI (both (rulE ps m lo hi) 10)] := by
  refine con_flat hokH mixed Try.func16 rfl (by show 1 ≤ 400; omega) rfl (by kernel_rfl) (fun caps => ?_)
  show gbE1 _ _ ps.length (caps 500) (vp ps) m lo hi bo _
  rw [gbE1_text]
  simp only [vp_whole, bc_t (v2le ps)]
  refine ⟨_, ⟨conRE ps hp m lo hi⟩, bc_bne (fun h => ?_) (fun h => ⟨_, ⟨conSEn bo⟩, ?_⟩)⟩
  · show _ = _; rw [both, if_pos h]
  · show _ = _; rw [both, if_neg (by omega)]
theorem conbE2 (m lo hi : Int) (l : List Int) (bo : Int) : C5 16 [dRn m lo hi, dSl l bo] [dI 10] := by
  refine con_flat hokH mixed Try.func16 rfl (by show 1 ≤ 400; omega) rfl (by kernel_rfl) (fun caps => ?_)
  show gbE2 _ _ m lo hi l.length (caps 500) (vi l) bo _
  rw [gbE2_text]
  try simp only [eq_self, true_and, and_true]
  exact ⟨_, ⟨conREn m lo hi⟩, bc_true (by simp) rfl⟩
theorem conbE3 (m lo hi bo : Int) : C5 16 [dRn m lo hi, dSn bo] [dI 10] := by
  refine con_flat hokH mixed Try.func16 rfl (by show 0 ≤ 400; omega) rfl (by kernel_rfl) (fun caps => ?_)
  show gbE3 _ _ m lo hi bo _
  rw [gbE3_text]
  try simp only [eq_self, true_and, and_true]
  exact ⟨_, ⟨conREn m lo hi⟩, bc_true (by simp) rfl⟩
/-! ### copies -/
theorem conYr (ps : List Pt) (hl : ps.length ≤ 1000000) (m lo hi : Int) : C5 8 [dRu ps m lo hi] [dRu ps m lo hi] := by
  refine con_flat hokE mixed Try.func8 rfl (by show 1 ≤ 400; omega) rfl (by kernel_rfl) (fun caps => ?_)
  show gYr _ _ ps.length (caps 500) (vp ps) m lo hi _
  rw [gYr_text]
  try simp only [eq_self, true_and, and_true]
  refine bc_yes (by simp) (bc_beq (fun h0 => ?_) (fun h0 => bc_yes (by omega) (bc_yes (by omega) (bc_yes (by omega) ⟨by simp, ?_⟩))))
  · obtain rfl : ps = [] := List.length_eq_zero_iff.1 h0
    rfl
  · rw [vp_whole, Nat.zero_add, List.nil_append]
theorem conYs (l : List Int) (hl : l.length ≤ 1000000) (bo : Int) : C5 9 [dSl l bo] [dSl l bo] := by
  refine con_flat hokE mixed Try.func9 rfl (by show 1 ≤ 400; omega) rfl (by kernel_rfl) (fun caps => ?_)
  show gYs _ _ l.length (caps 500) (vi l) bo _
  rw [gYs_text]
  try simp only [eq_self, true_and, and_true]
  refine bc_yes (by simp) (bc_beq (fun h0 => ?_) (fun h0 => bc_yes (by omega) (bc_yes (by omega) (bc_yes (by omega) ⟨by simp, ?_⟩))))
  · obtain rfl : l = [] := List.length_eq_zero_iff.1 h0
    rfl
  · rw [vi_whole, Nat.zero_add, List.nil_append]
end Go.Proofs.G5h

/- awake of chapter 2, for every tape. -/
namespace Go.Proofs.G5h
open Go Go.Abs Go.Proofs
set_option maxRecDepth 100000
theorem tab0_ok : TabOK Try.prog (fun _ => none) := fun _ _ h => by cases h
theorem runA : ∀ caps, runOK Try.prog (fun _ => none) 1000 5 [] [.val (.bool true)] caps = true := by intro caps; kernel_rfl
theorem conA : C5 5 [] [.val (.bool true)] := con_run tab0_ok mixed (by show 0 ≤ 400; omega) runA
end Go.Proofs.G5h

/- Short names for what stands often in printed texts of laws. -/
namespace Go.Abs
abbrev Tk (n k : Nat) (l : List Value) : List Value := List.take (n * k) (List.drop 0 l)
abbrev Dw (n k : Nat) (l : List Value) : D := .sl n k (Tk n k l)
abbrev dL (n k : Nat) (l : List Value) : Bool := decide (0 + n * k ≤ List.length l)
abbrev kT : List D := [.val (.bool true)]
abbrev kF : List D := [.val (.bool false)]
abbrev Qu : Prop := Value.tuple [].toArray = Value.tuple [].toArray
abbrev Qf : Prop := Value.bool false = Value.bool false
abbrev Qb : Prop := Value.bool true = Value.bool true
abbrev Qft : Prop := Value.bool false = Value.bool true
abbrev Qtf : Prop := Value.bool true = Value.bool false
end Go.Abs

/- What is left to show of each function, written out; the kernel reckons it. -/
namespace Go.Proofs.G5h
open Go Go.Abs Go.Proofs
set_option maxRecDepth 100000
set_option linter.unusedVariables false
end Go.Proofs.G5h

/- FurnaceSteps in data. -/
namespace Go.Proofs.G5h
open Go Go.Abs Go.Proofs Go.Proofs.G2
set_option maxRecDepth 100000
theorem bc_nf {a : Int} {x y : Prop} : bcase (a != a) x y = y := by rw [show (a != a) = false by simp]; rfl
theorem bc_qt {a : Int} {x y : Prop} : bcase (a == a) x y = x := by rw [show (a == a) = true by simp]; rfl
end Go.Proofs.G5h

/- What is left to show of each function, written out; the kernel reckons it. -/
namespace Go.Proofs.G5h
open Go Go.Abs Go.Proofs
set_option maxRecDepth 100000
set_option linter.unusedVariables false
end Go.Proofs.G5h

/- What is left to show of each function, written out; the kernel reckons it. -/
namespace Go.Proofs.G5h
open Go Go.Abs Go.Proofs
set_option maxRecDepth 100000
set_option linter.unusedVariables false
end Go.Proofs.G5h

/- What is left to show of each function, written out; the kernel reckons it. -/
namespace Go.Proofs.G5h
open Go Go.Abs Go.Proofs
set_option maxRecDepth 100000
set_option linter.unusedVariables false
end Go.Proofs.G5h

/- FurnaceSteps in data: a slab without nodes, a table without points. -/
namespace Go.Proofs.G5h
open Go Go.Abs Go.Proofs Go.Proofs.G2
set_option maxRecDepth 100000
theorem both_ne {a b : Int} (h : b ≠ 0) : both a b ≠ 0 := by unfold both; split <;> assumption
end Go.Proofs.G5h

/- What is left to show of each function, written out; the kernel reckons it. -/
namespace Go.Proofs.G5h
open Go Go.Abs Go.Proofs
set_option maxRecDepth 100000
set_option linter.unusedVariables false
def gLwsss (C : Ct) (L : AtLoop) (n0 : Nat) (c0 : Nat) (l0 : List Value) (x1 : Int) (x2 : Int) (x3 : Int) (n4 : Nat) (c4 : Nat) (l4 : List Value) (x5 : Int) (n6 : Nat) (c6 : Nat) (l6 : List Value) (x7 : Int) (x8 : Int) (x9 : Int) (x10 : Int) (k : List D → Prop) : Prop := wpFn Try.prog (hH C) L 0 4 #[.agg #[.slice (some ⟨500, 0, none⟩) n0 c0, .int .i64 x1, .int .i64 x2, .int .i64 x3], .agg #[.slice (some ⟨501, 0, none⟩) n4 c4, .int .i64 x5, .slice (some ⟨502, 0, none⟩) n6 c6, .int .i64 x7, .int .i64 x8, .int .i64 x9, .int .i64 x10]] (heapOf [(500, .sym l0 false 2), (501, .sym l4 false 1), (502, .sym l6 false 1)]) (dataK k)
theorem gLwsss_text (C : Ct) (L : AtLoop) (n0 : Nat) (c0 : Nat) (l0 : List Go.Value) (x1 : Int) (x2 : Int) (x3 : Int) (n4 : Nat) (c4 : Nat) (l4 : List Go.Value) (x5 : Int) (n6 : Nat) (c6 : Nat) (l6 : List Go.Value) (x7 : Int) (x8 : Int) (x9 : Int) (x10 : Int) (k : List D → Prop) : gLwsss C L n0 c0 l0 x1 x2 x3 n4 c4 l4 x5 n6 c6 l6 x7 x8 x9 x10 k =
 (((Says C 5 [] kT) ∧
 (bcase (decide ((↑n0 : Int) ≤ 12))
 (bcase (decide ((↑n4 : Int) ≤ 10))
 (bcase (decide ((↑n0 : Int) ≤ 12))
 (bcase (decide ((↑n6 : Int) ≤ 10))
 (bcase (dL n0 2 l0)
 (bcase (dL n4 1 l4)
 (∃ n1 : Int,
 ((Says C 16 [(D.agg [(Dw n0 2 l0), (dI x1), (dI x2), (dI x3)]), (D.agg [(Dw n4 1 l4), (dI x5)])] [(dI n1)]) ∧
 (bcase (n1 != 0)
 (k kT)
 (bcase (dL n6 1 l6)
 (∃ n2 : Int,
 ((Says C 14 [(D.agg [(Dw n6 1 l6), (dI x7)])] [(dI n2)]) ∧
 (bcase (n2 != 0)
 (k kT)
 (∃ n3 : Int,
 ((Says C 17 [(dI x10)] [(dI n3)]) ∧
 (bcase (n3 != 0)
 (k kT)
 (∃ n5 : Int,
 ((Says C 18 [(dI x8)] [(dI n5)]) ∧
 (bcase (n5 != 0)
 (k kT)
 (∃ n7 : Int,
 ((Says C 18 [(dI x9)] [(dI n7)]) ∧
 (bcase (n7 != 0)
 (k kT)
 (bcase ((↑n4 : Int) != (↑n6 : Int))
 (k kT)
 (bcase (x5 != x7)
 (k kT)
 (bcase (decide (x8 > x9))
 (k kT)
 (((Qv (vI x8)) ∧
 ((Qv (Pt 1001 4)) ∧
 ((Qv (vI x8)) ∧
 ((Qv (Pt 1001 4)) ∧
 True)))) ∧
 (((Qv (vI x8)) ∧
 ((Qv (Pt 1001 4)) ∧
 True)) ∧
 (True ∧
 (L 0 [(Prod.mk 2 (Pt 1000 0)), (Prod.mk 3 (Pt 1001 0)), (Prod.mk 5 (vI x8)), (Prod.mk 6 (vI x8)), (Prod.mk 7 (vI 0))] [(Prod.mk 1000 (AObj.cells [(Sl 500 (n0) (c0)), (vI x1), (vI x2), (vI x3)] 28 false 1)), (Prod.mk 1001 (AObj.cells [(Sl 501 (n4) (c4)), (vI x5), (Sl 502 (n6) (c6)), (vI x7), (vI x8), (vI x9), (vI x10)] 56 false 1)), (Prod.mk 500 (AObj.sym (l0) false 2)), (Prod.mk 501 (AObj.sym (l4) false 1)), (Prod.mk 502 (AObj.sym (l6) false 1))])))))))))))))))))))
 False))))
 False)
 False)
 (k kT))
 (k kT))
 (k kT))
 (k kT))) ∨
 ((Says C 5 [] kF) ∧
 (k kF))) := by kernel_rfl
abbrev zLwsss1 (x0 : Int) (x1 : Int) (x2 : Int) (n3 : Nat) (c4 : Nat) (x5 : Int) (x6 : Int) (x7 : Int) (n8 : Nat) (c9 : Nat) (x10 : Int) (n11 : Nat) (c12 : Nat) (x13 : Int) (x14 : Int) (x15 : Int) (x16 : Int) (l17 : List Value) (l18 : List Value) (l19 : List Value) : Slots × Blocks := ([(2, (Value.pointer (some ⟨1000, 0, none⟩))), (3, (Value.pointer (some ⟨1001, 0, none⟩))), (5, (Value.int .i64 x0)), (6, (Value.int .i64 x1)), (7, (Value.int .i64 x2))], [(1000, (AObj.cells [(Value.slice (some ⟨500, 0, none⟩) n3 c4), (Value.int .i64 x5), (Value.int .i64 x6), (Value.int .i64 x7)] 28 false 1)), (1001, (AObj.cells [(Value.slice (some ⟨501, 0, none⟩) n8 c9), (Value.int .i64 x10), (Value.slice (some ⟨502, 0, none⟩) n11 c12), (Value.int .i64 x13), (Value.int .i64 x14), (Value.int .i64 x15), (Value.int .i64 x16)] 56 false 1)), (500, (AObj.sym l17 false 2)), (501, (AObj.sym l18 false 1)), (502, (AObj.sym l19 false 1))])
def rLwsss1 (C : Ct) (L : AtLoop) (x0 : Int) (x1 : Int) (x2 : Int) (n3 : Nat) (c4 : Nat) (x5 : Int) (x6 : Int) (x7 : Int) (n8 : Nat) (c9 : Nat) (x10 : Int) (n11 : Nat) (c12 : Nat) (x13 : Int) (x14 : Int) (x15 : Int) (x16 : Int) (l17 : List Value) (l18 : List Value) (l19 : List Value) (B : Bx) (X : Xx) (k : List D → Prop) : Prop := wpRound Try.prog (hH C) L 4 0 [(2, (Value.pointer (some ⟨1000, 0, none⟩))), (3, (Value.pointer (some ⟨1001, 0, none⟩))), (5, (Value.int .i64 x0)), (6, (Value.int .i64 x1)), (7, (Value.int .i64 x2))] [(1000, (AObj.cells [(Value.slice (some ⟨500, 0, none⟩) n3 c4), (Value.int .i64 x5), (Value.int .i64 x6), (Value.int .i64 x7)] 28 false 1)), (1001, (AObj.cells [(Value.slice (some ⟨501, 0, none⟩) n8 c9), (Value.int .i64 x10), (Value.slice (some ⟨502, 0, none⟩) n11 c12), (Value.int .i64 x13), (Value.int .i64 x14), (Value.int .i64 x15), (Value.int .i64 x16)] 56 false 1)), (500, (AObj.sym l17 false 2)), (501, (AObj.sym l18 false 1)), (502, (AObj.sym l19 false 1))] B X (dataK k)
theorem rLwsss1_text (C : Ct) (L : AtLoop) (x0 : Int) (x1 : Int) (x2 : Int) (n3 : Nat) (c4 : Nat) (x5 : Int) (x6 : Int) (x7 : Int) (n8 : Nat) (c9 : Nat) (x10 : Int) (n11 : Nat) (c12 : Nat) (x13 : Int) (x14 : Int) (x15 : Int) (x16 : Int) (l17 : List Go.Value) (l18 : List Go.Value) (l19 : List Go.Value) (B : Bx) (X : Xx) (k : List D → Prop) : rLwsss1 C L x0 x1 x2 n3 c4 x5 x6 x7 n8 c9 x10 n11 c12 x13 x14 x15 x16 l17 l18 l19 B X k =
 (bcase (decide (x2 < (↑n8 : Int)))
 (bcase (decide (0 ≤ x2))
 (bcase (decide (x2 < (↑n8 : Int)))
 (∃ n1 : Int,
 ((At (l18) (0 + Int.toNat x2 * 1) 1 [(vI n1)]) ∧
 (bcase (decide (0 ≤ x2))
 (bcase (decide (x2 < (↑n11 : Int)))
 (∃ n2 : Int,
 ((At (l19) (0 + Int.toNat x2 * 1) 1 [(vI n2)]) ∧
 (bcase (decide (n1 > n2))
 (((bcase (decide (n1 > n2))
 Qb
 Qft) ∧
 ((∃ n4 : Int,
 ((At (l19) (0 + Int.toNat x2 * 1) 1 [(vI n4)]) ∧
 ((vI n4) = (vI n2)))) ∧
 ((bcase (decide (0 ≤ x2))
 (bcase (decide (x2 < (↑n11 : Int)))
 (Qv (Pt 502 (0 + Int.toNat x2 * 1)))
 False)
 False) ∧
 ((Qv (vI x2)) ∧
 ((Qv (Sl 502 (n11) (c12))) ∧
 ((Qv (Pt 1001 2)) ∧
 ((Qv (Pt 1001 2)) ∧
 ((∃ n4 : Int,
 ((At (l18) (0 + Int.toNat x2 * 1) 1 [(vI n4)]) ∧
 ((vI n4) = (vI n1)))) ∧
 ((bcase (decide (0 ≤ x2))
 (bcase (decide (x2 < (↑n8 : Int)))
 (Qv (Pt 501 (0 + Int.toNat x2 * 1)))
 False)
 False) ∧
 ((Qv (vI x2)) ∧
 ((Qv (Sl 501 (n8) (c9))) ∧
 ((Qv (Pt 1001 0)) ∧
 ((Qv (Pt 1001 0)) ∧
 True))))))))))))) ∧
 (k kT))
 (((bcase (decide (n1 > n2))
 Qtf
 Qf) ∧
 ((∃ n4 : Int,
 ((At (l19) (0 + Int.toNat x2 * 1) 1 [(vI n4)]) ∧
 ((vI n4) = (vI n2)))) ∧
 ((bcase (decide (0 ≤ x2))
 (bcase (decide (x2 < (↑n11 : Int)))
 (Qv (Pt 502 (0 + Int.toNat x2 * 1)))
 False)
 False) ∧
 ((Qv (vI x2)) ∧
 ((Qv (Sl 502 (n11) (c12))) ∧
 ((Qv (Pt 1001 2)) ∧
 ((Qv (Pt 1001 2)) ∧
 ((∃ n4 : Int,
 ((At (l18) (0 + Int.toNat x2 * 1) 1 [(vI n4)]) ∧
 ((vI n4) = (vI n1)))) ∧
 ((bcase (decide (0 ≤ x2))
 (bcase (decide (x2 < (↑n8 : Int)))
 (Qv (Pt 501 (0 + Int.toNat x2 * 1)))
 False)
 False) ∧
 ((Qv (vI x2)) ∧
 ((Qv (Sl 501 (n8) (c9))) ∧
 ((Qv (Pt 1001 0)) ∧
 ((Qv (Pt 1001 0)) ∧
 True))))))))))))) ∧
 (bcase (decide (0 ≤ x2))
 (bcase (decide (x2 < (↑n8 : Int)))
 (∃ n4 : Int,
 ((At (l18) (0 + Int.toNat x2 * 1) 1 [(vI n4)]) ∧
 (bcase (decide (0 ≤ x2))
 (bcase (decide (x2 < (↑n8 : Int)))
 (∃ n5 : Int,
 ((At (l18) (0 + Int.toNat x2 * 1) 1 [(vI n5)]) ∧
 (((Qv (vI (if n5 > x1 then n5 else x1))) ∧
 ((∃ n6 : Int,
 ((At (l18) (0 + Int.toNat x2 * 1) 1 [(vI n6)]) ∧
 ((vI n6) = (vI n5)))) ∧
 ((bcase (decide (0 ≤ x2))
 (bcase (decide (x2 < (↑n8 : Int)))
 (Qv (Pt 501 (0 + Int.toNat x2 * 1)))
 False)
 False) ∧
 ((Qv (vI x2)) ∧
 ((Qv (Sl 501 (n8) (c9))) ∧
 ((Qv (Pt 1001 0)) ∧
 ((Qv (Pt 1001 0)) ∧
 ((Qv (vI x1)) ∧
 ((Qv (vI (if n4 < x0 then n4 else x0))) ∧
 ((∃ n6 : Int,
 ((At (l18) (0 + Int.toNat x2 * 1) 1 [(vI n6)]) ∧
 ((vI n6) = (vI n4)))) ∧
 ((bcase (decide (0 ≤ x2))
 (bcase (decide (x2 < (↑n8 : Int)))
 (Qv (Pt 501 (0 + Int.toNat x2 * 1)))
 False)
 False) ∧
 ((Qv (vI x2)) ∧
 ((Qv (Sl 501 (n8) (c9))) ∧
 ((Qv (Pt 1001 0)) ∧
 ((Qv (Pt 1001 0)) ∧
 ((Qv (vI x0)) ∧
 True)))))))))))))))) ∧
 (((Qv (vI (if n5 > x1 then n5 else x1))) ∧
 ((∃ n6 : Int,
 ((At (l18) (0 + Int.toNat x2 * 1) 1 [(vI n6)]) ∧
 ((vI n6) = (vI n5)))) ∧
 ((bcase (decide (0 ≤ x2))
 (bcase (decide (x2 < (↑n8 : Int)))
 (Qv (Pt 501 (0 + Int.toNat x2 * 1)))
 False)
 False) ∧
 ((Qv (vI x2)) ∧
 ((Qv (Sl 501 (n8) (c9))) ∧
 ((Qv (Pt 1001 0)) ∧
 ((Qv (Pt 1001 0)) ∧
 ((Qv (vI x1)) ∧
 True)))))))) ∧
 (True ∧
 (B [(Prod.mk 2 (Pt 1000 0)), (Prod.mk 3 (Pt 1001 0)), (Prod.mk 5 (vI (if n4 < x0 then n4 else x0))), (Prod.mk 6 (vI (if n5 > x1 then n5 else x1))), (Prod.mk 7 (vI (IntKind.wrap .i64 (x2 + 1))))] [(Prod.mk 1000 (AObj.cells [(Sl 500 (n3) (c4)), (vI x5), (vI x6), (vI x7)] 28 false 1)), (Prod.mk 1001 (AObj.cells [(Sl 501 (n8) (c9)), (vI x10), (Sl 502 (n11) (c12)), (vI x13), (vI x14), (vI x15), (vI x16)] 56 false 1)), (Prod.mk 500 (AObj.sym (l17) false 2)), (Prod.mk 501 (AObj.sym (l18) false 1)), (Prod.mk 502 (AObj.sym (l19) false 1))]))))))
 False)
 False)))
 False)
 False)))))
 False)
 False)))
 False)
 False)
 (X 0 [(Prod.mk 2 (Pt 1000 0)), (Prod.mk 3 (Pt 1001 0)), (Prod.mk 5 (vI x0)), (Prod.mk 6 (vI x1))] [(Prod.mk 1000 (AObj.cells [(Sl 500 (n3) (c4)), (vI x5), (vI x6), (vI x7)] 28 false 1)), (Prod.mk 1001 (AObj.cells [(Sl 501 (n8) (c9)), (vI x10), (Sl 502 (n11) (c12)), (vI x13), (vI x14), (vI x15), (vI x16)] 56 false 1)), (Prod.mk 500 (AObj.sym (l17) false 2)), (Prod.mk 501 (AObj.sym (l18) false 1)), (Prod.mk 502 (AObj.sym (l19) false 1))])) := by kernel_rfl
def nLwsss2 (C : Ct) (L : AtLoop) (x0 : Int) (x1 : Int) (n2 : Nat) (c3 : Nat) (x4 : Int) (x5 : Int) (x6 : Int) (n7 : Nat) (c8 : Nat) (x9 : Int) (n10 : Nat) (c11 : Nat) (x12 : Int) (x13 : Int) (x14 : Int) (x15 : Int) (l16 : List Value) (l17 : List Value) (l18 : List Value) (k : List D → Prop) : Prop := wpNext Try.prog (hH C) L 4 0 .normal [(2, (Value.pointer (some ⟨1000, 0, none⟩))), (3, (Value.pointer (some ⟨1001, 0, none⟩))), (5, (Value.int .i64 x0)), (6, (Value.int .i64 x1))] [(1000, (AObj.cells [(Value.slice (some ⟨500, 0, none⟩) n2 c3), (Value.int .i64 x4), (Value.int .i64 x5), (Value.int .i64 x6)] 28 false 1)), (1001, (AObj.cells [(Value.slice (some ⟨501, 0, none⟩) n7 c8), (Value.int .i64 x9), (Value.slice (some ⟨502, 0, none⟩) n10 c11), (Value.int .i64 x12), (Value.int .i64 x13), (Value.int .i64 x14), (Value.int .i64 x15)] 56 false 1)), (500, (AObj.sym l16 false 2)), (501, (AObj.sym l17 false 1)), (502, (AObj.sym l18 false 1))] (dataK k)
theorem nLwsss2_text (C : Ct) (L : AtLoop) (x0 : Int) (x1 : Int) (n2 : Nat) (c3 : Nat) (x4 : Int) (x5 : Int) (x6 : Int) (n7 : Nat) (c8 : Nat) (x9 : Int) (n10 : Nat) (c11 : Nat) (x12 : Int) (x13 : Int) (x14 : Int) (x15 : Int) (l16 : List Go.Value) (l17 : List Go.Value) (l18 : List Go.Value) (k : List D → Prop) : nLwsss2 C L x0 x1 n2 c3 x4 x5 x6 n7 c8 x9 n10 c11 x12 x13 x14 x15 l16 l17 l18 k =
 ((((Qv (Pt 1002 0)) ∧
 (Qv (some (AObj.cells [(Value.slice none 0 0), (vI 0)] 31 false 2)))) ∧
 ((Qv (Value.agg [(vI x15), (vI x13)].toArray)) ∧
 ((Qv (vI x13)) ∧
 ((Qv (Pt 1001 4)) ∧
 ((Qv (vI x15)) ∧
 ((Qv (Pt 1001 6)) ∧
 ((Qv (Value.agg [(Sl 501 (n7) (c8)), (vI x9)].toArray)) ∧
 ((Qv (Pt 1001 0)) ∧
 ((Qv (Value.agg [(Sl 500 (n2) (c3)), (vI x4), (vI x5), (vI x6)].toArray)) ∧
 True))))))))) ∧
 (bcase (dL n2 2 l16)
 ((Says C 8 [(D.agg [(Dw n2 2 l16), (dI x4), (dI x5), (dI x6)])] [(D.agg [(Dw n2 2 l16), (dI x4), (dI x5), (dI x6)])]) ∧
 ((((Qv (Pt 1002 0)) ∧
 (Qv (some (AObj.cells [(Value.slice none 0 0), (vI 0)] 31 false 2)))) ∧
 ((Qv (Value.agg [(vI x15), (vI x13)].toArray)) ∧
 ((Qv (vI x13)) ∧
 ((Qv (Pt 1001 4)) ∧
 ((Qv (vI x15)) ∧
 ((Qv (Pt 1001 6)) ∧
 ((Qv (Value.agg [(Sl 501 (n7) (c8)), (vI x9)].toArray)) ∧
 ((Qv (Pt 1001 0)) ∧
 True)))))))) ∧
 (bcase (dL n7 1 l17)
 ((Says C 9 [(D.agg [(Dw n7 1 l17), (dI x9)])] [(D.agg [(Dw n7 1 l17), (dI x9)])]) ∧
 ((((Qv (Pt 1002 0)) ∧
 (Qv (some (AObj.cells [(Value.slice none 0 0), (vI 0)] 31 false 2)))) ∧
 ((Qv (Value.agg [(vI x15), (vI x13)].toArray)) ∧
 ((Qv (vI x13)) ∧
 ((Qv (Pt 1001 4)) ∧
 ((Qv (vI x15)) ∧
 ((Qv (Pt 1001 6)) ∧
 ((Qv (Pt 1001 0)) ∧
 True))))))) ∧
 (bcase (dL n2 2 (Tk n2 2 l16))
 (bcase (dL n7 1 (Tk n7 1 l17))
 ((∃ n1 : Int,
 (∃ n3 : Int,
 ((Says C 7 [(D.agg [(Dw n2 2 (Tk n2 2 l16)), (dI x4), (dI x5), (dI x6)]), (D.agg [(Dw n7 1 (Tk n7 1 l17)), (dI x9)]), (D.agg [(dI x15), (dI x13)])] [(D.agg [D.nil, (dI n1)]), (dI n3)]) ∧
 (((Qv (vI n3)) ∧
 ((Qv (Value.agg [(Value.slice none 0 0), (vI n1)].toArray)) ∧
 ((Qv (Value.tuple [(Value.agg [(Value.slice none 0 0), (vI n1)].toArray), (vI n3)].toArray)) ∧
 (((Qv (Pt 1002 0)) ∧
 (Qv (some (AObj.cells [(Value.slice none 0 0), (vI 0)] 31 false 2)))) ∧
 ((Qv (vI x13)) ∧
 ((Qv (Pt 1001 4)) ∧
 ((Qv (vI x15)) ∧
 ((Qv (Pt 1001 6)) ∧
 ((Qv (Pt 1001 0)) ∧
 True))))))))) ∧
 (((Qv (vI n3)) ∧
 True) ∧
 (True ∧
 ((((Qv (Pt 1005 0)) ∧
 (Qv (some (AObj.cells [(Value.slice none 0 0), (vI 0)] 31 false 2)))) ∧
 ((Qv (Value.agg [(vI x15), (vI x13)].toArray)) ∧
 ((Qv (vI x13)) ∧
 ((Qv (Pt 1001 4)) ∧
 ((Qv (vI x15)) ∧
 ((Qv (Pt 1001 6)) ∧
 ((Qv (Value.agg [(Sl 502 (n10) (c11)), (vI x12)].toArray)) ∧
 ((Qv (Pt 1001 2)) ∧
 ((Qv (Value.agg [(Sl 500 (n2) (c3)), (vI x4), (vI x5), (vI x6)].toArray)) ∧
 True))))))))) ∧
 (bcase (dL n2 2 l16)
 ((Says C 8 [(D.agg [(Dw n2 2 l16), (dI x4), (dI x5), (dI x6)])] [(D.agg [(Dw n2 2 l16), (dI x4), (dI x5), (dI x6)])]) ∧
 ((((Qv (Pt 1005 0)) ∧
 (Qv (some (AObj.cells [(Value.slice none 0 0), (vI 0)] 31 false 2)))) ∧
 ((Qv (Value.agg [(vI x15), (vI x13)].toArray)) ∧
 ((Qv (vI x13)) ∧
 ((Qv (Pt 1001 4)) ∧
 ((Qv (vI x15)) ∧
 ((Qv (Pt 1001 6)) ∧
 ((Qv (Value.agg [(Sl 502 (n10) (c11)), (vI x12)].toArray)) ∧
 ((Qv (Pt 1001 2)) ∧
 True)))))))) ∧
 (bcase (dL n10 1 l18)
 ((Says C 9 [(D.agg [(Dw n10 1 l18), (dI x12)])] [(D.agg [(Dw n10 1 l18), (dI x12)])]) ∧
 ((((Qv (Pt 1005 0)) ∧
 (Qv (some (AObj.cells [(Value.slice none 0 0), (vI 0)] 31 false 2)))) ∧
 ((Qv (Value.agg [(vI x15), (vI x13)].toArray)) ∧
 ((Qv (vI x13)) ∧
 ((Qv (Pt 1001 4)) ∧
 ((Qv (vI x15)) ∧
 ((Qv (Pt 1001 6)) ∧
 ((Qv (Pt 1001 2)) ∧
 True))))))) ∧
 (bcase (dL n2 2 (Tk n2 2 l16))
 (bcase (dL n10 1 (Tk n10 1 l18))
 ((∃ n4 : Int,
 (∃ n5 : Int,
 ((Says C 7 [(D.agg [(Dw n2 2 (Tk n2 2 l16)), (dI x4), (dI x5), (dI x6)]), (D.agg [(Dw n10 1 (Tk n10 1 l18)), (dI x12)]), (D.agg [(dI x15), (dI x13)])] [(D.agg [D.nil, (dI n4)]), (dI n5)]) ∧
 (((Qv (vI n5)) ∧
 ((Qv (Value.agg [(Value.slice none 0 0), (vI n4)].toArray)) ∧
 ((Qv (Value.tuple [(Value.agg [(Value.slice none 0 0), (vI n4)].toArray), (vI n5)].toArray)) ∧
 (((Qv (Pt 1005 0)) ∧
 (Qv (some (AObj.cells [(Value.slice none 0 0), (vI 0)] 31 false 2)))) ∧
 ((Qv (vI x13)) ∧
 ((Qv (Pt 1001 4)) ∧
 ((Qv (vI x15)) ∧
 ((Qv (Pt 1001 6)) ∧
 ((Qv (Pt 1001 2)) ∧
 True))))))))) ∧
 (((Qv (vI n5)) ∧
 True) ∧
 (True ∧
 ((((Qv (Pt 1008 0)) ∧
 (Qv (some (AObj.cells [(Value.slice none 0 0), (vI 0)] 31 false 2)))) ∧
 ((Qv (Value.agg [(vI x15), (vI x14)].toArray)) ∧
 ((Qv (vI x14)) ∧
 ((Qv (Pt 1001 5)) ∧
 ((Qv (vI x15)) ∧
 ((Qv (Pt 1001 6)) ∧
 ((Qv (Value.agg [(Sl 501 (n7) (c8)), (vI x9)].toArray)) ∧
 ((Qv (Pt 1001 0)) ∧
 ((Qv (Value.agg [(Sl 500 (n2) (c3)), (vI x4), (vI x5), (vI x6)].toArray)) ∧
 True))))))))) ∧
 (bcase (dL n2 2 l16)
 ((Says C 8 [(D.agg [(Dw n2 2 l16), (dI x4), (dI x5), (dI x6)])] [(D.agg [(Dw n2 2 l16), (dI x4), (dI x5), (dI x6)])]) ∧
 ((((Qv (Pt 1008 0)) ∧
 (Qv (some (AObj.cells [(Value.slice none 0 0), (vI 0)] 31 false 2)))) ∧
 ((Qv (Value.agg [(vI x15), (vI x14)].toArray)) ∧
 ((Qv (vI x14)) ∧
 ((Qv (Pt 1001 5)) ∧
 ((Qv (vI x15)) ∧
 ((Qv (Pt 1001 6)) ∧
 ((Qv (Value.agg [(Sl 501 (n7) (c8)), (vI x9)].toArray)) ∧
 ((Qv (Pt 1001 0)) ∧
 True)))))))) ∧
 (bcase (dL n7 1 l17)
 ((Says C 9 [(D.agg [(Dw n7 1 l17), (dI x9)])] [(D.agg [(Dw n7 1 l17), (dI x9)])]) ∧
 ((((Qv (Pt 1008 0)) ∧
 (Qv (some (AObj.cells [(Value.slice none 0 0), (vI 0)] 31 false 2)))) ∧
 ((Qv (Value.agg [(vI x15), (vI x14)].toArray)) ∧
 ((Qv (vI x14)) ∧
 ((Qv (Pt 1001 5)) ∧
 ((Qv (vI x15)) ∧
 ((Qv (Pt 1001 6)) ∧
 ((Qv (Pt 1001 0)) ∧
 True))))))) ∧
 (bcase (dL n2 2 (Tk n2 2 l16))
 (bcase (dL n7 1 (Tk n7 1 l17))
 ((∃ n6 : Int,
 (∃ n8 : Int,
 ((Says C 7 [(D.agg [(Dw n2 2 (Tk n2 2 l16)), (dI x4), (dI x5), (dI x6)]), (D.agg [(Dw n7 1 (Tk n7 1 l17)), (dI x9)]), (D.agg [(dI x15), (dI x14)])] [(D.agg [D.nil, (dI n6)]), (dI n8)]) ∧
 (((Qv (vI n8)) ∧
 ((Qv (Value.agg [(Value.slice none 0 0), (vI n6)].toArray)) ∧
 ((Qv (Value.tuple [(Value.agg [(Value.slice none 0 0), (vI n6)].toArray), (vI n8)].toArray)) ∧
 (((Qv (Pt 1008 0)) ∧
 (Qv (some (AObj.cells [(Value.slice none 0 0), (vI 0)] 31 false 2)))) ∧
 ((Qv (vI x14)) ∧
 ((Qv (Pt 1001 5)) ∧
 ((Qv (vI x15)) ∧
 ((Qv (Pt 1001 6)) ∧
 ((Qv (Pt 1001 0)) ∧
 True))))))))) ∧
 (((Qv (vI n8)) ∧
 True) ∧
 (True ∧
 (bcase (n3 != 0)
 (k kF)
 (bcase (n5 != 0)
 (k kF)
 (bcase (n8 != 0)
 (k kF)
 (bcase ((↑0 : Int) != (↑n7 : Int))
 (k kF)
 (bcase ((↑0 : Int) != (↑n7 : Int))
 (k kF)
 (bcase ((↑0 : Int) != (↑n7 : Int))
 (k kF)
 (bcase ((↑n7 : Int) == (↑n7 : Int))
 (bcase (decide ((↑8 : Int) * (↑n7 : Int) ≤ 2 ^ 40))
 (bcase (decide ((↑n7 : Int) ≤ 2 ^ 40))
 (L 2 [(Prod.mk 2 (Pt 1000 0)), (Prod.mk 3 (Pt 1001 0)), (Prod.mk 5 (vI x0)), (Prod.mk 6 (vI x1)), (Prod.mk 8 (Pt 1002 0)), (Prod.mk 10 (Pt 1003 0)), (Prod.mk 12 (Pt 1004 0)), (Prod.mk 14 (vI ((↑n7 : Int)))), (Prod.mk 15 (Sl 1005 (Int.toNat (↑n7 : Int)) (Int.toNat (↑n7 : Int)))), (Prod.mk 16 (vI 0))] [(Prod.mk 1000 (AObj.cells [(Sl 500 (n2) (c3)), (vI x4), (vI x5), (vI x6)] 28 false 1)), (Prod.mk 1001 (AObj.cells [(Sl 501 (n7) (c8)), (vI x9), (Sl 502 (n10) (c11)), (vI x12), (vI x13), (vI x14), (vI x15)] 56 false 1)), (Prod.mk 1002 (AObj.cells [(Value.slice none 0 0), (vI n1)] 31 false 2)), (Prod.mk 1003 (AObj.cells [(Value.slice none 0 0), (vI n4)] 31 false 2)), (Prod.mk 1004 (AObj.cells [(Value.slice none 0 0), (vI n6)] 31 false 2)), (Prod.mk 1005 (AObj.sym (List.replicate (Int.toNat (↑n7 : Int)) (vI 0)) true 1)), (Prod.mk 500 (AObj.sym (l16) false 2)), (Prod.mk 501 (AObj.sym (l17) false 1)), (Prod.mk 502 (AObj.sym (l18) false 1))])
 False)
 False)
 False))))))))))))) ∨
 (∃ n6 : Nat,
 (∃ cs1 : List Go.Value,
 (∃ n8 : Int,
 (∃ n9 : Int,
 ((Says C 7 [(D.agg [(Dw n2 2 (Tk n2 2 l16)), (dI x4), (dI x5), (dI x6)]), (D.agg [(Dw n7 1 (Tk n7 1 l17)), (dI x9)]), (D.agg [(dI x15), (dI x14)])] [(D.agg [(D.sl (n6) 1 (cs1)), (dI n8)]), (dI n9)]) ∧
 (((Qv (vI n9)) ∧
 ((Qv (Value.agg [(Sl 1011 (n6) (n6)), (vI n8)].toArray)) ∧
 ((Qv (Value.tuple [(Value.agg [(Sl 1011 (n6) (n6)), (vI n8)].toArray), (vI n9)].toArray)) ∧
 (((Qv (Pt 1008 0)) ∧
 (Qv (some (AObj.cells [(Value.slice none 0 0), (vI 0)] 31 false 2)))) ∧
 ((Qv (vI x14)) ∧
 ((Qv (Pt 1001 5)) ∧
 ((Qv (vI x15)) ∧
 ((Qv (Pt 1001 6)) ∧
 ((Qv (Pt 1001 0)) ∧
 True))))))))) ∧
 (((Qv (vI n9)) ∧
 True) ∧
 (True ∧
 (bcase (n3 != 0)
 (k kF)
 (bcase (n5 != 0)
 (k kF)
 (bcase (n9 != 0)
 (k kF)
 (bcase ((↑0 : Int) != (↑n7 : Int))
 (k kF)
 (bcase ((↑0 : Int) != (↑n7 : Int))
 (k kF)
 (bcase ((↑n6 : Int) != (↑n7 : Int))
 (k kF)
 (bcase ((↑n7 : Int) == (↑n7 : Int))
 (bcase (decide ((↑8 : Int) * (↑n7 : Int) ≤ 2 ^ 40))
 (bcase (decide ((↑n7 : Int) ≤ 2 ^ 40))
 (L 2 [(Prod.mk 2 (Pt 1000 0)), (Prod.mk 3 (Pt 1001 0)), (Prod.mk 5 (vI x0)), (Prod.mk 6 (vI x1)), (Prod.mk 8 (Pt 1002 0)), (Prod.mk 10 (Pt 1003 0)), (Prod.mk 12 (Pt 1004 0)), (Prod.mk 14 (vI ((↑n7 : Int)))), (Prod.mk 15 (Sl 1005 (Int.toNat (↑n7 : Int)) (Int.toNat (↑n7 : Int)))), (Prod.mk 16 (vI 0))] [(Prod.mk 1000 (AObj.cells [(Sl 500 (n2) (c3)), (vI x4), (vI x5), (vI x6)] 28 false 1)), (Prod.mk 1001 (AObj.cells [(Sl 501 (n7) (c8)), (vI x9), (Sl 502 (n10) (c11)), (vI x12), (vI x13), (vI x14), (vI x15)] 56 false 1)), (Prod.mk 1002 (AObj.cells [(Value.slice none 0 0), (vI n1)] 31 false 2)), (Prod.mk 1003 (AObj.cells [(Value.slice none 0 0), (vI n4)] 31 false 2)), (Prod.mk 1004 (AObj.cells [(Sl 1006 (n6) (n6)), (vI n8)] 31 false 2)), (Prod.mk 1005 (AObj.sym (List.replicate (Int.toNat (↑n7 : Int)) (vI 0)) true 1)), (Prod.mk 500 (AObj.sym (l16) false 2)), (Prod.mk 501 (AObj.sym (l17) false 1)), (Prod.mk 502 (AObj.sym (l18) false 1)), (Prod.mk 1006 (AObj.sym (cs1) true 1))])
 False)
 False)
 False))))))))))))))))
 False)
 False)))
 False)))
 False)))))))) ∨
 (∃ n4 : Nat,
 (∃ cs1 : List Go.Value,
 (∃ n5 : Int,
 (∃ n6 : Int,
 ((Says C 7 [(D.agg [(Dw n2 2 (Tk n2 2 l16)), (dI x4), (dI x5), (dI x6)]), (D.agg [(Dw n10 1 (Tk n10 1 l18)), (dI x12)]), (D.agg [(dI x15), (dI x13)])] [(D.agg [(D.sl (n4) 1 (cs1)), (dI n5)]), (dI n6)]) ∧
 (((Qv (vI n6)) ∧
 ((Qv (Value.agg [(Sl 1008 (n4) (n4)), (vI n5)].toArray)) ∧
 ((Qv (Value.tuple [(Value.agg [(Sl 1008 (n4) (n4)), (vI n5)].toArray), (vI n6)].toArray)) ∧
 (((Qv (Pt 1005 0)) ∧
 (Qv (some (AObj.cells [(Value.slice none 0 0), (vI 0)] 31 false 2)))) ∧
 ((Qv (vI x13)) ∧
 ((Qv (Pt 1001 4)) ∧
 ((Qv (vI x15)) ∧
 ((Qv (Pt 1001 6)) ∧
 ((Qv (Pt 1001 2)) ∧
 True))))))))) ∧
 (((Qv (vI n6)) ∧
 True) ∧
 (True ∧
 ((((Qv (Pt 1009 0)) ∧
 (Qv (some (AObj.cells [(Value.slice none 0 0), (vI 0)] 31 false 2)))) ∧
 ((Qv (Value.agg [(vI x15), (vI x14)].toArray)) ∧
 ((Qv (vI x14)) ∧
 ((Qv (Pt 1001 5)) ∧
 ((Qv (vI x15)) ∧
 ((Qv (Pt 1001 6)) ∧
 ((Qv (Value.agg [(Sl 501 (n7) (c8)), (vI x9)].toArray)) ∧
 ((Qv (Pt 1001 0)) ∧
 ((Qv (Value.agg [(Sl 500 (n2) (c3)), (vI x4), (vI x5), (vI x6)].toArray)) ∧
 True))))))))) ∧
 (bcase (dL n2 2 l16)
 ((Says C 8 [(D.agg [(Dw n2 2 l16), (dI x4), (dI x5), (dI x6)])] [(D.agg [(Dw n2 2 l16), (dI x4), (dI x5), (dI x6)])]) ∧
 ((((Qv (Pt 1009 0)) ∧
 (Qv (some (AObj.cells [(Value.slice none 0 0), (vI 0)] 31 false 2)))) ∧
 ((Qv (Value.agg [(vI x15), (vI x14)].toArray)) ∧
 ((Qv (vI x14)) ∧
 ((Qv (Pt 1001 5)) ∧
 ((Qv (vI x15)) ∧
 ((Qv (Pt 1001 6)) ∧
 ((Qv (Value.agg [(Sl 501 (n7) (c8)), (vI x9)].toArray)) ∧
 ((Qv (Pt 1001 0)) ∧
 True)))))))) ∧
 (bcase (dL n7 1 l17)
 ((Says C 9 [(D.agg [(Dw n7 1 l17), (dI x9)])] [(D.agg [(Dw n7 1 l17), (dI x9)])]) ∧
 ((((Qv (Pt 1009 0)) ∧
 (Qv (some (AObj.cells [(Value.slice none 0 0), (vI 0)] 31 false 2)))) ∧
 ((Qv (Value.agg [(vI x15), (vI x14)].toArray)) ∧
 ((Qv (vI x14)) ∧
 ((Qv (Pt 1001 5)) ∧
 ((Qv (vI x15)) ∧
 ((Qv (Pt 1001 6)) ∧
 ((Qv (Pt 1001 0)) ∧
 True))))))) ∧
 (bcase (dL n2 2 (Tk n2 2 l16))
 (bcase (dL n7 1 (Tk n7 1 l17))
 ((∃ n8 : Int,
 (∃ n9 : Int,
 ((Says C 7 [(D.agg [(Dw n2 2 (Tk n2 2 l16)), (dI x4), (dI x5), (dI x6)]), (D.agg [(Dw n7 1 (Tk n7 1 l17)), (dI x9)]), (D.agg [(dI x15), (dI x14)])] [(D.agg [D.nil, (dI n8)]), (dI n9)]) ∧
 (((Qv (vI n9)) ∧
 ((Qv (Value.agg [(Value.slice none 0 0), (vI n8)].toArray)) ∧
 ((Qv (Value.tuple [(Value.agg [(Value.slice none 0 0), (vI n8)].toArray), (vI n9)].toArray)) ∧
 (((Qv (Pt 1009 0)) ∧
 (Qv (some (AObj.cells [(Value.slice none 0 0), (vI 0)] 31 false 2)))) ∧
 ((Qv (vI x14)) ∧
 ((Qv (Pt 1001 5)) ∧
 ((Qv (vI x15)) ∧
 ((Qv (Pt 1001 6)) ∧
 ((Qv (Pt 1001 0)) ∧
 True))))))))) ∧
 (((Qv (vI n9)) ∧
 True) ∧
 (True ∧
 (bcase (n3 != 0)
 (k kF)
 (bcase (n6 != 0)
 (k kF)
 (bcase (n9 != 0)
 (k kF)
 (bcase ((↑0 : Int) != (↑n7 : Int))
 (k kF)
 (bcase ((↑n4 : Int) != (↑n7 : Int))
 (k kF)
 (bcase ((↑0 : Int) != (↑n7 : Int))
 (k kF)
 (bcase ((↑n7 : Int) == (↑n7 : Int))
 (bcase (decide ((↑8 : Int) * (↑n7 : Int) ≤ 2 ^ 40))
 (bcase (decide ((↑n7 : Int) ≤ 2 ^ 40))
 (L 2 [(Prod.mk 2 (Pt 1000 0)), (Prod.mk 3 (Pt 1001 0)), (Prod.mk 5 (vI x0)), (Prod.mk 6 (vI x1)), (Prod.mk 8 (Pt 1002 0)), (Prod.mk 10 (Pt 1003 0)), (Prod.mk 12 (Pt 1004 0)), (Prod.mk 14 (vI ((↑n7 : Int)))), (Prod.mk 15 (Sl 1005 (Int.toNat (↑n7 : Int)) (Int.toNat (↑n7 : Int)))), (Prod.mk 16 (vI 0))] [(Prod.mk 1000 (AObj.cells [(Sl 500 (n2) (c3)), (vI x4), (vI x5), (vI x6)] 28 false 1)), (Prod.mk 1001 (AObj.cells [(Sl 501 (n7) (c8)), (vI x9), (Sl 502 (n10) (c11)), (vI x12), (vI x13), (vI x14), (vI x15)] 56 false 1)), (Prod.mk 1002 (AObj.cells [(Value.slice none 0 0), (vI n1)] 31 false 2)), (Prod.mk 1003 (AObj.cells [(Sl 1006 (n4) (n4)), (vI n5)] 31 false 2)), (Prod.mk 1004 (AObj.cells [(Value.slice none 0 0), (vI n8)] 31 false 2)), (Prod.mk 1005 (AObj.sym (List.replicate (Int.toNat (↑n7 : Int)) (vI 0)) true 1)), (Prod.mk 500 (AObj.sym (l16) false 2)), (Prod.mk 501 (AObj.sym (l17) false 1)), (Prod.mk 502 (AObj.sym (l18) false 1)), (Prod.mk 1006 (AObj.sym (cs1) true 1))])
 False)
 False)
 False))))))))))))) ∨
 (∃ n8 : Nat,
 (∃ cs2 : List Go.Value,
 (∃ n9 : Int,
 (∃ n11 : Int,
 ((Says C 7 [(D.agg [(Dw n2 2 (Tk n2 2 l16)), (dI x4), (dI x5), (dI x6)]), (D.agg [(Dw n7 1 (Tk n7 1 l17)), (dI x9)]), (D.agg [(dI x15), (dI x14)])] [(D.agg [(D.sl (n8) 1 (cs2)), (dI n9)]), (dI n11)]) ∧
 (((Qv (vI n11)) ∧
 ((Qv (Value.agg [(Sl 1012 (n8) (n8)), (vI n9)].toArray)) ∧
 ((Qv (Value.tuple [(Value.agg [(Sl 1012 (n8) (n8)), (vI n9)].toArray), (vI n11)].toArray)) ∧
 (((Qv (Pt 1009 0)) ∧
 (Qv (some (AObj.cells [(Value.slice none 0 0), (vI 0)] 31 false 2)))) ∧
 ((Qv (vI x14)) ∧
 ((Qv (Pt 1001 5)) ∧
 ((Qv (vI x15)) ∧
 ((Qv (Pt 1001 6)) ∧
 ((Qv (Pt 1001 0)) ∧
 True))))))))) ∧
 (((Qv (vI n11)) ∧
 True) ∧
 (True ∧
 (bcase (n3 != 0)
 (k kF)
 (bcase (n6 != 0)
 (k kF)
 (bcase (n11 != 0)
 (k kF)
 (bcase ((↑0 : Int) != (↑n7 : Int))
 (k kF)
 (bcase ((↑n4 : Int) != (↑n7 : Int))
 (k kF)
 (bcase ((↑n8 : Int) != (↑n7 : Int))
 (k kF)
 (bcase ((↑n7 : Int) == (↑n7 : Int))
 (bcase (decide ((↑8 : Int) * (↑n7 : Int) ≤ 2 ^ 40))
 (bcase (decide ((↑n7 : Int) ≤ 2 ^ 40))
 (L 2 [(Prod.mk 2 (Pt 1000 0)), (Prod.mk 3 (Pt 1001 0)), (Prod.mk 5 (vI x0)), (Prod.mk 6 (vI x1)), (Prod.mk 8 (Pt 1002 0)), (Prod.mk 10 (Pt 1003 0)), (Prod.mk 12 (Pt 1004 0)), (Prod.mk 14 (vI ((↑n7 : Int)))), (Prod.mk 15 (Sl 1005 (Int.toNat (↑n7 : Int)) (Int.toNat (↑n7 : Int)))), (Prod.mk 16 (vI 0))] [(Prod.mk 1000 (AObj.cells [(Sl 500 (n2) (c3)), (vI x4), (vI x5), (vI x6)] 28 false 1)), (Prod.mk 1001 (AObj.cells [(Sl 501 (n7) (c8)), (vI x9), (Sl 502 (n10) (c11)), (vI x12), (vI x13), (vI x14), (vI x15)] 56 false 1)), (Prod.mk 1002 (AObj.cells [(Value.slice none 0 0), (vI n1)] 31 false 2)), (Prod.mk 1003 (AObj.cells [(Sl 1006 (n4) (n4)), (vI n5)] 31 false 2)), (Prod.mk 1004 (AObj.cells [(Sl 1007 (n8) (n8)), (vI n9)] 31 false 2)), (Prod.mk 1005 (AObj.sym (List.replicate (Int.toNat (↑n7 : Int)) (vI 0)) true 1)), (Prod.mk 500 (AObj.sym (l16) false 2)), (Prod.mk 501 (AObj.sym (l17) false 1)), (Prod.mk 502 (AObj.sym (l18) false 1)), (Prod.mk 1006 (AObj.sym (cs1) true 1)), (Prod.mk 1007 (AObj.sym (cs2) true 1))])
 False)
 False)
 False))))))))))))))))
 False)
 False)))
 False)))
 False)))))))))))
 False)
 False)))
 False)))
 False)))))))) ∨
 (∃ n1 : Nat,
 (∃ cs1 : List Go.Value,
 (∃ n3 : Int,
 (∃ n4 : Int,
 ((Says C 7 [(D.agg [(Dw n2 2 (Tk n2 2 l16)), (dI x4), (dI x5), (dI x6)]), (D.agg [(Dw n7 1 (Tk n7 1 l17)), (dI x9)]), (D.agg [(dI x15), (dI x13)])] [(D.agg [(D.sl (n1) 1 (cs1)), (dI n3)]), (dI n4)]) ∧
 (((Qv (vI n4)) ∧
 ((Qv (Value.agg [(Sl 1005 (n1) (n1)), (vI n3)].toArray)) ∧
 ((Qv (Value.tuple [(Value.agg [(Sl 1005 (n1) (n1)), (vI n3)].toArray), (vI n4)].toArray)) ∧
 (((Qv (Pt 1002 0)) ∧
 (Qv (some (AObj.cells [(Value.slice none 0 0), (vI 0)] 31 false 2)))) ∧
 ((Qv (vI x13)) ∧
 ((Qv (Pt 1001 4)) ∧
 ((Qv (vI x15)) ∧
 ((Qv (Pt 1001 6)) ∧
 ((Qv (Pt 1001 0)) ∧
 True))))))))) ∧
 (((Qv (vI n4)) ∧
 True) ∧
 (True ∧
 ((((Qv (Pt 1006 0)) ∧
 (Qv (some (AObj.cells [(Value.slice none 0 0), (vI 0)] 31 false 2)))) ∧
 ((Qv (Value.agg [(vI x15), (vI x13)].toArray)) ∧
 ((Qv (vI x13)) ∧
 ((Qv (Pt 1001 4)) ∧
 ((Qv (vI x15)) ∧
 ((Qv (Pt 1001 6)) ∧
 ((Qv (Value.agg [(Sl 502 (n10) (c11)), (vI x12)].toArray)) ∧
 ((Qv (Pt 1001 2)) ∧
 ((Qv (Value.agg [(Sl 500 (n2) (c3)), (vI x4), (vI x5), (vI x6)].toArray)) ∧
 True))))))))) ∧
 (bcase (dL n2 2 l16)
 ((Says C 8 [(D.agg [(Dw n2 2 l16), (dI x4), (dI x5), (dI x6)])] [(D.agg [(Dw n2 2 l16), (dI x4), (dI x5), (dI x6)])]) ∧
 ((((Qv (Pt 1006 0)) ∧
 (Qv (some (AObj.cells [(Value.slice none 0 0), (vI 0)] 31 false 2)))) ∧
 ((Qv (Value.agg [(vI x15), (vI x13)].toArray)) ∧
 ((Qv (vI x13)) ∧
 ((Qv (Pt 1001 4)) ∧
 ((Qv (vI x15)) ∧
 ((Qv (Pt 1001 6)) ∧
 ((Qv (Value.agg [(Sl 502 (n10) (c11)), (vI x12)].toArray)) ∧
 ((Qv (Pt 1001 2)) ∧
 True)))))))) ∧
 (bcase (dL n10 1 l18)
 ((Says C 9 [(D.agg [(Dw n10 1 l18), (dI x12)])] [(D.agg [(Dw n10 1 l18), (dI x12)])]) ∧
 ((((Qv (Pt 1006 0)) ∧
 (Qv (some (AObj.cells [(Value.slice none 0 0), (vI 0)] 31 false 2)))) ∧
 ((Qv (Value.agg [(vI x15), (vI x13)].toArray)) ∧
 ((Qv (vI x13)) ∧
 ((Qv (Pt 1001 4)) ∧
 ((Qv (vI x15)) ∧
 ((Qv (Pt 1001 6)) ∧
 ((Qv (Pt 1001 2)) ∧
 True))))))) ∧
 (bcase (dL n2 2 (Tk n2 2 l16))
 (bcase (dL n10 1 (Tk n10 1 l18))
 ((∃ n5 : Int,
 (∃ n6 : Int,
 ((Says C 7 [(D.agg [(Dw n2 2 (Tk n2 2 l16)), (dI x4), (dI x5), (dI x6)]), (D.agg [(Dw n10 1 (Tk n10 1 l18)), (dI x12)]), (D.agg [(dI x15), (dI x13)])] [(D.agg [D.nil, (dI n5)]), (dI n6)]) ∧
 (((Qv (vI n6)) ∧
 ((Qv (Value.agg [(Value.slice none 0 0), (vI n5)].toArray)) ∧
 ((Qv (Value.tuple [(Value.agg [(Value.slice none 0 0), (vI n5)].toArray), (vI n6)].toArray)) ∧
 (((Qv (Pt 1006 0)) ∧
 (Qv (some (AObj.cells [(Value.slice none 0 0), (vI 0)] 31 false 2)))) ∧
 ((Qv (vI x13)) ∧
 ((Qv (Pt 1001 4)) ∧
 ((Qv (vI x15)) ∧
 ((Qv (Pt 1001 6)) ∧
 ((Qv (Pt 1001 2)) ∧
 True))))))))) ∧
 (((Qv (vI n6)) ∧
 True) ∧
 (True ∧
 ((((Qv (Pt 1009 0)) ∧
 (Qv (some (AObj.cells [(Value.slice none 0 0), (vI 0)] 31 false 2)))) ∧
 ((Qv (Value.agg [(vI x15), (vI x14)].toArray)) ∧
 ((Qv (vI x14)) ∧
 ((Qv (Pt 1001 5)) ∧
 ((Qv (vI x15)) ∧
 ((Qv (Pt 1001 6)) ∧
 ((Qv (Value.agg [(Sl 501 (n7) (c8)), (vI x9)].toArray)) ∧
 ((Qv (Pt 1001 0)) ∧
 ((Qv (Value.agg [(Sl 500 (n2) (c3)), (vI x4), (vI x5), (vI x6)].toArray)) ∧
 True))))))))) ∧
 (bcase (dL n2 2 l16)
 ((Says C 8 [(D.agg [(Dw n2 2 l16), (dI x4), (dI x5), (dI x6)])] [(D.agg [(Dw n2 2 l16), (dI x4), (dI x5), (dI x6)])]) ∧
 ((((Qv (Pt 1009 0)) ∧
 (Qv (some (AObj.cells [(Value.slice none 0 0), (vI 0)] 31 false 2)))) ∧
 ((Qv (Value.agg [(vI x15), (vI x14)].toArray)) ∧
 ((Qv (vI x14)) ∧
 ((Qv (Pt 1001 5)) ∧
 ((Qv (vI x15)) ∧
 ((Qv (Pt 1001 6)) ∧
 ((Qv (Value.agg [(Sl 501 (n7) (c8)), (vI x9)].toArray)) ∧
 ((Qv (Pt 1001 0)) ∧
 True)))))))) ∧
 (bcase (dL n7 1 l17)
 ((Says C 9 [(D.agg [(Dw n7 1 l17), (dI x9)])] [(D.agg [(Dw n7 1 l17), (dI x9)])]) ∧
 ((((Qv (Pt 1009 0)) ∧
 (Qv (some (AObj.cells [(Value.slice none 0 0), (vI 0)] 31 false 2)))) ∧
 ((Qv (Value.agg [(vI x15), (vI x14)].toArray)) ∧
 ((Qv (vI x14)) ∧
 ((Qv (Pt 1001 5)) ∧
 ((Qv (vI x15)) ∧
 ((Qv (Pt 1001 6)) ∧
 ((Qv (Pt 1001 0)) ∧
 True))))))) ∧
 (bcase (dL n2 2 (Tk n2 2 l16))
 (bcase (dL n7 1 (Tk n7 1 l17))
 ((∃ n8 : Int,
 (∃ n9 : Int,
 ((Says C 7 [(D.agg [(Dw n2 2 (Tk n2 2 l16)), (dI x4), (dI x5), (dI x6)]), (D.agg [(Dw n7 1 (Tk n7 1 l17)), (dI x9)]), (D.agg [(dI x15), (dI x14)])] [(D.agg [D.nil, (dI n8)]), (dI n9)]) ∧
 (((Qv (vI n9)) ∧
 ((Qv (Value.agg [(Value.slice none 0 0), (vI n8)].toArray)) ∧
 ((Qv (Value.tuple [(Value.agg [(Value.slice none 0 0), (vI n8)].toArray), (vI n9)].toArray)) ∧
 (((Qv (Pt 1009 0)) ∧
 (Qv (some (AObj.cells [(Value.slice none 0 0), (vI 0)] 31 false 2)))) ∧
 ((Qv (vI x14)) ∧
 ((Qv (Pt 1001 5)) ∧
 ((Qv (vI x15)) ∧
 ((Qv (Pt 1001 6)) ∧
 ((Qv (Pt 1001 0)) ∧
 True))))))))) ∧
 (((Qv (vI n9)) ∧
 True) ∧
 (True ∧
 (bcase (n4 != 0)
 (k kF)
 (bcase (n6 != 0)
 (k kF)
 (bcase (n9 != 0)
 (k kF)
 (bcase ((↑n1 : Int) != (↑n7 : Int))
 (k kF)
 (bcase ((↑0 : Int) != (↑n7 : Int))
 (k kF)
 (bcase ((↑0 : Int) != (↑n7 : Int))
 (k kF)
 (bcase ((↑n7 : Int) == (↑n7 : Int))
 (bcase (decide ((↑8 : Int) * (↑n7 : Int) ≤ 2 ^ 40))
 (bcase (decide ((↑n7 : Int) ≤ 2 ^ 40))
 (L 2 [(Prod.mk 2 (Pt 1000 0)), (Prod.mk 3 (Pt 1001 0)), (Prod.mk 5 (vI x0)), (Prod.mk 6 (vI x1)), (Prod.mk 8 (Pt 1002 0)), (Prod.mk 10 (Pt 1003 0)), (Prod.mk 12 (Pt 1004 0)), (Prod.mk 14 (vI ((↑n7 : Int)))), (Prod.mk 15 (Sl 1005 (Int.toNat (↑n7 : Int)) (Int.toNat (↑n7 : Int)))), (Prod.mk 16 (vI 0))] [(Prod.mk 1000 (AObj.cells [(Sl 500 (n2) (c3)), (vI x4), (vI x5), (vI x6)] 28 false 1)), (Prod.mk 1001 (AObj.cells [(Sl 501 (n7) (c8)), (vI x9), (Sl 502 (n10) (c11)), (vI x12), (vI x13), (vI x14), (vI x15)] 56 false 1)), (Prod.mk 1002 (AObj.cells [(Sl 1006 (n1) (n1)), (vI n3)] 31 false 2)), (Prod.mk 1003 (AObj.cells [(Value.slice none 0 0), (vI n5)] 31 false 2)), (Prod.mk 1004 (AObj.cells [(Value.slice none 0 0), (vI n8)] 31 false 2)), (Prod.mk 1005 (AObj.sym (List.replicate (Int.toNat (↑n7 : Int)) (vI 0)) true 1)), (Prod.mk 500 (AObj.sym (l16) false 2)), (Prod.mk 501 (AObj.sym (l17) false 1)), (Prod.mk 502 (AObj.sym (l18) false 1)), (Prod.mk 1006 (AObj.sym (cs1) true 1))])
 False)
 False)
 False))))))))))))) ∨
 (∃ n8 : Nat,
 (∃ cs2 : List Go.Value,
 (∃ n9 : Int,
 (∃ n11 : Int,
 ((Says C 7 [(D.agg [(Dw n2 2 (Tk n2 2 l16)), (dI x4), (dI x5), (dI x6)]), (D.agg [(Dw n7 1 (Tk n7 1 l17)), (dI x9)]), (D.agg [(dI x15), (dI x14)])] [(D.agg [(D.sl (n8) 1 (cs2)), (dI n9)]), (dI n11)]) ∧
 (((Qv (vI n11)) ∧
 ((Qv (Value.agg [(Sl 1012 (n8) (n8)), (vI n9)].toArray)) ∧
 ((Qv (Value.tuple [(Value.agg [(Sl 1012 (n8) (n8)), (vI n9)].toArray), (vI n11)].toArray)) ∧
 (((Qv (Pt 1009 0)) ∧
 (Qv (some (AObj.cells [(Value.slice none 0 0), (vI 0)] 31 false 2)))) ∧
 ((Qv (vI x14)) ∧
 ((Qv (Pt 1001 5)) ∧
 ((Qv (vI x15)) ∧
 ((Qv (Pt 1001 6)) ∧
 ((Qv (Pt 1001 0)) ∧
 True))))))))) ∧
 (((Qv (vI n11)) ∧
 True) ∧
 (True ∧
 (bcase (n4 != 0)
 (k kF)
 (bcase (n6 != 0)
 (k kF)
 (bcase (n11 != 0)
 (k kF)
 (bcase ((↑n1 : Int) != (↑n7 : Int))
 (k kF)
 (bcase ((↑0 : Int) != (↑n7 : Int))
 (k kF)
 (bcase ((↑n8 : Int) != (↑n7 : Int))
 (k kF)
 (bcase ((↑n7 : Int) == (↑n7 : Int))
 (bcase (decide ((↑8 : Int) * (↑n7 : Int) ≤ 2 ^ 40))
 (bcase (decide ((↑n7 : Int) ≤ 2 ^ 40))
 (L 2 [(Prod.mk 2 (Pt 1000 0)), (Prod.mk 3 (Pt 1001 0)), (Prod.mk 5 (vI x0)), (Prod.mk 6 (vI x1)), (Prod.mk 8 (Pt 1002 0)), (Prod.mk 10 (Pt 1003 0)), (Prod.mk 12 (Pt 1004 0)), (Prod.mk 14 (vI ((↑n7 : Int)))), (Prod.mk 15 (Sl 1005 (Int.toNat (↑n7 : Int)) (Int.toNat (↑n7 : Int)))), (Prod.mk 16 (vI 0))] [(Prod.mk 1000 (AObj.cells [(Sl 500 (n2) (c3)), (vI x4), (vI x5), (vI x6)] 28 false 1)), (Prod.mk 1001 (AObj.cells [(Sl 501 (n7) (c8)), (vI x9), (Sl 502 (n10) (c11)), (vI x12), (vI x13), (vI x14), (vI x15)] 56 false 1)), (Prod.mk 1002 (AObj.cells [(Sl 1006 (n1) (n1)), (vI n3)] 31 false 2)), (Prod.mk 1003 (AObj.cells [(Value.slice none 0 0), (vI n5)] 31 false 2)), (Prod.mk 1004 (AObj.cells [(Sl 1007 (n8) (n8)), (vI n9)] 31 false 2)), (Prod.mk 1005 (AObj.sym (List.replicate (Int.toNat (↑n7 : Int)) (vI 0)) true 1)), (Prod.mk 500 (AObj.sym (l16) false 2)), (Prod.mk 501 (AObj.sym (l17) false 1)), (Prod.mk 502 (AObj.sym (l18) false 1)), (Prod.mk 1006 (AObj.sym (cs1) true 1)), (Prod.mk 1007 (AObj.sym (cs2) true 1))])
 False)
 False)
 False))))))))))))))))
 False)
 False)))
 False)))
 False)))))))) ∨
 (∃ n5 : Nat,
 (∃ cs2 : List Go.Value,
 (∃ n6 : Int,
 (∃ n8 : Int,
 ((Says C 7 [(D.agg [(Dw n2 2 (Tk n2 2 l16)), (dI x4), (dI x5), (dI x6)]), (D.agg [(Dw n10 1 (Tk n10 1 l18)), (dI x12)]), (D.agg [(dI x15), (dI x13)])] [(D.agg [(D.sl (n5) 1 (cs2)), (dI n6)]), (dI n8)]) ∧
 (((Qv (vI n8)) ∧
 ((Qv (Value.agg [(Sl 1009 (n5) (n5)), (vI n6)].toArray)) ∧
 ((Qv (Value.tuple [(Value.agg [(Sl 1009 (n5) (n5)), (vI n6)].toArray), (vI n8)].toArray)) ∧
 (((Qv (Pt 1006 0)) ∧
 (Qv (some (AObj.cells [(Value.slice none 0 0), (vI 0)] 31 false 2)))) ∧
 ((Qv (vI x13)) ∧
 ((Qv (Pt 1001 4)) ∧
 ((Qv (vI x15)) ∧
 ((Qv (Pt 1001 6)) ∧
 ((Qv (Pt 1001 2)) ∧
 True))))))))) ∧
 (((Qv (vI n8)) ∧
 True) ∧
 (True ∧
 ((((Qv (Pt 1010 0)) ∧
 (Qv (some (AObj.cells [(Value.slice none 0 0), (vI 0)] 31 false 2)))) ∧
 ((Qv (Value.agg [(vI x15), (vI x14)].toArray)) ∧
 ((Qv (vI x14)) ∧
 ((Qv (Pt 1001 5)) ∧
 ((Qv (vI x15)) ∧
 ((Qv (Pt 1001 6)) ∧
 ((Qv (Value.agg [(Sl 501 (n7) (c8)), (vI x9)].toArray)) ∧
 ((Qv (Pt 1001 0)) ∧
 ((Qv (Value.agg [(Sl 500 (n2) (c3)), (vI x4), (vI x5), (vI x6)].toArray)) ∧
 True))))))))) ∧
 (bcase (dL n2 2 l16)
 ((Says C 8 [(D.agg [(Dw n2 2 l16), (dI x4), (dI x5), (dI x6)])] [(D.agg [(Dw n2 2 l16), (dI x4), (dI x5), (dI x6)])]) ∧
 ((((Qv (Pt 1010 0)) ∧
 (Qv (some (AObj.cells [(Value.slice none 0 0), (vI 0)] 31 false 2)))) ∧
 ((Qv (Value.agg [(vI x15), (vI x14)].toArray)) ∧
 ((Qv (vI x14)) ∧
 ((Qv (Pt 1001 5)) ∧
 ((Qv (vI x15)) ∧
 ((Qv (Pt 1001 6)) ∧
 ((Qv (Value.agg [(Sl 501 (n7) (c8)), (vI x9)].toArray)) ∧
 ((Qv (Pt 1001 0)) ∧
 True)))))))) ∧
 (bcase (dL n7 1 l17)
 ((Says C 9 [(D.agg [(Dw n7 1 l17), (dI x9)])] [(D.agg [(Dw n7 1 l17), (dI x9)])]) ∧
 ((((Qv (Pt 1010 0)) ∧
 (Qv (some (AObj.cells [(Value.slice none 0 0), (vI 0)] 31 false 2)))) ∧
 ((Qv (Value.agg [(vI x15), (vI x14)].toArray)) ∧
 ((Qv (vI x14)) ∧
 ((Qv (Pt 1001 5)) ∧
 ((Qv (vI x15)) ∧
 ((Qv (Pt 1001 6)) ∧
 ((Qv (Pt 1001 0)) ∧
 True))))))) ∧
 (bcase (dL n2 2 (Tk n2 2 l16))
 (bcase (dL n7 1 (Tk n7 1 l17))
 ((∃ n9 : Int,
 (∃ n11 : Int,
 ((Says C 7 [(D.agg [(Dw n2 2 (Tk n2 2 l16)), (dI x4), (dI x5), (dI x6)]), (D.agg [(Dw n7 1 (Tk n7 1 l17)), (dI x9)]), (D.agg [(dI x15), (dI x14)])] [(D.agg [D.nil, (dI n9)]), (dI n11)]) ∧
 (((Qv (vI n11)) ∧
 ((Qv (Value.agg [(Value.slice none 0 0), (vI n9)].toArray)) ∧
 ((Qv (Value.tuple [(Value.agg [(Value.slice none 0 0), (vI n9)].toArray), (vI n11)].toArray)) ∧
 (((Qv (Pt 1010 0)) ∧
 (Qv (some (AObj.cells [(Value.slice none 0 0), (vI 0)] 31 false 2)))) ∧
 ((Qv (vI x14)) ∧
 ((Qv (Pt 1001 5)) ∧
 ((Qv (vI x15)) ∧
 ((Qv (Pt 1001 6)) ∧
 ((Qv (Pt 1001 0)) ∧
 True))))))))) ∧
 (((Qv (vI n11)) ∧
 True) ∧
 (True ∧
 (bcase (n4 != 0)
 (k kF)
 (bcase (n8 != 0)
 (k kF)
 (bcase (n11 != 0)
 (k kF)
 (bcase ((↑n1 : Int) != (↑n7 : Int))
 (k kF)
 (bcase ((↑n5 : Int) != (↑n7 : Int))
 (k kF)
 (bcase ((↑0 : Int) != (↑n7 : Int))
 (k kF)
 (bcase ((↑n7 : Int) == (↑n7 : Int))
 (bcase (decide ((↑8 : Int) * (↑n7 : Int) ≤ 2 ^ 40))
 (bcase (decide ((↑n7 : Int) ≤ 2 ^ 40))
 (L 2 [(Prod.mk 2 (Pt 1000 0)), (Prod.mk 3 (Pt 1001 0)), (Prod.mk 5 (vI x0)), (Prod.mk 6 (vI x1)), (Prod.mk 8 (Pt 1002 0)), (Prod.mk 10 (Pt 1003 0)), (Prod.mk 12 (Pt 1004 0)), (Prod.mk 14 (vI ((↑n7 : Int)))), (Prod.mk 15 (Sl 1005 (Int.toNat (↑n7 : Int)) (Int.toNat (↑n7 : Int)))), (Prod.mk 16 (vI 0))] [(Prod.mk 1000 (AObj.cells [(Sl 500 (n2) (c3)), (vI x4), (vI x5), (vI x6)] 28 false 1)), (Prod.mk 1001 (AObj.cells [(Sl 501 (n7) (c8)), (vI x9), (Sl 502 (n10) (c11)), (vI x12), (vI x13), (vI x14), (vI x15)] 56 false 1)), (Prod.mk 1002 (AObj.cells [(Sl 1006 (n1) (n1)), (vI n3)] 31 false 2)), (Prod.mk 1003 (AObj.cells [(Sl 1007 (n5) (n5)), (vI n6)] 31 false 2)), (Prod.mk 1004 (AObj.cells [(Value.slice none 0 0), (vI n9)] 31 false 2)), (Prod.mk 1005 (AObj.sym (List.replicate (Int.toNat (↑n7 : Int)) (vI 0)) true 1)), (Prod.mk 500 (AObj.sym (l16) false 2)), (Prod.mk 501 (AObj.sym (l17) false 1)), (Prod.mk 502 (AObj.sym (l18) false 1)), (Prod.mk 1006 (AObj.sym (cs1) true 1)), (Prod.mk 1007 (AObj.sym (cs2) true 1))])
 False)
 False)
 False))))))))))))) ∨
 (∃ n9 : Nat,
 (∃ cs3 : List Go.Value,
 (∃ n11 : Int,
 (∃ n12 : Int,
 ((Says C 7 [(D.agg [(Dw n2 2 (Tk n2 2 l16)), (dI x4), (dI x5), (dI x6)]), (D.agg [(Dw n7 1 (Tk n7 1 l17)), (dI x9)]), (D.agg [(dI x15), (dI x14)])] [(D.agg [(D.sl (n9) 1 (cs3)), (dI n11)]), (dI n12)]) ∧
 (((Qv (vI n12)) ∧
 ((Qv (Value.agg [(Sl 1013 (n9) (n9)), (vI n11)].toArray)) ∧
 ((Qv (Value.tuple [(Value.agg [(Sl 1013 (n9) (n9)), (vI n11)].toArray), (vI n12)].toArray)) ∧
 (((Qv (Pt 1010 0)) ∧
 (Qv (some (AObj.cells [(Value.slice none 0 0), (vI 0)] 31 false 2)))) ∧
 ((Qv (vI x14)) ∧
 ((Qv (Pt 1001 5)) ∧
 ((Qv (vI x15)) ∧
 ((Qv (Pt 1001 6)) ∧
 ((Qv (Pt 1001 0)) ∧
 True))))))))) ∧
 (((Qv (vI n12)) ∧
 True) ∧
 (True ∧
 (bcase (n4 != 0)
 (k kF)
 (bcase (n8 != 0)
 (k kF)
 (bcase (n12 != 0)
 (k kF)
 (bcase ((↑n1 : Int) != (↑n7 : Int))
 (k kF)
 (bcase ((↑n5 : Int) != (↑n7 : Int))
 (k kF)
 (bcase ((↑n9 : Int) != (↑n7 : Int))
 (k kF)
 (bcase ((↑n7 : Int) == (↑n7 : Int))
 (bcase (decide ((↑8 : Int) * (↑n7 : Int) ≤ 2 ^ 40))
 (bcase (decide ((↑n7 : Int) ≤ 2 ^ 40))
 (L 2 [(Prod.mk 2 (Pt 1000 0)), (Prod.mk 3 (Pt 1001 0)), (Prod.mk 5 (vI x0)), (Prod.mk 6 (vI x1)), (Prod.mk 8 (Pt 1002 0)), (Prod.mk 10 (Pt 1003 0)), (Prod.mk 12 (Pt 1004 0)), (Prod.mk 14 (vI ((↑n7 : Int)))), (Prod.mk 15 (Sl 1005 (Int.toNat (↑n7 : Int)) (Int.toNat (↑n7 : Int)))), (Prod.mk 16 (vI 0))] [(Prod.mk 1000 (AObj.cells [(Sl 500 (n2) (c3)), (vI x4), (vI x5), (vI x6)] 28 false 1)), (Prod.mk 1001 (AObj.cells [(Sl 501 (n7) (c8)), (vI x9), (Sl 502 (n10) (c11)), (vI x12), (vI x13), (vI x14), (vI x15)] 56 false 1)), (Prod.mk 1002 (AObj.cells [(Sl 1006 (n1) (n1)), (vI n3)] 31 false 2)), (Prod.mk 1003 (AObj.cells [(Sl 1007 (n5) (n5)), (vI n6)] 31 false 2)), (Prod.mk 1004 (AObj.cells [(Sl 1008 (n9) (n9)), (vI n11)] 31 false 2)), (Prod.mk 1005 (AObj.sym (List.replicate (Int.toNat (↑n7 : Int)) (vI 0)) true 1)), (Prod.mk 500 (AObj.sym (l16) false 2)), (Prod.mk 501 (AObj.sym (l17) false 1)), (Prod.mk 502 (AObj.sym (l18) false 1)), (Prod.mk 1006 (AObj.sym (cs1) true 1)), (Prod.mk 1007 (AObj.sym (cs2) true 1)), (Prod.mk 1008 (AObj.sym (cs3) true 1))])
 False)
 False)
 False))))))))))))))))
 False)
 False)))
 False)))
 False)))))))))))
 False)
 False)))
 False)))
 False)))))))))))
 False)
 False)))
 False)))
 False)) := by kernel_rfl
abbrev zLwsss10 (x0 : Int) (x1 : Int) (x2 : Int) (n3 : Nat) (x4 : Int) (n5 : Nat) (c6 : Nat) (x7 : Int) (x8 : Int) (x9 : Int) (n10 : Nat) (c11 : Nat) (x12 : Int) (n13 : Nat) (c14 : Nat) (x15 : Int) (x16 : Int) (x17 : Int) (x18 : Int) (n19 : Nat) (x20 : Int) (n21 : Nat) (x22 : Int) (n23 : Nat) (x24 : Int) (l25 : List Value) (l26 : List Value) (l27 : List Value) (l28 : List Value) (l29 : List Value) (l30 : List Value) (l31 : List Value) : Slots × Blocks := ([(2, (Value.pointer (some ⟨1000, 0, none⟩))), (3, (Value.pointer (some ⟨1001, 0, none⟩))), (5, (Value.int .i64 x0)), (6, (Value.int .i64 x1)), (8, (Value.pointer (some ⟨1002, 0, none⟩))), (10, (Value.pointer (some ⟨1003, 0, none⟩))), (12, (Value.pointer (some ⟨1004, 0, none⟩))), (14, (Value.int .i64 x2)), (15, (Value.slice (some ⟨1005, 0, none⟩) n3 n3)), (16, (Value.int .i64 x4))], [(1000, (AObj.cells [(Value.slice (some ⟨500, 0, none⟩) n5 c6), (Value.int .i64 x7), (Value.int .i64 x8), (Value.int .i64 x9)] 28 false 1)), (1001, (AObj.cells [(Value.slice (some ⟨501, 0, none⟩) n10 c11), (Value.int .i64 x12), (Value.slice (some ⟨502, 0, none⟩) n13 c14), (Value.int .i64 x15), (Value.int .i64 x16), (Value.int .i64 x17), (Value.int .i64 x18)] 56 false 1)), (1002, (AObj.cells [(Value.slice (some ⟨1006, 0, none⟩) n19 n19), (Value.int .i64 x20)] 31 false 2)), (1003, (AObj.cells [(Value.slice (some ⟨1007, 0, none⟩) n21 n21), (Value.int .i64 x22)] 31 false 2)), (1004, (AObj.cells [(Value.slice (some ⟨1008, 0, none⟩) n23 n23), (Value.int .i64 x24)] 31 false 2)), (1005, (AObj.sym l25 true 1)), (500, (AObj.sym l26 false 2)), (501, (AObj.sym l27 false 1)), (502, (AObj.sym l28 false 1)), (1006, (AObj.sym l29 true 1)), (1007, (AObj.sym l30 true 1)), (1008, (AObj.sym l31 true 1))])
def rLwsss10 (C : Ct) (L : AtLoop) (x0 : Int) (x1 : Int) (x2 : Int) (n3 : Nat) (x4 : Int) (n5 : Nat) (c6 : Nat) (x7 : Int) (x8 : Int) (x9 : Int) (n10 : Nat) (c11 : Nat) (x12 : Int) (n13 : Nat) (c14 : Nat) (x15 : Int) (x16 : Int) (x17 : Int) (x18 : Int) (n19 : Nat) (x20 : Int) (n21 : Nat) (x22 : Int) (n23 : Nat) (x24 : Int) (l25 : List Value) (l26 : List Value) (l27 : List Value) (l28 : List Value) (l29 : List Value) (l30 : List Value) (l31 : List Value) (B : Bx) (X : Xx) (k : List D → Prop) : Prop := wpRound Try.prog (hH C) L 4 2 [(2, (Value.pointer (some ⟨1000, 0, none⟩))), (3, (Value.pointer (some ⟨1001, 0, none⟩))), (5, (Value.int .i64 x0)), (6, (Value.int .i64 x1)), (8, (Value.pointer (some ⟨1002, 0, none⟩))), (10, (Value.pointer (some ⟨1003, 0, none⟩))), (12, (Value.pointer (some ⟨1004, 0, none⟩))), (14, (Value.int .i64 x2)), (15, (Value.slice (some ⟨1005, 0, none⟩) n3 n3)), (16, (Value.int .i64 x4))] [(1000, (AObj.cells [(Value.slice (some ⟨500, 0, none⟩) n5 c6), (Value.int .i64 x7), (Value.int .i64 x8), (Value.int .i64 x9)] 28 false 1)), (1001, (AObj.cells [(Value.slice (some ⟨501, 0, none⟩) n10 c11), (Value.int .i64 x12), (Value.slice (some ⟨502, 0, none⟩) n13 c14), (Value.int .i64 x15), (Value.int .i64 x16), (Value.int .i64 x17), (Value.int .i64 x18)] 56 false 1)), (1002, (AObj.cells [(Value.slice (some ⟨1006, 0, none⟩) n19 n19), (Value.int .i64 x20)] 31 false 2)), (1003, (AObj.cells [(Value.slice (some ⟨1007, 0, none⟩) n21 n21), (Value.int .i64 x22)] 31 false 2)), (1004, (AObj.cells [(Value.slice (some ⟨1008, 0, none⟩) n23 n23), (Value.int .i64 x24)] 31 false 2)), (1005, (AObj.sym l25 true 1)), (500, (AObj.sym l26 false 2)), (501, (AObj.sym l27 false 1)), (502, (AObj.sym l28 false 1)), (1006, (AObj.sym l29 true 1)), (1007, (AObj.sym l30 true 1)), (1008, (AObj.sym l31 true 1))] B X (dataK k)
theorem rLwsss10_text (C : Ct) (L : AtLoop) (x0 : Int) (x1 : Int) (x2 : Int) (n3 : Nat) (x4 : Int) (n5 : Nat) (c6 : Nat) (x7 : Int) (x8 : Int) (x9 : Int) (n10 : Nat) (c11 : Nat) (x12 : Int) (n13 : Nat) (c14 : Nat) (x15 : Int) (x16 : Int) (x17 : Int) (x18 : Int) (n19 : Nat) (x20 : Int) (n21 : Nat) (x22 : Int) (n23 : Nat) (x24 : Int) (l25 : List Go.Value) (l26 : List Go.Value) (l27 : List Go.Value) (l28 : List Go.Value) (l29 : List Go.Value) (l30 : List Go.Value) (l31 : List Go.Value) (B : Bx) (X : Xx) (k : List D → Prop) : rLwsss10 C L x0 x1 x2 n3 x4 n5 c6 x7 x8 x9 n10 c11 x12 n13 c14 x15 x16 x17 x18 n19 x20 n21 x22 n23 x24 l25 l26 l27 l28 l29 l30 l31 B X k =
 (bcase (decide (x4 < x2))
 (bcase (decide (0 ≤ x4))
 (bcase (decide (x4 < (↑n19 : Int)))
 (∃ n1 : Int,
 ((At (l29) (0 + Int.toNat x4 * 1) 1 [(vI n1)]) ∧
 (bcase (decide (0 ≤ x4))
 (bcase (decide (x4 < (↑n21 : Int)))
 (∃ n2 : Int,
 ((At (l30) (0 + Int.toNat x4 * 1) 1 [(vI n2)]) ∧
 (bcase (decide (n1 > n2))
 ((Qu ∧
 (Qu ∧
 (Qu ∧
 (Qu ∧
 (Qu ∧
 (Qu ∧
 (Qu ∧
 (Qb ∧
 (Qb ∧
 (Qu ∧
 (Qu ∧
 (Qu ∧
 (Qu ∧
 (Qu ∧
 (Qu ∧
 (Qu ∧
 (Qu ∧
 (Qu ∧
 (Qu ∧
 (Qu ∧
 (Qb ∧
 ((bcase (decide (n1 > n2))
 Qb
 Qft) ∧
 ((∃ n4 : Int,
 ((At (l30) (0 + Int.toNat x4 * 1) 1 [(vI n4)]) ∧
 ((vI n4) = (vI n2)))) ∧
 ((bcase (decide (0 ≤ x4))
 (bcase (decide (x4 < (↑n21 : Int)))
 (Qv (Pt 1007 (0 + Int.toNat x4 * 1)))
 False)
 False) ∧
 ((Qv (vI x4)) ∧
 ((Qv (Sl 1007 (n21) (n21))) ∧
 ((Qv (Pt 1003 0)) ∧
 ((∃ n4 : Int,
 ((At (l29) (0 + Int.toNat x4 * 1) 1 [(vI n4)]) ∧
 ((vI n4) = (vI n1)))) ∧
 ((bcase (decide (0 ≤ x4))
 (bcase (decide (x4 < (↑n19 : Int)))
 (Qv (Pt 1006 (0 + Int.toNat x4 * 1)))
 False)
 False) ∧
 ((Qv (vI x4)) ∧
 ((Qv (Sl 1006 (n19) (n19))) ∧
 ((Qv (Pt 1002 0)) ∧
 True)))))))))))))))))))))))))))))))) ∧
 ((Qb ∧
 (Qu ∧
 (Qu ∧
 (Qu ∧
 (Qu ∧
 (Qu ∧
 (Qb ∧
 (Qu ∧
 (Qu ∧
 (Qu ∧
 (Qu ∧
 (Qu ∧
 (Qu ∧
 (Qu ∧
 (Qu ∧
 (Qu ∧
 (Qu ∧
 (Qu ∧
 (Qb ∧
 ((bcase (decide (n1 > n2))
 Qb
 Qft) ∧
 ((∃ n4 : Int,
 ((At (l30) (0 + Int.toNat x4 * 1) 1 [(vI n4)]) ∧
 ((vI n4) = (vI n2)))) ∧
 ((bcase (decide (0 ≤ x4))
 (bcase (decide (x4 < (↑n21 : Int)))
 (Qv (Pt 1007 (0 + Int.toNat x4 * 1)))
 False)
 False) ∧
 ((Qv (vI x4)) ∧
 ((Qv (Sl 1007 (n21) (n21))) ∧
 ((Qv (Pt 1003 0)) ∧
 ((∃ n4 : Int,
 ((At (l29) (0 + Int.toNat x4 * 1) 1 [(vI n4)]) ∧
 ((vI n4) = (vI n1)))) ∧
 ((bcase (decide (0 ≤ x4))
 (bcase (decide (x4 < (↑n19 : Int)))
 (Qv (Pt 1006 (0 + Int.toNat x4 * 1)))
 False)
 False) ∧
 ((Qv (vI x4)) ∧
 ((Qv (Sl 1006 (n19) (n19))) ∧
 ((Qv (Pt 1002 0)) ∧
 True)))))))))))))))))))))))))))))) ∧
 (k kF)))
 (bcase (decide (0 ≤ x4))
 (bcase (decide (x4 < (↑n19 : Int)))
 (∃ n4 : Int,
 ((At (l29) (0 + Int.toNat x4 * 1) 1 [(vI n4)]) ∧
 (bcase (decide (0 ≤ x4))
 (bcase (decide (x4 < (↑n23 : Int)))
 (∃ n6 : Int,
 ((At (l31) (0 + Int.toNat x4 * 1) 1 [(vI n6)]) ∧
 (bcase (decide (n4 > n6))
 ((Qu ∧
 (Qu ∧
 (Qu ∧
 (Qu ∧
 (Qu ∧
 (Qu ∧
 (Qu ∧
 (Qb ∧
 (Qb ∧
 ((bcase (decide (n4 > n6))
 Qb
 Qft) ∧
 ((∃ n7 : Int,
 ((At (l31) (0 + Int.toNat x4 * 1) 1 [(vI n7)]) ∧
 ((vI n7) = (vI n6)))) ∧
 ((bcase (decide (0 ≤ x4))
 (bcase (decide (x4 < (↑n23 : Int)))
 (Qv (Pt 1008 (0 + Int.toNat x4 * 1)))
 False)
 False) ∧
 ((Qv (vI x4)) ∧
 ((Qv (Sl 1008 (n23) (n23))) ∧
 ((Qv (Pt 1004 0)) ∧
 ((∃ n7 : Int,
 ((At (l29) (0 + Int.toNat x4 * 1) 1 [(vI n7)]) ∧
 ((vI n7) = (vI n4)))) ∧
 ((bcase (decide (0 ≤ x4))
 (bcase (decide (x4 < (↑n19 : Int)))
 (Qv (Pt 1006 (0 + Int.toNat x4 * 1)))
 False)
 False) ∧
 ((Qv (vI x4)) ∧
 ((Qv (Sl 1006 (n19) (n19))) ∧
 ((Qv (Pt 1002 0)) ∧
 (Qf ∧
 ((bcase (decide (n1 > n2))
 Qtf
 Qf) ∧
 ((∃ n7 : Int,
 ((At (l30) (0 + Int.toNat x4 * 1) 1 [(vI n7)]) ∧
 ((vI n7) = (vI n2)))) ∧
 ((bcase (decide (0 ≤ x4))
 (bcase (decide (x4 < (↑n21 : Int)))
 (Qv (Pt 1007 (0 + Int.toNat x4 * 1)))
 False)
 False) ∧
 ((Qv (vI x4)) ∧
 ((Qv (Sl 1007 (n21) (n21))) ∧
 ((Qv (Pt 1003 0)) ∧
 ((∃ n7 : Int,
 ((At (l29) (0 + Int.toNat x4 * 1) 1 [(vI n7)]) ∧
 ((vI n7) = (vI n1)))) ∧
 ((bcase (decide (0 ≤ x4))
 (bcase (decide (x4 < (↑n19 : Int)))
 (Qv (Pt 1006 (0 + Int.toNat x4 * 1)))
 False)
 False) ∧
 ((Qv (vI x4)) ∧
 ((Qv (Sl 1006 (n19) (n19))) ∧
 ((Qv (Pt 1002 0)) ∧
 True)))))))))))))))))))))))))))))))) ∧
 ((Qb ∧
 (Qu ∧
 (Qu ∧
 (Qu ∧
 (Qu ∧
 (Qu ∧
 (Qb ∧
 ((bcase (decide (n4 > n6))
 Qb
 Qft) ∧
 ((∃ n7 : Int,
 ((At (l31) (0 + Int.toNat x4 * 1) 1 [(vI n7)]) ∧
 ((vI n7) = (vI n6)))) ∧
 ((bcase (decide (0 ≤ x4))
 (bcase (decide (x4 < (↑n23 : Int)))
 (Qv (Pt 1008 (0 + Int.toNat x4 * 1)))
 False)
 False) ∧
 ((Qv (vI x4)) ∧
 ((Qv (Sl 1008 (n23) (n23))) ∧
 ((Qv (Pt 1004 0)) ∧
 ((∃ n7 : Int,
 ((At (l29) (0 + Int.toNat x4 * 1) 1 [(vI n7)]) ∧
 ((vI n7) = (vI n4)))) ∧
 ((bcase (decide (0 ≤ x4))
 (bcase (decide (x4 < (↑n19 : Int)))
 (Qv (Pt 1006 (0 + Int.toNat x4 * 1)))
 False)
 False) ∧
 ((Qv (vI x4)) ∧
 ((Qv (Sl 1006 (n19) (n19))) ∧
 ((Qv (Pt 1002 0)) ∧
 (Qf ∧
 ((bcase (decide (n1 > n2))
 Qtf
 Qf) ∧
 ((∃ n7 : Int,
 ((At (l30) (0 + Int.toNat x4 * 1) 1 [(vI n7)]) ∧
 ((vI n7) = (vI n2)))) ∧
 ((bcase (decide (0 ≤ x4))
 (bcase (decide (x4 < (↑n21 : Int)))
 (Qv (Pt 1007 (0 + Int.toNat x4 * 1)))
 False)
 False) ∧
 ((Qv (vI x4)) ∧
 ((Qv (Sl 1007 (n21) (n21))) ∧
 ((Qv (Pt 1003 0)) ∧
 ((∃ n7 : Int,
 ((At (l29) (0 + Int.toNat x4 * 1) 1 [(vI n7)]) ∧
 ((vI n7) = (vI n1)))) ∧
 ((bcase (decide (0 ≤ x4))
 (bcase (decide (x4 < (↑n19 : Int)))
 (Qv (Pt 1006 (0 + Int.toNat x4 * 1)))
 False)
 False) ∧
 ((Qv (vI x4)) ∧
 ((Qv (Sl 1006 (n19) (n19))) ∧
 ((Qv (Pt 1002 0)) ∧
 True)))))))))))))))))))))))))))))) ∧
 (k kF)))
 (bcase (decide (0 ≤ x4))
 (bcase (decide (x4 < (↑n19 : Int)))
 (∃ n7 : Int,
 ((At (l29) (0 + Int.toNat x4 * 1) 1 [(vI n7)]) ∧
 (((Qv (vI x1)) ∧
 ((Qv (vI x0)) ∧
 ((∃ n8 : Int,
 ((At (l29) (0 + Int.toNat x4 * 1) 1 [(vI n8)]) ∧
 ((vI n8) = (vI n7)))) ∧
 ((bcase (decide (0 ≤ x4))
 (bcase (decide (x4 < (↑n19 : Int)))
 (Qv (Pt 1006 (0 + Int.toNat x4 * 1)))
 False)
 False) ∧
 ((Qv (vI x4)) ∧
 ((Qv (Sl 1006 (n19) (n19))) ∧
 ((Qv (Pt 1002 0)) ∧
 (Qf ∧
 (Qf ∧
 ((bcase (decide (n4 > n6))
 Qtf
 Qf) ∧
 ((∃ n8 : Int,
 ((At (l31) (0 + Int.toNat x4 * 1) 1 [(vI n8)]) ∧
 ((vI n8) = (vI n6)))) ∧
 ((bcase (decide (0 ≤ x4))
 (bcase (decide (x4 < (↑n23 : Int)))
 (Qv (Pt 1008 (0 + Int.toNat x4 * 1)))
 False)
 False) ∧
 ((Qv (vI x4)) ∧
 ((Qv (Sl 1008 (n23) (n23))) ∧
 ((Qv (Pt 1004 0)) ∧
 ((∃ n8 : Int,
 ((At (l29) (0 + Int.toNat x4 * 1) 1 [(vI n8)]) ∧
 ((vI n8) = (vI n4)))) ∧
 ((bcase (decide (0 ≤ x4))
 (bcase (decide (x4 < (↑n19 : Int)))
 (Qv (Pt 1006 (0 + Int.toNat x4 * 1)))
 False)
 False) ∧
 ((Qv (vI x4)) ∧
 ((Qv (Sl 1006 (n19) (n19))) ∧
 ((Qv (Pt 1002 0)) ∧
 (Qf ∧
 ((bcase (decide (n1 > n2))
 Qtf
 Qf) ∧
 ((∃ n8 : Int,
 ((At (l30) (0 + Int.toNat x4 * 1) 1 [(vI n8)]) ∧
 ((vI n8) = (vI n2)))) ∧
 ((bcase (decide (0 ≤ x4))
 (bcase (decide (x4 < (↑n21 : Int)))
 (Qv (Pt 1007 (0 + Int.toNat x4 * 1)))
 False)
 False) ∧
 ((Qv (vI x4)) ∧
 ((Qv (Sl 1007 (n21) (n21))) ∧
 ((Qv (Pt 1003 0)) ∧
 ((∃ n8 : Int,
 ((At (l29) (0 + Int.toNat x4 * 1) 1 [(vI n8)]) ∧
 ((vI n8) = (vI n1)))) ∧
 ((bcase (decide (0 ≤ x4))
 (bcase (decide (x4 < (↑n19 : Int)))
 (Qv (Pt 1006 (0 + Int.toNat x4 * 1)))
 False)
 False) ∧
 ((Qv (vI x4)) ∧
 ((Qv (Sl 1006 (n19) (n19))) ∧
 ((Qv (Pt 1002 0)) ∧
 True)))))))))))))))))))))))))))))))) ∧
 (((Says C 21 [(dI n7), (dI x0), (dI x1)] kT) ∧
 ((Qf ∧
 (Qf ∧
 ((bcase (decide (0 ≤ x4))
 (bcase (decide (x4 < (↑n19 : Int)))
 (Qv (Pt 1006 (0 + Int.toNat x4 * 1)))
 False)
 False) ∧
 ((Qv (vI x4)) ∧
 ((Qv (Sl 1006 (n19) (n19))) ∧
 ((Qv (Pt 1002 0)) ∧
 (Qf ∧
 ((bcase (decide (n4 > n6))
 Qtf
 Qf) ∧
 ((∃ n8 : Int,
 ((At (l31) (0 + Int.toNat x4 * 1) 1 [(vI n8)]) ∧
 ((vI n8) = (vI n6)))) ∧
 ((bcase (decide (0 ≤ x4))
 (bcase (decide (x4 < (↑n23 : Int)))
 (Qv (Pt 1008 (0 + Int.toNat x4 * 1)))
 False)
 False) ∧
 ((Qv (vI x4)) ∧
 ((Qv (Sl 1008 (n23) (n23))) ∧
 ((Qv (Pt 1004 0)) ∧
 ((∃ n8 : Int,
 ((At (l29) (0 + Int.toNat x4 * 1) 1 [(vI n8)]) ∧
 ((vI n8) = (vI n4)))) ∧
 ((bcase (decide (0 ≤ x4))
 (bcase (decide (x4 < (↑n19 : Int)))
 (Qv (Pt 1006 (0 + Int.toNat x4 * 1)))
 False)
 False) ∧
 ((Qv (vI x4)) ∧
 ((Qv (Sl 1006 (n19) (n19))) ∧
 ((Qv (Pt 1002 0)) ∧
 (Qf ∧
 ((bcase (decide (n1 > n2))
 Qtf
 Qf) ∧
 ((∃ n8 : Int,
 ((At (l30) (0 + Int.toNat x4 * 1) 1 [(vI n8)]) ∧
 ((vI n8) = (vI n2)))) ∧
 ((bcase (decide (0 ≤ x4))
 (bcase (decide (x4 < (↑n21 : Int)))
 (Qv (Pt 1007 (0 + Int.toNat x4 * 1)))
 False)
 False) ∧
 ((Qv (vI x4)) ∧
 ((Qv (Sl 1007 (n21) (n21))) ∧
 ((Qv (Pt 1003 0)) ∧
 ((∃ n8 : Int,
 ((At (l29) (0 + Int.toNat x4 * 1) 1 [(vI n8)]) ∧
 ((vI n8) = (vI n1)))) ∧
 ((bcase (decide (0 ≤ x4))
 (bcase (decide (x4 < (↑n19 : Int)))
 (Qv (Pt 1006 (0 + Int.toNat x4 * 1)))
 False)
 False) ∧
 ((Qv (vI x4)) ∧
 ((Qv (Sl 1006 (n19) (n19))) ∧
 ((Qv (Pt 1002 0)) ∧
 True)))))))))))))))))))))))))))))) ∧
 (bcase (decide (0 ≤ x4))
 (bcase (decide (x4 < (↑n3 : Int)))
 (bcase (decide (0 + Int.toNat x4 * 1 + 1 ≤ List.length l25))
 (B [(Prod.mk 2 (Pt 1000 0)), (Prod.mk 3 (Pt 1001 0)), (Prod.mk 5 (vI x0)), (Prod.mk 6 (vI x1)), (Prod.mk 8 (Pt 1002 0)), (Prod.mk 10 (Pt 1003 0)), (Prod.mk 12 (Pt 1004 0)), (Prod.mk 14 (vI x2)), (Prod.mk 15 (Sl 1005 (n3) (n3))), (Prod.mk 16 (vI (IntKind.wrap .i64 (x4 + 1))))] [(Prod.mk 1000 (AObj.cells [(Sl 500 (n5) (c6)), (vI x7), (vI x8), (vI x9)] 28 false 1)), (Prod.mk 1001 (AObj.cells [(Sl 501 (n10) (c11)), (vI x12), (Sl 502 (n13) (c14)), (vI x15), (vI x16), (vI x17), (vI x18)] 56 false 1)), (Prod.mk 1002 (AObj.cells [(Sl 1006 (n19) (n19)), (vI x20)] 31 false 2)), (Prod.mk 1003 (AObj.cells [(Sl 1007 (n21) (n21)), (vI x22)] 31 false 2)), (Prod.mk 1004 (AObj.cells [(Sl 1008 (n23) (n23)), (vI x24)] 31 false 2)), (Prod.mk 1005 (AObj.sym (listSet (l25) (0 + Int.toNat x4 * 1) [(vI x17)]) true 1)), (Prod.mk 500 (AObj.sym (l26) false 2)), (Prod.mk 501 (AObj.sym (l27) false 1)), (Prod.mk 502 (AObj.sym (l28) false 1)), (Prod.mk 1006 (AObj.sym (l29) true 1)), (Prod.mk 1007 (AObj.sym (l30) true 1)), (Prod.mk 1008 (AObj.sym (l31) true 1))])
 False)
 False)
 False))) ∨
 ((Says C 21 [(dI n7), (dI x0), (dI x1)] kF) ∧
 ((Qb ∧
 (Qb ∧
 ((bcase (decide (0 ≤ x4))
 (bcase (decide (x4 < (↑n19 : Int)))
 (Qv (Pt 1006 (0 + Int.toNat x4 * 1)))
 False)
 False) ∧
 ((Qv (vI x4)) ∧
 ((Qv (Sl 1006 (n19) (n19))) ∧
 ((Qv (Pt 1002 0)) ∧
 (Qf ∧
 ((bcase (decide (n4 > n6))
 Qtf
 Qf) ∧
 ((∃ n8 : Int,
 ((At (l31) (0 + Int.toNat x4 * 1) 1 [(vI n8)]) ∧
 ((vI n8) = (vI n6)))) ∧
 ((bcase (decide (0 ≤ x4))
 (bcase (decide (x4 < (↑n23 : Int)))
 (Qv (Pt 1008 (0 + Int.toNat x4 * 1)))
 False)
 False) ∧
 ((Qv (vI x4)) ∧
 ((Qv (Sl 1008 (n23) (n23))) ∧
 ((Qv (Pt 1004 0)) ∧
 ((∃ n8 : Int,
 ((At (l29) (0 + Int.toNat x4 * 1) 1 [(vI n8)]) ∧
 ((vI n8) = (vI n4)))) ∧
 ((bcase (decide (0 ≤ x4))
 (bcase (decide (x4 < (↑n19 : Int)))
 (Qv (Pt 1006 (0 + Int.toNat x4 * 1)))
 False)
 False) ∧
 ((Qv (vI x4)) ∧
 ((Qv (Sl 1006 (n19) (n19))) ∧
 ((Qv (Pt 1002 0)) ∧
 (Qf ∧
 ((bcase (decide (n1 > n2))
 Qtf
 Qf) ∧
 ((∃ n8 : Int,
 ((At (l30) (0 + Int.toNat x4 * 1) 1 [(vI n8)]) ∧
 ((vI n8) = (vI n2)))) ∧
 ((bcase (decide (0 ≤ x4))
 (bcase (decide (x4 < (↑n21 : Int)))
 (Qv (Pt 1007 (0 + Int.toNat x4 * 1)))
 False)
 False) ∧
 ((Qv (vI x4)) ∧
 ((Qv (Sl 1007 (n21) (n21))) ∧
 ((Qv (Pt 1003 0)) ∧
 ((∃ n8 : Int,
 ((At (l29) (0 + Int.toNat x4 * 1) 1 [(vI n8)]) ∧
 ((vI n8) = (vI n1)))) ∧
 ((bcase (decide (0 ≤ x4))
 (bcase (decide (x4 < (↑n19 : Int)))
 (Qv (Pt 1006 (0 + Int.toNat x4 * 1)))
 False)
 False) ∧
 ((Qv (vI x4)) ∧
 ((Qv (Sl 1006 (n19) (n19))) ∧
 ((Qv (Pt 1002 0)) ∧
 True)))))))))))))))))))))))))))))) ∧
 (k kF)))))))
 False)
 False))))
 False)
 False)))
 False)
 False))))
 False)
 False)))
 False)
 False)
 (X 2 [(Prod.mk 2 (Pt 1000 0)), (Prod.mk 3 (Pt 1001 0)), (Prod.mk 15 (Sl 1002 (n3) (n3)))] [(Prod.mk 1000 (AObj.cells [(Sl 500 (n5) (c6)), (vI x7), (vI x8), (vI x9)] 28 false 1)), (Prod.mk 1001 (AObj.cells [(Sl 501 (n10) (c11)), (vI x12), (Sl 502 (n13) (c14)), (vI x15), (vI x16), (vI x17), (vI x18)] 56 false 1)), (Prod.mk 1002 (AObj.sym (l25) true 1)), (Prod.mk 500 (AObj.sym (l26) false 2)), (Prod.mk 501 (AObj.sym (l27) false 1)), (Prod.mk 502 (AObj.sym (l28) false 1))])) := by kernel_rfl
def nLwsss11 (C : Ct) (L : AtLoop) (n0 : Nat) (n1 : Nat) (c2 : Nat) (x3 : Int) (x4 : Int) (x5 : Int) (n6 : Nat) (c7 : Nat) (x8 : Int) (n9 : Nat) (c10 : Nat) (x11 : Int) (x12 : Int) (x13 : Int) (x14 : Int) (l15 : List Value) (l16 : List Value) (l17 : List Value) (l18 : List Value) (k : List D → Prop) : Prop := wpNext Try.prog (hH C) L 4 2 .normal [(2, (Value.pointer (some ⟨1000, 0, none⟩))), (3, (Value.pointer (some ⟨1001, 0, none⟩))), (15, (Value.slice (some ⟨1002, 0, none⟩) n0 n0))] [(1000, (AObj.cells [(Value.slice (some ⟨500, 0, none⟩) n1 c2), (Value.int .i64 x3), (Value.int .i64 x4), (Value.int .i64 x5)] 28 false 1)), (1001, (AObj.cells [(Value.slice (some ⟨501, 0, none⟩) n6 c7), (Value.int .i64 x8), (Value.slice (some ⟨502, 0, none⟩) n9 c10), (Value.int .i64 x11), (Value.int .i64 x12), (Value.int .i64 x13), (Value.int .i64 x14)] 56 false 1)), (1002, (AObj.sym l15 true 1)), (500, (AObj.sym l16 false 2)), (501, (AObj.sym l17 false 1)), (502, (AObj.sym l18 false 1))] (dataK k)
theorem nLwsss11_text (C : Ct) (L : AtLoop) (n0 : Nat) (n1 : Nat) (c2 : Nat) (x3 : Int) (x4 : Int) (x5 : Int) (n6 : Nat) (c7 : Nat) (x8 : Int) (n9 : Nat) (c10 : Nat) (x11 : Int) (x12 : Int) (x13 : Int) (x14 : Int) (l15 : List Go.Value) (l16 : List Go.Value) (l17 : List Go.Value) (l18 : List Go.Value) (k : List D → Prop) : nLwsss11 C L n0 n1 c2 x3 x4 x5 n6 c7 x8 n9 c10 x11 x12 x13 x14 l15 l16 l17 l18 k =
 ((((Qv (Pt 1003 0)) ∧
 (Qv (some (AObj.cells [(Value.slice none 0 0), (vI 0)] 31 false 2)))) ∧
 ((Qv (Value.agg [(vI x14), (vI x13)].toArray)) ∧
 ((Qv (vI x13)) ∧
 ((Qv (Pt 1001 5)) ∧
 ((Qv (vI x14)) ∧
 ((Qv (Pt 1001 6)) ∧
 ((Qv (vI x8)) ∧
 ((Qv (Pt 1001 1)) ∧
 ((Qv (Pt 1001 0)) ∧
 ((Qv (Sl 1002 (n0) (n0))) ∧
 ((Qv (Value.agg [(Sl 500 (n1) (c2)), (vI x3), (vI x4), (vI x5)].toArray)) ∧
 True))))))))))) ∧
 (bcase (dL n1 2 l16)
 ((Says C 8 [(D.agg [(Dw n1 2 l16), (dI x3), (dI x4), (dI x5)])] [(D.agg [(Dw n1 2 l16), (dI x3), (dI x4), (dI x5)])]) ∧
 ((((Qv (Pt 1003 0)) ∧
 (Qv (some (AObj.cells [(Value.slice none 0 0), (vI 0)] 31 false 2)))) ∧
 ((Qv (Value.agg [(vI x14), (vI x13)].toArray)) ∧
 ((Qv (vI x13)) ∧
 ((Qv (Pt 1001 5)) ∧
 ((Qv (vI x14)) ∧
 ((Qv (Pt 1001 6)) ∧
 ((Qv (vI x8)) ∧
 ((Qv (Pt 1001 1)) ∧
 ((Qv (Pt 1001 0)) ∧
 ((Qv (Sl 1002 (n0) (n0))) ∧
 True)))))))))) ∧
 (bcase (dL n0 1 l15)
 ((Says C 22 [(Dw n0 1 l15)] [(Dw n0 1 l15)]) ∧
 (((Qv (Value.agg [(Sl 1005 (n0) (n0)), (vI x8)].toArray)) ∧
 (((Qv (Pt 1003 0)) ∧
 (Qv (some (AObj.cells [(Value.slice none 0 0), (vI 0)] 31 false 2)))) ∧
 ((Qv (Value.agg [(vI x14), (vI x13)].toArray)) ∧
 ((Qv (vI x13)) ∧
 ((Qv (Pt 1001 5)) ∧
 ((Qv (vI x14)) ∧
 ((Qv (Pt 1001 6)) ∧
 ((Qv (vI x8)) ∧
 ((Qv (Pt 1001 1)) ∧
 ((Qv (Pt 1001 0)) ∧
 True)))))))))) ∧
 (bcase (dL n1 2 (Tk n1 2 l16))
 (bcase (dL n0 1 (Tk n0 1 l15))
 ((∃ n2 : Int,
 (∃ n3 : Int,
 ((Says C 7 [(D.agg [(Dw n1 2 (Tk n1 2 l16)), (dI x3), (dI x4), (dI x5)]), (D.agg [(Dw n0 1 (Tk n0 1 l15)), (dI x8)]), (D.agg [(dI x14), (dI x13)])] [(D.agg [D.nil, (dI n2)]), (dI n3)]) ∧
 (((Qv (vI n3)) ∧
 ((Qv (Value.agg [(Value.slice none 0 0), (vI n2)].toArray)) ∧
 ((Qv (Value.tuple [(Value.agg [(Value.slice none 0 0), (vI n2)].toArray), (vI n3)].toArray)) ∧
 (((Qv (Pt 1003 0)) ∧
 (Qv (some (AObj.cells [(Value.slice none 0 0), (vI 0)] 31 false 2)))) ∧
 ((Qv (vI x13)) ∧
 ((Qv (Pt 1001 5)) ∧
 ((Qv (vI x14)) ∧
 ((Qv (Pt 1001 6)) ∧
 ((Qv (vI x8)) ∧
 ((Qv (Pt 1001 1)) ∧
 ((Qv (Pt 1001 0)) ∧
 True))))))))))) ∧
 (((Qv (vI n3)) ∧
 True) ∧
 (True ∧
 (bcase (n3 == 0)
 (bcase (dL n0 1 l15)
 (((Says C 23 [D.nil, (Dw n0 1 l15)] kT) ∧
 (k kT)) ∨
 ((Says C 23 [D.nil, (Dw n0 1 l15)] kF) ∧
 (k kF)))
 False)
 (k kF)))))))) ∨
 (∃ n2 : Nat,
 (∃ cs1 : List Go.Value,
 (∃ n3 : Int,
 (∃ n4 : Int,
 ((Says C 7 [(D.agg [(Dw n1 2 (Tk n1 2 l16)), (dI x3), (dI x4), (dI x5)]), (D.agg [(Dw n0 1 (Tk n0 1 l15)), (dI x8)]), (D.agg [(dI x14), (dI x13)])] [(D.agg [(D.sl (n2) 1 (cs1)), (dI n3)]), (dI n4)]) ∧
 (((Qv (vI n4)) ∧
 ((Qv (Value.agg [(Sl 1006 (n2) (n2)), (vI n3)].toArray)) ∧
 ((Qv (Value.tuple [(Value.agg [(Sl 1006 (n2) (n2)), (vI n3)].toArray), (vI n4)].toArray)) ∧
 (((Qv (Pt 1003 0)) ∧
 (Qv (some (AObj.cells [(Value.slice none 0 0), (vI 0)] 31 false 2)))) ∧
 ((Qv (vI x13)) ∧
 ((Qv (Pt 1001 5)) ∧
 ((Qv (vI x14)) ∧
 ((Qv (Pt 1001 6)) ∧
 ((Qv (vI x8)) ∧
 ((Qv (Pt 1001 1)) ∧
 ((Qv (Pt 1001 0)) ∧
 True))))))))))) ∧
 (((Qv (vI n4)) ∧
 True) ∧
 (True ∧
 (bcase (n4 == 0)
 (bcase (dL n2 1 cs1)
 (bcase (dL n0 1 l15)
 (((Says C 23 [(Dw n2 1 cs1), (Dw n0 1 l15)] kT) ∧
 (k kT)) ∨
 ((Says C 23 [(Dw n2 1 cs1), (Dw n0 1 l15)] kF) ∧
 (k kF)))
 False)
 False)
 (k kF)))))))))))
 False)
 False)))
 False)))
 False)) := by kernel_rfl
def gLwssn (C : Ct) (L : AtLoop) (n0 : Nat) (c0 : Nat) (l0 : List Value) (x1 : Int) (x2 : Int) (x3 : Int) (n4 : Nat) (c4 : Nat) (l4 : List Value) (x5 : Int) (x7 : Int) (x8 : Int) (x9 : Int) (x10 : Int) (k : List D → Prop) : Prop := wpFn Try.prog (hH C) L 0 4 #[.agg #[.slice (some ⟨500, 0, none⟩) n0 c0, .int .i64 x1, .int .i64 x2, .int .i64 x3], .agg #[.slice (some ⟨501, 0, none⟩) n4 c4, .int .i64 x5, .slice none 0 0, .int .i64 x7, .int .i64 x8, .int .i64 x9, .int .i64 x10]] (heapOf [(500, .sym l0 false 2), (501, .sym l4 false 1)]) (dataK k)
theorem gLwssn_text (C : Ct) (L : AtLoop) (n0 : Nat) (c0 : Nat) (l0 : List Go.Value) (x1 : Int) (x2 : Int) (x3 : Int) (n4 : Nat) (c4 : Nat) (l4 : List Go.Value) (x5 : Int) (x7 : Int) (x8 : Int) (x9 : Int) (x10 : Int) (k : List D → Prop) : gLwssn C L n0 c0 l0 x1 x2 x3 n4 c4 l4 x5 x7 x8 x9 x10 k =
 (((Says C 5 [] kT) ∧
 (bcase (decide ((↑n0 : Int) ≤ 12))
 (bcase (decide ((↑n4 : Int) ≤ 10))
 (bcase (decide ((↑n0 : Int) ≤ 12))
 (bcase (dL n0 2 l0)
 (bcase (dL n4 1 l4)
 (∃ n1 : Int,
 ((Says C 16 [(D.agg [(Dw n0 2 l0), (dI x1), (dI x2), (dI x3)]), (D.agg [(Dw n4 1 l4), (dI x5)])] [(dI n1)]) ∧
 (bcase (n1 != 0)
 (k kT)
 (∃ n2 : Int,
 ((Says C 14 [(D.agg [D.nil, (dI x7)])] [(dI n2)]) ∧
 (bcase (n2 != 0)
 (k kT)
 (∃ n3 : Int,
 ((Says C 17 [(dI x10)] [(dI n3)]) ∧
 (bcase (n3 != 0)
 (k kT)
 (∃ n5 : Int,
 ((Says C 18 [(dI x8)] [(dI n5)]) ∧
 (bcase (n5 != 0)
 (k kT)
 (∃ n6 : Int,
 ((Says C 18 [(dI x9)] [(dI n6)]) ∧
 (bcase (n6 != 0)
 (k kT)
 (bcase ((↑n4 : Int) != (↑0 : Int))
 (k kT)
 (bcase (x5 != x7)
 (k kT)
 (bcase (decide (x8 > x9))
 (k kT)
 (((Qv (vI x8)) ∧
 ((Qv (Pt 1001 4)) ∧
 ((Qv (vI x8)) ∧
 ((Qv (Pt 1001 4)) ∧
 True)))) ∧
 (((Qv (vI x8)) ∧
 ((Qv (Pt 1001 4)) ∧
 True)) ∧
 (True ∧
 (L 0 [(Prod.mk 2 (Pt 1000 0)), (Prod.mk 3 (Pt 1001 0)), (Prod.mk 5 (vI x8)), (Prod.mk 6 (vI x8)), (Prod.mk 7 (vI 0))] [(Prod.mk 1000 (AObj.cells [(Sl 500 (n0) (c0)), (vI x1), (vI x2), (vI x3)] 28 false 1)), (Prod.mk 1001 (AObj.cells [(Sl 501 (n4) (c4)), (vI x5), (Value.slice none 0 0), (vI x7), (vI x8), (vI x9), (vI x10)] 56 false 1)), (Prod.mk 500 (AObj.sym (l0) false 2)), (Prod.mk 501 (AObj.sym (l4) false 1))]))))))))))))))))))))))
 False)
 False)
 (k kT))
 (k kT))
 (k kT))) ∨
 ((Says C 5 [] kF) ∧
 (k kF))) := by kernel_rfl
def gLwsns (C : Ct) (L : AtLoop) (n0 : Nat) (c0 : Nat) (l0 : List Value) (x1 : Int) (x2 : Int) (x3 : Int) (x5 : Int) (n6 : Nat) (c6 : Nat) (l6 : List Value) (x7 : Int) (x8 : Int) (x9 : Int) (x10 : Int) (k : List D → Prop) : Prop := wpFn Try.prog (hH C) L 0 4 #[.agg #[.slice (some ⟨500, 0, none⟩) n0 c0, .int .i64 x1, .int .i64 x2, .int .i64 x3], .agg #[.slice none 0 0, .int .i64 x5, .slice (some ⟨501, 0, none⟩) n6 c6, .int .i64 x7, .int .i64 x8, .int .i64 x9, .int .i64 x10]] (heapOf [(500, .sym l0 false 2), (501, .sym l6 false 1)]) (dataK k)
theorem gLwsns_text (C : Ct) (L : AtLoop) (n0 : Nat) (c0 : Nat) (l0 : List Go.Value) (x1 : Int) (x2 : Int) (x3 : Int) (x5 : Int) (n6 : Nat) (c6 : Nat) (l6 : List Go.Value) (x7 : Int) (x8 : Int) (x9 : Int) (x10 : Int) (k : List D → Prop) : gLwsns C L n0 c0 l0 x1 x2 x3 x5 n6 c6 l6 x7 x8 x9 x10 k =
 (((Says C 5 [] kT) ∧
 (bcase (decide ((↑n0 : Int) ≤ 12))
 (bcase (decide ((↑n0 : Int) ≤ 12))
 (bcase (decide ((↑n6 : Int) ≤ 10))
 (bcase (dL n0 2 l0)
 (∃ n1 : Int,
 ((Says C 16 [(D.agg [(Dw n0 2 l0), (dI x1), (dI x2), (dI x3)]), (D.agg [D.nil, (dI x5)])] [(dI n1)]) ∧
 (bcase (n1 != 0)
 (k kT)
 (bcase (dL n6 1 l6)
 (∃ n2 : Int,
 ((Says C 14 [(D.agg [(Dw n6 1 l6), (dI x7)])] [(dI n2)]) ∧
 (bcase (n2 != 0)
 (k kT)
 (∃ n3 : Int,
 ((Says C 17 [(dI x10)] [(dI n3)]) ∧
 (bcase (n3 != 0)
 (k kT)
 (∃ n4 : Int,
 ((Says C 18 [(dI x8)] [(dI n4)]) ∧
 (bcase (n4 != 0)
 (k kT)
 (∃ n5 : Int,
 ((Says C 18 [(dI x9)] [(dI n5)]) ∧
 (bcase (n5 != 0)
 (k kT)
 (bcase ((↑0 : Int) != (↑n6 : Int))
 (k kT)
 (bcase (x5 != x7)
 (k kT)
 (bcase (decide (x8 > x9))
 (k kT)
 (((Qv (vI x8)) ∧
 ((Qv (Pt 1001 4)) ∧
 ((Qv (vI x8)) ∧
 ((Qv (Pt 1001 4)) ∧
 True)))) ∧
 (((Qv (vI x8)) ∧
 ((Qv (Pt 1001 4)) ∧
 True)) ∧
 (True ∧
 (L 0 [(Prod.mk 2 (Pt 1000 0)), (Prod.mk 3 (Pt 1001 0)), (Prod.mk 5 (vI x8)), (Prod.mk 6 (vI x8)), (Prod.mk 7 (vI 0))] [(Prod.mk 1000 (AObj.cells [(Sl 500 (n0) (c0)), (vI x1), (vI x2), (vI x3)] 28 false 1)), (Prod.mk 1001 (AObj.cells [(Value.slice none 0 0), (vI x5), (Sl 501 (n6) (c6)), (vI x7), (vI x8), (vI x9), (vI x10)] 56 false 1)), (Prod.mk 500 (AObj.sym (l0) false 2)), (Prod.mk 501 (AObj.sym (l6) false 1))])))))))))))))))))))
 False))))
 False)
 (k kT))
 (k kT))
 (k kT))) ∨
 ((Says C 5 [] kF) ∧
 (k kF))) := by kernel_rfl
def gLwsnn (C : Ct) (L : AtLoop) (n0 : Nat) (c0 : Nat) (l0 : List Value) (x1 : Int) (x2 : Int) (x3 : Int) (x5 : Int) (x7 : Int) (x8 : Int) (x9 : Int) (x10 : Int) (k : List D → Prop) : Prop := wpFn Try.prog (hH C) L 0 4 #[.agg #[.slice (some ⟨500, 0, none⟩) n0 c0, .int .i64 x1, .int .i64 x2, .int .i64 x3], .agg #[.slice none 0 0, .int .i64 x5, .slice none 0 0, .int .i64 x7, .int .i64 x8, .int .i64 x9, .int .i64 x10]] (heapOf [(500, .sym l0 false 2)]) (dataK k)
theorem gLwsnn_text (C : Ct) (L : AtLoop) (n0 : Nat) (c0 : Nat) (l0 : List Go.Value) (x1 : Int) (x2 : Int) (x3 : Int) (x5 : Int) (x7 : Int) (x8 : Int) (x9 : Int) (x10 : Int) (k : List D → Prop) : gLwsnn C L n0 c0 l0 x1 x2 x3 x5 x7 x8 x9 x10 k =
 (((Says C 5 [] kT) ∧
 (bcase (decide ((↑n0 : Int) ≤ 12))
 (bcase (decide ((↑n0 : Int) ≤ 12))
 (bcase (dL n0 2 l0)
 (∃ n1 : Int,
 ((Says C 16 [(D.agg [(Dw n0 2 l0), (dI x1), (dI x2), (dI x3)]), (D.agg [D.nil, (dI x5)])] [(dI n1)]) ∧
 (bcase (n1 != 0)
 (k kT)
 (∃ n2 : Int,
 ((Says C 14 [(D.agg [D.nil, (dI x7)])] [(dI n2)]) ∧
 (bcase (n2 != 0)
 (k kT)
 (∃ n3 : Int,
 ((Says C 17 [(dI x10)] [(dI n3)]) ∧
 (bcase (n3 != 0)
 (k kT)
 (∃ n4 : Int,
 ((Says C 18 [(dI x8)] [(dI n4)]) ∧
 (bcase (n4 != 0)
 (k kT)
 (∃ n5 : Int,
 ((Says C 18 [(dI x9)] [(dI n5)]) ∧
 (bcase (n5 != 0)
 (k kT)
 (bcase (x5 != x7)
 (k kT)
 (bcase (decide (x8 > x9))
 (k kT)
 (((Qv (vI x8)) ∧
 ((Qv (Pt 1001 4)) ∧
 ((Qv (vI x8)) ∧
 ((Qv (Pt 1001 4)) ∧
 True)))) ∧
 (((Qv (vI x8)) ∧
 ((Qv (Pt 1001 4)) ∧
 True)) ∧
 (True ∧
 (L 0 [(Prod.mk 2 (Pt 1000 0)), (Prod.mk 3 (Pt 1001 0)), (Prod.mk 5 (vI x8)), (Prod.mk 6 (vI x8)), (Prod.mk 7 (vI 0))] [(Prod.mk 1000 (AObj.cells [(Sl 500 (n0) (c0)), (vI x1), (vI x2), (vI x3)] 28 false 1)), (Prod.mk 1001 (AObj.cells [(Value.slice none 0 0), (vI x5), (Value.slice none 0 0), (vI x7), (vI x8), (vI x9), (vI x10)] 56 false 1)), (Prod.mk 500 (AObj.sym (l0) false 2))])))))))))))))))))))))
 False)
 (k kT))
 (k kT))) ∨
 ((Says C 5 [] kF) ∧
 (k kF))) := by kernel_rfl
def gLwnss (C : Ct) (L : AtLoop) (x1 : Int) (x2 : Int) (x3 : Int) (n4 : Nat) (c4 : Nat) (l4 : List Value) (x5 : Int) (n6 : Nat) (c6 : Nat) (l6 : List Value) (x7 : Int) (x8 : Int) (x9 : Int) (x10 : Int) (k : List D → Prop) : Prop := wpFn Try.prog (hH C) L 0 4 #[.agg #[.slice none 0 0, .int .i64 x1, .int .i64 x2, .int .i64 x3], .agg #[.slice (some ⟨500, 0, none⟩) n4 c4, .int .i64 x5, .slice (some ⟨501, 0, none⟩) n6 c6, .int .i64 x7, .int .i64 x8, .int .i64 x9, .int .i64 x10]] (heapOf [(500, .sym l4 false 1), (501, .sym l6 false 1)]) (dataK k)
theorem gLwnss_text (C : Ct) (L : AtLoop) (x1 : Int) (x2 : Int) (x3 : Int) (n4 : Nat) (c4 : Nat) (l4 : List Go.Value) (x5 : Int) (n6 : Nat) (c6 : Nat) (l6 : List Go.Value) (x7 : Int) (x8 : Int) (x9 : Int) (x10 : Int) (k : List D → Prop) : gLwnss C L x1 x2 x3 n4 c4 l4 x5 n6 c6 l6 x7 x8 x9 x10 k =
 (((Says C 5 [] kT) ∧
 (bcase (decide ((↑n4 : Int) ≤ 10))
 (bcase (decide ((↑n6 : Int) ≤ 10))
 (bcase (dL n4 1 l4)
 (∃ n1 : Int,
 ((Says C 16 [(D.agg [D.nil, (dI x1), (dI x2), (dI x3)]), (D.agg [(Dw n4 1 l4), (dI x5)])] [(dI n1)]) ∧
 (bcase (n1 != 0)
 (k kT)
 (bcase (dL n6 1 l6)
 (∃ n2 : Int,
 ((Says C 14 [(D.agg [(Dw n6 1 l6), (dI x7)])] [(dI n2)]) ∧
 (bcase (n2 != 0)
 (k kT)
 (∃ n3 : Int,
 ((Says C 17 [(dI x10)] [(dI n3)]) ∧
 (bcase (n3 != 0)
 (k kT)
 (∃ n5 : Int,
 ((Says C 18 [(dI x8)] [(dI n5)]) ∧
 (bcase (n5 != 0)
 (k kT)
 (∃ n7 : Int,
 ((Says C 18 [(dI x9)] [(dI n7)]) ∧
 (bcase (n7 != 0)
 (k kT)
 (bcase ((↑n4 : Int) != (↑n6 : Int))
 (k kT)
 (bcase (x5 != x7)
 (k kT)
 (bcase (decide (x8 > x9))
 (k kT)
 (((Qv (vI x8)) ∧
 ((Qv (Pt 1001 4)) ∧
 ((Qv (vI x8)) ∧
 ((Qv (Pt 1001 4)) ∧
 True)))) ∧
 (((Qv (vI x8)) ∧
 ((Qv (Pt 1001 4)) ∧
 True)) ∧
 (True ∧
 (L 0 [(Prod.mk 2 (Pt 1000 0)), (Prod.mk 3 (Pt 1001 0)), (Prod.mk 5 (vI x8)), (Prod.mk 6 (vI x8)), (Prod.mk 7 (vI 0))] [(Prod.mk 1000 (AObj.cells [(Value.slice none 0 0), (vI x1), (vI x2), (vI x3)] 28 false 1)), (Prod.mk 1001 (AObj.cells [(Sl 500 (n4) (c4)), (vI x5), (Sl 501 (n6) (c6)), (vI x7), (vI x8), (vI x9), (vI x10)] 56 false 1)), (Prod.mk 500 (AObj.sym (l4) false 1)), (Prod.mk 501 (AObj.sym (l6) false 1))])))))))))))))))))))
 False))))
 False)
 (k kT))
 (k kT))) ∨
 ((Says C 5 [] kF) ∧
 (k kF))) := by kernel_rfl
def gLwnsn (C : Ct) (L : AtLoop) (x1 : Int) (x2 : Int) (x3 : Int) (n4 : Nat) (c4 : Nat) (l4 : List Value) (x5 : Int) (x7 : Int) (x8 : Int) (x9 : Int) (x10 : Int) (k : List D → Prop) : Prop := wpFn Try.prog (hH C) L 0 4 #[.agg #[.slice none 0 0, .int .i64 x1, .int .i64 x2, .int .i64 x3], .agg #[.slice (some ⟨500, 0, none⟩) n4 c4, .int .i64 x5, .slice none 0 0, .int .i64 x7, .int .i64 x8, .int .i64 x9, .int .i64 x10]] (heapOf [(500, .sym l4 false 1)]) (dataK k)
theorem gLwnsn_text (C : Ct) (L : AtLoop) (x1 : Int) (x2 : Int) (x3 : Int) (n4 : Nat) (c4 : Nat) (l4 : List Go.Value) (x5 : Int) (x7 : Int) (x8 : Int) (x9 : Int) (x10 : Int) (k : List D → Prop) : gLwnsn C L x1 x2 x3 n4 c4 l4 x5 x7 x8 x9 x10 k =
 (((Says C 5 [] kT) ∧
 (bcase (decide ((↑n4 : Int) ≤ 10))
 (bcase (dL n4 1 l4)
 (∃ n1 : Int,
 ((Says C 16 [(D.agg [D.nil, (dI x1), (dI x2), (dI x3)]), (D.agg [(Dw n4 1 l4), (dI x5)])] [(dI n1)]) ∧
 (bcase (n1 != 0)
 (k kT)
 (∃ n2 : Int,
 ((Says C 14 [(D.agg [D.nil, (dI x7)])] [(dI n2)]) ∧
 (bcase (n2 != 0)
 (k kT)
 (∃ n3 : Int,
 ((Says C 17 [(dI x10)] [(dI n3)]) ∧
 (bcase (n3 != 0)
 (k kT)
 (∃ n5 : Int,
 ((Says C 18 [(dI x8)] [(dI n5)]) ∧
 (bcase (n5 != 0)
 (k kT)
 (∃ n6 : Int,
 ((Says C 18 [(dI x9)] [(dI n6)]) ∧
 (bcase (n6 != 0)
 (k kT)
 (bcase ((↑n4 : Int) != (↑0 : Int))
 (k kT)
 (bcase (x5 != x7)
 (k kT)
 (bcase (decide (x8 > x9))
 (k kT)
 (((Qv (vI x8)) ∧
 ((Qv (Pt 1001 4)) ∧
 ((Qv (vI x8)) ∧
 ((Qv (Pt 1001 4)) ∧
 True)))) ∧
 (((Qv (vI x8)) ∧
 ((Qv (Pt 1001 4)) ∧
 True)) ∧
 (True ∧
 (L 0 [(Prod.mk 2 (Pt 1000 0)), (Prod.mk 3 (Pt 1001 0)), (Prod.mk 5 (vI x8)), (Prod.mk 6 (vI x8)), (Prod.mk 7 (vI 0))] [(Prod.mk 1000 (AObj.cells [(Value.slice none 0 0), (vI x1), (vI x2), (vI x3)] 28 false 1)), (Prod.mk 1001 (AObj.cells [(Sl 500 (n4) (c4)), (vI x5), (Value.slice none 0 0), (vI x7), (vI x8), (vI x9), (vI x10)] 56 false 1)), (Prod.mk 500 (AObj.sym (l4) false 1))]))))))))))))))))))))))
 False)
 (k kT))) ∨
 ((Says C 5 [] kF) ∧
 (k kF))) := by kernel_rfl
def gLwnns (C : Ct) (L : AtLoop) (x1 : Int) (x2 : Int) (x3 : Int) (x5 : Int) (n6 : Nat) (c6 : Nat) (l6 : List Value) (x7 : Int) (x8 : Int) (x9 : Int) (x10 : Int) (k : List D → Prop) : Prop := wpFn Try.prog (hH C) L 0 4 #[.agg #[.slice none 0 0, .int .i64 x1, .int .i64 x2, .int .i64 x3], .agg #[.slice none 0 0, .int .i64 x5, .slice (some ⟨500, 0, none⟩) n6 c6, .int .i64 x7, .int .i64 x8, .int .i64 x9, .int .i64 x10]] (heapOf [(500, .sym l6 false 1)]) (dataK k)
theorem gLwnns_text (C : Ct) (L : AtLoop) (x1 : Int) (x2 : Int) (x3 : Int) (x5 : Int) (n6 : Nat) (c6 : Nat) (l6 : List Go.Value) (x7 : Int) (x8 : Int) (x9 : Int) (x10 : Int) (k : List D → Prop) : gLwnns C L x1 x2 x3 x5 n6 c6 l6 x7 x8 x9 x10 k =
 (((Says C 5 [] kT) ∧
 (bcase (decide ((↑n6 : Int) ≤ 10))
 (∃ n1 : Int,
 ((Says C 16 [(D.agg [D.nil, (dI x1), (dI x2), (dI x3)]), (D.agg [D.nil, (dI x5)])] [(dI n1)]) ∧
 (bcase (n1 != 0)
 (k kT)
 (bcase (dL n6 1 l6)
 (∃ n2 : Int,
 ((Says C 14 [(D.agg [(Dw n6 1 l6), (dI x7)])] [(dI n2)]) ∧
 (bcase (n2 != 0)
 (k kT)
 (∃ n3 : Int,
 ((Says C 17 [(dI x10)] [(dI n3)]) ∧
 (bcase (n3 != 0)
 (k kT)
 (∃ n4 : Int,
 ((Says C 18 [(dI x8)] [(dI n4)]) ∧
 (bcase (n4 != 0)
 (k kT)
 (∃ n5 : Int,
 ((Says C 18 [(dI x9)] [(dI n5)]) ∧
 (bcase (n5 != 0)
 (k kT)
 (bcase ((↑0 : Int) != (↑n6 : Int))
 (k kT)
 (bcase (x5 != x7)
 (k kT)
 (bcase (decide (x8 > x9))
 (k kT)
 (((Qv (vI x8)) ∧
 ((Qv (Pt 1001 4)) ∧
 ((Qv (vI x8)) ∧
 ((Qv (Pt 1001 4)) ∧
 True)))) ∧
 (((Qv (vI x8)) ∧
 ((Qv (Pt 1001 4)) ∧
 True)) ∧
 (True ∧
 (L 0 [(Prod.mk 2 (Pt 1000 0)), (Prod.mk 3 (Pt 1001 0)), (Prod.mk 5 (vI x8)), (Prod.mk 6 (vI x8)), (Prod.mk 7 (vI 0))] [(Prod.mk 1000 (AObj.cells [(Value.slice none 0 0), (vI x1), (vI x2), (vI x3)] 28 false 1)), (Prod.mk 1001 (AObj.cells [(Value.slice none 0 0), (vI x5), (Sl 500 (n6) (c6)), (vI x7), (vI x8), (vI x9), (vI x10)] 56 false 1)), (Prod.mk 500 (AObj.sym (l6) false 1))])))))))))))))))))))
 False))))
 (k kT))) ∨
 ((Says C 5 [] kF) ∧
 (k kF))) := by kernel_rfl
def gLwnnn (C : Ct) (L : AtLoop) (x1 : Int) (x2 : Int) (x3 : Int) (x5 : Int) (x7 : Int) (x8 : Int) (x9 : Int) (x10 : Int) (k : List D → Prop) : Prop := wpFn Try.prog (hH C) L 0 4 #[.agg #[.slice none 0 0, .int .i64 x1, .int .i64 x2, .int .i64 x3], .agg #[.slice none 0 0, .int .i64 x5, .slice none 0 0, .int .i64 x7, .int .i64 x8, .int .i64 x9, .int .i64 x10]] (heapOf []) (dataK k)
theorem gLwnnn_text (C : Ct) (L : AtLoop) (x1 : Int) (x2 : Int) (x3 : Int) (x5 : Int) (x7 : Int) (x8 : Int) (x9 : Int) (x10 : Int) (k : List D → Prop) : gLwnnn C L x1 x2 x3 x5 x7 x8 x9 x10 k =
 (((Says C 5 [] kT) ∧
 (∃ n1 : Int,
 ((Says C 16 [(D.agg [D.nil, (dI x1), (dI x2), (dI x3)]), (D.agg [D.nil, (dI x5)])] [(dI n1)]) ∧
 (bcase (n1 != 0)
 (k kT)
 (∃ n2 : Int,
 ((Says C 14 [(D.agg [D.nil, (dI x7)])] [(dI n2)]) ∧
 (bcase (n2 != 0)
 (k kT)
 (∃ n3 : Int,
 ((Says C 17 [(dI x10)] [(dI n3)]) ∧
 (bcase (n3 != 0)
 (k kT)
 (∃ n4 : Int,
 ((Says C 18 [(dI x8)] [(dI n4)]) ∧
 (bcase (n4 != 0)
 (k kT)
 (∃ n5 : Int,
 ((Says C 18 [(dI x9)] [(dI n5)]) ∧
 (bcase (n5 != 0)
 (k kT)
 (bcase (x5 != x7)
 (k kT)
 (bcase (decide (x8 > x9))
 (k kT)
 (((Qv (vI x8)) ∧
 ((Qv (Pt 1001 4)) ∧
 ((Qv (vI x8)) ∧
 ((Qv (Pt 1001 4)) ∧
 True)))) ∧
 (((Qv (vI x8)) ∧
 ((Qv (Pt 1001 4)) ∧
 True)) ∧
 (True ∧
 (L 0 [(Prod.mk 2 (Pt 1000 0)), (Prod.mk 3 (Pt 1001 0)), (Prod.mk 5 (vI x8)), (Prod.mk 6 (vI x8)), (Prod.mk 7 (vI 0))] [(Prod.mk 1000 (AObj.cells [(Value.slice none 0 0), (vI x1), (vI x2), (vI x3)] 28 false 1)), (Prod.mk 1001 (AObj.cells [(Value.slice none 0 0), (vI x5), (Value.slice none 0 0), (vI x7), (vI x8), (vI x9), (vI x10)] 56 false 1))])))))))))))))))))))))) ∨
 ((Says C 5 [] kF) ∧
 (k kF))) := by kernel_rfl
end Go.Proofs.G5h

/- FurnaceWarmer in data. -/
namespace Go.Proofs.G5h
open Go Go.Abs Go.Proofs Go.Proofs.G2
set_option maxRecDepth 100000
abbrev dPr (l : List Int) (bo : Int) (r : List Int) (b2 cool hot em : Int) : D := .agg [.sl l.length 1 (vi l), dI bo, .sl r.length 1 (vi r), dI b2, dI cool, dI hot, dI em]
theorem he_zero {ps : List Pt} {m lo hi : Int} {l : List Int} {bo em set : Int} (h1 : rulE ps m lo hi = 0) (h2 : slE l bo = 0) (h3 : eErr em = 0) (h4 : tErr set = 0) : heE ps m lo hi l bo em set = 0 := by
  unfold heE; rw [fst0_three, fst0_two, h1, h2, h3, h4]; rfl
/-- numbers of which some have been set -/
def rl (hot : Int) (n i : Nat) : List Int := (List.range n).map fun k => if k < i then hot else 0
@[simp] theorem rl_length (hot : Int) (n i : Nat) : (rl hot n i).length = n := by simp [rl]
theorem gd_rl {hot : Int} {n i k : Nat} (h : k < n) : gd (rl hot n i) k = if k < i then hot else 0 := gd_map h
theorem rl_zero (hot : Int) (n : Nat) : vi (rl hot n 0) = List.replicate n (vI 0) := by
  have : rl hot n 0 = List.replicate n 0 := gd_ext (by simp) fun i hi => by
    rw [rl_length] at hi
    rw [gd_rl hi, if_neg (by omega), ← gd_at (show i < (List.replicate n (0 : Int)).length by simpa using hi), List.getElem_replicate]
  rw [this, vi, List.map_replicate]
theorem rl_all (hot : Int) (n : Nat) : rl hot n n = List.replicate n hot := gd_ext (by simp) fun i hi => by
  rw [rl_length] at hi
  rw [gd_rl hi, if_pos hi, ← gd_at (show i < (List.replicate n hot).length by simpa using hi), List.getElem_replicate]
theorem rl_set {hot : Int} {n i : Nat} (h : i < n) : (rl hot n i).set i hot = rl hot n (i + 1) := gd_ext (by simp) fun k hk => by
  have hk : k < n := by simpa using hk
  rw [gd_set (by simpa using hk), gd_rl hk, gd_rl hk]
  by_cases h1 : i = k
  · subst h1; rw [if_pos rfl, if_pos (by omega)]
  · rw [if_neg h1]
    by_cases h2 : k < i
    · rw [if_pos h2, if_pos (by omega)]
    · rw [if_neg h2, if_neg (by omega)]
/-- what is known when the slabs are valid -/
structure WarmOK (ps : List Pt) (m lo hi : Int) (l : List Int) (bo : Int) (r : List Int) (cool hot em : Int) : Prop where
  rulz : rulE ps m lo hi = 0
  lowz : slE l bo = 0
  highz : slE r bo = 0
  emz : eErr em = 0
  coolz : tErr cool = 0
  hotz : tErr hot = 0
  len : l.length = r.length
  ord : cool ≤ hot
  few : ps.length ≤ 12
structure St0 (l r : List Int) (cool : Int) (a b : Int) (i : Nat) : Prop where
  le : i ≤ l.length
  lo : a ≤ cool
  hi : cool ≤ b
  all : ∀ k, k < i → gd l k ≤ gd r k ∧ a ≤ gd l k ∧ gd l k ≤ b
theorem lawW (ps : List Pt) (m lo hi : Int) (l : List Int) (bo : Int) (r : List Int) (b2 cool hot em : Int) : C5 4 [dRu ps m lo hi, dPr l bo r b2 cool hot em] [.val (.bool true)] := by
  let inv0 : Int × Int × Nat × Nat × Nat × Nat → Prop := fun x => b2 = bo ∧ WarmOK ps m lo hi l bo r cool hot em ∧ St0 l r cool x.1 x.2.1 x.2.2.1
  let st0 : Int × Int × Nat × Nat × Nat × Nat → Slots × Blocks := fun x => zLwsss1 x.1 x.2.1 x.2.2.1 ps.length x.2.2.2.1 m lo hi l.length x.2.2.2.2.1 bo r.length x.2.2.2.2.2 b2 cool hot em (vp ps) (vi l) (vi r)
  let inv2 : Int × Int × Nat × Nat × Nat × Nat → Prop := fun x => b2 = bo ∧ WarmOK ps m lo hi l bo r cool hot em ∧ St0 l r cool x.1 x.2.1 l.length ∧ x.2.2.1 ≤ l.length
  let st2 : Int × Int × Nat × Nat × Nat × Nat → Slots × Blocks := fun x => zLwsss10 x.1 x.2.1 l.length l.length x.2.2.1 ps.length x.2.2.2.1 m lo hi l.length x.2.2.2.2.1 bo r.length x.2.2.2.2.2 b2 cool hot em l.length bo r.length bo l.length bo
    (vi (rl hot l.length x.2.2.1)) (vp ps) (vi l) (vi r) (vi (stepL ps m em cool bo l)) (vi (stepL ps m em cool bo r)) (vi (stepL ps m em hot bo l))
  refine con_of (L := fun id s b => (id = 0 ∧ ∃ x, inv0 x ∧ st0 x = (s, b)) ∨ (id = 2 ∧ ∃ x, inv2 x ∧ st2 x = (s, b))) hokH mixed Try.func4 rfl (by show 3 ≤ 400; omega) rfl (ids := [0, 2]) (by kernel_rfl) rfl (fun caps => ?_) (fun id hid => ?_)
  · show gLwsss _ _ ps.length (caps 500) (vp ps) m lo hi l.length (caps 501) (vi l) bo r.length (caps 502) (vi r) b2 cool hot em _
    rw [gLwsss_text]
    refine .inl ⟨⟨conA⟩, bc_dec (fun h12 => bc_dec (fun h10 => bc_dec (fun _ => bc_dec (fun h10' => ?_) (fun _ => rfl)) (fun _ => rfl)) (fun _ => rfl)) (fun _ => rfl)⟩
    simp only [Dw, Tk, vp_whole, vi_whole, bc_t (v2le ps), bc_t (v1le l), bc_t (v1le r), eq_self, true_and, and_true]
    refine ⟨_, ⟨conbE ps (by omega) m lo hi l (by omega) bo⟩, bc_bne (fun _ => trivial) (fun e1 => ⟨_, ⟨conSE r (by omega) b2⟩, bc_bne (fun _ => trivial) (fun e2 => ⟨_, ⟨conEE em⟩, bc_bne (fun _ => trivial) (fun e3 => ⟨_, ⟨conTE cool⟩, bc_bne (fun _ => trivial) (fun e4 => ⟨_, ⟨conTE hot⟩, bc_bne (fun _ => trivial) (fun e5 => bc_bne (fun _ => trivial) (fun e6 => bc_bne (fun _ => trivial) (fun e7 => bc_dec (fun _ => trivial) (fun e8 => ?_)))) ⟩)⟩)⟩)⟩)⟩
    have e6 : l.length = r.length := by omega
    obtain rfl : bo = b2 := e7
    have hr : rulE ps m lo hi = 0 := by
      by_cases h : rulE ps m lo hi = 0
      · exact h
      · unfold both at e1; rw [if_pos h] at e1; exact absurd e1 h
    have hs : slE l bo = 0 := by unfold both at e1; rw [if_neg (by omega)] at e1; exact e1
    exact .inl ⟨(cool, cool, 0, caps 500, caps 501, caps 502), ⟨rfl, ⟨hr, hs, e2, e3, e4, e5, e6, by omega, by omega⟩, ⟨Nat.zero_le _, Int.le_refl _, Int.le_refl _, fun k hk => absurd hk (Nat.not_lt_zero k)⟩⟩, rfl⟩
  · rcases List.mem_cons.1 hid with rfl | hid
    · refine ⟨Int × Int × Nat × Nat × Nat × Nat, st0, inv0, fun x => l.length - x.2.2.1, ⟨fun s b h => ?_, by kernel_rfl, ?_⟩⟩
      · rcases h with ⟨_, h⟩ | ⟨h, _⟩
        · exact h
        · cases h
      rintro ⟨a, b, i, c1, c2, c3⟩ ⟨rfl, ok, ⟨hi', ha, hb, hall⟩⟩
      simp only at hi' ha hb hall
      show rLwsss1 _ _ a b i ps.length c1 m lo hi l.length c2 b2 r.length c3 b2 cool hot em (vp ps) (vi l) (vi r) _ _ _
      rw [rLwsss1_text]
      have hlen := ok.len
      have h88 := (sl_ok ok.highz).2.1
      refine bc_dec (fun h => ?_) (fun h => ?_)
      · have hi2 : i < l.length := by omega
        have i0 : (0 : Int) ≤ (i : Int) := by omega
        have i1 : (i : Int) < (r.length : Int) := by omega
        simp only [bc_t h, bc_t i0, bc_t i1, Int.toNat_natCast, at1 (at_gd hi2), at1 (at_gd (show i < r.length by omega)), eq_self, true_and, and_true]
        refine bc_dec (fun h1 => ?_) (fun h1 => ?_)
        · simp only [bc_t h1]
        · simp only [bc_f h1, true_and]
          refine ⟨(if gd l i < a then gd l i else a, if gd l i > b then gd l i else b, i + 1, c1, c2, c3), ⟨rfl, ok, ⟨hi2, ?_, ?_, ?_⟩⟩, by show l.length - (i + 1) < l.length - i; omega, ?_⟩
          · show (if gd l i < a then gd l i else a) ≤ cool
            split <;> omega
          · show cool ≤ (if gd l i > b then gd l i else b)
            split <;> omega
          · intro k hk
            have hk : k < i + 1 := hk
            show gd l k ≤ gd r k ∧ (if gd l i < a then gd l i else a) ≤ gd l k ∧ gd l k ≤ (if gd l i > b then gd l i else b)
            by_cases hki : k = i
            · subst hki
              refine ⟨by omega, ?_, ?_⟩ <;> split <;> omega
            · have := hall k (by omega)
              refine ⟨this.1, ?_, ?_⟩ <;> split <;> omega
          · rw [w64 (by omega) (by omega)]; rfl
      · show (if 0 = 0 then _ else _)
        rw [if_pos rfl]
        show nLwsss2 _ _ a b ps.length c1 m lo hi l.length c2 b2 r.length c3 b2 cool hot em (vp ps) (vi l) (vi r) _
        rw [nLwsss2_text]
        have hin : i = l.length := by omega
        subst hin
        obtain ⟨hr, hs, hs2, he, hc, hh, _, hord, h12⟩ := ok
        obtain ⟨h2, h8, hg, hbo⟩ := sl_ok hs
        obtain ⟨h2', h8', hg', _⟩ := sl_ok hs2
        have cYr := conYr ps (by omega) m lo hi
        have cYl := conYs l (by omega) b2
        have cYh := conYs r (by omega) b2
        have cA := conHe ps (by omega) m lo hi l (by omega) b2 em cool
        have cB := conHe ps (by omega) m lo hi r (by omega) b2 em cool
        have cC := conHe ps (by omega) m lo hi l (by omega) b2 em hot
        rw [if_pos (he_zero hr hs he hc)] at cA
        rw [if_pos (he_zero hr hs2 he hc)] at cB
        rw [if_pos (he_zero hr hs he hh)] at cC
        simp only [Dw, Tk, vp_whole, vi_whole, bc_t (v2le ps), bc_t (v1le l), bc_t (v1le r), eq_self, true_and, and_true]
        refine ⟨⟨cYr⟩, ⟨cYl⟩, .inr ⟨_, _, _, _, ⟨cA⟩, ⟨cYr⟩, ⟨cYh⟩, .inr ⟨_, _, _, _, ⟨cB⟩, ⟨cYr⟩, ⟨cYl⟩, .inr ⟨_, _, _, _, ⟨cC⟩, ?_⟩⟩⟩⟩
        have n1 : ((stepL ps m em cool b2 l).length : Int) = (l.length : Int) := by rw [stepL_length]
        have n2 : ((stepL ps m em cool b2 r).length : Int) = (l.length : Int) := by rw [stepL_length]; omega
        have n3 : ((stepL ps m em hot b2 l).length : Int) = (l.length : Int) := by rw [stepL_length]
        simp only [n1, n2, n3, bc_nf, bc_qt]
        refine bc_yes (by omega) (bc_yes (by omega) (.inr ⟨(a, b, 0, c1, c2, c3), ⟨rfl, ⟨hr, hs, hs2, he, hc, hh, hlen, hord, h12⟩, ⟨Nat.le_refl _, ha, hb, hall⟩, Nat.zero_le _⟩, ?_⟩))
        show zLwsss10 _ _ _ _ _ _ _ _ _ _ _ _ _ _ _ _ _ _ _ _ _ _ _ _ _ (vi (rl hot l.length 0)) _ _ _ _ _ _ = _
        rw [rl_zero, Int.toNat_natCast]
        try simp only [stepL_length]
        rfl
    · obtain rfl := List.mem_singleton.1 hid
      refine ⟨Int × Int × Nat × Nat × Nat × Nat, st2, inv2, fun x => l.length - x.2.2.1, ⟨fun s b h => ?_, by kernel_rfl, ?_⟩⟩
      · rcases h with ⟨h, _⟩ | ⟨_, h⟩
        · cases h
        · exact h
      rintro ⟨a, b, i, c1, c2, c3⟩ ⟨rfl, ok, ⟨_, ha, hb, hall⟩, hi'⟩
      simp only at hi' ha hb hall
      show rLwsss10 _ _ a b l.length l.length i ps.length c1 m lo hi l.length c2 b2 r.length c3 b2 cool hot em l.length b2 r.length b2 l.length b2 (vi (rl hot l.length i)) (vp ps) (vi l) (vi r) (vi (stepL ps m em cool b2 l)) (vi (stepL ps m em cool b2 r)) (vi (stepL ps m em hot b2 l)) _ _ _
      rw [rLwsss10_text]
      obtain ⟨hr, hs, hs2, he, hc, hh, hlen, hord, h12⟩ := ok
      obtain ⟨h2, h8, hg, hbo⟩ := sl_ok hs
      obtain ⟨⟨hv, hl10⟩, hm⟩ := rul_ok hr
      have o : OkS ps m em b2 := ⟨hv, hm, eErr0.1 he, hbo⟩
      refine bc_dec (fun h => ?_) (fun h => ?_)
      · have hi2 : i < l.length := by omega
        have i0 : (0 : Int) ≤ (i : Int) := by omega
        have i1 : (i : Int) < (r.length : Int) := by omega
        have q1 : ¬ gd (stepL ps m em cool b2 l) i > gd (stepL ps m em cool b2 r) i := by
          have := step_mono o cool hlen (fun k hk => (hall k hk).1) hi2; omega
        have q2 : ¬ gd (stepL ps m em cool b2 l) i > gd (stepL ps m em hot b2 l) i := by
          have := step_set o hord hi2; omega
        have q3 := step_in o (lo := a) (hi := b) (set := cool) ⟨ha, hb⟩ (fun k hk => (hall k hk).2) hi2
        simp only [bc_t h, bc_t i0, bc_t i1, Int.toNat_natCast, at1 (at_gd (l := stepL ps m em cool b2 l) (i := i) (by simpa using hi2)), at1 (at_gd (l := stepL ps m em cool b2 r) (i := i) (by simp; omega)), at1 (at_gd (l := stepL ps m em hot b2 l) (i := i) (by simpa using hi2)), bc_f q1, bc_f q2, eq_self, true_and, and_true]
        refine .inl ⟨sayWt q3, bc_yes (by simp; omega) ⟨(a, b, i + 1, c1, c2, c3), ⟨rfl, ⟨hr, hs, hs2, he, hc, hh, hlen, hord, h12⟩, ⟨Nat.le_refl _, ha, hb, hall⟩, hi2⟩, by show l.length - (i + 1) < l.length - i; omega, ?_⟩⟩
        rw [listSet_vi _ _ _ (by simpa using hi2), rl_set hi2, w64 (by omega) (by omega)]; rfl
      · show (if 2 = 2 then _ else _)
        rw [if_pos rfl]
        have hin : i = l.length := by omega
        subst hin
        show nLwsss11 _ _ l.length ps.length c1 m lo hi l.length c2 b2 r.length c3 b2 cool hot em (vi (rl hot l.length l.length)) (vp ps) (vi l) (vi r) _
        rw [nLwsss11_text, rl_all]
        have hR : (List.replicate l.length hot).length = l.length := by simp
        have hsR : slE (List.replicate l.length hot) b2 = 0 := by
          rw [slE, if_neg (by simp; omega), if_neg (by simp; omega), if_pos ⟨fun z hz => by rw [List.eq_of_mem_replicate hz]; exact tErr0.1 hh, hbo⟩]
        have cYr := conYr ps (by omega) m lo hi
        have cCI := conCI (List.replicate l.length hot) (by simp; omega)
        have cH := conHe ps (by omega) m lo hi (List.replicate l.length hot) (by simp; omega) b2 em hot
        rw [if_pos (he_zero hr hsR he hh), step_rest o] at cH
        have cI := conIn (List.replicate l.length hot) (List.replicate l.length hot) (by simp; omega)
        rw [decide_eq_true rfl] at cI
        rw [hR] at cCI cI
        simp only [dSl, hR] at cH
        have v1 : 0 + l.length * 1 ≤ (vi (List.replicate l.length hot)).length := by simp
        simp only [Dw, Tk, vp_whole, vi_take hR, bc_t (v2le ps), bc_t v1, eq_self, true_and, and_true]
        refine ⟨⟨cYr⟩, ⟨cCI⟩, .inr ⟨_, _, _, _, ⟨cH⟩, ?_⟩⟩
        simp only [vi_take hR, bc_t v1, bc_qt]
        exact .inl ⟨cI⟩
end Go.Proofs.G5h

/- FurnaceWarmer in data: slabs without nodes, a table without points. -/
namespace Go.Proofs.G5h
open Go Go.Abs Go.Proofs Go.Proofs.G2
set_option maxRecDepth 100000
theorem lawWssn (ps : List Pt) (m lo hi : Int) (l : List Int) (bo : Int) (b2 cool hot em : Int) : C5 4 [dRu ps m lo hi, .agg [.sl l.length 1 (vi l), dI bo, .nil, dI b2, dI cool, dI hot, dI em]] [.val (.bool true)] := by
  refine con_of (L := fun _ _ _ => False) hokH mixed Try.func4 rfl (by show 2 ≤ 400; omega) rfl (ids := [0, 2]) (by kernel_rfl) rfl (fun caps => ?_) (fun id hid => ?_)
  · show gLwssn _ _ ps.length (caps 500) (vp ps) m lo hi l.length (caps 501) (vi l) bo b2 cool hot em _
    rw [gLwssn_text]
    refine .inl ⟨⟨conA⟩, bc_dec (fun h1 => bc_dec (fun h2 => bc_dec (fun h3 => ?_) (fun _ => rfl)) (fun _ => rfl)) (fun _ => rfl)⟩
    all_goals try simp only [Dw, Tk, vp_whole, bc_t (v2le ps), vi_whole, bc_t (v1le l), true_and]
    exact ⟨_, ⟨conbE ps (by omega) m lo hi l (by omega) bo⟩, bc_bne (fun _ => trivial) (fun _ => ⟨10, ⟨conSEn b2⟩, by rw [bc_n (show (10 : Int) ≠ 0 by decide)]; trivial⟩)⟩
  · have hid : id = 0 ∨ id = 2 := by simpa using hid
    rcases hid with rfl | rfl <;> exact ⟨Unit, fun _ => (default, []), fun _ => False, fun _ => 0, ⟨fun s b h => h.elim, by kernel_rfl, fun x h => h.elim⟩⟩
theorem lawWsns (ps : List Pt) (m lo hi : Int) (bo : Int) (r : List Int) (b2 cool hot em : Int) : C5 4 [dRu ps m lo hi, .agg [.nil, dI bo, .sl r.length 1 (vi r), dI b2, dI cool, dI hot, dI em]] [.val (.bool true)] := by
  refine con_of (L := fun _ _ _ => False) hokH mixed Try.func4 rfl (by show 2 ≤ 400; omega) rfl (ids := [0, 2]) (by kernel_rfl) rfl (fun caps => ?_) (fun id hid => ?_)
  · show gLwsns _ _ ps.length (caps 500) (vp ps) m lo hi bo r.length (caps 501) (vi r) b2 cool hot em _
    rw [gLwsns_text]
    refine .inl ⟨⟨conA⟩, bc_dec (fun h1 => bc_dec (fun h2 => bc_dec (fun h3 => ?_) (fun _ => rfl)) (fun _ => rfl)) (fun _ => rfl)⟩
    all_goals try simp only [Dw, Tk, vp_whole, bc_t (v2le ps), vi_whole, bc_t (v1le r), true_and]
    exact ⟨_, ⟨conbE1 ps (by omega) m lo hi bo⟩, by rw [bc_n (both_ne (show (10 : Int) ≠ 0 by decide))]; trivial⟩
  · have hid : id = 0 ∨ id = 2 := by simpa using hid
    rcases hid with rfl | rfl <;> exact ⟨Unit, fun _ => (default, []), fun _ => False, fun _ => 0, ⟨fun s b h => h.elim, by kernel_rfl, fun x h => h.elim⟩⟩
theorem lawWsnn (ps : List Pt) (m lo hi : Int) (bo : Int) (b2 cool hot em : Int) : C5 4 [dRu ps m lo hi, .agg [.nil, dI bo, .nil, dI b2, dI cool, dI hot, dI em]] [.val (.bool true)] := by
  refine con_of (L := fun _ _ _ => False) hokH mixed Try.func4 rfl (by show 1 ≤ 400; omega) rfl (ids := [0, 2]) (by kernel_rfl) rfl (fun caps => ?_) (fun id hid => ?_)
  · show gLwsnn _ _ ps.length (caps 500) (vp ps) m lo hi bo b2 cool hot em _
    rw [gLwsnn_text]
    refine .inl ⟨⟨conA⟩, bc_dec (fun h1 => bc_dec (fun h2 => ?_) (fun _ => rfl)) (fun _ => rfl)⟩
    all_goals try simp only [Dw, Tk, vp_whole, bc_t (v2le ps), true_and]
    exact ⟨_, ⟨conbE1 ps (by omega) m lo hi bo⟩, by rw [bc_n (both_ne (show (10 : Int) ≠ 0 by decide))]; trivial⟩
  · have hid : id = 0 ∨ id = 2 := by simpa using hid
    rcases hid with rfl | rfl <;> exact ⟨Unit, fun _ => (default, []), fun _ => False, fun _ => 0, ⟨fun s b h => h.elim, by kernel_rfl, fun x h => h.elim⟩⟩
theorem lawWnss (m lo hi : Int) (l : List Int) (bo : Int) (r : List Int) (b2 cool hot em : Int) : C5 4 [dRn m lo hi, .agg [.sl l.length 1 (vi l), dI bo, .sl r.length 1 (vi r), dI b2, dI cool, dI hot, dI em]] [.val (.bool true)] := by
  refine con_of (L := fun _ _ _ => False) hokH mixed Try.func4 rfl (by show 2 ≤ 400; omega) rfl (ids := [0, 2]) (by kernel_rfl) rfl (fun caps => ?_) (fun id hid => ?_)
  · show gLwnss _ _ m lo hi l.length (caps 500) (vi l) bo r.length (caps 501) (vi r) b2 cool hot em _
    rw [gLwnss_text]
    refine .inl ⟨⟨conA⟩, bc_dec (fun h1 => bc_dec (fun h2 => ?_) (fun _ => rfl)) (fun _ => rfl)⟩
    all_goals try simp only [Dw, Tk, vi_whole, bc_t (v1le l), bc_t (v1le r), true_and]
    exact ⟨10, ⟨conbE2 m lo hi l bo⟩, by rw [bc_n (show (10 : Int) ≠ 0 by decide)]; trivial⟩
  · have hid : id = 0 ∨ id = 2 := by simpa using hid
    rcases hid with rfl | rfl <;> exact ⟨Unit, fun _ => (default, []), fun _ => False, fun _ => 0, ⟨fun s b h => h.elim, by kernel_rfl, fun x h => h.elim⟩⟩
theorem lawWnsn (m lo hi : Int) (l : List Int) (bo : Int) (b2 cool hot em : Int) : C5 4 [dRn m lo hi, .agg [.sl l.length 1 (vi l), dI bo, .nil, dI b2, dI cool, dI hot, dI em]] [.val (.bool true)] := by
  refine con_of (L := fun _ _ _ => False) hokH mixed Try.func4 rfl (by show 1 ≤ 400; omega) rfl (ids := [0, 2]) (by kernel_rfl) rfl (fun caps => ?_) (fun id hid => ?_)
  · show gLwnsn _ _ m lo hi l.length (caps 500) (vi l) bo b2 cool hot em _
    rw [gLwnsn_text]
    refine .inl ⟨⟨conA⟩, bc_dec (fun h1 => ?_) (fun _ => rfl)⟩
    all_goals try simp only [Dw, Tk, vi_whole, bc_t (v1le l), true_and]
    exact ⟨10, ⟨conbE2 m lo hi l bo⟩, by rw [bc_n (show (10 : Int) ≠ 0 by decide)]; trivial⟩
  · have hid : id = 0 ∨ id = 2 := by simpa using hid
    rcases hid with rfl | rfl <;> exact ⟨Unit, fun _ => (default, []), fun _ => False, fun _ => 0, ⟨fun s b h => h.elim, by kernel_rfl, fun x h => h.elim⟩⟩
theorem lawWnns (m lo hi : Int) (bo : Int) (r : List Int) (b2 cool hot em : Int) : C5 4 [dRn m lo hi, .agg [.nil, dI bo, .sl r.length 1 (vi r), dI b2, dI cool, dI hot, dI em]] [.val (.bool true)] := by
  refine con_of (L := fun _ _ _ => False) hokH mixed Try.func4 rfl (by show 1 ≤ 400; omega) rfl (ids := [0, 2]) (by kernel_rfl) rfl (fun caps => ?_) (fun id hid => ?_)
  · show gLwnns _ _ m lo hi bo r.length (caps 500) (vi r) b2 cool hot em _
    rw [gLwnns_text]
    refine .inl ⟨⟨conA⟩, bc_dec (fun h1 => ?_) (fun _ => rfl)⟩
    all_goals try simp only [Dw, Tk, vi_whole, bc_t (v1le r), true_and]
    exact ⟨10, ⟨conbE3 m lo hi bo⟩, by rw [bc_n (show (10 : Int) ≠ 0 by decide)]; trivial⟩
  · have hid : id = 0 ∨ id = 2 := by simpa using hid
    rcases hid with rfl | rfl <;> exact ⟨Unit, fun _ => (default, []), fun _ => False, fun _ => 0, ⟨fun s b h => h.elim, by kernel_rfl, fun x h => h.elim⟩⟩
theorem lawWnnn (m lo hi : Int) (bo : Int) (b2 cool hot em : Int) : C5 4 [dRn m lo hi, .agg [.nil, dI bo, .nil, dI b2, dI cool, dI hot, dI em]] [.val (.bool true)] := by
  refine con_of (L := fun _ _ _ => False) hokH mixed Try.func4 rfl (by show 0 ≤ 400; omega) rfl (ids := [0, 2]) (by kernel_rfl) rfl (fun caps => ?_) (fun id hid => ?_)
  · show gLwnnn _ _ m lo hi bo b2 cool hot em _
    rw [gLwnnn_text]
    refine .inl ⟨⟨conA⟩, ?_⟩
    all_goals try simp only [true_and]
    exact ⟨10, ⟨conbE3 m lo hi bo⟩, by rw [bc_n (show (10 : Int) ≠ 0 by decide)]; trivial⟩
  · have hid : id = 0 ∨ id = 2 := by simpa using hid
    rcases hid with rfl | rfl <;> exact ⟨Unit, fun _ => (default, []), fun _ => False, fun _ => 0, ⟨fun s b h => h.elim, by kernel_rfl, fun x h => h.elim⟩⟩
end Go.Proofs.G5h

/- FurnaceWarmer: whatever the input, it returns true, and the input reads as it did. No condition. -/
namespace Go.Proofs.Ytoelmajokkdeoaa.K
open Go Go.Abs Go.RowKit Go.ChangeShapes Go.WideShapes Go.ChangeAt Go.Proofs Go.Flat Go.Proofs.G5h
set_option maxRecDepth 100000
namespace FurnaceWarmer
abbrev shs : List Sh := [.agg [22, 3, 3, 3], .agg [29, 3, 29, 3, 3, 3, 3]]
theorem shapes : Try.f4.params.toList.mapM (argSh Try.prog) = some shs := by kernel_rfl
theorem all (ds : List D) (h : ShDs Try.prog shs ds) : Con Try.prog 4 ds [.val (.bool true)] := by
  cases h with | cons h1 t => cases t with | cons h2 t =>
  cases t
  obtain ⟨d1, rfl, h1⟩ := h1
  obtain ⟨d2, rfl, h2⟩ := h2
  cases h1 with | cons p1 t => cases t with | cons p2 t => cases t with | cons p3 t => cases t with | cons p4 t =>
  cases t
  cases h2 with | cons q1 t => cases t with | cons q2 t => cases t with | cons q3 t => cases t with | cons q4 t => cases t with | cons q5 t => cases t with | cons q6 t => cases t with | cons q7 t =>
  cases t
  obtain ⟨m, rfl, _⟩ := leaf_int Try.underlying3 p2
  obtain ⟨lo, rfl, _⟩ := leaf_int Try.underlying3 p3
  obtain ⟨hi, rfl, _⟩ := leaf_int Try.underlying3 p4
  obtain ⟨bo, rfl, _⟩ := leaf_int Try.underlying3 q2
  obtain ⟨b2, rfl, _⟩ := leaf_int Try.underlying3 q4
  obtain ⟨cool, rfl, _⟩ := leaf_int Try.underlying3 q5
  obtain ⟨hot, rfl, _⟩ := leaf_int Try.underlying3 q6
  obtain ⟨em, rfl, _⟩ := leaf_int Try.underlying3 q7
  rcases leaf_prs Try.underlying22 (by kernel_rfl) p1 with rfl | ⟨ps, rfl, _⟩
  · rcases leaf_ints Try.underlying29 (by kernel_rfl) q1 with rfl | ⟨l, rfl⟩
    · rcases leaf_ints Try.underlying29 (by kernel_rfl) q3 with rfl | ⟨r, rfl⟩
      · exact lawWnnn m lo hi bo b2 cool hot em
      · exact lawWnns m lo hi bo r b2 cool hot em
    · rcases leaf_ints Try.underlying29 (by kernel_rfl) q3 with rfl | ⟨r, rfl⟩
      · exact lawWnsn m lo hi l bo b2 cool hot em
      · exact lawWnss m lo hi l bo r b2 cool hot em
  · rcases leaf_ints Try.underlying29 (by kernel_rfl) q1 with rfl | ⟨l, rfl⟩
    · rcases leaf_ints Try.underlying29 (by kernel_rfl) q3 with rfl | ⟨r, rfl⟩
      · exact lawWsnn ps m lo hi bo b2 cool hot em
      · exact lawWsns ps m lo hi bo r b2 cool hot em
    · rcases leaf_ints Try.underlying29 (by kernel_rfl) q3 with rfl | ⟨r, rfl⟩
      · exact lawWssn ps m lo hi l bo b2 cool hot em
      · exact lawW ps m lo hi l bo r b2 cool hot em
theorem lifted (os : Os) (started : os.Started) (H : Type) (enc : TypeId × Value → H) :
    ReturnsInHanded {} Try.checked os 4 .any (Rows.furnaceWarmerSpec.pre6 enc Try.prog Try.f4 Rows.furnaceWarmerRow.domain false) (Rows.furnaceWarmerSpec.post enc Try.prog Try.f4 false true false false) := by
  refine returnsInHanded_of_change (C := Try.checked) own started (by kernel_rfl) Try.func4
    (ChangeSpec.witness6 (enc := enc) (C := Try.checked) false ⟨#[], #[.agg #[.slice none 0 0, .int .i64 0, .int .i64 0, .int .i64 0], .agg #[.slice none 0 0, .int .i64 0, .slice none 0 0, .int .i64 0, .int .i64 0, .int .i64 0, .int .i64 0]], []⟩ 8 (by kernel_rfl) (by kernel_rfl) (by kernel_rfl) (by kernel_rfl)) ?_
  intro W base args ds gs before hval hW _ _
  exact law_shapes (tb := 4) (s := Rows.furnaceWarmerSpec) shapes all laidP mapsP slicesP (tsP (by kernel_rfl)) rfl Try.underlying4 rfl (fun ds h => by
    match ds, h with
    | [_, _], _ => exact ⟨rfl, rfl, rfl⟩) hval hW (good0 W)
theorem holds : Rows.FurnaceWarmerSaid :=
  OpenClaim.holds_of_wide 4 Try.f4 rfl rfl rfl rfl rfl rfl rfl ⟨rfl, rfl, rfl, rfl, rfl⟩ rfl rfl rfl rfl rfl (by kernel_rfl) Try.func4 (by kernel_rfl)
    (of_decide_eq_true (by kernel_rfl)) (by unfold Func.isWrapper; first | (rw [if_pos (by decide +kernel)]; kernel_rfl) | (rw [if_neg (by decide +kernel)]; exact ⟨rfl, rfl⟩))
    (fun os started H enc _ => lifted os started H enc)
#print axioms holds
end FurnaceWarmer
end Go.Proofs.Ytoelmajokkdeoaa.K
