/- Texts of the proof, put together: M4N, M4O, M4P, M4Q, M4K2, M4V, M4U, M4K3. -/
import Derived.Test.YthfdbeeanhfboaaP5
import Derived.Test.YthfdbeeanhfboaaM4T4
import Derived.Test.YthfdbeeanhfboaaP7
import Derived.Test.YthfdbeeanhfboaaRows
import Derived.Handed
import Derived.JoinedCond
/- Chapter 4: rules, gains and forces, in data. -/
namespace Go.Proofs.M4
open Go Go.Abs Go.Proofs
set_option maxRecDepth 100000
abbrev I64 (a : Int) : Prop := -9223372036854775808 ≤ a ∧ a ≤ 9223372036854775807
abbrev form (a b : Int) : Prop := 0 < b ∧ ((Int.gcd a b : Nat) : Int) = 1
def formE (a b c d : Int) : Int := if form a b ∧ form c d then 0 else 3
theorem says_lim4 {lo hi a b c d e : Int} (h : e = if (lo ≤ a ∧ a ≤ hi) ∧ (lo ≤ b ∧ b ≤ hi) ∧ (lo ≤ c ∧ c ≤ hi) ∧ lo ≤ d ∧ d ≤ hi then 0 else 2) : Says limC 0 [dI lo, dI hi, .sl 4 1 [.int .i64 a, .int .i64 b, .int .i64 c, .int .i64 d]] [dI e] := ⟨by show e = limE lo hi _; rw [limE4, h]⟩
theorem says_lim2 {lo hi a b e : Int} (h : e = if (lo ≤ a ∧ a ≤ hi) ∧ lo ≤ b ∧ b ≤ hi then 0 else 2) : Says limC 0 [dI lo, dI hi, .sl 2 1 [.int .i64 a, .int .i64 b]] [dI e] := ⟨by show e = limE lo hi _; rw [limE2, h]⟩
theorem con62 (a b c d : Int) (hb : I64 b) (hd : I64 d) : C4 62 [.sl 2 2 [.int .i64 a, .int .i64 b, .int .i64 c, .int .i64 d]] [dI (formE a b c d)] := by
  refine con_walk hok mixed (u := 8) (by decide) Try.func62 rfl (by show 1 ≤ 400; omega) (fun caps => ?_)
  show f62 _ (caps 500) a b c d _
  rw [f62_text]
  have bad : ¬ (form a b ∧ form c d) → [dI 3] = [dI (formE a b c d)] := fun h => by rw [formE, if_neg h]
  refine ⟨a, b, ⟨by simp, rfl⟩, bc_dec (fun h => bad (fun h' => by have := h'.1.1; omega)) (fun h1 => ⟨_, ⟨con88 a b ⟨by omega, hb.2⟩⟩, bc_bne (fun h => bad (fun h' => h h'.1.2)) (fun h2 => ?_)⟩)⟩
  refine ⟨c, d, ⟨by simp, rfl⟩, bc_dec (fun h => bad (fun h' => by have := h'.2.1; omega)) (fun h3 => ⟨_, ⟨con88 c d ⟨by omega, hd.2⟩⟩, bc_bne (fun h => bad (fun h' => h h'.2.2)) (fun h4 => ?_)⟩)⟩
  show [dI 0] = _
  rw [formE, if_pos ⟨⟨by omega, h2⟩, by omega, h4⟩]
theorem con30 (a b : Int) (ha : I64 a) (hb : I64 b) : C4 30 [.agg [dI a, dI b]] [.val (.bool (decide (form a b)))] := by
  refine con_flat hok mixed Try.func30 rfl (by show 0 ≤ 400; omega) rfl (by kernel_rfl) (fun caps => ?_)
  show g30 _ _ a b _
  rw [g30_text]
  refine bc_dec (fun h => ⟨_, ⟨con70 a b ha ⟨by omega, hb.2⟩ (by omega)⟩, bc_beq (fun h2 => ?_) (fun h2 => ?_)⟩) (fun h => ?_)
  · show _ = _; rw [decide_eq_true (show form a b from ⟨h, h2⟩)]
  · show _ = _; rw [decide_eq_false (show ¬ form a b from fun h' => h2 h'.2)]
  · show _ = _; rw [decide_eq_false (show ¬ form a b from fun h' => h h'.1)]
/-- the index and the error of rules -/
def ru (ps : List (Int × Int)) (a b c d e : Int) : Int × Int :=
  if (tab ps).2 ≠ 0 then tab ps else if ¬ (form a b ∧ form c d) then (0, 3) else if ((1 ≤ a ∧ a ≤ 900) ∧ (1 ≤ b ∧ b ≤ 900) ∧ (1 ≤ c ∧ c ≤ 900) ∧ 1 ≤ d ∧ d ≤ 900) ∧ 0 ≤ e ∧ e ≤ 900 then (0, 0) else (0, 2)
abbrev dRu (t : D) (a b c d e : Int) : D := .agg [t, dI a, dI b, dI c, dI d, dI e]
structure VRu (ps : List (Int × Int)) (a b c d e : Int) : Prop where
  vt : VT ps
  a1 : 1 ≤ a ∧ a ≤ 900
  b1 : 1 ≤ b ∧ b ≤ 900
  c1 : 1 ≤ c ∧ c ≤ 900
  d1 : 1 ≤ d ∧ d ≤ 900
  e1 : 0 ≤ e ∧ e ≤ 900
theorem ru_ok {ps : List (Int × Int)} {a b c d e : Int} (h : (ru ps a b c d e).2 = 0) : VRu ps a b c d e := by
  unfold ru at h
  split at h
  · rename_i hn; exact absurd h hn
  · rename_i ht
    split at h
    · simp at h
    · split at h
      · rename_i hc
        exact ⟨tab_ok (by omega), hc.1.1, hc.1.2.1, hc.1.2.2.1, hc.1.2.2.2, hc.2⟩
      · simp at h
structure R64 (a b c d : Int) : Prop where
  a : I64 a
  b : I64 b
  c : I64 c
  d : I64 d
theorem ru_tab0 {ps : List (Int × Int)} {a b c d e : Int} (h : (tab ps).2 = 0) : ru ps a b c d e = if ¬ (form a b ∧ form c d) then (0, 3) else if ((1 ≤ a ∧ a ≤ 900) ∧ (1 ≤ b ∧ b ≤ 900) ∧ (1 ≤ c ∧ c ≤ 900) ∧ 1 ≤ d ∧ d ≤ 900) ∧ 0 ≤ e ∧ e ≤ 900 then (0, 0) else (0, 2) := by rw [ru, if_neg (fun hn => hn h)]
def r4 (a b c d : Int) : Int := if (1 ≤ a ∧ a ≤ 900) ∧ (1 ≤ b ∧ b ≤ 900) ∧ (1 ≤ c ∧ c ≤ 900) ∧ 1 ≤ d ∧ d ≤ 900 then 0 else 2
def r1 (e : Int) : Int := if 0 ≤ e ∧ e ≤ 900 then 0 else 2
theorem con19 {ps : List (Int × Int)} (hlen : ps.length < 1000000000) {a b c d : Int} (e : Int) (hr : R64 a b c d) : C4 19 [dRu (dTab ps) a b c d e] [dI (ru ps a b c d e).1, dI (ru ps a b c d e).2] := by
  refine con_flat hok mixed Try.func19 rfl (by show 1 ≤ 400; omega) rfl (by kernel_rfl) (fun caps => ?_)
  show g19 _ _ ps.length (caps 500) (vp ps) a b c d e _
  rw [g19_text]
  simp only [vp_whole, vp_length, eq_self, true_and, and_true]
  have hle : 0 + ps.length * 2 ≤ ps.length * 2 := by omega
  refine bc_yes hle ⟨_, _, ⟨con10 ps hlen⟩, bc_bne (fun h => ?_) (fun h => ?_)⟩
  · show _ = _; rw [ru, if_pos h]
  · refine ⟨_, ⟨con62 a b c d hr.b hr.d⟩, r4 a b c d, says_lim4 rfl, r1 e, says_lim1 rfl, _, ⟨con54 [formE a b c d, r4 a b c d, r1 e] (by simp)⟩, ?_⟩
    show [dI 0, dI _] = [dI _, dI _]
    rw [fst0_three, ru_tab0 h]
    by_cases h1 : form a b ∧ form c d
    · rw [show formE a b c d = 0 from if_pos h1, if_pos rfl, if_neg (show ¬ ¬ (form a b ∧ form c d) from fun hn => hn h1)]
      by_cases h2 : (1 ≤ a ∧ a ≤ 900) ∧ (1 ≤ b ∧ b ≤ 900) ∧ (1 ≤ c ∧ c ≤ 900) ∧ 1 ≤ d ∧ d ≤ 900
      · rw [show r4 a b c d = 0 from if_pos h2, if_pos rfl]
        by_cases h3 : 0 ≤ e ∧ e ≤ 900
        · rw [show r1 e = 0 from if_pos h3, if_pos ⟨h2, h3⟩]
        · rw [show r1 e = 2 from if_neg h3, if_neg (show ¬ (((1 ≤ a ∧ a ≤ 900) ∧ (1 ≤ b ∧ b ≤ 900) ∧ (1 ≤ c ∧ c ≤ 900) ∧ 1 ≤ d ∧ d ≤ 900) ∧ 0 ≤ e ∧ e ≤ 900) from fun hn => h3 hn.2)]
      · rw [show r4 a b c d = 2 from if_neg h2, if_neg (show ¬ (2 : Int) = 0 by omega), if_neg (show ¬ (((1 ≤ a ∧ a ≤ 900) ∧ (1 ≤ b ∧ b ≤ 900) ∧ (1 ≤ c ∧ c ≤ 900) ∧ 1 ≤ d ∧ d ≤ 900) ∧ 0 ≤ e ∧ e ≤ 900) from fun hn => h2 hn.1)]
    · rw [show formE a b c d = 3 from if_neg h1, if_neg (show ¬ (3 : Int) = 0 by omega), if_pos h1]
theorem con23 {ps : List (Int × Int)} (hlen : ps.length < 1000000000) {a b c d : Int} (e : Int) (hr : R64 a b c d) : C4 23 [dRu (dTab ps) a b c d e] [dI (ru ps a b c d e).1, dI (ru ps a b c d e).2] := by
  refine con_flat hok mixed Try.func23 rfl (by show 1 ≤ 400; omega) rfl (by kernel_rfl) (fun caps => ?_)
  show g23 _ _ ps.length (caps 500) (vp ps) a b c d e _
  rw [g23_text]
  simp only [vp_whole, vp_length]
  have hle : 0 + ps.length * 2 ≤ ps.length * 2 := by omega
  refine bc_yes hle ⟨_, _, ⟨con14 ps hlen⟩, bc_bne (fun h => ?_) (fun h => ?_)⟩
  · show _ = _; rw [ru, if_pos h]
  · have c30 := con30 a b hr.a hr.b
    have c30' := con30 c d hr.c hr.d
    rw [ru_tab0 h]
    by_cases h1 : form a b
    · rw [decide_eq_true h1] at c30
      by_cases h2 : form c d
      · rw [decide_eq_true h2] at c30'
        refine .inl ⟨⟨c30⟩, .inl ⟨⟨c30'⟩, ?_⟩⟩
        rw [if_neg (fun hn => hn ⟨h1, h2⟩)]
        have hb := h1.1
        have hd := h2.1
        repeat' first | refine bc_dec (fun _ => ?_) (fun _ => ?_) | (show _ = _; rw [if_pos (by omega)]; done) | (show _ = _; rw [if_neg (by omega)]; done)
      · rw [decide_eq_false h2] at c30'
        refine .inl ⟨⟨c30⟩, .inr ⟨⟨c30'⟩, ?_⟩⟩
        rw [if_pos (fun hn => h2 hn.2)]
    · rw [decide_eq_false h1] at c30
      refine .inr ⟨⟨c30⟩, ?_⟩
      rw [if_pos (fun hn => h1 hn.1)]
theorem con23n {a b c d : Int} (e : Int) : C4 23 [dRu .nil a b c d e] [dI 0, dI 10] := by
  refine con_flat hok mixed Try.func23 rfl (by show 0 ≤ 400; omega) rfl (by kernel_rfl) (fun caps => ?_)
  show g23n _ _ a b c d e _
  rw [g23n_text]
  try simp only [eq_self, true_and, and_true]
  exact ⟨0, 10, ⟨con14n⟩, bc_true (by simp) rfl⟩
theorem con20 (ps : List (Int × Int)) (hlen : ps.length < 1000000000) (a b c d e : Int) : C4 20 [dRu (dTab ps) a b c d e] [dRu (dTab ps) a b c d e] := by
  refine con_flat hok mixed Try.func20 rfl (by show 1 ≤ 400; omega) rfl (by kernel_rfl) (fun caps => ?_)
  show g20 _ _ ps.length (caps 500) (vp ps) a b c d e _
  rw [g20_text]
  simp only [vp_whole, vp_length, eq_self, and_true]
  exact bc_yes (by omega) ⟨con11 ps hlen⟩
theorem con20n (a b c d e : Int) : C4 20 [dRu .nil a b c d e] [dRu (dTab []) a b c d e] := by
  refine con_flat hok mixed Try.func20 rfl (by show 0 ≤ 400; omega) rfl (by kernel_rfl) (fun caps => ?_)
  show g20n _ _ a b c d e _
  rw [g20n_text]
  try simp only [eq_self, true_and, and_true]
  first | exact ⟨⟨con11n⟩, rfl, rfl⟩ | exact ⟨⟨con11n⟩, rfl⟩ | exact ⟨con11n⟩
/-- the error of rules and of a correction -/
def gE (ps : List (Int × Int)) (a b c d e v w : Int) : Int := if (ru ps a b c d e).2 = 0 then (if (0 ≤ v ∧ v ≤ 1000000) ∧ 0 ≤ w ∧ w ≤ e then 0 else 2) else (ru ps a b c d e).2
theorem fst0_g (r v w e : Int) : fst0 [r, if 0 ≤ v ∧ v ≤ 1000000 then 0 else 2, if 0 ≤ w ∧ w ≤ e then 0 else 2] = if r = 0 then (if (0 ≤ v ∧ v ≤ 1000000) ∧ 0 ≤ w ∧ w ≤ e then 0 else 2) else r := by
  rw [fst0_three]
  repeat' split
  all_goals first | rfl | omega
/-- a gain -/
def gN (a b c d w : Int) : Int := a * d + w * c * b
structure GB (a b c d e w : Int) : Prop where
  n : 0 < gN a b c d w ∧ gN a b c d w ≤ 729810000
  d1 : 0 < b * d ∧ b * d ≤ 810000
  wr : IntKind.wrap .i64 (IntKind.wrap .i64 (a * d) + IntKind.wrap .i64 (IntKind.wrap .i64 (w * c) * b)) = gN a b c d w
  wd : IntKind.wrap .i64 (b * d) = b * d
theorem gb {ps : List (Int × Int)} {a b c d e w : Int} (h : VRu ps a b c d e) (hw : 0 ≤ w ∧ w ≤ e) : GB a b c d e w := by
  obtain ⟨_, ⟨a0, a1⟩, ⟨b0, b1⟩, ⟨c0, c1⟩, ⟨d0, d1⟩, ⟨e0, e1⟩⟩ := h
  have x0 : 0 < a * d := Int.mul_pos (by omega) (by omega)
  have x1 : a * d ≤ 900 * 900 := Int.mul_le_mul a1 d1 (by omega) (by omega)
  have y0 : 0 ≤ w * c := Int.mul_nonneg (by omega) (by omega)
  have y1 : w * c ≤ 900 * 900 := Int.mul_le_mul (by omega) c1 (by omega) (by omega)
  have z0 : 0 ≤ w * c * b := Int.mul_nonneg y0 (by omega)
  have z1 : w * c * b ≤ 810000 * 900 := Int.mul_le_mul (by omega) b1 (by omega) (by omega)
  have t0 : 0 < b * d := Int.mul_pos (by omega) (by omega)
  have t1 : b * d ≤ 900 * 900 := Int.mul_le_mul b1 d1 (by omega) (by omega)
  refine ⟨⟨by unfold gN; omega, by unfold gN; omega⟩, ⟨t0, by omega⟩, ?_, w64 (by omega) (by omega)⟩
  rw [w64 (z := a * d) (by omega) (by omega), w64 (z := w * c) (by omega) (by omega), w64 (z := w * c * b) (by omega) (by omega), w64 (by omega) (by omega)]
  rfl
abbrev gD (ps : List (Int × Int)) (a b c d e v w : Int) : List D := if gE ps a b c d e v w = 0 then [.agg [dI (low (gN a b c d w) (b * d)).1, dI (low (gN a b c d w) (b * d)).2], dI 0] else [.agg [dI 0, dI 0], dI (gE ps a b c d e v w)]
theorem gE_ok {ps : List (Int × Int)} {a b c d e v w : Int} (h : gE ps a b c d e v w = 0) : VRu ps a b c d e ∧ (0 ≤ v ∧ v ≤ 1000000) ∧ 0 ≤ w ∧ w ≤ e := by
  unfold gE at h
  split at h
  · rename_i hr
    split at h
    · rename_i hc; exact ⟨ru_ok hr, hc⟩
    · omega
  · rename_i hr; exact absurd h hr
theorem con21 {ps : List (Int × Int)} (hlen : ps.length < 1000000000) {a b c d e : Int} (hr : R64 a b c d) (v w : Int) : C4 21 [dRu (dTab ps) a b c d e, .agg [dI v, dI w]] (gD ps a b c d e v w) := by
  refine con_flat hok mixed Try.func21 rfl (by show 1 ≤ 400; omega) rfl (by kernel_rfl) (fun caps => ?_)
  show g21 _ _ ps.length (caps 500) (vp ps) a b c d e v w _
  rw [g21_text]
  simp only [vp_whole, vp_length, eq_self, true_and, and_true]
  have hle : 0 + ps.length * 2 ≤ ps.length * 2 := by omega
  have hg := fst0_g (ru ps a b c d e).2 v w e
  refine bc_yes hle ⟨_, _, ⟨con19 hlen e hr⟩, _, says_lim1 rfl, _, says_lim1 rfl, gE ps a b c d e v w, ⟨by have := con54 [(ru ps a b c d e).2, if 0 ≤ v ∧ v ≤ 1000000 then 0 else 2, if 0 ≤ w ∧ w ≤ e then 0 else 2] (by simp); rw [hg] at this; exact this⟩, bc_bne (fun h => ?_) (fun h => ?_)⟩
  · refine bc_true (by simpa using h) ?_
    show _ = gD ps a b c d e v w
    rw [gD, if_neg h]
  · obtain ⟨vr, hv, hw⟩ := gE_ok h
    have g := gb vr hw
    have g1 := g.n
    have g2 := g.d1
    rw [g.wr, g.wd]
    refine ⟨_, _, ⟨con65 _ _ ⟨by omega, by omega⟩ ⟨by omega, by omega⟩ (by omega)⟩, ?_⟩
    show _ = gD ps a b c d e v w
    rw [gD, if_pos h]
theorem con25 {ps : List (Int × Int)} {a b c d e : Int} (vr : VRu ps a b c d e) {v w : Int} (hw : 0 ≤ w ∧ w ≤ e) : C4 25 [dRu (dTab ps) a b c d e, .agg [dI v, dI w]] [.agg [dI (low (gN a b c d w) (b * d)).1, dI (low (gN a b c d w) (b * d)).2]] := by
  refine con_flat hok mixed Try.func25 rfl (by show 1 ≤ 400; omega) rfl (by kernel_rfl) (fun caps => ?_)
  show g25 _ _ ps.length (caps 500) (vp ps) a b c d e v w _
  rw [g25_text]
  simp only [eq_self, true_and, and_true]
  have g := gb vr hw
  have g1 := g.n
  have g2 := g.d1
  rw [g.wr, g.wd]
  exact ⟨_, _, ⟨con69 _ _ ⟨by omega, by omega⟩ ⟨by omega, by omega⟩ (by omega)⟩, rfl⟩
end Go.Proofs.M4

/- Chapter 4: forces, and corrections that forget, in data. -/
namespace Go.Proofs.M4
open Go Go.Abs Go.Proofs
set_option maxRecDepth 100000
abbrev smallB (q : Int × Int) : Prop := (-1000000000 ≤ q.1 ∧ q.1 ≤ 1000000000) ∧ -1000000000 ≤ q.2 ∧ q.2 ≤ 1000000000
abbrev smallD (n d : Int) : List D := if smallB (low n d) then [.agg [dI (low n d).1, dI (low n d).2], dI 0] else [.agg [dI 0, dI 0], dI 8]
theorem con66 (n d : Int) (hn : -4611686018427387904 ≤ n ∧ n ≤ 4611686018427387904) (hd : 0 < d ∧ d ≤ 4611686018427387904) : C4 66 [.agg [dI n, dI d]] (smallD n d) := by
  refine con_flat hok mixed Try.func66 rfl (by show 0 ≤ 400; omega) rfl (by kernel_rfl) (fun caps => ?_)
  show g66 _ _ n d _
  rw [g66_text]
  simp only [eq_self, true_and, and_true]
  refine ⟨_, _, ⟨con65 n d hn ⟨by omega, hd.2⟩ (by omega)⟩, (if smallB (low n d) then 0 else 2), says_lim2 rfl, bc_bne (fun h => ?_) (fun h => ?_)⟩
  · have hs : ¬ smallB (low n d) := fun hs => h (if_pos hs)
    refine ⟨?_, ?_⟩
    · try rw [if_neg hs]
      exact bc_true (by simp) trivial
    · show _ = smallD n d
      rw [smallD, if_neg hs]
  · have hs : smallB (low n d) := by
      by_cases hs : smallB (low n d)
      · exact hs
      · rw [if_neg hs] at h; exact absurd h (by omega)
    refine ⟨?_, ?_⟩
    · try rw [if_pos hs]
      exact bc_false (by simp) trivial
    · show _ = smallD n d
      rw [smallD, if_pos hs]
abbrev isSm (n d : Int) : Prop := (-1000000000 ≤ n ∧ n ≤ 1000000000) ∧ 1 ≤ d ∧ d ≤ 1000000000
theorem con31 (n d : Int) : C4 31 [.agg [dI n, dI d]] [.val (.bool (decide (isSm n d)))] := by
  refine con_flat hok mixed Try.func31 rfl (by show 0 ≤ 400; omega) rfl (by kernel_rfl) (fun caps => ?_)
  show g31 _ _ n d _
  rw [g31_text]
  repeat' first | refine bc_dec (fun _ => ?_) (fun _ => ?_) | (show _ = _; rw [decide_eq_true (show isSm n d by omega)]; done) | (show _ = _; rw [decide_eq_false (show ¬ isSm n d by omega)]; done)
theorem low_pos {n d : Int} (hd : 0 < d) : 0 < (low n d).2 := by
  rw [low, if_neg (by omega)]
  have hg := gcd_pos (a := n) (b := d) (.inr (by omega))
  have h1 := Int.ediv_pos_of_pos_of_dvd hd (by omega) (gcd_dvd2 n d)
  show 0 < d.tdiv _
  rw [tdiv_nn (by omega)]; exact h1
/-- the error of a force -/
def fE (ps : List (Int × Int)) (a b c d e v w x : Int) : Int := if gE ps a b c d e v w = 0 then xErr x else gE ps a b c d e v w
abbrev fD (ps : List (Int × Int)) (a b c d e v w x : Int) : List D := if fE ps a b c d e v w x = 0 then smallD (gN a b c d w * valV x ps) (b * d) else [.agg [dI 0, dI 0], dI (fE ps a b c d e v w x)]
theorem force_b {ps : List (Int × Int)} {a b c d e w : Int} (vr : VRu ps a b c d e) (g : GB a b c d e w) (x : Int) : 0 ≤ gN a b c d w * valV x ps ∧ gN a b c d w * valV x ps ≤ 72981000000000 := by
  have hv := valV_bounds vr.vt.some vr.vt.inc vr.vt.val x
  have g1 := g.n
  refine ⟨Int.mul_nonneg (by omega) (by omega), ?_⟩
  have := Int.mul_le_mul (a := gN a b c d w) (c := 729810000) (b := valV x ps) (d := 100000) g1.2 hv.2 (by omega) (by omega)
  omega
theorem con22 {ps : List (Int × Int)} (hlen : ps.length < 1000000000) {a b c d e : Int} (hr : R64 a b c d) (v w x : Int) : C4 22 [dRu (dTab ps) a b c d e, .agg [dI v, dI w], dI x] (fD ps a b c d e v w x) := by
  refine con_flat hok mixed Try.func22 rfl (by show 1 ≤ 400; omega) rfl (by kernel_rfl) (fun caps => ?_)
  show g22 _ _ ps.length (caps 500) (vp ps) a b c d e v w x _
  rw [g22_text]
  simp only [vp_whole, vp_length, eq_self, true_and, and_true]
  have hle : 0 + ps.length * 2 ≤ ps.length * 2 := by omega
  have hg := fst0_g (ru ps a b c d e).2 v w e
  refine bc_yes hle ⟨_, _, ⟨con19 hlen e hr⟩, _, says_lim1 rfl, _, says_lim1 rfl, gE ps a b c d e v w, ⟨by have := con54 [(ru ps a b c d e).2, if 0 ≤ v ∧ v ≤ 1000000 then 0 else 2, if 0 ≤ w ∧ w ≤ e then 0 else 2] (by simp); rw [hg] at this; exact this⟩, bc_bne (fun h => ?_) (fun h => ?_)⟩
  · refine ⟨xErr x, ⟨con55 x⟩, gE ps a b c d e v w, ⟨by have := con54 [gE ps a b c d e v w, xErr x] (by simp); rw [fst0_two, if_neg h] at this; exact this⟩, bc_true (by simpa using h) ?_⟩
    show _ = fD ps a b c d e v w x
    have : fE ps a b c d e v w x = gE ps a b c d e v w := by rw [fE, if_neg h]
    rw [fD, this, if_neg h]
  · obtain ⟨vr, hv, hw⟩ := gE_ok h
    have g := gb vr hw
    have g2 := g.d1
    have hf := force_b vr g x
    have e1 : fE ps a b c d e v w x = xErr x := by rw [fE, if_pos h]
    refine ⟨xErr x, ⟨con55 x⟩, xErr x, ⟨by have := con54 [0, xErr x] (by simp); rw [fst0_two, if_pos rfl] at this; exact this⟩, bc_bne (fun hx => ?_) (fun hx => ?_)⟩
    · show _ = fD ps a b c d e v w x
      rw [fD, e1, if_neg hx]
    · refine bc_yes hle ⟨valV x ps, ⟨con57 vr.vt x (xErr0.1 hx)⟩, ?_⟩
      rw [g.wr, g.wd, w64 (z := gN a b c d w * valV x ps) (by omega) (by omega)]
      have c66 := con66 (gN a b c d w * valV x ps) (b * d) ⟨by omega, by omega⟩ ⟨by omega, by omega⟩
      have e2 : fD ps a b c d e v w x = smallD (gN a b c d w * valV x ps) (b * d) := by rw [fD, e1, if_pos hx]
      show ∃ n7 n8 n9, _ ∧ _ = fD ps a b c d e v w x
      rw [e2]
      by_cases hs : smallB (low (gN a b c d w * valV x ps) (b * d))
      · rw [smallD, if_pos hs] at c66
        exact ⟨_, _, _, ⟨c66⟩, by rw [smallD, if_pos hs]⟩
      · rw [smallD, if_neg hs] at c66
        exact ⟨_, _, _, ⟨c66⟩, by rw [smallD, if_neg hs]⟩
theorem con26 {ps : List (Int × Int)} {a b c d e : Int} (vr : VRu ps a b c d e) {v w x : Int} (hw : 0 ≤ w ∧ w ≤ e) (hx : 0 ≤ x ∧ x ≤ 20000) : C4 26 [dRu (dTab ps) a b c d e, .agg [dI v, dI w], dI x] [.agg [dI (low (gN a b c d w * valV x ps) (b * d)).1, dI (low (gN a b c d w * valV x ps) (b * d)).2], .val (.bool (decide (smallB (low (gN a b c d w * valV x ps) (b * d)))))] := by
  refine con_flat hok mixed Try.func26 rfl (by show 1 ≤ 400; omega) rfl (by kernel_rfl) (fun caps => ?_)
  show g26 _ _ ps.length (caps 500) (vp ps) a b c d e v w x _
  rw [g26_text]
  simp only [vp_whole, vp_length, eq_self, true_and, and_true]
  have hle : 0 + ps.length * 2 ≤ ps.length * 2 := by omega
  have g := gb vr hw
  have g2 := g.d1
  have hf := force_b vr g x
  refine bc_yes hle ⟨valV x ps, ⟨con16 vr.vt x hx⟩, ?_⟩
  rw [g.wr, g.wd, Int.mul_comm (valV x ps), w64 (z := gN a b c d w * valV x ps) (by omega) (by omega)]
  refine ⟨_, _, ⟨con69 _ _ ⟨by omega, by omega⟩ ⟨by omega, by omega⟩ (by omega)⟩, ?_⟩
  have hp := low_pos (n := gN a b c d w * valV x ps) (d := b * d) g2.1
  have c31 := con31 (low (gN a b c d w * valV x ps) (b * d)).1 (low (gN a b c d w * valV x ps) (b * d)).2
  have hiff : isSm (low (gN a b c d w * valV x ps) (b * d)).1 (low (gN a b c d w * valV x ps) (b * d)).2 ↔ smallB (low (gN a b c d w * valV x ps) (b * d)) := by
    unfold isSm smallB
    constructor
    · rintro ⟨h1, h2⟩; exact ⟨h1, by omega, h2.2⟩
    · rintro ⟨h1, h2⟩; exact ⟨h1, by omega, h2.2⟩
  by_cases hs : smallB (low (gN a b c d w * valV x ps) (b * d))
  · rw [decide_eq_true (hiff.2 hs)] at c31
    rw [decide_eq_true hs]
    exact .inl ⟨⟨c31⟩, rfl⟩
  · rw [decide_eq_false (fun h => hs (hiff.1 h))] at c31
    rw [decide_eq_false hs]
    exact .inr ⟨⟨c31⟩, rfl⟩
/-! ### forgetting -/
def fg (s t : Int) : Int := max (0 - s) (min s t)
def kE (ps : List (Int × Int)) (a b c d e v w x y : Int) : Int := if gE ps a b c d e v w = 0 then (if (0 ≤ x ∧ x ≤ e) ∧ 0 ≤ y ∧ y ≤ 900 then (if v ≥ 1000000 then 8 else 0) else 2) else gE ps a b c d e v w
abbrev kD (ps : List (Int × Int)) (a b c d e v w x y : Int) : List D := if kE ps a b c d e v w x y = 0 then [.agg [dI (v + 1), dI (w + fg y (x - w))], dI 0] else [.agg [dI 0, dI 0], dI (kE ps a b c d e v w x y)]
theorem fst0_four (a b c d : Int) : fst0 [a, b, c, d] = if a = 0 then (if b = 0 then (if c = 0 then d else c) else b) else a := by
  simp only [fst0]
  repeat' split
  all_goals first | rfl | omega
theorem con44 {ps : List (Int × Int)} (hlen : ps.length < 1000000000) {a b c d e : Int} (hr : R64 a b c d) (v w x y : Int) : C4 44 [dRu (dTab ps) a b c d e, .agg [dI v, dI w], dI x, dI y] (kD ps a b c d e v w x y) := by
  refine con_flat hok mixed Try.func44 rfl (by show 1 ≤ 400; omega) rfl (by kernel_rfl) (fun caps => ?_)
  show g44 _ _ ps.length (caps 500) (vp ps) a b c d e v w x y _
  rw [g44_text]
  simp only [vp_whole, vp_length, eq_self, true_and, and_true]
  have hle : 0 + ps.length * 2 ≤ ps.length * 2 := by omega
  have hg := fst0_g (ru ps a b c d e).2 v w e
  refine bc_yes hle ⟨_, _, ⟨con19 hlen e hr⟩, _, says_lim1 rfl, _, says_lim1 rfl, gE ps a b c d e v w, ⟨by have := con54 [(ru ps a b c d e).2, if 0 ≤ v ∧ v ≤ 1000000 then 0 else 2, if 0 ≤ w ∧ w ≤ e then 0 else 2] (by simp); rw [hg] at this; exact this⟩, bc_bne (fun h => ?_) (fun h => ?_)⟩
  · have e1 : kE ps a b c d e v w x y = gE ps a b c d e v w := by rw [kE, if_neg h]
    have fin : ∀ q, C4 54 [.sl 4 1 [.int .i64 (gE ps a b c d e v w), .int .i64 (if 0 ≤ x ∧ x ≤ e then 0 else 2), .int .i64 (if 0 ≤ y ∧ y ≤ 900 then 0 else 2), .int .i64 q]] [dI (gE ps a b c d e v w)] := fun q => by
      have := con54 [gE ps a b c d e v w, if 0 ≤ x ∧ x ≤ e then 0 else 2, if 0 ≤ y ∧ y ≤ 900 then 0 else 2, q] (by simp)
      rw [fst0_four, if_neg h] at this; exact this
    refine ⟨_, says_lim1 rfl, _, says_lim1 rfl, bc_dec (fun _ => ?_) (fun _ => ?_)⟩
    all_goals
      refine ⟨_, ⟨fin _⟩, bc_true (by simpa using h) ?_⟩
      show _ = kD ps a b c d e v w x y
      rw [kD, e1, if_neg h]
  · obtain ⟨vr, hv, hw⟩ := gE_ok h
    have e1 : kE ps a b c d e v w x y = if (0 ≤ x ∧ x ≤ e) ∧ 0 ≤ y ∧ y ≤ 900 then (if v ≥ 1000000 then 8 else 0) else 2 := by rw [kE, if_pos h]
    have he := vr.e1
    have fin : ∀ q, q = (if v ≥ 1000000 then (8 : Int) else 0) → C4 54 [.sl 4 1 [.int .i64 0, .int .i64 (if 0 ≤ x ∧ x ≤ e then 0 else 2), .int .i64 (if 0 ≤ y ∧ y ≤ 900 then 0 else 2), .int .i64 q]] [dI (kE ps a b c d e v w x y)] := fun q hq => by
      have := con54 [0, if 0 ≤ x ∧ x ≤ e then 0 else 2, if 0 ≤ y ∧ y ≤ 900 then 0 else 2, q] (by simp)
      rw [fst0_four, if_pos rfl] at this
      have e2 : (if (if 0 ≤ x ∧ x ≤ e then (0 : Int) else 2) = 0 then (if (if 0 ≤ y ∧ y ≤ 900 then (0 : Int) else 2) = 0 then q else if 0 ≤ y ∧ y ≤ 900 then 0 else 2) else if 0 ≤ x ∧ x ≤ e then 0 else 2) = kE ps a b c d e v w x y := by
        rw [e1]
        by_cases h1 : 0 ≤ x ∧ x ≤ e
        · by_cases h2 : 0 ≤ y ∧ y ≤ 900
          · simp only [if_pos h1, if_pos h2, if_pos (And.intro h1 h2), if_true, hq]
          · have h3 : ¬ ((0 ≤ x ∧ x ≤ e) ∧ 0 ≤ y ∧ y ≤ 900) := fun hn => h2 hn.2
            have h4 : ¬ (2 : Int) = 0 := by omega
            simp only [if_pos h1, if_neg h2, if_neg h3, if_neg h4, if_true]
        · have h3 : ¬ ((0 ≤ x ∧ x ≤ e) ∧ 0 ≤ y ∧ y ≤ 900) := fun hn => h1 hn.1
          have h4 : ¬ (2 : Int) = 0 := by omega
          simp only [if_neg h1, if_neg h3, if_neg h4]
      rw [e2] at this; exact this
    rw [w64 (z := v + 1) (by omega) (by omega)]
    refine ⟨_, says_lim1 rfl, _, says_lim1 rfl, bc_dec (fun hq => ?_) (fun hq => ?_)⟩
    · refine ⟨_, ⟨fin 8 (by rw [if_pos (by omega)])⟩, bc_bne (fun hk => ?_) (fun hk => ?_)⟩
      · show _ = kD ps a b c d e v w x y
        rw [kD, if_neg hk]
      · exfalso
        rw [e1, if_pos (show v ≥ 1000000 by omega)] at hk
        split at hk <;> omega
    · refine ⟨_, ⟨fin 0 (by rw [if_neg (by omega)])⟩, bc_bne (fun hk => ?_) (fun hk => ?_)⟩
      · show _ = kD ps a b c d e v w x y
        rw [kD, if_neg hk]
      · show _ = kD ps a b c d e v w x y
        rw [kD, if_pos hk]
        have hxy : (0 ≤ x ∧ x ≤ e) ∧ 0 ≤ y ∧ y ≤ 900 := by
          by_cases hc : (0 ≤ x ∧ x ≤ e) ∧ 0 ≤ y ∧ y ≤ 900
          · exact hc
          · rw [e1, if_neg hc] at hk; omega
        rw [w64 (z := x - w) (by omega) (by omega), w64 (z := 0 - y) (by omega) (by omega)]
        have e3 : (if (if x - w < y then x - w else y) > 0 - y then if x - w < y then x - w else y else 0 - y) = fg y (x - w) := by
          unfold fg
          repeat' split
          all_goals omega
        rw [e3, w64 (z := w + fg y (x - w)) (by unfold fg; omega) (by unfold fg; omega)]
theorem con45 {ps : List (Int × Int)} {a b c d e : Int} (vr : VRu ps a b c d e) {v w : Int} (hv : 0 ≤ v ∧ v ≤ 1000000) (hw : 0 ≤ w ∧ w ≤ e) (x y : Int) (hg : gE ps a b c d e v w = 0) : C4 45 [dRu (dTab ps) a b c d e, .agg [dI v, dI w], dI x, dI y] (kD ps a b c d e v w x y) := by
  have he := vr.e1
  have e1 : kE ps a b c d e v w x y = if (0 ≤ x ∧ x ≤ e) ∧ 0 ≤ y ∧ y ≤ 900 then (if v ≥ 1000000 then 8 else 0) else 2 := by rw [kE, if_pos hg]
  let inv : Int → Prop := fun i => 0 ≤ i ∧ i ≤ y ∧ (0 ≤ x ∧ x ≤ e) ∧ y ≤ 900 ∧ v < 1000000
  let st : Int → Slots × Blocks := fun i => (s45 x y (w + fg i (x - w)) i, b45 v w)
  refine con_of (L := fun _ s b => ∃ x, inv x ∧ st x = (s, b)) hok mixed Try.func45 rfl (by show 1 ≤ 400; omega) rfl (ids := [0]) (by kernel_rfl) rfl (fun caps => ?_) (fun id hid => ?_)
  · show g45 _ _ ps.length (caps 500) (vp ps) a b c d e v w x y _
    rw [g45_text]
    have bad : ¬ ((0 ≤ x ∧ x ≤ e) ∧ 0 ≤ y ∧ y ≤ 900) → [D.agg [dI 0, dI 0], dI 2] = kD ps a b c d e v w x y := fun hn => by
      have : kE ps a b c d e v w x y = 2 := by rw [e1, if_neg hn]
      rw [kD, this, if_neg (by omega)]
    refine bc_dec (fun h1 => bc_dec (fun h2 => bc_dec (fun h3 => bc_dec (fun h4 => bc_dec (fun h5 => ?_) (fun h5 => ?_)) (fun h4 => bad (by omega))) (fun h3 => bad (by omega))) (fun h2 => bad (by omega))) (fun h1 => bad (by omega))
    · have : kE ps a b c d e v w x y = 8 := by rw [e1, if_pos ⟨⟨h1, h2⟩, h3, h4⟩, if_pos h5]
      show _ = kD ps a b c d e v w x y
      rw [kD, this, if_neg (by omega)]
    · refine ⟨0, ⟨by omega, h3, ⟨h1, h2⟩, h4, by omega⟩, ?_⟩
      have : w + fg 0 (x - w) = w := by unfold fg; omega
      simp only [st, this]; rfl
  · obtain rfl := List.mem_singleton.1 hid
    refine ⟨_, st, inv, fun i => (y - i).toNat, ⟨fun s b h => h, by kernel_rfl, ?_⟩⟩
    rintro i ⟨hi0, hi1, hx, hy, hv2⟩
    show r45 _ _ v w x y (w + fg i (x - w)) i _ _ _
    rw [r45_text]
    have up : i < y → ∀ z, z = w + fg (i + 1) (x - w) → ∃ j, inv j ∧ (y - j).toNat < (y - i).toNat ∧ st j = (s45 x y z (IntKind.wrap .i64 (i + 1)), b45 v w) := by
      intro hlt z hz
      refine ⟨i + 1, ⟨by omega, by omega, hx, hy, hv2⟩, by omega, ?_⟩
      rw [hz, w64 (by omega) (by omega)]
    refine bc_dec (fun h => bc_dec (fun h1 => ?_) (fun h1 => bc_dec (fun h2 => ?_) (fun h2 => ?_))) (fun h => ?_)
    · exact up h _ (by rw [w64 (by unfold fg; omega) (by unfold fg; omega)]; unfold fg at h1 ⊢; omega)
    · exact up h _ (by rw [w64 (by unfold fg; omega) (by unfold fg; omega)]; unfold fg at h2 ⊢; omega)
    · exact up h _ (by unfold fg at h1 h2 ⊢; omega)
    · show (if 0 = 0 then _ else _)
      rw [if_pos rfl]
      show n45 _ _ v w (w + fg i (x - w)) _
      rw [n45_text]
      have hi : i = y := by omega
      have : kE ps a b c d e v w x y = 0 := by rw [e1, if_pos ⟨hx, by omega, hy⟩, if_neg (by omega)]
      show _ = kD ps a b c d e v w x y
      rw [kD, if_pos this, hi, w64 (z := v + 1) (by omega) (by omega)]
end Go.Proofs.M4

/- ModelGains and ModelForgets in data. -/
namespace Go.Proofs.M4
open Go Go.Abs Go.Proofs
set_option maxRecDepth 100000
theorem fE_g {ps : List (Int × Int)} {a b c d e v w x : Int} (h : gE ps a b c d e v w ≠ 0) : fE ps a b c d e v w x = gE ps a b c d e v w := by rw [fE, if_neg h]
theorem con4 (ps : List (Int × Int)) (hl : ps.length < 1000000000) {a b c d : Int} (e v w x : Int) (hr : R64 a b c d) : C4 4 [dRu (dTab ps) a b c d e, .agg [dI v, dI w], dI x] [.val (.bool true)] := by
  refine con_flat hok mixed Try.func4 rfl (by show 1 ≤ 400; omega) rfl (by kernel_rfl) (fun caps => ?_)
  show g4 _ _ ps.length (caps 500) (vp ps) a b c d e v w x _
  rw [g4_text]
  refine .inl ⟨⟨con9⟩, ?_⟩
  have hle : 0 + ps.length * 2 ≤ ps.length * 2 := by omega
  simp only [vp_whole, vp_length, bc_t hle, eq_self, true_and, and_true]
  refine bc_dec (fun hn => ?_) (fun _ => trivial)
  have c20 : Says C4 20 [dRu (dTab ps) a b c d e] [dRu (dTab ps) a b c d e] := ⟨con20 ps hl a b c d e⟩
  have c19 := con19 hl e hr
  have c23 := con23 hl e hr
  have c21 := con21 hl (e := e) hr v w
  have c22 := con22 hl (e := e) hr v w x
  obtain ⟨t, r, ht⟩ : ∃ t r, ru ps a b c d e = (t, r) := ⟨_, _, rfl⟩
  have hru : (ru ps a b c d e).2 = r := by rw [ht]
  simp only [ht] at c19 c23
  by_cases h0 : r = 0
  · subst h0
    have hvr : VRu ps a b c d e := ru_ok hru
    by_cases hc : (0 ≤ v ∧ v ≤ 1000000) ∧ 0 ≤ w ∧ w ≤ e
    · have hg : gE ps a b c d e v w = 0 := by rw [gE, if_pos hru, if_pos hc]
      rw [gD, if_pos hg] at c21
      have c25 := con25 hvr (v := v) hc.2
      by_cases hx : 0 ≤ x ∧ x ≤ 20000
      · have hf : fE ps a b c d e v w x = 0 := by rw [fE, if_pos hg]; exact if_pos hx
        have c26 := con26 hvr (v := v) hc.2 hx
        rw [fD, if_pos hf] at c22
        by_cases hs : smallB (low (gN a b c d w * valV x ps) (b * d))
        · rw [smallD, if_pos hs] at c22
          rw [decide_eq_true hs] at c26
          refine ⟨c20, t, 0, ⟨c19⟩, c20, _, _, 0, ⟨c21⟩, c20, _, _, 0, ⟨c22⟩, t, 0, ⟨c23⟩, bc_false (by simp) (bc_false (by simp) (bc_true (by simp) (bc_yes hc.1.1 (bc_yes hc.1.2 (bc_yes hc.2.1 (bc_yes hc.2.2 (bc_false (by simp) ⟨bc_false (by simp) trivial, _, _, ⟨c25⟩, bc_false (by simp) ?_⟩)))))))⟩
          refine ⟨⟨bc_false (by simp) trivial, bc_false (by simp) trivial⟩, bc_yes hx.1 (bc_yes hx.2 ⟨_, _, .inl ⟨⟨c26⟩, bc_true (by simp) (bc_true (by simp) trivial)⟩⟩)⟩
        · rw [smallD, if_neg hs] at c22
          rw [decide_eq_false hs] at c26
          refine ⟨c20, t, 0, ⟨c19⟩, c20, _, _, 0, ⟨c21⟩, c20, 0, 0, 8, ⟨c22⟩, t, 0, ⟨c23⟩, bc_false (by simp) (bc_false (by simp) (bc_true (by simp) (bc_yes hc.1.1 (bc_yes hc.1.2 (bc_yes hc.2.1 (bc_yes hc.2.2 (bc_false (by simp) ⟨bc_false (by simp) trivial, _, _, ⟨c25⟩, bc_false (by simp) ?_⟩)))))))⟩
          refine ⟨⟨bc_false (by simp) trivial, bc_false (by simp) trivial⟩, bc_yes hx.1 (bc_yes hx.2 ⟨_, _, .inr ⟨⟨c26⟩, bc_true (by simp) (bc_true (by simp) trivial)⟩⟩)⟩
      · have hf : fE ps a b c d e v w x = 2 := by rw [fE, if_pos hg]; exact if_neg hx
        rw [fD, hf, if_neg (by omega)] at c22
        refine ⟨c20, t, 0, ⟨c19⟩, c20, _, _, 0, ⟨c21⟩, c20, 0, 0, 2, ⟨c22⟩, t, 0, ⟨c23⟩, bc_false (by simp) (bc_false (by simp) (bc_true (by simp) (bc_yes hc.1.1 (bc_yes hc.1.2 (bc_yes hc.2.1 (bc_yes hc.2.2 (bc_false (by simp) ⟨bc_false (by simp) trivial, _, _, ⟨c25⟩, bc_false (by simp) ?_⟩)))))))⟩
        refine ⟨⟨bc_false (by simp) trivial, bc_false (by simp) trivial⟩, bc_dec (fun h1 => bc_dec (fun h2 => absurd ⟨h1, h2⟩ hx) (fun _ => ?_)) (fun _ => ?_)⟩
        all_goals exact bc_true (by simp) (bc_true (by simp) trivial)
    · have hg : gE ps a b c d e v w = 2 := by rw [gE, if_pos hru, if_neg hc]
      have hf : fE ps a b c d e v w x = 2 := by rw [fE_g (by rw [hg]; omega), hg]
      rw [gD, hg, if_neg (by omega)] at c21
      rw [fD, hf, if_neg (by omega)] at c22
      refine ⟨c20, t, 0, ⟨c19⟩, c20, 0, 0, 2, ⟨c21⟩, c20, 0, 0, 2, ⟨c22⟩, t, 0, ⟨c23⟩, bc_false (by simp) (bc_false (by simp) (bc_true (by simp) (bc_dec (fun h1 => bc_dec (fun h2 => bc_dec (fun h3 => bc_dec (fun h4 => absurd ⟨⟨h1, h2⟩, h3, h4⟩ hc) (fun _ => ?_)) (fun _ => ?_)) (fun _ => ?_)) (fun _ => ?_))))⟩
      all_goals exact bc_true (by simp) (bc_true (by simp) (bc_true (by simp) (bc_true (by simp) trivial)))
  · have hg : gE ps a b c d e v w = r := by rw [gE, hru, if_neg h0]
    have hf : fE ps a b c d e v w x = r := by rw [fE_g (by rw [hg]; exact h0), hg]
    rw [gD, hg, if_neg h0] at c21
    rw [fD, hf, if_neg h0] at c22
    refine ⟨c20, t, r, ⟨c19⟩, c20, 0, 0, r, ⟨c21⟩, c20, 0, 0, r, ⟨c22⟩, t, r, ⟨c23⟩, bc_false (by simp) (bc_false (by simp) (bc_false (by simpa using h0) ?_))⟩
    repeat' first | trivial | (refine bc_true (by simp [h0]; done) ?_) | (refine bc_false (by simp [h0]; done) ?_)
theorem con4long (ps : List (Int × Int)) (hl : 1000000000 ≤ ps.length) (a b c d e v w x : Int) : C4 4 [dRu (dTab ps) a b c d e, .agg [dI v, dI w], dI x] [.val (.bool true)] := by
  refine con_flat hok mixed Try.func4 rfl (by show 1 ≤ 400; omega) rfl (by kernel_rfl) (fun caps => ?_)
  show g4 _ _ ps.length (caps 500) (vp ps) a b c d e v w x _
  rw [g4_text]
  exact .inl ⟨⟨con9⟩, bc_no (by omega) rfl⟩
theorem con4n {a b c d : Int} (e v w x : Int) (hr : R64 a b c d) : C4 4 [dRu .nil a b c d e, .agg [dI v, dI w], dI x] [.val (.bool true)] := by
  refine con_flat hok mixed Try.func4 rfl (by show 0 ≤ 400; omega) rfl (by kernel_rfl) (fun caps => ?_)
  show g4n _ _ a b c d e v w x _
  rw [g4n_text]
  refine .inl ⟨⟨con9⟩, ?_⟩
  simp only [eq_self, true_and, and_true]
  have c20 : Says C4 20 [dRu .nil a b c d e] [dRu (dTab []) a b c d e] := ⟨con20n a b c d e⟩
  have hru : ru [] a b c d e = (0, 10) := rfl
  have c19 : C4 19 [dRu (dTab []) a b c d e] [dI 0, dI 10] := con19 (ps := []) (by simp) e hr
  have hg : gE [] a b c d e v w = 10 := by rw [gE, hru, if_neg (by simp)]
  have hf : fE [] a b c d e v w x = 10 := by rw [fE_g (by rw [hg]; omega), hg]
  have c21 := con21 (ps := []) (by simp) (e := e) hr v w
  have c22 := con22 (ps := []) (by simp) (e := e) hr v w x
  rw [gD, hg, if_neg (by omega)] at c21
  rw [fD, hf, if_neg (by omega)] at c22
  refine ⟨c20, 0, 10, ⟨c19⟩, c20, 0, 0, 10, ⟨c21⟩, c20, 0, 0, 10, ⟨c22⟩, 0, 10, ⟨con23n e⟩, bc_false (by simp) (bc_false (by simp) (bc_false (by simp) ?_))⟩
  repeat' first | trivial | (refine bc_true (by simp; done) ?_) | (refine bc_false (by simp; done) ?_)
#print axioms con4
end Go.Proofs.M4

/- ModelForgets in data. -/
namespace Go.Proofs.M4
open Go Go.Abs Go.Proofs
set_option maxRecDepth 100000
theorem kE_g {ps : List (Int × Int)} {a b c d e v w x y : Int} (h : gE ps a b c d e v w ≠ 0) : kE ps a b c d e v w x y = gE ps a b c d e v w := by rw [kE, if_neg h]
theorem con8 (ps : List (Int × Int)) (hl : ps.length < 1000000000) {a b c d : Int} (e v w x y z : Int) (hr : R64 a b c d) : C4 8 [dRu (dTab ps) a b c d e, .agg [dI v, dI w], .agg [dI x, dI y, dI z]] [.val (.bool true)] := by
  refine con_flat hok mixed Try.func8 rfl (by show 1 ≤ 400; omega) rfl (by kernel_rfl) (fun caps => ?_)
  show g8 _ _ ps.length (caps 500) (vp ps) a b c d e v w x y z _
  rw [g8_text]
  refine .inl ⟨⟨con9⟩, ?_⟩
  have hle : 0 + ps.length * 2 ≤ ps.length * 2 := by omega
  simp only [vp_whole, vp_length, bc_t hle, eq_self, true_and, and_true]
  refine bc_dec (fun hn => ?_) (fun _ => trivial)
  have c20 : Says C4 20 [dRu (dTab ps) a b c d e] [dRu (dTab ps) a b c d e] := ⟨con20 ps hl a b c d e⟩
  have c23 := con23 hl e hr
  have c44 := con44 hl (e := e) hr v w x y
  obtain ⟨t, r, ht⟩ : ∃ t r, ru ps a b c d e = (t, r) := ⟨_, _, rfl⟩
  have hru : (ru ps a b c d e).2 = r := by rw [ht]
  simp only [ht] at c23
  by_cases h0 : r = 0
  · subst h0
    have hvr : VRu ps a b c d e := ru_ok hru
    have he := hvr.e1
    by_cases hc : (0 ≤ v ∧ v ≤ 1000000) ∧ 0 ≤ w ∧ w ≤ e
    · have hg : gE ps a b c d e v w = 0 := by rw [gE, if_pos hru, if_pos hc]
      have c45 := con45 hvr hc.1 hc.2 x y hg
      by_cases hk : kE ps a b c d e v w x y = 0
      · rw [kD, if_pos hk] at c44 c45
        have hxy : (0 ≤ x ∧ x ≤ e) ∧ (0 ≤ y ∧ y ≤ 900) ∧ v < 1000000 := by
          rw [kE, if_pos hg] at hk
          split at hk
          · rename_i h1
            split at hk
            · omega
            · exact ⟨h1.1, h1.2, by omega⟩
          · omega
        obtain ⟨hx, hy, hv1⟩ := hxy
        refine ⟨c20, _, _, 0, ⟨c44⟩, t, 0, ⟨c23⟩, bc_true (by simp) (bc_yes hc.1.1 (bc_yes hc.1.2 (bc_yes hc.2.1 (bc_yes hc.2.2 ⟨_, _, 0, ⟨c45⟩, bc_false (by simp) (bc_false (by simp) (bc_false (by simp) (bc_dec (fun hz0 => bc_dec (fun hz1 => bc_dec (fun _ => trivial) (fun hv2 => ?_)) (fun _ => trivial)) (fun _ => trivial))))⟩))))⟩
        have k2 : kE ps a b c d e v w x z = 0 := by rw [kE, if_pos hg, if_pos ⟨hx, by omega, by omega⟩, if_neg (by omega)]
        have c44b := con44 hl (e := e) hr v w x z
        rw [kD, if_pos k2] at c44b
        have w1 : 0 ≤ w + fg z (x - w) ∧ w + fg z (x - w) ≤ e := by unfold fg; omega
        have g2 : gE ps a b c d e (v + 1) (w + fg z (x - w)) = 0 := by rw [gE, if_pos hru, if_pos ⟨⟨by omega, by omega⟩, w1⟩]
        have k3 : kE ps a b c d e (v + 1) (w + fg z (x - w)) x (y - z) = 0 := by rw [kE, if_pos g2, if_pos ⟨hx, by omega, by omega⟩, if_neg (by omega)]
        have c44c := con44 hl (e := e) hr (v + 1) (w + fg z (x - w)) x (y - z)
        rw [kD, if_pos k3] at c44c
        have ew : IntKind.wrap .i64 (y - z) = y - z := w64 (by omega) (by omega)
        simp only [ew]
        have hb : w + fg z (x - w) + fg (y - z) (x - (w + fg z (x - w))) = w + fg y (x - w) := by unfold fg; omega
        refine ⟨c20, _, _, 0, ⟨c44b⟩, bc_false (by simp) (bc_yes (by omega) (bc_yes (by omega) (bc_yes w1.1 (bc_yes w1.2 ⟨c20, _, _, 0, ⟨c44c⟩, ?_⟩))))⟩
        rw [hb]
        have m1 : (if x < w then x else w) ≤ w + fg y (x - w) := by unfold fg; split <;> omega
        have m2 : w + fg y (x - w) ≤ (if x > w then x else w) := by unfold fg; split <;> omega
        repeat' first | trivial | (refine bc_yes m1 ?_) | (refine bc_yes m2 ?_) | (refine bc_true (by simp; done) ?_)
      · rw [kD, if_neg hk] at c44 c45
        refine ⟨c20, 0, 0, _, ⟨c44⟩, t, 0, ⟨c23⟩, bc_true (by simp) (bc_yes hc.1.1 (bc_yes hc.1.2 (bc_yes hc.2.1 (bc_yes hc.2.2 ⟨0, 0, _, ⟨c45⟩, bc_false (by simp) (bc_false (by simp) (bc_true (by simpa using hk) trivial))⟩))))⟩
    · have hg : gE ps a b c d e v w = 2 := by rw [gE, if_pos hru, if_neg hc]
      have hk : kE ps a b c d e v w x y = 2 := by rw [kE_g (by rw [hg]; omega), hg]
      rw [kD, hk, if_neg (by omega)] at c44
      refine ⟨c20, 0, 0, 2, ⟨c44⟩, t, 0, ⟨c23⟩, bc_true (by simp) (bc_dec (fun h1 => bc_dec (fun h2 => bc_dec (fun h3 => bc_dec (fun h4 => absurd ⟨⟨h1, h2⟩, h3, h4⟩ hc) (fun _ => ?_)) (fun _ => ?_)) (fun _ => ?_)) (fun _ => ?_))⟩
      all_goals exact bc_true (by simp) (bc_true (by simp) trivial)
  · have hg : gE ps a b c d e v w = r := by rw [gE, hru, if_neg h0]
    have hk : kE ps a b c d e v w x y = r := by rw [kE_g (by rw [hg]; exact h0), hg]
    rw [kD, hk, if_neg h0] at c44
    refine ⟨c20, 0, 0, r, ⟨c44⟩, t, r, ⟨c23⟩, bc_false (by simpa using h0) ?_⟩
    repeat' first | trivial | (refine bc_true (by simp [h0]; done) ?_) | (refine bc_false (by simp [h0]; done) ?_)
theorem con8long (ps : List (Int × Int)) (hl : 1000000000 ≤ ps.length) (a b c d e v w x y z : Int) : C4 8 [dRu (dTab ps) a b c d e, .agg [dI v, dI w], .agg [dI x, dI y, dI z]] [.val (.bool true)] := by
  refine con_flat hok mixed Try.func8 rfl (by show 1 ≤ 400; omega) rfl (by kernel_rfl) (fun caps => ?_)
  show g8 _ _ ps.length (caps 500) (vp ps) a b c d e v w x y z _
  rw [g8_text]
  exact .inl ⟨⟨con9⟩, bc_no (by omega) rfl⟩
theorem con8n {a b c d : Int} (e v w x y z : Int) (hr : R64 a b c d) : C4 8 [dRu .nil a b c d e, .agg [dI v, dI w], .agg [dI x, dI y, dI z]] [.val (.bool true)] := by
  refine con_flat hok mixed Try.func8 rfl (by show 0 ≤ 400; omega) rfl (by kernel_rfl) (fun caps => ?_)
  show g8n _ _ a b c d e v w x y z _
  rw [g8n_text]
  refine .inl ⟨⟨con9⟩, ?_⟩
  simp only [eq_self, true_and, and_true]
  have c20 : Says C4 20 [dRu .nil a b c d e] [dRu (dTab []) a b c d e] := ⟨con20n a b c d e⟩
  have hru : ru [] a b c d e = (0, 10) := rfl
  have hg : gE [] a b c d e v w = 10 := by rw [gE, hru, if_neg (by simp)]
  have hk : kE [] a b c d e v w x y = 10 := by rw [kE_g (by rw [hg]; omega), hg]
  have c44 := con44 (ps := []) (by simp) (e := e) hr v w x y
  rw [kD, hk, if_neg (by omega)] at c44
  refine ⟨c20, 0, 0, 10, ⟨c44⟩, 0, 10, ⟨con23n e⟩, bc_false (by simp) ?_⟩
  repeat' first | trivial | (refine bc_true (by simp; done) ?_) | (refine bc_false (by simp; done) ?_)
#print axioms con8
end Go.Proofs.M4

/- ModelGains and ModelForgets: whatever the input, they return true, and the input reads as it did. No condition. -/
namespace Go.Proofs.Ythfdbeeanhfboaa.Rul
open Go Go.Abs Go.RowKit Go.ChangeShapes Go.WideShapes Go.ChangeAt Go.Proofs Go.Proofs.M4
set_option maxRecDepth 100000
theorem own : ownKnob Try.prog.godebug = none := by kernel_rfl
theorem laidP : laidOutB Try.prog = true := by kernel_rfl
theorem mapsP : mapsRowed Try.prog = true := by kernel_rfl
theorem slicesP : ∀ t e, t < Try.prog.types.size → Try.prog.underlying t = some (.slice e) → 0 < Try.prog.cellsOf e := slices_full_of Try.prog (by kernel_rfl)
theorem vp_flat : ∀ l : List (Int × Int), (l.flatMap fun p => [Value.int .i64 p.1, Value.int .i64 p.2]) = vp l
  | [] => rfl
  | p :: r => by rw [List.flatMap_cons, vp_flat r]; rfl
theorem c3 : Try.prog.cellsOf 3 = 1 := by kernel_rfl
theorem c40 : Try.prog.cellsOf 40 = 2 := by kernel_rfl
theorem c42 : Try.prog.cellsOf 42 = 6 := by kernel_rfl
theorem c22 : Try.prog.cellsOf 22 = 1 := by kernel_rfl
theorem c44 : Try.prog.cellsOf 44 = 2 := by kernel_rfl
theorem c24 : Try.prog.cellsOf 24 = 2 := by kernel_rfl
theorem c81 : Try.prog.cellsOf 81 = 3 := by kernel_rfl
theorem c105 : Try.prog.cellsOf 105 = 2 := by kernel_rfl
theorem tt42 : Try.prog.cellTypes Try.prog.depth 42 = some [22, 3, 3, 3, 3, 3] := by kernel_rfl
variable {H : Type} {enc : TypeId × Value → H} {W : World}
/-- rules, opened -/
theorem open_rules {base : Nat} {v : Value} {d : DataW H} {p : List MemPlace} (hval : Value.okWide Try.prog W .any base 42 v) (h : DataW.Trod enc Try.prog W 0 (fun _ => true) true 42 v d p) :
    ∃ a b c d' e : Int, R64 a b c d' ∧ ∃ c0, v = .agg #[c0, .int .i64 a, .int .i64 b, .int .i64 c, .int .i64 d', .int .i64 e] ∧ (Reads W .nil c0 ∨ ∃ ps : List (Int × Int), Reads W (dTab ps) c0) := by
  simp only [Value.okWide, Try.underlying42] at hval
  obtain ⟨cs, rfl, hsz, ts, hts, _, hok⟩ := hval
  obtain ⟨fuel, h⟩ := h
  rw [tt42] at hts
  obtain rfl : [22, 3, 3, 3, 3, 3] = ts := Option.some.inj hts
  obtain ⟨c0, c1, c2, c3', c4, c5, rfl⟩ : ∃ c0 c1 c2 c3 c4 c5, cs = #[c0, c1, c2, c3, c4, c5] := by
    rw [c42] at hsz
    match cs, hsz with
    | ⟨[c0, c1, c2, c3, c4, c5]⟩, _ => exact ⟨c0, c1, c2, c3, c4, c5, rfl⟩
  obtain ⟨xs, n, _, he, hl, hlen, hf⟩ := DataW.trod_struct Try.underlying42 h
  obtain ⟨y0, y1, y2, y3, rfl⟩ : ∃ y0 y1 y2 y3, xs = [y0, y1, y2, y3] := by
    match xs, hlen with
    | [y0, y1, y2, y3], _ => exact ⟨y0, y1, y2, y3, rfl⟩
  have t0 := hf 0 _ rfl
  have t1 := hf 1 _ rfl
  have t2 := hf 2 _ rfl
  have t3 := hf 3 _ rfl
  simp only [Value.cells] at t0 t1 t2 t3
  obtain ⟨a, b, e1, wa, wb⟩ := cells_pair Try.underlying40 Try.underlying3 Try.underlying3 c40 c3 c3 rfl rfl t1
  obtain ⟨c, d', e2, wc, wd⟩ := cells_pair Try.underlying40 Try.underlying3 Try.underlying3 c40 c3 c3 rfl rfl t2
  obtain ⟨e, e3, _, we⟩ := DataW.trod_int Try.underlying3 t3
  have q1 : c1 = .int .i64 a ∧ c2 = .int .i64 b := by simpa [c40] using e1
  have q2 : c3' = .int .i64 c ∧ c4 = .int .i64 d' := by simpa [c40] using e2
  have q3 : c5 = .int .i64 e := by simpa [c3] using e3
  obtain ⟨rfl, rfl⟩ := q1
  obtain ⟨rfl, rfl⟩ := q2
  subst q3
  refine ⟨a, b, c, d', e, ⟨wf64 wa, wf64 wb, wf64 wc, wf64 wd⟩, c0, rfl, ?_⟩
  obtain ⟨u0, hu0, ok0⟩ := hok 0 c0 rfl
  obtain rfl : 22 = u0 := by simpa using hu0
  rcases reads_pairs Try.underlying22 Try.underlying105 Try.underlying3 Try.underlying3 c105 c3 c3 rfl rfl ok0 (x := y0) (by simpa [c22] using t0) with ⟨rfl, hr⟩ | ⟨ps, _, hr⟩
  · exact .inl hr
  · rw [vp_flat] at hr
    exact .inr ⟨ps, hr⟩
/-- two whole numbers, opened -/
theorem open_two {base : Nat} {t : TypeId} {f0 f1 : Field} {v : Value} {d : DataW H} {p : List MemPlace} (ht : Try.prog.underlying t = some (.struct #[f0, f1])) (h0 : Try.prog.underlying f0.type = some (.int .i64)) (h1 : Try.prog.underlying f1.type = some (.int .i64)) (hc : Try.prog.cellsOf t = 2) (hc0 : Try.prog.cellsOf f0.type = 1) (hc1 : Try.prog.cellsOf f1.type = 1) (ho0 : f0.offset = 0) (ho1 : f1.offset = 1)
    (hval : Value.okWide Try.prog W .any base t v) (h : DataW.Trod enc Try.prog W 0 (fun _ => true) true t v d p) : ∃ a b : Int, v = .agg #[.int .i64 a, .int .i64 b] := by
  simp only [Value.okWide, ht] at hval
  obtain ⟨cs, rfl, hsz, ts, hts, _, hok⟩ := hval
  obtain ⟨fuel, h⟩ := h
  obtain ⟨a, b, e, _, _⟩ := cells_pair ht h0 h1 hc hc0 hc1 ho0 ho1 h
  refine ⟨a, b, ?_⟩
  have : cs.toList = [.int .i64 a, .int .i64 b] := e
  rw [← Array.toArray_toList (xs := cs), this]
theorem reads_two (a b : Int) : Reads W (.agg [dI a, dI b]) (.agg #[.int .i64 a, .int .i64 b]) := .agg _ [_, _] (.cons (.val _ rfl) (.cons (.val _ rfl) .nil))
theorem reads_ru {t : D} {c0 : Value} (h : Reads W t c0) (a b c d e : Int) : Reads W (dRu t a b c d e) (.agg #[c0, .int .i64 a, .int .i64 b, .int .i64 c, .int .i64 d, .int .i64 e]) :=
  .agg _ [_, _, _, _, _, _] (.cons h (.cons (.val _ rfl) (.cons (.val _ rfl) (.cons (.val _ rfl) (.cons (.val _ rfl) (.cons (.val _ rfl) .nil))))))
theorem contract4 (H : Type) (enc : TypeId × Value → H) (W : World) (base : Nat) (args : Array Value) (ds gs : List (DataW H)) (before : List MemPlace)
    (hval : ∀ (j : Nat) t v, Try.f4.params[j]? = some t → args[j]? = some v → Value.okWide Try.prog W .any base t v)
    (hW : DataW.Whole enc Try.prog Try.f4.params.toList Rows.modelGainsSpec.vars false W args.toList ds gs before) :
    Calls Try.prog 4 args W fun e W' => ∃ v, e = .returned v ∧ Rows.modelGainsSpec.post enc Try.prog Try.f4 false true false false W args v W' := by
  have hW' := hW
  obtain ⟨p, q, hA0, hV, rfl, hfz, hnd⟩ := hW
  have hA : DataW.TrodAll enc Try.prog W 0 (fun _ => true) true Try.f4.params.toList args.toList ds p := hA0
  rw [Try.params4] at hA hval
  obtain ⟨v0, vs0, d0, ds0, p0, q0, hargs, rfl, rfl, h0, r0⟩ := trodAll_cons hA
  obtain ⟨v1, vs1, d1, ds1, p1, q1, rfl, rfl, rfl, h1, r1⟩ := trodAll_cons r0
  obtain ⟨v2, vs2, d2, ds2, p2, q2, rfl, rfl, rfl, h2, r2⟩ := trodAll_cons r1
  obtain ⟨rfl, rfl, rfl⟩ := trodAll_nil r2
  obtain rfl : args = #[v0, v1, v2] := by cases args; simp_all
  obtain ⟨rfl, rfl⟩ := trodVars_none hV
  obtain ⟨x, rfl, rfl, rfl, w1⟩ := open_int Try.underlying3 (hval 2 3 v2 rfl rfl) h2
  obtain ⟨v, w, rfl⟩ := open_two Try.underlying44 Try.underlying3 Try.underlying3 c44 c3 c3 rfl rfl (hval 1 44 v1 rfl rfl) h1
  obtain ⟨a, b, c, d, e, hr, c0, rfl, ht⟩ := open_rules (hval 0 42 v0 rfl rfl) h0
  have hcon : ∃ t, ReadsL W [dRu t a b c d e, .agg [dI v, dI w], dI x] [Value.agg #[c0, .int .i64 a, .int .i64 b, .int .i64 c, .int .i64 d, .int .i64 e], .agg #[.int .i64 v, .int .i64 w], .int .i64 x] ∧ Con Try.prog 4 [dRu t a b c d e, .agg [dI v, dI w], dI x] [.val (.bool true)] := by
    rcases ht with ht | ⟨ps, ht⟩
    · exact ⟨.nil, .cons (reads_ru ht a b c d e) (.cons (reads_two v w) (.cons (.val _ rfl) .nil)), con4n e v w x hr⟩
    · refine ⟨dTab ps, .cons (reads_ru ht a b c d e) (.cons (reads_two v w) (.cons (.val _ rfl) .nil)), ?_⟩
      by_cases hsm : ps.length < 1000000000
      · exact con4 ps hsm e v w x hr
      · exact con4long ps (by omega) a b c d e v w x
  obtain ⟨t, hrd, hc⟩ := hcon
  exact law_frame (tb := 4) (s := Rows.modelGainsSpec) laidP mapsP slicesP (fun t ht => by
    rw [Try.params4] at ht
    have : t = 42 ∨ t = 44 ∨ t = 3 := by simpa using ht
    rcases this with rfl | rfl | rfl <;> decide +kernel) rfl Try.underlying4 rfl rfl rfl rfl hW' hrd hc
theorem lifted4 (os : Os) (started : os.Started) (H : Type) (enc : TypeId × Value → H) :
    ReturnsInHanded {} Try.checked os 4 .any (Rows.modelGainsSpec.pre6 enc Try.prog Try.f4 Rows.modelGainsRow.domain false) (Rows.modelGainsSpec.post enc Try.prog Try.f4 false true false false) := by
  refine returnsInHanded_of_change (C := Try.checked) own started (by kernel_rfl) Try.func4
    (ChangeSpec.witness6 (enc := enc) (C := Try.checked) false ⟨#[], #[.agg #[.slice none 0 0, .int .i64 0, .int .i64 0, .int .i64 0, .int .i64 0, .int .i64 0], .agg #[.int .i64 0, .int .i64 0], .int .i64 0], []⟩ 8 (by kernel_rfl) (by kernel_rfl) (by kernel_rfl) (by kernel_rfl)) ?_
  intro W base args ds gs before hval hW _ _
  exact contract4 H enc W base args ds gs before hval hW
theorem modelGains_holds : Rows.ModelGainsSaid :=
  OpenClaim.holds_of_wide 4 Try.f4 rfl rfl rfl rfl rfl rfl rfl ⟨rfl, rfl, rfl, rfl, rfl⟩ rfl rfl rfl rfl rfl (by kernel_rfl) Try.func4 (by kernel_rfl)
    (of_decide_eq_true (by kernel_rfl)) (by unfold Func.isWrapper; first | (rw [if_pos (by decide +kernel)]; kernel_rfl) | (rw [if_neg (by decide +kernel)]; exact ⟨rfl, rfl⟩))
    (fun os started H enc _ => lifted4 os started H enc)
theorem contract8 (H : Type) (enc : TypeId × Value → H) (W : World) (base : Nat) (args : Array Value) (ds gs : List (DataW H)) (before : List MemPlace)
    (hval : ∀ (j : Nat) t v, Try.f8.params[j]? = some t → args[j]? = some v → Value.okWide Try.prog W .any base t v)
    (hW : DataW.Whole enc Try.prog Try.f8.params.toList Rows.modelForgetsSpec.vars false W args.toList ds gs before) :
    Calls Try.prog 8 args W fun e W' => ∃ v, e = .returned v ∧ Rows.modelForgetsSpec.post enc Try.prog Try.f8 false true false false W args v W' := by
  have hW' := hW
  obtain ⟨p, q, hA0, hV, rfl, hfz, hnd⟩ := hW
  have hA : DataW.TrodAll enc Try.prog W 0 (fun _ => true) true Try.f8.params.toList args.toList ds p := hA0
  rw [Try.params8] at hA hval
  obtain ⟨v0, vs0, d0, ds0, p0, q0, hargs, rfl, rfl, h0, r0⟩ := trodAll_cons hA
  obtain ⟨v1, vs1, d1, ds1, p1, q1, rfl, rfl, rfl, h1, r1⟩ := trodAll_cons r0
  obtain ⟨v2, vs2, d2, ds2, p2, q2, rfl, rfl, rfl, h2, r2⟩ := trodAll_cons r1
  obtain ⟨rfl, rfl, rfl⟩ := trodAll_nil r2
  obtain rfl : args = #[v0, v1, v2] := by cases args; simp_all
  obtain ⟨rfl, rfl⟩ := trodVars_none hV
  obtain ⟨v, w, rfl⟩ := open_two Try.underlying44 Try.underlying3 Try.underlying3 c44 c3 c3 rfl rfl (hval 1 44 v1 rfl rfl) h1
  obtain ⟨a, b, c, d, e, hr, c0, rfl, ht⟩ := open_rules (hval 0 42 v0 rfl rfl) h0
  have ok2 := hval 2 81 v2 rfl rfl
  simp only [Value.okWide, Try.underlying81] at ok2
  obtain ⟨es, rfl, hsz2, ts2, hts2, _, hok2⟩ := ok2
  obtain ⟨e0, e1, e2, rfl⟩ : ∃ e0 e1 e2, es = #[e0, e1, e2] := by
    rw [c81] at hsz2
    match es, hsz2 with
    | ⟨[e0, e1, e2]⟩, _ => exact ⟨e0, e1, e2, rfl⟩
  obtain ⟨fuel2, h2⟩ := h2
  obtain ⟨y0, y1, y2, n, _, t0, t1, t2⟩ := trod_array3 Try.underlying81 c3 (by simpa [Value.cells] using h2)
  obtain ⟨x, g0, _, _⟩ := DataW.trod_int Try.underlying3 t0
  obtain ⟨y, g1, _, _⟩ := DataW.trod_int Try.underlying3 t1
  obtain ⟨z, g2, _, _⟩ := DataW.trod_int Try.underlying3 t2
  obtain rfl : e0 = .int .i64 x := by simpa using g0
  obtain rfl : e1 = .int .i64 y := by simpa using g1
  obtain rfl : e2 = .int .i64 z := by simpa using g2
  have r3 : Reads W (.agg [dI x, dI y, dI z]) (.agg #[.int .i64 x, .int .i64 y, .int .i64 z]) := .agg _ [_, _, _] (.cons (.val _ rfl) (.cons (.val _ rfl) (.cons (.val _ rfl) .nil)))
  have hcon : ∃ t, ReadsL W [dRu t a b c d e, .agg [dI v, dI w], .agg [dI x, dI y, dI z]] [Value.agg #[c0, .int .i64 a, .int .i64 b, .int .i64 c, .int .i64 d, .int .i64 e], .agg #[.int .i64 v, .int .i64 w], .agg #[.int .i64 x, .int .i64 y, .int .i64 z]] ∧ Con Try.prog 8 [dRu t a b c d e, .agg [dI v, dI w], .agg [dI x, dI y, dI z]] [.val (.bool true)] := by
    rcases ht with ht | ⟨ps, ht⟩
    · exact ⟨.nil, .cons (reads_ru ht a b c d e) (.cons (reads_two v w) (.cons r3 .nil)), con8n e v w x y z hr⟩
    · refine ⟨dTab ps, .cons (reads_ru ht a b c d e) (.cons (reads_two v w) (.cons r3 .nil)), ?_⟩
      by_cases hsm : ps.length < 1000000000
      · exact con8 ps hsm e v w x y z hr
      · exact con8long ps (by omega) a b c d e v w x y z
  obtain ⟨t, hrd, hc⟩ := hcon
  exact law_frame (tb := 4) (s := Rows.modelForgetsSpec) laidP mapsP slicesP (fun t ht => by
    rw [Try.params8] at ht
    have : t = 42 ∨ t = 44 ∨ t = 81 := by simpa using ht
    rcases this with rfl | rfl | rfl <;> decide +kernel) rfl Try.underlying4 rfl rfl rfl rfl hW' hrd hc
theorem lifted8 (os : Os) (started : os.Started) (H : Type) (enc : TypeId × Value → H) :
    ReturnsInHanded {} Try.checked os 8 .any (Rows.modelForgetsSpec.pre6 enc Try.prog Try.f8 Rows.modelForgetsRow.domain false) (Rows.modelForgetsSpec.post enc Try.prog Try.f8 false true false false) := by
  refine returnsInHanded_of_change (C := Try.checked) own started (by kernel_rfl) Try.func8
    (ChangeSpec.witness6 (enc := enc) (C := Try.checked) false ⟨#[], #[.agg #[.slice none 0 0, .int .i64 0, .int .i64 0, .int .i64 0, .int .i64 0, .int .i64 0], .agg #[.int .i64 0, .int .i64 0], .agg #[.int .i64 0, .int .i64 0, .int .i64 0]], []⟩ 8 (by kernel_rfl) (by kernel_rfl) (by kernel_rfl) (by kernel_rfl)) ?_
  intro W base args ds gs before hval hW _ _
  exact contract8 H enc W base args ds gs before hval hW
theorem modelForgets_holds : Rows.ModelForgetsSaid :=
  OpenClaim.holds_of_wide 8 Try.f8 rfl rfl rfl rfl rfl rfl rfl ⟨rfl, rfl, rfl, rfl, rfl⟩ rfl rfl rfl rfl rfl (by kernel_rfl) Try.func8 (by kernel_rfl)
    (of_decide_eq_true (by kernel_rfl)) (by unfold Func.isWrapper; first | (rw [if_pos (by decide +kernel)]; kernel_rfl) | (rw [if_neg (by decide +kernel)]; exact ⟨rfl, rfl⟩))
    (fun os started H enc _ => lifted8 os started H enc)
#print axioms modelGains_holds
#print axioms modelForgets_holds
end Go.Proofs.Ythfdbeeanhfboaa.Rul

/- Chapter 4: values between; fractions compared. -/
namespace Go.Proofs.M4
open Go Go.Abs Go.Proofs
theorem line_at {p q : Int × Int} (h : p.1 < q.1) : line p q p.1 = p.2 ∧ line p q q.1 = q.2 := by
  unfold line
  refine ⟨?_, ?_⟩
  · rw [show p.1 - p.1 = 0 by omega, Int.mul_zero, Int.add_zero, Int.mul_ediv_cancel _ (by omega)]
  · rw [show q.1 - q.1 = 0 by omega, Int.mul_zero, Int.zero_add, Int.mul_ediv_cancel _ (by omega)]
/-- on a line what is between lies between -/
theorem line_up {p q : Int × Int} {s t : Int} (h : p.1 < q.1) (hst : s ≤ t) (hpq : p.2 ≤ q.2) : line p q s ≤ line p q t := by
  unfold line
  refine Int.ediv_le_ediv (by omega) ?_
  have e : p.2 * (q.1 - t) + q.2 * (t - p.1) - (p.2 * (q.1 - s) + q.2 * (s - p.1)) = (q.2 - p.2) * (t - s) := by
    simp only [Int.mul_sub, Int.sub_mul]; omega
  have : 0 ≤ (q.2 - p.2) * (t - s) := Int.mul_nonneg (by omega) (by omega)
  omega
theorem line_down {p q : Int × Int} {s t : Int} (h : p.1 < q.1) (hst : s ≤ t) (hpq : q.2 ≤ p.2) : line p q t ≤ line p q s := by
  unfold line
  refine Int.ediv_le_ediv (by omega) ?_
  have e : p.2 * (q.1 - s) + q.2 * (s - p.1) - (p.2 * (q.1 - t) + q.2 * (t - p.1)) = (p.2 - q.2) * (t - s) := by
    simp only [Int.mul_sub, Int.sub_mul]; omega
  have : 0 ≤ (p.2 - q.2) * (t - s) := Int.mul_nonneg (by omega) (by omega)
  omega
theorem line_lo {p q : Int × Int} {s t u M : Int} (h : p.1 < q.1) (h1 : s ≤ t) (h2 : t ≤ u) (hs : M ≤ line p q s) (hu : M ≤ line p q u) : M ≤ line p q t := by
  by_cases hpq : p.2 ≤ q.2
  · have := line_up h h1 hpq; omega
  · have := line_down (p := p) (q := q) h h2 (by omega); omega
theorem line_hi {p q : Int × Int} {s t u M : Int} (h : p.1 < q.1) (h1 : s ≤ t) (h2 : t ≤ u) (hs : line p q s ≤ M) (hu : line p q u ≤ M) : line p q t ≤ M := by
  by_cases hpq : p.2 ≤ q.2
  · have := line_up h h2 hpq; omega
  · have := line_down (p := p) (q := q) h h1 (by omega); omega
theorem valGo_lo {x y z M : Int} : ∀ {l : List (Int × Int)} {p : Int × Int}, Inc (p :: l) → p.1 < z → x ≤ z → z ≤ y → (p.1 < x → M ≤ valGo x p l) → (x ≤ p.1 → M ≤ p.2) → M ≤ valGo y p l → (∀ q ∈ l, x < q.1 → q.1 < y → M ≤ q.2) → M ≤ valGo z p l
  | [], p, _, _, _, _, _, _, hy, _ => hy
  | q :: r, p, hi, hz, hxz, hzy, hx, hpx, hy, hk => by
    have hpq := hi.1 q (List.mem_cons_self ..)
    have la := line_at hpq
    have hkq := hk q (List.mem_cons_self ..)
    simp only [valGo] at hx hy ⊢
    by_cases hzq : z ≤ q.1
    · rw [if_pos hzq]
      have hL : ∃ s, s ≤ z ∧ M ≤ line p q s := by
        by_cases h : p.1 < x
        · exact ⟨x, hxz, by have := hx h; rw [if_pos (by omega)] at this; exact this⟩
        · exact ⟨p.1, by omega, by rw [la.1]; exact hpx (by omega)⟩
      obtain ⟨s, hs, hL⟩ := hL
      by_cases h : y ≤ q.1
      · rw [if_pos h] at hy
        exact line_lo hpq hs hzy hL hy
      · by_cases hxq : x < q.1
        · exact line_lo hpq hs hzq hL (by rw [la.2]; exact hkq hxq (by omega))
        · have : z = x := by omega
          have hh := hx (by omega)
          rw [if_pos (by omega)] at hh
          rw [this]; exact hh
    · rw [if_neg hzq]
      refine valGo_lo hi.2 (by omega) hxz hzy (fun h => ?_) (fun h => ?_) ?_ (fun q' hq' => hk q' (List.mem_cons_of_mem _ hq'))
      · have := hx (by omega); rw [if_neg (by omega)] at this; exact this
      · by_cases he : x = q.1
        · have := hx (by omega)
          rw [if_pos (by omega), he, la.2] at this; exact this
        · exact hkq (by omega) (by omega)
      · rw [if_neg (by omega)] at hy; exact hy
theorem valGo_hi {x y z M : Int} : ∀ {l : List (Int × Int)} {p : Int × Int}, Inc (p :: l) → p.1 < z → x ≤ z → z ≤ y → (p.1 < x → valGo x p l ≤ M) → (x ≤ p.1 → p.2 ≤ M) → valGo y p l ≤ M → (∀ q ∈ l, x < q.1 → q.1 < y → q.2 ≤ M) → valGo z p l ≤ M
  | [], p, _, _, _, _, _, _, hy, _ => hy
  | q :: r, p, hi, hz, hxz, hzy, hx, hpx, hy, hk => by
    have hpq := hi.1 q (List.mem_cons_self ..)
    have la := line_at hpq
    have hkq := hk q (List.mem_cons_self ..)
    simp only [valGo] at hx hy ⊢
    by_cases hzq : z ≤ q.1
    · rw [if_pos hzq]
      have hL : ∃ s, s ≤ z ∧ line p q s ≤ M := by
        by_cases h : p.1 < x
        · exact ⟨x, hxz, by have := hx h; rw [if_pos (by omega)] at this; exact this⟩
        · exact ⟨p.1, by omega, by rw [la.1]; exact hpx (by omega)⟩
      obtain ⟨s, hs, hL⟩ := hL
      by_cases h : y ≤ q.1
      · rw [if_pos h] at hy
        exact line_hi hpq hs hzy hL hy
      · by_cases hxq : x < q.1
        · exact line_hi hpq hs hzq hL (by rw [la.2]; exact hkq hxq (by omega))
        · have : z = x := by omega
          have hh := hx (by omega)
          rw [if_pos (by omega)] at hh
          rw [this]; exact hh
    · rw [if_neg hzq]
      refine valGo_hi hi.2 (by omega) hxz hzy (fun h => ?_) (fun h => ?_) ?_ (fun q' hq' => hk q' (List.mem_cons_of_mem _ hq'))
      · have := hx (by omega); rw [if_neg (by omega)] at this; exact this
      · by_cases he : x = q.1
        · have := hx (by omega)
          rw [if_pos (by omega), he, la.2] at this; exact this
        · exact hkq (by omega) (by omega)
      · rw [if_neg (by omega)] at hy; exact hy
theorem valV_lo {l : List (Int × Int)} (hi : Inc l) (h0 : 0 < l.length) {x y z M : Int} (hxz : x ≤ z) (hzy : z ≤ y) (hx : M ≤ valV x l) (hy : M ≤ valV y l) (hk : ∀ q ∈ l, x < q.1 → q.1 < y → M ≤ q.2) : M ≤ valV z l := by
  cases l with
  | nil => simp at h0
  | cons p r =>
    simp only [valV] at hx hy ⊢
    by_cases h : z ≤ p.1
    · rw [if_pos h]; rw [if_pos (by omega)] at hx; exact hx
    · rw [if_neg h]
      rw [if_neg (by omega)] at hy
      refine valGo_lo hi (by omega) hxz hzy (fun h => ?_) (fun h => ?_) hy (fun q hq => hk q (List.mem_cons_of_mem _ hq))
      · rw [if_neg (by omega)] at hx; exact hx
      · rw [if_pos h] at hx; exact hx
theorem valV_hi {l : List (Int × Int)} (hi : Inc l) (h0 : 0 < l.length) {x y z M : Int} (hxz : x ≤ z) (hzy : z ≤ y) (hx : valV x l ≤ M) (hy : valV y l ≤ M) (hk : ∀ q ∈ l, x < q.1 → q.1 < y → q.2 ≤ M) : valV z l ≤ M := by
  cases l with
  | nil => simp at h0
  | cons p r =>
    simp only [valV] at hx hy ⊢
    by_cases h : z ≤ p.1
    · rw [if_pos h]; rw [if_pos (by omega)] at hx; exact hx
    · rw [if_neg h]
      rw [if_neg (by omega)] at hy
      refine valGo_hi hi (by omega) hxz hzy (fun h => ?_) (fun h => ?_) hy (fun q hq => hk q (List.mem_cons_of_mem _ hq))
      · rw [if_neg (by omega)] at hx; exact hx
      · rw [if_pos h] at hx; exact hx
theorem mnK_le {lo hi : Int} : ∀ (l : List (Int × Int)) (m : Int), mnK lo hi l m ≤ m ∧ ∀ q ∈ l, inn lo hi q → mnK lo hi l m ≤ q.2
  | [], m => ⟨by simp [mnK], by simp⟩
  | p :: r, m => by
    obtain ⟨h1, h2⟩ := mnK_le (lo := lo) (hi := hi) r (if inn lo hi p then min m p.2 else m)
    rw [mnK]
    have hm : (if inn lo hi p then min m p.2 else m) ≤ m := by split <;> omega
    refine ⟨by omega, fun q hq hin => ?_⟩
    rcases List.mem_cons.1 hq with rfl | hq
    · rw [if_pos hin] at h1 ⊢; omega
    · exact h2 q hq hin
theorem mnK_glb {lo hi M : Int} : ∀ (l : List (Int × Int)) (m : Int), M ≤ m → (∀ q ∈ l, inn lo hi q → M ≤ q.2) → M ≤ mnK lo hi l m
  | [], m, h, _ => h
  | p :: r, m, h, hk => by
    rw [mnK]
    refine mnK_glb r _ ?_ (fun q hq => hk q (List.mem_cons_of_mem _ hq))
    split
    · rename_i hin
      have := hk p (List.mem_cons_self ..) hin
      omega
    · exact h
theorem mxK_ge {lo hi : Int} : ∀ (l : List (Int × Int)) (m : Int), m ≤ mxK lo hi l m ∧ ∀ q ∈ l, inn lo hi q → q.2 ≤ mxK lo hi l m
  | [], m => ⟨by simp [mxK], by simp⟩
  | p :: r, m => by
    obtain ⟨h1, h2⟩ := mxK_ge (lo := lo) (hi := hi) r (if inn lo hi p then max m p.2 else m)
    rw [mxK]
    have hm : m ≤ (if inn lo hi p then max m p.2 else m) := by split <;> omega
    refine ⟨by omega, fun q hq hin => ?_⟩
    rcases List.mem_cons.1 hq with rfl | hq
    · rw [if_pos hin] at h1 ⊢; omega
    · exact h2 q hq hin
theorem mxK_lub {lo hi M : Int} : ∀ (l : List (Int × Int)) (m : Int), m ≤ M → (∀ q ∈ l, inn lo hi q → q.2 ≤ M) → mxK lo hi l m ≤ M
  | [], m, h, _ => h
  | p :: r, m, h, hk => by
    rw [mxK]
    refine mxK_lub r _ ?_ (fun q hq => hk q (List.mem_cons_of_mem _ hq))
    split
    · rename_i hin
      have := hk p (List.mem_cons_self ..) hin
      omega
    · exact h
/-- a value at a temperature in a range lies in the range of values -/
theorem over_in {l : List (Int × Int)} (hv : VT l) {x y z : Int} (hxz : x ≤ z) (hzy : z ≤ y) : mnOver x y l ≤ valV z l ∧ valV z l ≤ mxOver x y l := by
  obtain ⟨a1, a2⟩ := mnK_le (lo := x) (hi := y) l (min (valV x l) (valV y l))
  obtain ⟨b1, b2⟩ := mxK_ge (lo := x) (hi := y) l (max (valV x l) (valV y l))
  refine ⟨valV_lo hv.inc hv.some hxz hzy (by unfold mnOver; omega) (by unfold mnOver; omega) (fun q hq h1 h2 => a2 q hq ⟨h1, h2⟩), valV_hi hv.inc hv.some hxz hzy (by unfold mxOver; omega) (by unfold mxOver; omega) (fun q hq h1 h2 => b2 q hq ⟨h1, h2⟩)⟩
/-- a wider range contains it -/
theorem over_wide {l : List (Int × Int)} (hv : VT l) {x y s t : Int} (hxy : x ≤ y) (hs : s ≤ x) (ht : y ≤ t) : mnOver s t l ≤ mnOver x y l ∧ mxOver x y l ≤ mxOver s t l := by
  obtain ⟨a1, a2⟩ := mnK_le (lo := s) (hi := t) l (min (valV s l) (valV t l))
  obtain ⟨b1, b2⟩ := mxK_ge (lo := s) (hi := t) l (max (valV s l) (valV t l))
  have hx := over_in hv (x := s) (y := t) (z := x) hs (by omega)
  have hy := over_in hv (x := s) (y := t) (z := y) (by omega) ht
  refine ⟨mnK_glb l _ (by omega) (fun q hq h => a2 q hq ⟨by omega, by omega⟩), mxK_lub l _ (by omega) (fun q hq h => b2 q hq ⟨by omega, by omega⟩)⟩
/-! ### fractions -/
theorem low_parts {n d : Int} (hd : 0 < d) : ∃ g : Int, 0 < g ∧ n = g * (low n d).1 ∧ d = g * (low n d).2 ∧ ((Int.gcd (low n d).1 (low n d).2 : Nat) : Int) = 1 := by
  have hg := gcd_pos (a := n) (b := d) (.inr (by omega))
  obtain ⟨A, hA⟩ := gcd_dvd1 n d
  obtain ⟨B, hB⟩ := gcd_dvd2 n d
  have e1 : (low n d).1 = A := by
    rw [low, if_neg (by omega)]
    show n.tdiv _ = A
    generalize hG : ((Int.gcd n d : Nat) : Int) = G at hA hg ⊢
    rw [hA]
    exact Int.mul_tdiv_cancel_left A (by omega)
  have e2 : (low n d).2 = B := by
    rw [low, if_neg (by omega)]
    show d.tdiv _ = B
    generalize hG : ((Int.gcd n d : Nat) : Int) = G at hB hg ⊢
    rw [hB]
    exact Int.mul_tdiv_cancel_left B (by omega)
  refine ⟨Int.gcd n d, hg, by rw [e1]; exact hA, by rw [e2]; exact hB, ?_⟩
  rw [e1, e2]
  have h3 : Int.gcd n d = Int.gcd n d * Int.gcd A B := by
    have : Int.gcd ((Int.gcd n d : Int) * A) ((Int.gcd n d : Int) * B) = Int.gcd n d * Int.gcd A B := by
      rw [Int.gcd_mul_left]; rfl
    rw [← hA, ← hB] at this
    exact this
  have h4 : Int.gcd A B = 1 := by
    have hp : 0 < Int.gcd n d := by omega
    exact Nat.eq_of_mul_eq_mul_left hp (by omega)
  omega
theorem low_lt {n m d : Int} (hd : 0 < d) (h : n < m) : (low n d).1 * (low m d).2 < (low m d).1 * (low n d).2 := by
  obtain ⟨g, hg, h1, h2, _⟩ := low_parts (n := n) hd
  obtain ⟨k, hk, h3, h4, _⟩ := low_parts (n := m) hd
  have e1 : n * d = (g * k) * ((low n d).1 * (low m d).2) := by
    conv => lhs; rw [h1]; rhs; rw [h4]
    simp only [Int.mul_assoc, Int.mul_left_comm]
  have e2 : m * d = (g * k) * ((low m d).1 * (low n d).2) := by
    conv => lhs; rw [h3]; rhs; rw [h2]
    simp only [Int.mul_assoc, Int.mul_left_comm, Int.mul_comm]
  have h5 : n * d < m * d := Int.mul_lt_mul_of_pos_right h hd
  rw [e1, e2] at h5
  exact Int.lt_of_mul_lt_mul_left h5 (Int.le_of_lt (Int.mul_pos hg hk))
end Go.Proofs.M4

/- ModelBetween in data. -/
namespace Go.Proofs.M4
open Go Go.Abs Go.Proofs
set_option maxRecDepth 100000
theorem con32 (n d m k : Int) (h1 : -1000000000 ≤ n ∧ n ≤ 1000000000) (h2 : -1000000000 ≤ d ∧ d ≤ 1000000000) (h3 : -1000000000 ≤ m ∧ m ≤ 1000000000) (h4 : -1000000000 ≤ k ∧ k ≤ 1000000000) (hlt : n * k < m * d) : C4 32 [.agg [dI n, dI d], .agg [dI m, dI k]] [dI (-1)] := by
  refine con_flat hok mixed Try.func32 rfl (by show 0 ≤ 400; omega) rfl (by kernel_rfl) (fun caps => ?_)
  show g32 _ _ n d m k _
  rw [g32_text]
  have bnd : ∀ a b : Int, -1000000000 ≤ a ∧ a ≤ 1000000000 → -1000000000 ≤ b ∧ b ≤ 1000000000 → -1000000000000000000 ≤ a * b ∧ a * b ≤ 1000000000000000000 := by
    intro a b ha hb
    have h : (a * b).natAbs ≤ 1000000000 * 1000000000 := by
      rw [Int.natAbs_mul]
      exact Nat.mul_le_mul (by omega) (by omega)
    omega
  have b1 := bnd n k h1 h4
  have b2 := bnd m d h3 h2
  simp only [eq_self, true_and, and_true]
  rw [w64 (z := n * k) (by omega) (by omega), w64 (z := m * d) (by omega) (by omega)]
  exact bc_yes hlt rfl
theorem con5 (ps : List (Int × Int)) (hl : ps.length < 1000000000) {a b c d : Int} (e x y z u : Int) (hr : R64 a b c d) : C4 5 [dRu (dTab ps) a b c d e, .agg [dI x, dI y], .agg [dI z, dI u]] [.val (.bool true)] := by
  refine con_flat hok mixed Try.func5 rfl (by show 1 ≤ 400; omega) rfl (by kernel_rfl) (fun caps => ?_)
  show g5 _ _ ps.length (caps 500) (vp ps) a b c d e x y z u _
  rw [g5_text]
  refine .inl ⟨⟨con9⟩, ?_⟩
  have hle : 0 + ps.length * 2 ≤ ps.length * 2 := by omega
  simp only [vp_whole, vp_length, bc_t hle, eq_self, true_and, and_true]
  refine bc_dec (fun hn => ?_) (fun _ => trivial)
  have c23 := con23 hl e hr
  obtain ⟨t, r, ht⟩ : ∃ t r, ru ps a b c d e = (t, r) := ⟨_, _, rfl⟩
  have hru : (ru ps a b c d e).2 = r := by rw [ht]
  simp only [ht] at c23
  refine ⟨t, r, ⟨c23⟩, bc_bne (fun _ => trivial) (fun h0 => ?_)⟩
  subst h0
  have hvr : VRu ps a b c d e := ru_ok hru
  have hvt := hvr.vt
  have he := hvr.e1
  refine bc_dec (fun hx0 => bc_dec (fun hx1 => bc_dec (fun hy0 => bc_dec (fun hy1 => bc_dec (fun _ => trivial) (fun hxy => ?_)) (fun _ => trivial)) (fun _ => trivial)) (fun _ => trivial)) (fun _ => trivial)
  have ht2 : (tab ps).2 = 0 := by
    unfold ru at hru
    split at hru
    · rename_i hh; exact absurd hru hh
    · rename_i hh; omega
  have c11 : Says C4 11 [dTab ps] [dTab ps] := ⟨con11 ps hl⟩
  have c20 : Says C4 20 [dRu (dTab ps) a b c d e] [dRu (dTab ps) a b c d e] := ⟨con20 ps hl a b c d e⟩
  have r0 : rErr x y = 0 := by rw [rErr, if_pos ⟨xErr0.2 ⟨hx0, hx1⟩, xErr0.2 ⟨hy0, hy1⟩⟩, if_neg hxy]
  have r1' : rErr 0 20000 = 0 := rfl
  have c13 := con13 hl x y
  have c13b := con13 hl 0 20000
  rw [if_pos ⟨ht2, r0⟩] at c13
  rw [if_pos ⟨ht2, r1'⟩] at c13b
  have hm : y - x + 1 ≠ 0 := by omega
  rw [w64 (z := y - x) (by omega) (by omega), w64 (z := y - x + 1) (by omega) (by omega), w64 (z := e + 1) (by omega) (by omega)]
  have hw := over_wide hvt (x := x) (y := y) (s := 0) (t := 20000) (by omega) (by omega) (by omega)
  have hxy' := over_in hvt (x := x) (y := y) (z := x) (by omega) (by omega)
  have he1 : e + 1 ≠ 0 := by omega
  -- the forces at two steps
  have forces : ∀ (s q : Int), 0 ≤ s → s < e → x ≤ q → q ≤ y → ∃ n11 n12 n13 n14 n15 n16 : Int, C4 22 [dRu (dTab ps) a b c d e, .agg [dI 0, dI s], dI q] [.agg [dI n11, dI n12], dI n13] ∧ C4 22 [dRu (dTab ps) a b c d e, .agg [dI 0, dI (s + 1)], dI q] [.agg [dI n14, dI n15], dI n16] ∧
      (n13 = 0 ∨ n13 = 8 ∧ n11 = 0 ∧ n12 = 0) ∧ (n16 = 0 ∨ n16 = 8 ∧ n14 = 0 ∧ n15 = 0) ∧ (n13 = 0 → n16 = 0 → C4 30 [.agg [dI n11, dI n12]] [.val (.bool true)] ∧ C4 31 [.agg [dI n11, dI n12]] [.val (.bool true)] ∧ C4 30 [.agg [dI n14, dI n15]] [.val (.bool true)] ∧ C4 31 [.agg [dI n14, dI n15]] [.val (.bool true)] ∧ C4 32 [.agg [dI n11, dI n12], .agg [dI n14, dI n15]] [dI (-1)]) := by
    intro s q hs0 hs1 hq0 hq1
    have one : ∀ s : Int, 0 ≤ s → s ≤ e → fE ps a b c d e 0 s q = 0 := by
      intro s h1 h2
      have hg : gE ps a b c d e 0 s = 0 := by rw [gE, if_pos hru, if_pos ⟨⟨by omega, by omega⟩, h1, h2⟩]
      rw [fE, if_pos hg]; exact xErr0.2 ⟨by omega, by omega⟩
    have ca := con22 hl (e := e) hr 0 s q
    have cb := con22 hl (e := e) hr 0 (s + 1) q
    rw [fD, if_pos (one s hs0 (by omega))] at ca
    rw [fD, if_pos (one (s + 1) (by omega) (by omega))] at cb
    have ga := gb hvr (w := s) ⟨hs0, by omega⟩
    have gb' := gb hvr (w := s + 1) ⟨by omega, by omega⟩
    have hd := ga.d1
    have hv := valV_bounds hvt.some hvt.inc hvt.val q
    have hlt : gN a b c d s * valV q ps < gN a b c d (s + 1) * valV q ps := by
      refine Int.mul_lt_mul_of_pos_right ?_ (by omega)
      unfold gN
      have : 0 < c * b := Int.mul_pos (by have := hvr.c1; omega) (by have := hvr.b1; omega)
      have e1 : (s + 1) * c * b = s * c * b + c * b := by rw [Int.add_mul, Int.add_mul, Int.one_mul]
      omega
    have ok : ∀ n : Int, smallB (low n (b * d)) → C4 30 [.agg [dI (low n (b * d)).1, dI (low n (b * d)).2]] [.val (.bool true)] ∧ C4 31 [.agg [dI (low n (b * d)).1, dI (low n (b * d)).2]] [.val (.bool true)] := by
      intro n hs
      have hp := low_pos (n := n) hd.1
      obtain ⟨_, _, _, _, h1⟩ := low_parts (n := n) hd.1
      have c30 := con30 (low n (b * d)).1 (low n (b * d)).2 ⟨by omega, by omega⟩ ⟨by omega, by omega⟩
      have c31 := con31 (low n (b * d)).1 (low n (b * d)).2
      rw [decide_eq_true (show form _ _ from ⟨hp, h1⟩)] at c30
      rw [decide_eq_true (show isSm _ _ from ⟨hs.1, by omega, hs.2.2⟩)] at c31
      exact ⟨c30, c31⟩
    by_cases sa : smallB (low (gN a b c d s * valV q ps) (b * d))
    · rw [smallD, if_pos sa] at ca
      by_cases sb : smallB (low (gN a b c d (s + 1) * valV q ps) (b * d))
      · rw [smallD, if_pos sb] at cb
        refine ⟨_, _, 0, _, _, 0, ca, cb, .inl rfl, .inl rfl, fun _ _ => ?_⟩
        have o1 := ok _ sa
        have o2 := ok _ sb
        exact ⟨o1.1, o1.2, o2.1, o2.2, con32 _ _ _ _ sa.1 sa.2 sb.1 sb.2 (low_lt hd.1 hlt)⟩
      · rw [smallD, if_neg sb] at cb
        exact ⟨_, _, 0, 0, 0, 8, ca, cb, .inl rfl, .inr ⟨rfl, rfl, rfl⟩, fun _ h => by omega⟩
    · rw [smallD, if_neg sa] at ca
      by_cases sb : smallB (low (gN a b c d (s + 1) * valV q ps) (b * d))
      · rw [smallD, if_pos sb] at cb
        exact ⟨0, 0, 8, _, _, 0, ca, cb, .inr ⟨rfl, rfl, rfl⟩, .inl rfl, fun h => by omega⟩
      · rw [smallD, if_neg sb] at cb
        exact ⟨0, 0, 8, 0, 0, 8, ca, cb, .inr ⟨rfl, rfl, rfl⟩, .inr ⟨rfl, rfl, rfl⟩, fun h => by omega⟩
  have tz0 := Int.tmod_lt_of_pos z (show 0 < y - x + 1 by omega)
  have tz1 : -(y - x + 1) < z.tmod (y - x + 1) := by
    have := gcd_step_lt (a := z) (b := y - x + 1) hm; omega
  have tu0 := Int.tmod_lt_of_pos u (show 0 < e + 1 by omega)
  have tu1 : -(e + 1) < u.tmod (e + 1) := by
    have := gcd_step_lt (a := u) (b := e + 1) he1; omega
  refine ⟨c11, _, _, 0, ⟨c13⟩, bc_bne (fun _ => ?_) (fun h => absurd h hm)⟩
  have at12 : ∀ q, x ≤ q → q ≤ y → C4 12 [dTab ps, dI q] [dI (valV q ps), dI 0] := by
    intro q h1 h2
    have c12 := con12 hl q
    rw [if_pos ⟨ht2, xErr0.2 ⟨by omega, by omega⟩⟩] at c12
    exact c12
  refine bc_dec (fun hneg => ?_) (fun hneg => ?_)
  · rw [w64 (z := z.tmod (y - x + 1) + (y - x + 1)) (by omega) (by omega), w64 (z := x + (z.tmod (y - x + 1) + (y - x + 1))) (by omega) (by omega)]
    have hq0 : x ≤ x + (z.tmod (y - x + 1) + (y - x + 1)) := by omega
    have hq1 : x + (z.tmod (y - x + 1) + (y - x + 1)) ≤ y := by omega
    generalize x + (z.tmod (y - x + 1) + (y - x + 1)) = q at hq0 hq1 ⊢
    have hin := over_in hvt hq0 hq1
    refine ⟨c11, _, _, ⟨at12 q hq0 hq1⟩, c11, _, _, 0, ⟨c13b⟩, bc_false (by simp) (bc_false (by simp) (bc_false (by simp) (bc_yes hin.1 (bc_yes hin.2 (bc_yes hw.1 (bc_yes (by omega) (bc_yes (by omega) (bc_yes hw.2 (bc_bne (fun _ => ?_) (fun h => absurd h he1))))))))))⟩
    refine bc_dec (fun hs => ?_) (fun hs => ?_)
    · rw [w64 (z := u.tmod (e + 1) + (e + 1)) (by omega) (by omega)]
      have s0 : 0 ≤ u.tmod (e + 1) + (e + 1) := by omega
      have s1 : u.tmod (e + 1) + (e + 1) ≤ e := by omega
      generalize u.tmod (e + 1) + (e + 1) = s at s0 s1 ⊢
      refine bc_beq (fun _ => trivial) (fun hne => ?_)
      rw [w64 (z := s + 1) (by omega) (by omega)]
      obtain ⟨n11, n12, n13, n14, n15, n16, ca, cb, ha, hb, hboth⟩ := forces s q s0 (by omega) hq0 hq1
      refine ⟨c20, n11, n12, n13, ⟨ca⟩, c20, n14, n15, n16, ⟨cb⟩, ?_⟩
      rcases ha with rfl | ⟨rfl, rfl, rfl⟩ <;> rcases hb with rfl | ⟨rfl, rfl, rfl⟩
      · obtain ⟨o1, o2, o3, o4, o5⟩ := hboth rfl rfl
        exact bc_false (by simp) (bc_false (by simp) (.inl ⟨⟨o1⟩, .inl ⟨⟨o2⟩, .inl ⟨⟨o3⟩, .inl ⟨⟨o4⟩, -1, ⟨o5⟩, bc_yes (by omega) trivial⟩⟩⟩⟩))
      all_goals repeat' first | trivial | (refine bc_true (by simp; done) ?_) | (refine bc_false (by simp; done) ?_)
    · have s0 : 0 ≤ u.tmod (e + 1) := by omega
      have s1 : u.tmod (e + 1) ≤ e := by omega
      generalize u.tmod (e + 1) = s at s0 s1 ⊢
      refine bc_beq (fun _ => trivial) (fun hne => ?_)
      rw [w64 (z := s + 1) (by omega) (by omega)]
      obtain ⟨n11, n12, n13, n14, n15, n16, ca, cb, ha, hb, hboth⟩ := forces s q s0 (by omega) hq0 hq1
      refine ⟨c20, n11, n12, n13, ⟨ca⟩, c20, n14, n15, n16, ⟨cb⟩, ?_⟩
      rcases ha with rfl | ⟨rfl, rfl, rfl⟩ <;> rcases hb with rfl | ⟨rfl, rfl, rfl⟩
      · obtain ⟨o1, o2, o3, o4, o5⟩ := hboth rfl rfl
        exact bc_false (by simp) (bc_false (by simp) (.inl ⟨⟨o1⟩, .inl ⟨⟨o2⟩, .inl ⟨⟨o3⟩, .inl ⟨⟨o4⟩, -1, ⟨o5⟩, bc_yes (by omega) trivial⟩⟩⟩⟩))
      all_goals repeat' first | trivial | (refine bc_true (by simp; done) ?_) | (refine bc_false (by simp; done) ?_)
  · rw [w64 (z := x + z.tmod (y - x + 1)) (by omega) (by omega)]
    have hq0 : x ≤ x + z.tmod (y - x + 1) := by omega
    have hq1 : x + z.tmod (y - x + 1) ≤ y := by omega
    generalize x + z.tmod (y - x + 1) = q at hq0 hq1 ⊢
    have hin := over_in hvt hq0 hq1
    refine ⟨c11, _, _, ⟨at12 q hq0 hq1⟩, c11, _, _, 0, ⟨c13b⟩, bc_false (by simp) (bc_false (by simp) (bc_false (by simp) (bc_yes hin.1 (bc_yes hin.2 (bc_yes hw.1 (bc_yes (by omega) (bc_yes (by omega) (bc_yes hw.2 (bc_bne (fun _ => ?_) (fun h => absurd h he1))))))))))⟩
    refine bc_dec (fun hs => ?_) (fun hs => ?_)
    · rw [w64 (z := u.tmod (e + 1) + (e + 1)) (by omega) (by omega)]
      have s0 : 0 ≤ u.tmod (e + 1) + (e + 1) := by omega
      have s1 : u.tmod (e + 1) + (e + 1) ≤ e := by omega
      generalize u.tmod (e + 1) + (e + 1) = s at s0 s1 ⊢
      refine bc_beq (fun _ => trivial) (fun hne => ?_)
      rw [w64 (z := s + 1) (by omega) (by omega)]
      obtain ⟨n11, n12, n13, n14, n15, n16, ca, cb, ha, hb, hboth⟩ := forces s q s0 (by omega) hq0 hq1
      refine ⟨c20, n11, n12, n13, ⟨ca⟩, c20, n14, n15, n16, ⟨cb⟩, ?_⟩
      rcases ha with rfl | ⟨rfl, rfl, rfl⟩ <;> rcases hb with rfl | ⟨rfl, rfl, rfl⟩
      · obtain ⟨o1, o2, o3, o4, o5⟩ := hboth rfl rfl
        exact bc_false (by simp) (bc_false (by simp) (.inl ⟨⟨o1⟩, .inl ⟨⟨o2⟩, .inl ⟨⟨o3⟩, .inl ⟨⟨o4⟩, -1, ⟨o5⟩, bc_yes (by omega) trivial⟩⟩⟩⟩))
      all_goals repeat' first | trivial | (refine bc_true (by simp; done) ?_) | (refine bc_false (by simp; done) ?_)
    · have s0 : 0 ≤ u.tmod (e + 1) := by omega
      have s1 : u.tmod (e + 1) ≤ e := by omega
      generalize u.tmod (e + 1) = s at s0 s1 ⊢
      refine bc_beq (fun _ => trivial) (fun hne => ?_)
      rw [w64 (z := s + 1) (by omega) (by omega)]
      obtain ⟨n11, n12, n13, n14, n15, n16, ca, cb, ha, hb, hboth⟩ := forces s q s0 (by omega) hq0 hq1
      refine ⟨c20, n11, n12, n13, ⟨ca⟩, c20, n14, n15, n16, ⟨cb⟩, ?_⟩
      rcases ha with rfl | ⟨rfl, rfl, rfl⟩ <;> rcases hb with rfl | ⟨rfl, rfl, rfl⟩
      · obtain ⟨o1, o2, o3, o4, o5⟩ := hboth rfl rfl
        exact bc_false (by simp) (bc_false (by simp) (.inl ⟨⟨o1⟩, .inl ⟨⟨o2⟩, .inl ⟨⟨o3⟩, .inl ⟨⟨o4⟩, -1, ⟨o5⟩, bc_yes (by omega) trivial⟩⟩⟩⟩))
      all_goals repeat' first | trivial | (refine bc_true (by simp; done) ?_) | (refine bc_false (by simp; done) ?_)
theorem con5long (ps : List (Int × Int)) (hl : 1000000000 ≤ ps.length) (a b c d e x y z u : Int) : C4 5 [dRu (dTab ps) a b c d e, .agg [dI x, dI y], .agg [dI z, dI u]] [.val (.bool true)] := by
  refine con_flat hok mixed Try.func5 rfl (by show 1 ≤ 400; omega) rfl (by kernel_rfl) (fun caps => ?_)
  show g5 _ _ ps.length (caps 500) (vp ps) a b c d e x y z u _
  rw [g5_text]
  exact .inl ⟨⟨con9⟩, bc_no (by omega) rfl⟩
theorem con5n (a b c d e x y z u : Int) : C4 5 [dRu .nil a b c d e, .agg [dI x, dI y], .agg [dI z, dI u]] [.val (.bool true)] := by
  refine con_flat hok mixed Try.func5 rfl (by show 0 ≤ 400; omega) rfl (by kernel_rfl) (fun caps => ?_)
  show g5n _ _ a b c d e x y z u _
  rw [g5n_text]
  refine .inl ⟨⟨con9⟩, ?_⟩
  simp only [eq_self, true_and, and_true]
  exact ⟨0, 10, ⟨con23n e⟩, bc_true (by simp) trivial⟩
#print axioms con5
end Go.Proofs.M4

/- ModelBetween: whatever the input, it returns true, and the input reads as it did. No condition. -/
namespace Go.Proofs.Ythfdbeeanhfboaa.Btw
open Go Go.Abs Go.RowKit Go.ChangeShapes Go.WideShapes Go.ChangeAt Go.Proofs Go.Proofs.M4 Go.Proofs.Ythfdbeeanhfboaa.Rul
set_option maxRecDepth 100000
theorem c57 : Try.prog.cellsOf 57 = 2 := by kernel_rfl
theorem contract5 (H : Type) (enc : TypeId × Value → H) (W : World) (base : Nat) (args : Array Value) (ds gs : List (DataW H)) (before : List MemPlace)
    (hval : ∀ (j : Nat) t v, Try.f5.params[j]? = some t → args[j]? = some v → Value.okWide Try.prog W .any base t v)
    (hW : DataW.Whole enc Try.prog Try.f5.params.toList Rows.modelBetweenSpec.vars false W args.toList ds gs before) :
    Calls Try.prog 5 args W fun e W' => ∃ v, e = .returned v ∧ Rows.modelBetweenSpec.post enc Try.prog Try.f5 false true false false W args v W' := by
  have hW' := hW
  obtain ⟨p, q, hA0, hV, rfl, hfz, hnd⟩ := hW
  have hA : DataW.TrodAll enc Try.prog W 0 (fun _ => true) true Try.f5.params.toList args.toList ds p := hA0
  rw [Try.params5] at hA hval
  obtain ⟨v0, vs0, d0, ds0, p0, q0, hargs, rfl, rfl, h0, r0⟩ := trodAll_cons hA
  obtain ⟨v1, vs1, d1, ds1, p1, q1, rfl, rfl, rfl, h1, r1⟩ := trodAll_cons r0
  obtain ⟨v2, vs2, d2, ds2, p2, q2, rfl, rfl, rfl, h2, r2⟩ := trodAll_cons r1
  obtain ⟨rfl, rfl, rfl⟩ := trodAll_nil r2
  obtain rfl : args = #[v0, v1, v2] := by cases args; simp_all
  obtain ⟨rfl, rfl⟩ := trodVars_none hV
  obtain ⟨x, y, rfl⟩ := open_two Try.underlying24 Try.underlying3 Try.underlying3 c24 c3 c3 rfl rfl (hval 1 24 v1 rfl rfl) h1
  obtain ⟨a, b, c, d, e, hr, c0, rfl, ht⟩ := open_rules (hval 0 42 v0 rfl rfl) h0
  have ok2 := hval 2 57 v2 rfl rfl
  simp only [Value.okWide, Try.underlying57] at ok2
  obtain ⟨es, rfl, hsz2, ts2, hts2, _, hok2⟩ := ok2
  obtain ⟨e0, e1, rfl⟩ : ∃ e0 e1, es = #[e0, e1] := by
    rw [c57] at hsz2
    match es, hsz2 with
    | ⟨[e0, e1]⟩, _ => exact ⟨e0, e1, rfl⟩
  obtain ⟨fuel2, h2⟩ := h2
  obtain ⟨xs, m, _, _, _, hlen, hf⟩ := DataW.trod_array Try.underlying57 h2
  obtain ⟨y0, y1, rfl⟩ : ∃ y0 y1, xs = [y0, y1] := by
    match xs, hlen with
    | [y0, y1], _ => exact ⟨y0, y1, rfl⟩
  have t0 := hf 0 (by omega)
  have t1 := hf 1 (by omega)
  rw [c3] at t0 t1
  simp only [Value.cells] at t0 t1
  obtain ⟨z, g0, _, _⟩ := DataW.trod_int Try.underlying3 t0
  obtain ⟨u, g1, _, _⟩ := DataW.trod_int Try.underlying3 t1
  obtain rfl : e0 = .int .i64 z := by simpa using g0
  obtain rfl : e1 = .int .i64 u := by simpa using g1
  have hcon : ∃ t, ReadsL W [dRu t a b c d e, .agg [dI x, dI y], .agg [dI z, dI u]] [Value.agg #[c0, .int .i64 a, .int .i64 b, .int .i64 c, .int .i64 d, .int .i64 e], .agg #[.int .i64 x, .int .i64 y], .agg #[.int .i64 z, .int .i64 u]] ∧ Con Try.prog 5 [dRu t a b c d e, .agg [dI x, dI y], .agg [dI z, dI u]] [.val (.bool true)] := by
    rcases ht with ht | ⟨ps, ht⟩
    · exact ⟨.nil, .cons (reads_ru ht a b c d e) (.cons (reads_two x y) (.cons (reads_two z u) .nil)), con5n a b c d e x y z u⟩
    · refine ⟨dTab ps, .cons (reads_ru ht a b c d e) (.cons (reads_two x y) (.cons (reads_two z u) .nil)), ?_⟩
      by_cases hsm : ps.length < 1000000000
      · exact con5 ps hsm e x y z u hr
      · exact con5long ps (by omega) a b c d e x y z u
  obtain ⟨t, hrd, hc⟩ := hcon
  exact law_frame (tb := 4) (s := Rows.modelBetweenSpec) laidP mapsP slicesP (fun t ht => by
    rw [Try.params5] at ht
    have : t = 42 ∨ t = 24 ∨ t = 57 := by simpa using ht
    rcases this with rfl | rfl | rfl <;> decide +kernel) rfl Try.underlying4 rfl rfl rfl rfl hW' hrd hc
theorem lifted5 (os : Os) (started : os.Started) (H : Type) (enc : TypeId × Value → H) :
    ReturnsInHanded {} Try.checked os 5 .any (Rows.modelBetweenSpec.pre6 enc Try.prog Try.f5 Rows.modelBetweenRow.domain false) (Rows.modelBetweenSpec.post enc Try.prog Try.f5 false true false false) := by
  refine returnsInHanded_of_change (C := Try.checked) own started (by kernel_rfl) Try.func5
    (ChangeSpec.witness6 (enc := enc) (C := Try.checked) false ⟨#[], #[.agg #[.slice none 0 0, .int .i64 0, .int .i64 0, .int .i64 0, .int .i64 0, .int .i64 0], .agg #[.int .i64 0, .int .i64 0], .agg #[.int .i64 0, .int .i64 0]], []⟩ 8 (by kernel_rfl) (by kernel_rfl) (by kernel_rfl) (by kernel_rfl)) ?_
  intro W base args ds gs before hval hW _ _
  exact contract5 H enc W base args ds gs before hval hW
theorem modelBetween_holds : Rows.ModelBetweenSaid :=
  OpenClaim.holds_of_wide 5 Try.f5 rfl rfl rfl rfl rfl rfl rfl ⟨rfl, rfl, rfl, rfl, rfl⟩ rfl rfl rfl rfl rfl (by kernel_rfl) Try.func5 (by kernel_rfl)
    (of_decide_eq_true (by kernel_rfl)) (by unfold Func.isWrapper; first | (rw [if_pos (by decide +kernel)]; kernel_rfl) | (rw [if_neg (by decide +kernel)]; exact ⟨rfl, rfl⟩))
    (fun os started H enc _ => lifted5 os started H enc)
#print axioms modelBetween_holds
end Go.Proofs.Ythfdbeeanhfboaa.Btw
