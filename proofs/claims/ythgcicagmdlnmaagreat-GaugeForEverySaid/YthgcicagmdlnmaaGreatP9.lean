/- Texts of the proof, put together: GzS1, GzS2, GzS3, GzS6, GzTB, GzS7, GzKT. -/
import Derived.Test.YthgcicagmdlnmaaGreatP5
import Derived.Test.YthgcicagmdlnmaaGreatGzA
import Derived.Test.YthgcicagmdlnmaaGreatGzT9
/- Chapter 5: stands, in data. -/
namespace Go.Proofs.G5z
open Go Go.Abs Go.Proofs Go.Proofs.G5
set_option maxRecDepth 100000
theorem preSOK : PreOK Tryz.prog (preS C5) := by
  intro g h he args ats H k hk
  unfold preS at he
  split at he
  · rename_i e
    obtain rfl := Option.some.inj he
    rw [beq_iff_eq] at e
    subst e
    exact wpState_call (fun args bs K hk => wit_ok hk) hk
  · split at he
    · obtain rfl := Option.some.inj he
      exact saidH_ok (fun _ _ _ h => h) _ _ _ _ _ hk
    · cases he
theorem hokS : HandlerOK Tryz.prog (hS C5) := handlerX_ok mixed preSOK (by decide) 6
/-! ### fractions -/
theorem conGc (a b : Int) (ha : -9223372036854775808 ≤ a ∧ a ≤ 9223372036854775807) (hb : -9223372036854775807 ≤ b ∧ b ≤ 9223372036854775807) (h0 : b = 0 → -9223372036854775807 ≤ a) : C5 93 [dI a, dI b] [dI (Int.gcd a b)] := by
  let inv : Int × Int → Prop := fun x => (-9223372036854775808 ≤ x.1 ∧ x.1 ≤ 9223372036854775807) ∧ (-9223372036854775807 ≤ x.2 ∧ x.2 ≤ 9223372036854775807) ∧ (x.2 = 0 → -9223372036854775807 ≤ x.1) ∧ Int.gcd x.1 x.2 = Int.gcd a b
  let st : Int × Int → Slots × Blocks := fun x => ([(0, vI x.1), (1, vI x.2)], [])
  refine con_of (L := fun _ s b => ∃ x, inv x ∧ st x = (s, b)) hokS mixed Tryz.func93 rfl (by show 0 ≤ 400; omega) rfl (ids := [0]) (by kernel_rfl) rfl (fun caps => ?_) (fun id hid => ?_)
  · show gGc _ _ a b _
    rw [gGc_text]
    exact ⟨(a, b), ⟨ha, hb, h0, rfl⟩, rfl⟩
  · obtain rfl := List.mem_singleton.1 hid
    refine ⟨Int × Int, st, inv, fun x => x.2.natAbs, ⟨fun s b h => h, by kernel_rfl, ?_⟩⟩
    rintro ⟨x, y⟩ ⟨hx, hy, hxy, hg⟩
    simp only at hx hy hxy hg
    show rGc _ _ x y _ _ _
    rw [rGc_text]
    refine bc_bne (fun h => ?_) (fun h => ?_)
    · simp only [bc_n h, true_and]
      have hlt := gcd_step_lt (a := x) h
      have hst := gcd_step x y
      refine ⟨(y, x.tmod y), ⟨⟨by show -9223372036854775808 ≤ y; omega, hy.2⟩, ?_, fun _ => hy.1, by show Int.gcd y (x.tmod y) = _; omega⟩, hlt, rfl⟩
      show -9223372036854775807 ≤ x.tmod y ∧ x.tmod y ≤ 9223372036854775807
      have : (x.tmod y).natAbs < y.natAbs := hlt
      omega
    · show (if 0 = 0 then _ else _)
      rw [if_pos rfl]
      show nGc _ _ x _
      have hxl := hxy h
      rw [nGc_text, w64 (by omega) (by omega)]
      subst h
      have := gcd_end x
      show [dI _] = [dI _]
      rw [show ((Int.gcd a b : Nat) : Int) = (Int.gcd x 0 : Nat) by rw [hg], this]
      have e : (if 0 - x > x then 0 - x else x) = (if x < 0 then -x else x) := by split <;> split <;> omega
      rw [e]
theorem conLo (n d : Int) (hn : -4611686018427387904 ≤ n ∧ n ≤ 4611686018427387904) (hd : -4611686018427387904 ≤ d ∧ d ≤ 4611686018427387904) (h0 : d ≠ 0) : C5 28 [dI n, dI d] [.agg [dI (low n d).1, dI (low n d).2]] := by
  refine con_flat hokS mixed Tryz.func28 rfl (by show 0 ≤ 400; omega) rfl (by kernel_rfl) (fun caps => ?_)
  show gLo _ _ n d _
  rw [gLo_text]
  have hg := gcd_pos (a := n) (b := d) (.inr h0)
  have hg' : ((Int.gcd n d : Nat) : Int) ≠ 0 := by omega
  have hgl : ((Int.gcd n d : Nat) : Int) ≤ 4611686018427387904 := by
    have : Int.gcd n d ≤ d.natAbs := Nat.le_of_dvd (by omega) (Nat.gcd_dvd_right ..)
    omega
  refine ⟨_, ⟨conGc n d (by omega) (by omega) (by omega)⟩, bc_dec (fun h => ?_) (fun h => ?_)⟩
  · rw [w64 (z := 0 - ((Int.gcd n d : Nat) : Int)) (by omega) (by omega)]
    have hg2 : 0 - ((Int.gcd n d : Nat) : Int) ≠ 0 := by omega
    have b1 := tdiv_small (n := 0 - n) (g := Int.gcd n d) (by omega) hg
    have b2 := tdiv_small (n := 0 - d) (g := Int.gcd n d) (by omega) hg
    simp only [bc_n hg2, true_and, and_true, tdiv_neg']
    rw [w64 (by omega) (by omega), w64 (by omega) (by omega)]
    show _ = _
    rw [low, if_pos h]
  · have b1 := tdiv_small (n := n) (g := Int.gcd n d) hn hg
    have b2 := tdiv_small (n := d) (g := Int.gcd n d) hd hg
    simp only [bc_n hg', true_and, and_true]
    rw [w64 (by omega) (by omega), w64 (by omega) (by omega)]
    show _ = _
    rw [low, if_neg h]
abbrev dF (p : Int × Int) : D := .agg [dI p.1, dI p.2]
/-- is one less than the other, as it is reckoned -/
def ltF (p q : Int × Int) : Prop := W6 (p.1 * q.2) < W6 (q.1 * p.2)
instance (p q : Int × Int) : Decidable (ltF p q) := by unfold ltF; infer_instance
theorem ltF_irr (p : Int × Int) : ¬ ltF p p := by unfold ltF; omega
theorem conIL (p q : Int × Int) : C5 147 [dF p, dF q] [.val (.bool (decide (ltF p q)))] := by
  refine con_flat hokS mixed Tryz.func147 rfl (by show 0 ≤ 400; omega) rfl (by kernel_rfl) (fun caps => ?_)
  show gIL _ _ p.1 p.2 q.1 q.2 _
  rw [gIL_text]
  refine bc_dec (fun h => ?_) (fun h => ?_)
  · show _ = _; rw [decide_eq_true (show ltF p q from h)]
  · show _ = _; rw [decide_eq_false (show ¬ ltF p q from h)]
theorem ilT {p q : Int × Int} (h : ltF p q) : Says C5 147 [dF p, dF q] [.val (.bool true)] := ⟨by have := conIL p q; rwa [decide_eq_true h] at this⟩
theorem ilF {p q : Int × Int} (h : ¬ ltF p q) : Says C5 147 [dF p, dF q] [.val (.bool false)] := ⟨by have := conIL p q; rwa [decide_eq_false h] at this⟩
def cmpV (p q : Int × Int) : Int := if W6 (p.1 * q.2) < W6 (q.1 * p.2) then -1 else if W6 (p.1 * q.2) > W6 (q.1 * p.2) then 1 else 0
theorem conCp (p q : Int × Int) : C5 26 [dF p, dF q] [dI (cmpV p q)] := by
  refine con_flat hokS mixed Tryz.func26 rfl (by show 0 ≤ 400; omega) rfl (by kernel_rfl) (fun caps => ?_)
  show gCp _ _ p.1 p.2 q.1 q.2 _
  rw [gCp_text]
  simp only [eq_self, true_and]
  refine bc_dec (fun h => ?_) (fun h => ?_)
  · show _ = _; rw [cmpV, if_pos h]; rfl
  · refine bc_dec (fun h2 => ?_) (fun h2 => ?_)
    · show _ = _; rw [cmpV, if_neg h, if_pos h2]
    · show _ = _; rw [cmpV, if_neg h, if_neg h2]
theorem cmp_lt (p q : Int × Int) : cmpV p q < 0 ↔ ltF p q := by unfold cmpV ltF; split <;> (try split) <;> omega
theorem cmp_gt (p q : Int × Int) : cmpV p q > 0 ↔ ltF q p := by unfold cmpV ltF; split <;> (try split) <;> omega
/-- one more fraction in a span -/
def stp (s : (Int × Int) × (Int × Int)) (f : Int × Int) : (Int × Int) × (Int × Int) := (if ltF f s.1 then f else s.1, if ltF s.2 f then f else s.2)
abbrev dG (s : (Int × Int) × (Int × Int)) : D := .agg [dI s.1.1, dI s.1.2, dI s.2.1, dI s.2.2]
theorem load2b {ps : List Value} {k : Nat} {p : Int × Int} (h : At ps k 2 [vI p.1, vI p.2]) {Q : Int → Int → Prop} : (∃ n : Int, ∃ m : Int, At ps k 2 [vI n, vI m] ∧ Q n m) = Q p.1 p.2 := at2 h
theorem conHu (p : Int × Int) (r : List (Int × Int)) (hl : r.length < 1000000) : C5 89 [.sl (p :: r).length 2 (vp (p :: r))] [dG (r.foldl stp (p, p))] := by
  let l := p :: r
  let inv : Nat × Nat × ((Int × Int) × (Int × Int)) → Prop := fun y => 1 ≤ y.1 ∧ y.1 ≤ l.length ∧ (l.drop y.1).foldl stp y.2.2 = r.foldl stp (p, p)
  let st : Nat × Nat × ((Int × Int) × (Int × Int)) → Slots × Blocks := fun y => (sHu l.length y.2.1 y.1, [T500 (vp l), oG 1000 0 0 0 0, oG 1001 y.2.2.1.1 y.2.2.1.2 y.2.2.2.1 y.2.2.2.2])
  have hll : l.length = r.length + 1 := rfl
  refine con_of (L := fun _ s b => ∃ x, inv x ∧ st x = (s, b)) hokS mixed Tryz.func89 rfl (by show 1 ≤ 400; omega) rfl (ids := [0]) (by kernel_rfl) rfl (fun caps => ?_) (fun id hid => ?_)
  · show gHu _ _ l.length (caps 500) (vp l) _
    rw [gHu_text]
    have h0 : (0 : Int) < (l.length : Int) := by omega
    have a0 : At (vp l) 0 2 [vI p.1, vI p.2] := ⟨by rw [vp_length]; omega, rfl⟩
    simp only [bc_t h0, load2b a0, eq_self, true_and, and_true]
    exact ⟨(1, caps 500, (p, p)), ⟨Nat.le_refl _, by show 1 ≤ l.length; omega, rfl⟩, rfl⟩
  · obtain rfl := List.mem_singleton.1 hid
    refine ⟨Nat × Nat × ((Int × Int) × (Int × Int)), st, inv, fun y => l.length - y.1, ⟨fun s b h => h, by kernel_rfl, ?_⟩⟩
    rintro ⟨i, cap, ⟨lo, hi⟩⟩ ⟨h1, h2, hf⟩
    simp only at h1 h2 hf
    show rHu _ _ l.length cap (vp l) lo.1 lo.2 hi.1 hi.2 (i : Int) _ _ _
    rw [rHu_text]
    refine bc_dec (fun h => ?_) (fun h => ?_)
    · have hi' : i < l.length := by omega
      have a0 : At (vp l) (0 + i * 2) 2 [vI l[i].1, vI l[i].2] := vp_two l i hi'
      have hfd : (l.drop (i + 1)).foldl stp (stp (lo, hi) l[i]) = r.foldl stp (p, p) := by
        rw [← hf, List.drop_eq_getElem_cons hi']; rfl
      simp only [bc_t h, bc_t (show (0 : Int) ≤ (i : Int) by omega), Int.toNat_natCast, load2b a0, eq_self, true_and, and_true]
      refine ⟨_, ⟨conCp l[i] lo⟩, ?_⟩
      have ew : IntKind.wrap .i64 ((i : Int) + 1) = ((i + 1 : Nat) : Int) := by rw [w64 (by omega) (by omega)]; omega
      rw [ew]
      have go : ∀ s, s = stp (lo, hi) l[i] → ∃ y, inv y ∧ l.length - y.1 < l.length - i ∧ st y = (sHu l.length cap ((i + 1 : Nat) : Int), [T500 (vp l), oG 1000 0 0 0 0, oG 1001 s.1.1 s.1.2 s.2.1 s.2.2]) := by
        rintro s rfl
        exact ⟨(i + 1, cap, stp (lo, hi) l[i]), ⟨by show 1 ≤ i + 1; omega, hi', hfd⟩, by show l.length - (i + 1) < l.length - i; omega, rfl⟩
      by_cases q1 : ltF l[i] lo
      · simp only [bc_t ((cmp_lt l[i] lo).2 q1), true_and]
        refine ⟨_, ⟨conCp l[i] hi⟩, ?_⟩
        by_cases q2 : ltF hi l[i]
        · simp only [bc_t ((cmp_gt l[i] hi).2 q2), true_and]
          exact go (l[i], l[i]) (by unfold stp; rw [if_pos q1, if_pos q2])
        · simp only [bc_f (show ¬ (cmpV l[i] hi > 0) from fun z => q2 ((cmp_gt l[i] hi).1 z)), true_and]
          exact go (l[i], hi) (by unfold stp; rw [if_pos q1, if_neg q2])
      · simp only [bc_f (show ¬ (cmpV l[i] lo < 0) from fun z => q1 ((cmp_lt l[i] lo).1 z)), true_and]
        refine ⟨_, ⟨conCp l[i] hi⟩, ?_⟩
        by_cases q2 : ltF hi l[i]
        · simp only [bc_t ((cmp_gt l[i] hi).2 q2), true_and]
          exact go (lo, l[i]) (by unfold stp; rw [if_neg q1, if_pos q2])
        · simp only [bc_f (show ¬ (cmpV l[i] hi > 0) from fun z => q2 ((cmp_gt l[i] hi).1 z)), true_and]
          exact go (lo, hi) (by unfold stp; rw [if_neg q1, if_neg q2])
    · show (if 0 = 0 then _ else _)
      rw [if_pos rfl]
      show nHu _ _ lo.1 lo.2 hi.1 hi.2 _
      rw [nHu_text]
      have : l.length ≤ i := by omega
      rw [List.drop_of_length_le this] at hf
      show [dG (lo, hi)] = _
      rw [← hf]; rfl
end Go.Proofs.G5z

/- Chapter 5: the errors of stands and passes, spans, in data. -/
namespace Go.Proofs.G5z
open Go Go.Abs Go.Proofs Go.Proofs.G5
set_option maxRecDepth 100000
def stE (a b c d : Int) : Int := if ((1 ≤ a ∧ a ≤ 1000) ∧ (1 ≤ b ∧ b ≤ 1000)) ∧ (0 ≤ c ∧ c ≤ 1000) ∧ (0 ≤ d ∧ d ≤ 1000) then (if a > b ∨ c > d then 9 else 0) else 2
def paE (g e : Int) : Int := if (0 ≤ g ∧ g ≤ 100000) ∧ (1 ≤ e ∧ e ≤ 100000) then 0 else 2
def maE (m q : Int) : Int := if (1 ≤ m ∧ m ≤ 1000) ∧ (0 ≤ q ∧ q ≤ 1000) then 0 else 2
abbrev thE (x : Int) : Int := rngE 1 100000 2 x
theorem conCk (a b c d : Int) : C5 20 [.agg [dI a, dI b, dI c, dI d]] [dI (stE a b c d)] := by
  refine con_flat hokS mixed Tryz.func20 rfl (by show 0 ≤ 400; omega) rfl (by kernel_rfl) (fun caps => ?_)
  show gCk _ _ a b c d _
  rw [gCk_text]
  try simp only [eq_self, true_and, and_true]
  refine ⟨witE 1 1000 2 [vI a, vI b], ⟨rfl⟩, witE 0 1000 2 [vI c, vI d], ⟨rfl⟩, bc_dec (fun h1 => ?_) (fun h1 => bc_dec (fun h2 => ?_) (fun h2 => ?_))⟩
  · refine ⟨_, ⟨conFE [witE 1 1000 2 [vI a, vI b], witE 0 1000 2 [vI c, vI d], 9] (by simp)⟩, ?_⟩
    show [dI _] = [dI _]
    congr 2; congr 1
    simp only [fst0, witE, stE]
    repeat' split
    all_goals first | rfl | omega
  · refine ⟨_, ⟨conFE [witE 1 1000 2 [vI a, vI b], witE 0 1000 2 [vI c, vI d], 9] (by simp)⟩, ?_⟩
    show [dI _] = [dI _]
    congr 2; congr 1
    simp only [fst0, witE, stE]
    repeat' split
    all_goals first | rfl | omega
  · refine ⟨_, ⟨conFE [witE 1 1000 2 [vI a, vI b], witE 0 1000 2 [vI c, vI d], 0] (by simp)⟩, ?_⟩
    show [dI _] = [dI _]
    congr 2; congr 1
    simp only [fst0, witE, stE]
    repeat' split
    all_goals first | rfl | omega
theorem conSE (a b c d : Int) : C5 19 [.agg [dI a, dI b, dI c, dI d]] [dI (stE a b c d)] := by
  refine con_flat hokS mixed Tryz.func19 rfl (by show 0 ≤ 400; omega) rfl (by kernel_rfl) (fun caps => ?_)
  show gSE _ _ a b c d _
  rw [gSE_text]
  try simp only [eq_self, true_and, and_true]
  by_cases h1 : (1 : Int) ≤ a ∧ a ≤ 1000
  · refine .inl ⟨sayWt h1, ?_⟩
    by_cases h2 : (1 : Int) ≤ b ∧ b ≤ 1000
    · refine .inl ⟨sayWt h2, ?_⟩
      by_cases h3 : (0 : Int) ≤ c ∧ c ≤ 1000
      · refine .inl ⟨sayWt h3, ?_⟩
        by_cases h4 : (0 : Int) ≤ d ∧ d ≤ 1000
        · refine .inl ⟨sayWt h4, ?_⟩
          have e : stE a b c d = if a > b ∨ c > d then 9 else 0 := if_pos ⟨⟨h1, h2⟩, h3, h4⟩
          rw [e]
          refine bc_dec (fun h => ?_) (fun h => bc_dec (fun h' => ?_) (fun h' => ?_))
          · rw [if_pos (.inl h)]
          · rw [if_pos (.inr h')]
          · rw [if_neg (fun x => x.elim h h')]
        · refine .inr ⟨sayWf h4, ?_⟩
          rw [stE, if_neg (fun x => h4 x.2.2)]
      · refine .inr ⟨sayWf h3, ?_⟩
        rw [stE, if_neg (fun x => h3 x.2.1)]
    · refine .inr ⟨sayWf h2, ?_⟩
      rw [stE, if_neg (fun x => h2 x.1.2)]
  · refine .inr ⟨sayWf h1, ?_⟩
    rw [stE, if_neg (fun x => h1 x.1.1)]
theorem conTE (a : Int) : C5 22 [dI a] [dI (thE a)] := by
  refine con_flat hokS mixed Tryz.func22 rfl (by show 0 ≤ 400; omega) rfl (by kernel_rfl) (fun caps => ?_)
  show gTE _ _ a _
  rw [gTE_text]
  by_cases h : (1 : Int) ≤ a ∧ a ≤ 100000
  · exact .inl ⟨sayWt h, by show [dI 0] = [dI (rngE 1 100000 2 a)]; rw [rngE, if_pos h]⟩
  · exact .inr ⟨sayWf h, by show [dI 2] = [dI (rngE 1 100000 2 a)]; rw [rngE_no h]⟩
theorem conPE (g e : Int) : C5 17 [.agg [dI g, dI e]] [dI (paE g e)] := by
  refine con_flat hokS mixed Tryz.func17 rfl (by show 0 ≤ 400; omega) rfl (by kernel_rfl) (fun caps => ?_)
  show gPE _ _ g e _
  rw [gPE_text]
  try simp only [eq_self, true_and, and_true]
  by_cases h : (0 : Int) ≤ g ∧ g ≤ 100000
  · refine .inl ⟨sayWt h, _, ⟨conTE e⟩, ?_⟩
    congr 2; congr 1
    unfold paE thE rngE
    repeat' split
    all_goals first | rfl | omega
  · refine .inr ⟨sayWf h, ?_⟩
    rw [paE, if_neg (fun x => h x.1)]
theorem conMa (m q : Int) : C5 16 [dI m, dI q] [dI (maE m q)] := by
  refine con_flat hokS mixed Tryz.func16 rfl (by show 0 ≤ 400; omega) rfl (by kernel_rfl) (fun caps => ?_)
  show gMa _ _ m q _
  rw [gMa_text]
  by_cases h : (1 : Int) ≤ m ∧ m ≤ 1000
  · refine .inl ⟨sayWt h, ?_⟩
    by_cases h2 : (0 : Int) ≤ q ∧ q ≤ 1000
    · exact .inl ⟨sayWt h2, by show _ = _; rw [maE, if_pos ⟨h, h2⟩]⟩
    · exact .inr ⟨sayWf h2, by show _ = _; rw [maE, if_neg (fun x => h2 x.2)]⟩
  · exact .inr ⟨sayWf h, by show _ = _; rw [maE, if_neg (fun x => h x.1)]⟩
theorem conCPa (g e : Int) : C5 81 [.agg [dI g, dI e]] [dI (paE g e)] := by
  refine con_flat hokS mixed Tryz.func81 rfl (by show 0 ≤ 400; omega) rfl (by kernel_rfl) (fun caps => ?_)
  show gCP _ _ g e _
  rw [gCP_text]
  try simp only [eq_self, true_and, and_true]
  refine ⟨_, wit_rng, _, wit_rng, _, ⟨conFE [rngE 0 100000 2 g, rngE 1 100000 2 e] (by simp)⟩, ?_⟩
  congr 2; congr 1
  simp only [fst0, paE, rngE]
  repeat' split
  all_goals first | rfl | omega
/-! ### thicknesses -/
abbrev MB (m q : Int) : Prop := (1 ≤ m ∧ m ≤ 1000) ∧ (0 ≤ q ∧ q ≤ 1000)
abbrev PB (g e : Int) : Prop := (0 ≤ g ∧ g ≤ 100000) ∧ (1 ≤ e ∧ e ≤ 100000)
def exV (m q g e : Int) : Int × Int := low (m * g + q * e) (m + q)
def gaV (m q e x : Int) : Int × Int := low (x * m - q * (e - x)) m
theorem ex_bd {m q g e : Int} (hm : MB m q) (hp : PB g e) : (-100000000 ≤ m * g ∧ m * g ≤ 100000000) ∧ (-100000000 ≤ q * e ∧ q * e ≤ 100000000) := by
  have b1 := mul_bd (A := 1000) (B := 100000) (show 0 ≤ m ∧ m ≤ 1000 by omega) (show -100000 ≤ g ∧ g ≤ 100000 by omega)
  have b2 := mul_bd (A := 1000) (B := 100000) (show 0 ≤ q ∧ q ≤ 1000 by omega) (show -100000 ≤ e ∧ e ≤ 100000 by omega)
  omega
theorem ga_bd {m q e x : Int} (hm : MB m q) (he : 1 ≤ e ∧ e ≤ 100000) (hx : 1 ≤ x ∧ x ≤ 100000) : (-100000000 ≤ x * m ∧ x * m ≤ 100000000) ∧ (-100000000 ≤ q * (e - x) ∧ q * (e - x) ≤ 100000000) := by
  have b1 := mul_bd (A := 100000) (B := 1000) (show 0 ≤ x ∧ x ≤ 100000 by omega) (show -1000 ≤ m ∧ m ≤ 1000 by omega)
  have b2 := mul_bd (A := 1000) (B := 100000) (show 0 ≤ q ∧ q ≤ 1000 by omega) (show -100000 ≤ e - x ∧ e - x ≤ 100000 by omega)
  omega
theorem conEx {m q g e : Int} (hm : MB m q) (hp : PB g e) : C5 82 [dI m, dI q, .agg [dI g, dI e]] [dF (exV m q g e)] := by
  refine con_flat hokS mixed Tryz.func82 rfl (by show 0 ≤ 400; omega) rfl (by kernel_rfl) (fun caps => ?_)
  show gEx _ _ m q g e _
  rw [gEx_text]
  obtain ⟨b1, b2⟩ := ex_bd hm hp
  try simp only [eq_self, true_and, and_true]
  rw [w64 (z := m * g) (by omega) (by omega), w64 (z := q * e) (by omega) (by omega), w64 (z := m * g + q * e) (by omega) (by omega), w64 (z := m + q) (by omega) (by omega)]
  exact ⟨_, _, ⟨conLT _ _ (by omega) (by omega) (by omega)⟩, rfl⟩
theorem conGa {m q e x : Int} (hm : MB m q) (he : 1 ≤ e ∧ e ≤ 100000) (hx : 1 ≤ x ∧ x ≤ 100000) : C5 87 [dI m, dI q, dI e, dI x] [dF (gaV m q e x)] := by
  refine con_flat hokS mixed Tryz.func87 rfl (by show 0 ≤ 400; omega) rfl (by kernel_rfl) (fun caps => ?_)
  show gGa _ _ m q e x _
  rw [gGa_text]
  obtain ⟨b1, b2⟩ := ga_bd hm he hx
  try simp only [eq_self, true_and, and_true]
  rw [w64 (z := e - x) (by omega) (by omega), w64 (z := x * m) (by omega) (by omega), w64 (z := q * (e - x)) (by omega) (by omega), w64 (z := x * m - q * (e - x)) (by omega) (by omega)]
  exact ⟨_, _, ⟨conLT _ _ (by omega) (by omega) (by omega)⟩, rfl⟩
theorem conRX {m q g e : Int} (hm : MB m q) (hp : PB g e) : C5 18 [dI m, dI q, .agg [dI g, dI e]] [dF (exV m q g e)] := by
  refine con_flat hokS mixed Tryz.func18 rfl (by show 0 ≤ 400; omega) rfl (by kernel_rfl) (fun caps => ?_)
  show gRX _ _ m q g e _
  rw [gRX_text]
  obtain ⟨b1, b2⟩ := ex_bd hm hp
  try simp only [eq_self, true_and, and_true]
  rw [w64 (z := m * g) (by omega) (by omega), w64 (z := q * e) (by omega) (by omega), w64 (z := m * g + q * e) (by omega) (by omega), w64 (z := m + q) (by omega) (by omega)]
  exact ⟨_, _, ⟨conLo _ _ (by omega) (by omega) (by omega)⟩, rfl⟩
theorem conRG {m q e x : Int} (hm : MB m q) (he : 1 ≤ e ∧ e ≤ 100000) (hx : 1 ≤ x ∧ x ≤ 100000) : C5 90 [dI m, dI q, dI e, dI x] [dF (gaV m q e x)] := by
  refine con_flat hokS mixed Tryz.func90 rfl (by show 0 ≤ 400; omega) rfl (by kernel_rfl) (fun caps => ?_)
  show gRG _ _ m q e x _
  rw [gRG_text]
  obtain ⟨b1, b2⟩ := ga_bd hm he hx
  try simp only [eq_self, true_and, and_true]
  rw [w64 (z := e - x) (by omega) (by omega), w64 (z := x * m) (by omega) (by omega), w64 (z := q * (e - x)) (by omega) (by omega), w64 (z := x * m - q * (e - x)) (by omega) (by omega)]
  exact ⟨_, _, ⟨conLo _ _ (by omega) (by omega) (by omega)⟩, rfl⟩
/-- what ExitOf gives -/
def xoP (m q g e : Int) : (Int × Int) × Int := if maE m q ≠ 0 then ((0, 0), maE m q) else if paE g e ≠ 0 then ((0, 0), paE g e) else (exV m q g e, 0)
theorem conXO (m q g e : Int) : C5 13 [dI m, dI q, .agg [dI g, dI e]] [dF (xoP m q g e).1, dI (xoP m q g e).2] := by
  refine con_flat hokS mixed Tryz.func13 rfl (by show 0 ≤ 400; omega) rfl (by kernel_rfl) (fun caps => ?_)
  show gXO _ _ m q g e _
  rw [gXO_text]
  try simp only [eq_self, true_and, and_true]
  refine ⟨_, wit_rng, _, wit_rng, _, ⟨conCPa g e⟩, _, ⟨conFE [rngE 1 1000 2 m, rngE 0 1000 2 q, paE g e] (by simp)⟩, ?_⟩
  have hf : fst0 [rngE 1 1000 2 m, rngE 0 1000 2 q, paE g e] = if maE m q ≠ 0 then maE m q else paE g e := by
    simp only [fst0, maE, rngE]
    repeat' split
    all_goals first | rfl | omega
  rw [hf]
  by_cases h1 : maE m q ≠ 0
  · rw [if_pos h1]
    refine bc_bne (fun _ => ?_) (fun h => absurd h h1)
    rw [xoP, if_pos h1]
  · rw [if_neg h1]
    refine bc_bne (fun h => ?_) (fun h => ?_)
    · rw [xoP, if_neg h1, if_pos h]
    · have hm : MB m q := by
        apply Classical.byContradiction
        intro hc
        exact h1 (by rw [maE, if_neg hc]; decide)
      have hp : PB g e := by
        apply Classical.byContradiction
        intro hc
        rw [paE, if_neg hc] at h
        exact absurd h (by decide)
      refine ⟨_, _, ⟨conEx hm hp⟩, ?_⟩
      rw [xoP, if_neg h1, if_neg (fun x => x h)]
end Go.Proofs.G5z

/- Chapter 5: spans of thicknesses, in data. -/
namespace Go.Proofs.G5z
open Go Go.Abs Go.Proofs Go.Proofs.G5
set_option maxRecDepth 100000
theorem choose2 {p q : Int × Int} {X Y : Prop} (h1 : ltF p q → X) (h2 : ¬ ltF p q → Y) : (Says C5 147 [dF p, dF q] [.val (.bool true)] ∧ X) ∨ (Says C5 147 [dF p, dF q] [.val (.bool false)] ∧ Y) := by
  by_cases h : ltF p q
  · exact .inl ⟨ilT h, h1 h⟩
  · exact .inr ⟨ilF h, h2 h⟩
abbrev spS (f0 f1 f2 f3 : Int × Int) : (Int × Int) × (Int × Int) := stp (stp (stp (f0, f0) f1) f2) f3
def exS (a b c d g e : Int) : (Int × Int) × (Int × Int) := spS (exV a c g e) (exV a d g e) (exV b c g e) (exV b d g e)
def gaS (a b c d e x : Int) : (Int × Int) × (Int × Int) := spS (gaV a c e x) (gaV a d e x) (gaV b c e x) (gaV b d e x)
abbrev SB (a b c d : Int) : Prop := (((1 ≤ a ∧ a ≤ 1000) ∧ (1 ≤ b ∧ b ≤ 1000)) ∧ (0 ≤ c ∧ c ≤ 1000) ∧ (0 ≤ d ∧ d ≤ 1000)) ∧ a ≤ b ∧ c ≤ d
theorem stE0 {a b c d : Int} (h : stE a b c d = 0) : SB a b c d := by
  unfold stE at h
  split at h
  · rename_i h1
    split at h
    · cases h
    · rename_i h2
      exact ⟨h1, by omega⟩
  · cases h
theorem paE0 {g e : Int} (h : paE g e = 0) : PB g e := by
  unfold paE at h
  split at h
  · rename_i h1; exact h1
  · cases h
theorem maE0 {m q : Int} (h : maE m q = 0) : MB m q := by
  unfold maE at h
  split at h
  · rename_i h1; exact h1
  · cases h
theorem conRS {a b c d g e : Int} (hs : SB a b c d) (hp : PB g e) : C5 21 [.agg [dI a, dI b, dI c, dI d], .agg [dI g, dI e]] [dG (exS a b c d g e)] := by
  refine con_flat hokS mixed Tryz.func21 rfl (by show 0 ≤ 400; omega) rfl (by kernel_rfl) (fun caps => ?_)
  show gRS _ _ a b c d g e _
  rw [gRS_text]
  try simp only [eq_self, true_and, and_true]
  obtain ⟨⟨⟨ha, hb⟩, hc, hd⟩, _⟩ := hs
  refine ⟨_, _, ⟨conRX ⟨ha, hc⟩ hp⟩, _, _, ⟨conRX ⟨ha, hd⟩ hp⟩, _, _, ⟨conRX ⟨hb, hc⟩ hp⟩, _, _, ⟨conRX ⟨hb, hd⟩ hp⟩, ?_⟩
  exact ⟨_, _, _, _, ⟨conHu (exV a c g e) [exV a d g e, exV b c g e, exV b d g e] (by simp)⟩, rfl⟩
theorem conRT {a b c d e x : Int} (hs : SB a b c d) (he : 1 ≤ e ∧ e ≤ 100000) (hx : 1 ≤ x ∧ x ≤ 100000) : C5 23 [.agg [dI a, dI b, dI c, dI d], dI e, dI x] [dG (gaS a b c d e x)] := by
  refine con_flat hokS mixed Tryz.func23 rfl (by show 0 ≤ 400; omega) rfl (by kernel_rfl) (fun caps => ?_)
  show gRT _ _ a b c d e x _
  rw [gRT_text]
  try simp only [eq_self, true_and, and_true]
  obtain ⟨⟨⟨ha, hb⟩, hc, hd⟩, _⟩ := hs
  refine ⟨_, _, ⟨conRG ⟨ha, hc⟩ he hx⟩, _, _, ⟨conRG ⟨ha, hd⟩ he hx⟩, _, _, ⟨conRG ⟨hb, hc⟩ he hx⟩, _, _, ⟨conRG ⟨hb, hd⟩ he hx⟩, ?_⟩
  exact ⟨_, _, _, _, ⟨conHu (gaV a c e x) [gaV a d e x, gaV b c e x, gaV b d e x] (by simp)⟩, rfl⟩
def zzz : (Int × Int) × (Int × Int) := ((0, 0), (0, 0))
def xsP (a b c d g e : Int) : ((Int × Int) × (Int × Int)) × Int := if stE a b c d ≠ 0 then (zzz, stE a b c d) else if paE g e ≠ 0 then (zzz, paE g e) else (exS a b c d g e, 0)
theorem conXS (a b c d g e : Int) : C5 14 [.agg [dI a, dI b, dI c, dI d], .agg [dI g, dI e]] [dG (xsP a b c d g e).1, dI (xsP a b c d g e).2] := by
  refine con_flat hokS mixed Tryz.func14 rfl (by show 0 ≤ 400; omega) rfl (by kernel_rfl) (fun caps => ?_)
  show gXS _ _ a b c d g e _
  rw [gXS_text]
  try simp only [eq_self, true_and, and_true]
  refine ⟨_, ⟨conCk a b c d⟩, _, ⟨conCPa g e⟩, _, ⟨conFE [stE a b c d, paE g e] (by simp)⟩, ?_⟩
  rw [fst0_two]
  by_cases h1 : stE a b c d = 0
  · rw [if_pos h1]
    refine bc_bne (fun h => ?_) (fun h => ?_)
    · rw [xsP, if_neg (fun x => x h1), if_pos h]; rfl
    · obtain ⟨⟨⟨ha, hb⟩, hc, hd⟩, _⟩ := stE0 h1
      have hp := paE0 h
      rw [xsP, if_neg (fun x => x h1), if_neg (fun x => x h), exS]
      have c0 := conEx ⟨ha, hc⟩ hp
      have c1 := conEx ⟨ha, hd⟩ hp
      have c2 := conEx ⟨hb, hc⟩ hp
      have c3 := conEx ⟨hb, hd⟩ hp
      generalize exV a c g e = f0 at *
      generalize exV a d g e = f1 at *
      generalize exV b c g e = f2 at *
      generalize exV b d g e = f3 at *
      refine ⟨_, _, ⟨c0⟩, _, _, ⟨c0⟩, .inr ⟨ilF (ltF_irr f0), .inr ⟨ilF (ltF_irr f0), _, _, ⟨c1⟩, ?_⟩⟩⟩
      refine choose2 (fun p1 => choose2 (fun q1 => ?_) (fun q1 => ?_)) (fun p1 => choose2 (fun q1 => ?_) (fun q1 => ?_))
      all_goals refine ⟨_, _, ⟨c2⟩, choose2 (fun p2 => choose2 (fun q2 => ?_) (fun q2 => ?_)) (fun p2 => choose2 (fun q2 => ?_) (fun q2 => ?_))⟩
      all_goals refine ⟨_, _, ⟨c3⟩, choose2 (fun p3 => choose2 (fun q3 => ?_) (fun q3 => ?_)) (fun p3 => choose2 (fun q3 => ?_) (fun q3 => ?_))⟩
      all_goals simp [stp, *]
  · rw [if_neg h1]
    refine bc_bne (fun _ => ?_) (fun h => absurd h h1)
    rw [xsP, if_pos h1]; rfl
def thP (e x : Int) : Int := if thE e ≠ 0 then thE e else if thE x ≠ 0 then thE x else if x > e then 9 else 0
def gsP (a b c d e x : Int) : ((Int × Int) × (Int × Int)) × Int := if stE a b c d ≠ 0 then (zzz, stE a b c d) else if thP e x ≠ 0 then (zzz, thP e x) else (gaS a b c d e x, 0)
theorem thE0 {x : Int} (h : thE x = 0) : 1 ≤ x ∧ x ≤ 100000 := (rngE0 (by decide)).1 h
theorem thE_wit (e x : Int) : witE 1 100000 2 [vI e, vI x] = if thE e ≠ 0 then thE e else thE x := by
  simp only [witE, thE, rngE]
  repeat' split
  all_goals first | rfl | omega
theorem conGS (a b c d e x : Int) : C5 15 [.agg [dI a, dI b, dI c, dI d], dI e, dI x] [dG (gsP a b c d e x).1, dI (gsP a b c d e x).2] := by
  refine con_flat hokS mixed Tryz.func15 rfl (by show 0 ≤ 400; omega) rfl (by kernel_rfl) (fun caps => ?_)
  show gGS _ _ a b c d e x _
  rw [gGS_text]
  try simp only [eq_self, true_and, and_true]
  refine ⟨_, ⟨conCk a b c d⟩, witE 1 100000 2 [vI e, vI x], ⟨rfl⟩, _, ⟨conFE [stE a b c d, witE 1 100000 2 [vI e, vI x]] (by simp)⟩, ?_⟩
  rw [fst0_two, thE_wit]
  by_cases h1 : stE a b c d = 0
  · rw [if_pos h1]
    by_cases he0 : thE e ≠ 0
    · rw [if_pos he0]
      refine bc_bne (fun h => ?_) (fun h => absurd h he0)
      have ht : thP e x = thE e := by rw [thP, if_pos he0]
      rw [gsP, if_neg (fun x => x h1), if_pos (by rw [ht]; exact he0), ht]; rfl
    · rw [if_neg he0]
      refine bc_bne (fun h => ?_) (fun h => ?_)
      · have ht : thP e x = thE x := by rw [thP, if_neg he0, if_pos h]
        rw [gsP, if_neg (fun x => x h1), if_pos (by rw [ht]; exact h), ht]; rfl
      · refine bc_dec (fun hx => ?_) (fun hx => ?_)
        · have ht : thP e x = 9 := by rw [thP, if_neg he0, if_neg (fun x => x h), if_pos hx]
          rw [gsP, if_neg (fun x => x h1), if_pos (by rw [ht]; decide), ht]; rfl
        · have ht : thP e x = 0 := by rw [thP, if_neg he0, if_neg (fun x => x h), if_neg hx]
          obtain ⟨⟨⟨ha, hb⟩, hc, hd⟩, _⟩ := stE0 h1
          have he' := thE0 (Classical.not_not.1 he0)
          have hx' := thE0 h
          rw [gsP, if_neg (fun x => x h1), if_neg (fun y => y ht), gaS]
          have c0 := conGa ⟨ha, hc⟩ he' hx'
          have c1 := conGa ⟨ha, hd⟩ he' hx'
          have c2 := conGa ⟨hb, hc⟩ he' hx'
          have c3 := conGa ⟨hb, hd⟩ he' hx'
          generalize gaV a c e x = f0 at *
          generalize gaV a d e x = f1 at *
          generalize gaV b c e x = f2 at *
          generalize gaV b d e x = f3 at *
          refine ⟨_, _, ⟨c0⟩, _, _, ⟨c0⟩, .inr ⟨ilF (ltF_irr f0), .inr ⟨ilF (ltF_irr f0), _, _, ⟨c1⟩, ?_⟩⟩⟩
          refine choose2 (fun p1 => choose2 (fun q1 => ?_) (fun q1 => ?_)) (fun p1 => choose2 (fun q1 => ?_) (fun q1 => ?_))
          all_goals refine ⟨_, _, ⟨c2⟩, choose2 (fun p2 => choose2 (fun q2 => ?_) (fun q2 => ?_)) (fun p2 => choose2 (fun q2 => ?_) (fun q2 => ?_))⟩
          all_goals refine ⟨_, _, ⟨c3⟩, choose2 (fun p3 => choose2 (fun q3 => ?_) (fun q3 => ?_)) (fun p3 => choose2 (fun q3 => ?_) (fun q3 => ?_))⟩
          all_goals simp [stp, *]
  · rw [if_neg h1]
    refine bc_bne (fun _ => ?_) (fun h => absurd h h1)
    rw [gsP, if_pos h1]; rfl
end Go.Proofs.G5z

/- Chapter 5: how fractions of stands compare. -/
namespace Go.Proofs.G5z
open Go Go.Abs Go.Proofs Go.Proofs.G5
set_option maxRecDepth 100000
def leF (p q : Int × Int) : Prop := p.1 * q.2 ≤ q.1 * p.2
/-- small parts -/
structure Gd (p : Int × Int) : Prop where
  den : 0 < p.2 ∧ p.2 ≤ 100000
  num : -1000000000 ≤ p.1 ∧ p.1 ≤ 1000000000
theorem gd_mul {p q : Int × Int} (hp : Gd p) (hq : Gd q) : -100000000000000 ≤ p.1 * q.2 ∧ p.1 * q.2 ≤ 100000000000000 := by
  have := mul_bd (a := q.2) (b := p.1) (A := 100000) (B := 1000000000) (by have := hq.den; omega) hp.num
  rw [Int.mul_comm]; omega
theorem lt_iff {p q : Int × Int} (hp : Gd p) (hq : Gd q) : ltF p q ↔ ¬ leF q p := by
  have b1 := gd_mul hp hq
  have b2 := gd_mul hq hp
  unfold ltF leF
  rw [show W6 (p.1 * q.2) = p.1 * q.2 from w64 (by omega) (by omega), show W6 (q.1 * p.2) = q.1 * p.2 from w64 (by omega) (by omega)]
  omega
theorem le_tr {p q r : Int × Int} (hp : Gd p) (hq : Gd q) (hr : Gd r) (h1 : leF p q) (h2 : leF q r) : leF p r := by
  unfold leF at *
  have a1 := Int.mul_le_mul_of_nonneg_right h1 (show 0 ≤ r.2 by have := hr.den; omega)
  have a2 := Int.mul_le_mul_of_nonneg_right h2 (show 0 ≤ p.2 by have := hp.den; omega)
  have e1 : q.1 * p.2 * r.2 = q.1 * r.2 * p.2 := by grind
  have a3 : q.2 * (p.1 * r.2) ≤ q.2 * (r.1 * p.2) := by
    have f1 : q.2 * (p.1 * r.2) = p.1 * q.2 * r.2 := by grind
    have f2 : q.2 * (r.1 * p.2) = r.1 * q.2 * p.2 := by grind
    omega
  exact Int.le_of_mul_le_mul_left a3 hq.den.1
theorem le_rf (p : Int × Int) : leF p p := Int.le_refl _
theorem le_tot (p q : Int × Int) : leF p q ∨ leF q p := by unfold leF; omega
theorem stp_ok {lo hi f : Int × Int} (hl : Gd lo) (hh : Gd hi) (hf : Gd f) : (Gd (stp (lo, hi) f).1 ∧ Gd (stp (lo, hi) f).2) ∧ (leF (stp (lo, hi) f).1 lo ∧ leF (stp (lo, hi) f).1 f) ∧ (leF hi (stp (lo, hi) f).2 ∧ leF f (stp (lo, hi) f).2) := by
  unfold stp
  refine ⟨⟨?_, ?_⟩, ⟨?_, ?_⟩, ⟨?_, ?_⟩⟩
  · show Gd (if ltF f lo then f else lo); split <;> assumption
  · show Gd (if ltF hi f then f else hi); split <;> assumption
  · show leF (if ltF f lo then f else lo) lo
    split
    · rename_i h; rw [lt_iff hf hl] at h; exact (le_tot lo f).resolve_left h
    · exact le_rf _
  · show leF (if ltF f lo then f else lo) f
    split
    · exact le_rf _
    · rename_i h; rw [lt_iff hf hl] at h; exact Classical.not_not.1 h
  · show leF hi (if ltF hi f then f else hi)
    split
    · rename_i h; rw [lt_iff hh hf] at h; exact (le_tot f hi).resolve_left h
    · exact le_rf _
  · show leF f (if ltF hi f then f else hi)
    split
    · exact le_rf _
    · rename_i h; rw [lt_iff hh hf] at h; exact Classical.not_not.1 h
/-- a hull holds its parts -/
theorem sp_ok {f0 f1 f2 f3 : Int × Int} (h0 : Gd f0) (h1 : Gd f1) (h2 : Gd f2) (h3 : Gd f3) : (Gd (spS f0 f1 f2 f3).1 ∧ Gd (spS f0 f1 f2 f3).2) ∧ (leF (spS f0 f1 f2 f3).1 f1 ∧ leF (spS f0 f1 f2 f3).1 f2) ∧ (leF f1 (spS f0 f1 f2 f3).2 ∧ leF f2 (spS f0 f1 f2 f3).2) := by
  obtain ⟨⟨a1, a2⟩, ⟨_, a4⟩, ⟨_, a6⟩⟩ := stp_ok h0 h0 h1
  obtain ⟨⟨b1, b2⟩, ⟨b3, b4⟩, ⟨b5, b6⟩⟩ := stp_ok a1 a2 h2
  obtain ⟨⟨c1, c2⟩, ⟨c3, _⟩, ⟨c5, _⟩⟩ := stp_ok b1 b2 h3
  have m1 := le_tr b1 a1 h1 b3 a4
  have m2 := le_tr h1 a2 b2 a6 b5
  exact ⟨⟨c1, c2⟩, ⟨le_tr c1 b1 h1 c3 m1, le_tr c1 b1 h2 c3 b4⟩, ⟨le_tr h1 b2 c2 m2 c5, le_tr h2 b2 c2 b6 c5⟩⟩
theorem low_gd {n d : Int} (hd : 0 < d ∧ d ≤ 100000) (hn : -1000000000 ≤ n ∧ n ≤ 1000000000) : Gd (low n d) := by
  have h1 := low_den (n := n) hd.1
  have h2 := low_num (n := n) hd.1
  exact ⟨by omega, by omega⟩
theorem ex_gd {m q g e : Int} (hm : MB m q) (hp : PB g e) : Gd (exV m q g e) := by
  obtain ⟨b1, b2⟩ := ex_bd hm hp
  exact low_gd (by omega) (by omega)
theorem ga_gd {m q e x : Int} (hm : MB m q) (he : 1 ≤ e ∧ e ≤ 100000) (hx : 1 ≤ x ∧ x ≤ 100000) : Gd (gaV m q e x) := by
  obtain ⟨b1, b2⟩ := ga_bd hm he hx
  exact low_gd (by omega) (by omega)
theorem low_leF {n d m e : Int} (hd : 0 < d) (he : 0 < e) (h : n * e ≤ m * d) : leF (low n d) (low m e) := (low_le hd he).2 h
/-- the exit thickness by the modulus and the stiffness -/
theorem ex_mono {M Q M' Q' g e : Int} (h1 : 0 < M) (h2 : 0 ≤ Q) (h3 : 0 < M') (h4 : 0 ≤ Q') (hx : 0 ≤ (e - g) * (Q * M' - Q' * M)) : leF (exV M' Q' g e) (exV M Q g e) := by
  refine low_leF (by omega) (by omega) ?_
  have : (M * g + Q * e) * (M' + Q') - (M' * g + Q' * e) * (M + Q) = (e - g) * (Q * M' - Q' * M) := by grind
  omega
theorem ga_mono {M Q M' Q' e x : Int} (h1 : 0 < M) (h3 : 0 < M') (hx : 0 ≤ (e - x) * (Q' * M - Q * M')) : leF (gaV M' Q' e x) (gaV M Q e x) := by
  refine low_leF (by omega) (by omega) ?_
  have : (x * M - Q * (e - x)) * M' - (x * M' - Q' * (e - x)) * M = (e - x) * (Q' * M - Q * M') := by grind
  omega
theorem cross {a M Q d : Int} (h1 : 0 ≤ a) (h2 : a ≤ M) (h3 : 0 ≤ Q) (h4 : Q ≤ d) : 0 ≤ d * M - Q * a := by
  have b1 := Int.mul_le_mul_of_nonneg_left h2 (show 0 ≤ d by omega)
  have b2 := Int.mul_le_mul_of_nonneg_right h4 h1
  omega
theorem low_ge {n d k : Int} (hd : 0 < d) (h : k * d ≤ n) : k * (low n d).2 ≤ (low n d).1 := by
  obtain ⟨G, hG, e1, e2, _⟩ := low_parts (n := n) hd
  generalize (low n d).1 = A at *
  generalize (low n d).2 = B at *
  have : G * (k * B) ≤ G * A := by
    have f : G * (k * B) = k * (G * B) := by grind
    rw [f, ← e2, ← e1]; exact h
  exact Int.le_of_mul_le_mul_left this hG
theorem low_lek {n d k : Int} (hd : 0 < d) (h : n ≤ k * d) : (low n d).1 ≤ k * (low n d).2 := by
  obtain ⟨G, hG, e1, e2, _⟩ := low_parts (n := n) hd
  generalize (low n d).1 = A at *
  generalize (low n d).2 = B at *
  have : G * A ≤ G * (k * B) := by
    have f : G * (k * B) = k * (G * B) := by grind
    rw [f, ← e2, ← e1]; exact h
  exact Int.le_of_mul_le_mul_left this hG
/-- a whole number as a fraction -/
theorem low_mul {x D : Int} (hD : 0 < D) : low (x * D) D = (x, 1) := by
  obtain ⟨G, hG, e1, e2, e3⟩ := low_parts (n := x * D) hD
  have hp := (low_den (n := x * D) hD).1
  generalize hA : (low (x * D) D).1 = A at *
  generalize hB : (low (x * D) D).2 = B at *
  have h1 : G * A = G * (x * B) := by
    rw [← e1]
    conv => lhs; rw [e2]
    grind
  have h2 : A = x * B := Int.eq_of_mul_eq_mul_left (by omega) h1
  have h3 : B = 1 := by
    have hdv : (B : Int) ∣ (Int.gcd A B : Int) := Int.dvd_coe_gcd (by rw [h2]; exact Int.dvd_mul_left ..) (Int.dvd_refl B)
    rw [e3] at hdv
    exact Int.eq_one_of_dvd_one (by omega) hdv
  have h4 : A = x := by rw [h2, h3, Int.mul_one]
  exact Prod.ext (by rw [hA, h4]) (by rw [hB, h3])
end Go.Proofs.G5z

/- What is left to show of each function, written out; the kernel reckons it. -/
namespace Go.Proofs.G5z
open Go Go.Abs Go.Proofs
set_option maxRecDepth 100000
set_option linter.unusedVariables false
abbrev JT : List Nat := [30003, 30009, 30010, 30012, 30015, 30017]
def gS4 (C : Ct) (L : AtLoop) (a b c d g e m q x : Int) (k : List D → Prop) : Prop := jFn Tryz.prog (hS C) L JT 4 #[vA a b c d, vB g e, vC m q x] (heapOf []) (dataK k)
theorem gS4_text (C : Ct) (L : AtLoop) (a : Int) (b : Int) (c : Int) (d : Int) (g : Int) (e : Int) (m : Int) (q : Int) (x : Int) (k : List D → Prop) : gS4 C L a b c d g e m q x k =
 (((Says C 12 [] [(D.val (Value.bool true))]) ∧
 (∃ n1 : Int,
 ((Says C 19 [(D.agg [(D.val (vI a)), (D.val (vI b)), (D.val (vI c)), (D.val (vI d))])] [(D.val (vI n1))]) ∧
 (bcase (n1 != 0)
 (L 30003 [(Prod.mk 3 (Go.Value.pointer (Option.some (Go.Addr.mk 1000 0 Option.none)))), (Prod.mk 4 (Go.Value.pointer (Option.some (Go.Addr.mk 1001 0 Option.none)))), (Prod.mk 5 (Go.Value.pointer (Option.some (Go.Addr.mk 1002 0 Option.none)))), (Prod.mk 40 (Value.bool true))] [(Prod.mk 1000 (AObj.cells [(vI a), (vI b), (vI c), (vI d)] 25 false 1)), (Prod.mk 1001 (AObj.cells [(vI g), (vI e)] 27 false 1)), (Prod.mk 1002 (AObj.cells [(vI m), (vI q), (vI x)] 29 false 1))])
 (∃ n2 : Int,
 ((Says C 17 [(D.agg [(D.val (vI g)), (D.val (vI e))])] [(D.val (vI n2))]) ∧
 (bcase (n2 != 0)
 (L 30003 [(Prod.mk 3 (Go.Value.pointer (Option.some (Go.Addr.mk 1000 0 Option.none)))), (Prod.mk 4 (Go.Value.pointer (Option.some (Go.Addr.mk 1001 0 Option.none)))), (Prod.mk 5 (Go.Value.pointer (Option.some (Go.Addr.mk 1002 0 Option.none)))), (Prod.mk 40 (Value.bool true))] [(Prod.mk 1000 (AObj.cells [(vI a), (vI b), (vI c), (vI d)] 25 false 1)), (Prod.mk 1001 (AObj.cells [(vI g), (vI e)] 27 false 1)), (Prod.mk 1002 (AObj.cells [(vI m), (vI q), (vI x)] 29 false 1))])
 (∃ n3 : Int,
 ((Says C 22 [(D.val (vI x))] [(D.val (vI n3))]) ∧
 (bcase (n3 != 0)
 (L 30003 [(Prod.mk 3 (Go.Value.pointer (Option.some (Go.Addr.mk 1000 0 Option.none)))), (Prod.mk 4 (Go.Value.pointer (Option.some (Go.Addr.mk 1001 0 Option.none)))), (Prod.mk 5 (Go.Value.pointer (Option.some (Go.Addr.mk 1002 0 Option.none)))), (Prod.mk 40 (Value.bool true))] [(Prod.mk 1000 (AObj.cells [(vI a), (vI b), (vI c), (vI d)] 25 false 1)), (Prod.mk 1001 (AObj.cells [(vI g), (vI e)] 27 false 1)), (Prod.mk 1002 (AObj.cells [(vI m), (vI q), (vI x)] 29 false 1))])
 (bcase (decide (x > e))
 (L 30003 [(Prod.mk 3 (Go.Value.pointer (Option.some (Go.Addr.mk 1000 0 Option.none)))), (Prod.mk 4 (Go.Value.pointer (Option.some (Go.Addr.mk 1001 0 Option.none)))), (Prod.mk 5 (Go.Value.pointer (Option.some (Go.Addr.mk 1002 0 Option.none)))), (Prod.mk 40 (Value.bool true))] [(Prod.mk 1000 (AObj.cells [(vI a), (vI b), (vI c), (vI d)] 25 false 1)), (Prod.mk 1001 (AObj.cells [(vI g), (vI e)] 27 false 1)), (Prod.mk 1002 (AObj.cells [(vI m), (vI q), (vI x)] 29 false 1))])
 (L 30003 [(Prod.mk 3 (Go.Value.pointer (Option.some (Go.Addr.mk 1000 0 Option.none)))), (Prod.mk 4 (Go.Value.pointer (Option.some (Go.Addr.mk 1001 0 Option.none)))), (Prod.mk 5 (Go.Value.pointer (Option.some (Go.Addr.mk 1002 0 Option.none)))), (Prod.mk 40 (Value.bool false))] [(Prod.mk 1000 (AObj.cells [(vI a), (vI b), (vI c), (vI d)] 25 false 1)), (Prod.mk 1001 (AObj.cells [(vI g), (vI e)] 27 false 1)), (Prod.mk 1002 (AObj.cells [(vI m), (vI q), (vI x)] 29 false 1))])))))))))))) ∨
 ((Says C 12 [] [(D.val (Value.bool false))]) ∧
 (k [(D.val (Value.bool false))]))) := by kernel_rfl
abbrev oS (a b c d : Int) : Nat × AObj := (1000, .cells [vI a, vI b, vI c, vI d] 25 false 1)
abbrev oX (i : Nat) (g e : Int) : Nat × AObj := (i, .cells [vI g, vI e] 27 false 1)
abbrev oMa (i : Nat) (m q x : Int) : Nat × AObj := (i, .cells [vI m, vI q, vI x] 29 false 1)
abbrev oF (i : Nat) (n d : Int) : Nat × AObj := (i, .cells [vI n, vI d] 32 false 2)
def d3 (C : Ct) (L : AtLoop) (a b c d g e m q x : Int) (bo : Bool) (k : List D → Prop) : Prop := jNext Tryz.prog (hS C) L JT 4 30003 .normal [(3, P1 1000 0), (4, P1 1001 0), (5, P1 1002 0), (40, .bool bo)] [oS a b c d, oX 1001 g e, oMa 1002 m q x] (dataK k)
def d3t (C : Ct) (L : AtLoop) (a b c d g e m q x : Int) (k : List D → Prop) : Prop := d3 C L a b c d g e m q x true k
theorem d3t_text (C : Ct) (L : AtLoop) (a : Int) (b : Int) (c : Int) (d : Int) (g : Int) (e : Int) (m : Int) (q : Int) (x : Int) (k : List D → Prop) : d3t C L a b c d g e m q x k =
 (k [(D.val (Value.bool true))]) := by kernel_rfl
def d3f (C : Ct) (L : AtLoop) (a b c d g e m q x : Int) (k : List D → Prop) : Prop := d3 C L a b c d g e m q x false k
theorem d3f_text (C : Ct) (L : AtLoop) (a : Int) (b : Int) (c : Int) (d : Int) (g : Int) (e : Int) (m : Int) (q : Int) (x : Int) (k : List D → Prop) : d3f C L a b c d g e m q x k =
 ((((vI (IntKind.wrap .i64 (IntKind.wrap .i64 (b - a) + 1))) = (vI (IntKind.wrap .i64 (IntKind.wrap .i64 (b - a) + 1)))) ∧
 (((vI (IntKind.wrap .i64 (b - a))) = (vI (IntKind.wrap .i64 (b - a)))) ∧
 (((vI a) = (vI a)) ∧
 (((Go.Value.pointer (Option.some (Go.Addr.mk 1000 0 Option.none))) = (Go.Value.pointer (Option.some (Go.Addr.mk 1000 0 Option.none)))) ∧
 (((Go.Value.pointer (Option.some (Go.Addr.mk 1000 0 Option.none))) = (Go.Value.pointer (Option.some (Go.Addr.mk 1000 0 Option.none)))) ∧
 (((vI b) = (vI b)) ∧
 (((Go.Value.pointer (Option.some (Go.Addr.mk 1000 1 Option.none))) = (Go.Value.pointer (Option.some (Go.Addr.mk 1000 1 Option.none)))) ∧
 (((Go.Value.pointer (Option.some (Go.Addr.mk 1000 0 Option.none))) = (Go.Value.pointer (Option.some (Go.Addr.mk 1000 0 Option.none)))) ∧
 (((vI m) = (vI m)) ∧
 (((Go.Value.pointer (Option.some (Go.Addr.mk 1002 0 Option.none))) = (Go.Value.pointer (Option.some (Go.Addr.mk 1002 0 Option.none)))) ∧
 (((vI a) = (vI a)) ∧
 (((Go.Value.pointer (Option.some (Go.Addr.mk 1000 0 Option.none))) = (Go.Value.pointer (Option.some (Go.Addr.mk 1000 0 Option.none)))) ∧
 (((Go.Value.pointer (Option.some (Go.Addr.mk 1000 0 Option.none))) = (Go.Value.pointer (Option.some (Go.Addr.mk 1000 0 Option.none)))) ∧
 True))))))))))))) ∧
 (∃ n1 : Int,
 ((Says C 24 [(D.val (vI m)), (D.val (vI (IntKind.wrap .i64 (IntKind.wrap .i64 (b - a) + 1))))] [(D.val (vI n1))]) ∧
 ((((vI (IntKind.wrap .i64 (a + n1))) = (vI (IntKind.wrap .i64 (a + n1)))) ∧
 (((vI (IntKind.wrap .i64 (b - a))) = (vI (IntKind.wrap .i64 (b - a)))) ∧
 (((vI a) = (vI a)) ∧
 (((Go.Value.pointer (Option.some (Go.Addr.mk 1000 0 Option.none))) = (Go.Value.pointer (Option.some (Go.Addr.mk 1000 0 Option.none)))) ∧
 (((Go.Value.pointer (Option.some (Go.Addr.mk 1000 0 Option.none))) = (Go.Value.pointer (Option.some (Go.Addr.mk 1000 0 Option.none)))) ∧
 (((vI b) = (vI b)) ∧
 (((Go.Value.pointer (Option.some (Go.Addr.mk 1000 1 Option.none))) = (Go.Value.pointer (Option.some (Go.Addr.mk 1000 1 Option.none)))) ∧
 (((Go.Value.pointer (Option.some (Go.Addr.mk 1000 0 Option.none))) = (Go.Value.pointer (Option.some (Go.Addr.mk 1000 0 Option.none)))) ∧
 (((Go.Value.pointer (Option.some (Go.Addr.mk 1002 0 Option.none))) = (Go.Value.pointer (Option.some (Go.Addr.mk 1002 0 Option.none)))) ∧
 (((vI a) = (vI a)) ∧
 (((Go.Value.pointer (Option.some (Go.Addr.mk 1000 0 Option.none))) = (Go.Value.pointer (Option.some (Go.Addr.mk 1000 0 Option.none)))) ∧
 (((Go.Value.pointer (Option.some (Go.Addr.mk 1000 0 Option.none))) = (Go.Value.pointer (Option.some (Go.Addr.mk 1000 0 Option.none)))) ∧
 True)))))))))))) ∧
 (True ∧
 ((((vI (IntKind.wrap .i64 (IntKind.wrap .i64 (d - c) + 1))) = (vI (IntKind.wrap .i64 (IntKind.wrap .i64 (d - c) + 1)))) ∧
 (((vI (IntKind.wrap .i64 (d - c))) = (vI (IntKind.wrap .i64 (d - c)))) ∧
 (((vI c) = (vI c)) ∧
 (((Go.Value.pointer (Option.some (Go.Addr.mk 1000 2 Option.none))) = (Go.Value.pointer (Option.some (Go.Addr.mk 1000 2 Option.none)))) ∧
 (((Go.Value.pointer (Option.some (Go.Addr.mk 1000 2 Option.none))) = (Go.Value.pointer (Option.some (Go.Addr.mk 1000 2 Option.none)))) ∧
 (((vI d) = (vI d)) ∧
 (((Go.Value.pointer (Option.some (Go.Addr.mk 1000 3 Option.none))) = (Go.Value.pointer (Option.some (Go.Addr.mk 1000 3 Option.none)))) ∧
 (((Go.Value.pointer (Option.some (Go.Addr.mk 1000 2 Option.none))) = (Go.Value.pointer (Option.some (Go.Addr.mk 1000 2 Option.none)))) ∧
 (((vI q) = (vI q)) ∧
 (((Go.Value.pointer (Option.some (Go.Addr.mk 1002 1 Option.none))) = (Go.Value.pointer (Option.some (Go.Addr.mk 1002 1 Option.none)))) ∧
 (((vI c) = (vI c)) ∧
 (((Go.Value.pointer (Option.some (Go.Addr.mk 1000 2 Option.none))) = (Go.Value.pointer (Option.some (Go.Addr.mk 1000 2 Option.none)))) ∧
 (((Go.Value.pointer (Option.some (Go.Addr.mk 1000 2 Option.none))) = (Go.Value.pointer (Option.some (Go.Addr.mk 1000 2 Option.none)))) ∧
 True))))))))))))) ∧
 (∃ n2 : Int,
 ((Says C 24 [(D.val (vI q)), (D.val (vI (IntKind.wrap .i64 (IntKind.wrap .i64 (d - c) + 1))))] [(D.val (vI n2))]) ∧
 ((((vI (IntKind.wrap .i64 (c + n2))) = (vI (IntKind.wrap .i64 (c + n2)))) ∧
 (((vI (IntKind.wrap .i64 (d - c))) = (vI (IntKind.wrap .i64 (d - c)))) ∧
 (((vI c) = (vI c)) ∧
 (((Go.Value.pointer (Option.some (Go.Addr.mk 1000 2 Option.none))) = (Go.Value.pointer (Option.some (Go.Addr.mk 1000 2 Option.none)))) ∧
 (((Go.Value.pointer (Option.some (Go.Addr.mk 1000 2 Option.none))) = (Go.Value.pointer (Option.some (Go.Addr.mk 1000 2 Option.none)))) ∧
 (((vI d) = (vI d)) ∧
 (((Go.Value.pointer (Option.some (Go.Addr.mk 1000 3 Option.none))) = (Go.Value.pointer (Option.some (Go.Addr.mk 1000 3 Option.none)))) ∧
 (((Go.Value.pointer (Option.some (Go.Addr.mk 1000 2 Option.none))) = (Go.Value.pointer (Option.some (Go.Addr.mk 1000 2 Option.none)))) ∧
 (((Go.Value.pointer (Option.some (Go.Addr.mk 1002 1 Option.none))) = (Go.Value.pointer (Option.some (Go.Addr.mk 1002 1 Option.none)))) ∧
 (((vI c) = (vI c)) ∧
 (((Go.Value.pointer (Option.some (Go.Addr.mk 1000 2 Option.none))) = (Go.Value.pointer (Option.some (Go.Addr.mk 1000 2 Option.none)))) ∧
 (((Go.Value.pointer (Option.some (Go.Addr.mk 1000 2 Option.none))) = (Go.Value.pointer (Option.some (Go.Addr.mk 1000 2 Option.none)))) ∧
 True)))))))))))) ∧
 (True ∧
 (∃ n3 : Int,
 (∃ n4 : Int,
 (∃ n5 : Int,
 ((Says C 13 [(D.val (vI (IntKind.wrap .i64 (a + n1)))), (D.val (vI (IntKind.wrap .i64 (c + n2)))), (D.agg [(D.val (vI g)), (D.val (vI e))])] [(D.agg [(D.val (vI n3)), (D.val (vI n4))]), (D.val (vI n5))]) ∧
 (∃ n6 : Int,
 (∃ n7 : Int,
 (∃ n8 : Int,
 (∃ n9 : Int,
 (∃ n10 : Int,
 ((Says C 14 [(D.agg [(D.val (vI a)), (D.val (vI b)), (D.val (vI c)), (D.val (vI d))]), (D.agg [(D.val (vI g)), (D.val (vI e))])] [(D.agg [(D.val (vI n6)), (D.val (vI n7)), (D.val (vI n8)), (D.val (vI n9))]), (D.val (vI n10))]) ∧
 (∃ n11 : Int,
 (∃ n12 : Int,
 (∃ n13 : Int,
 (∃ n14 : Int,
 (∃ n15 : Int,
 ((Says C 15 [(D.agg [(D.val (vI a)), (D.val (vI b)), (D.val (vI c)), (D.val (vI d))]), (D.val (vI e)), (D.val (vI x))] [(D.agg [(D.val (vI n11)), (D.val (vI n12)), (D.val (vI n13)), (D.val (vI n14))]), (D.val (vI n15))]) ∧
 (L 30009 [(Prod.mk 4 (Go.Value.pointer (Option.some (Go.Addr.mk 1000 0 Option.none)))), (Prod.mk 5 (Go.Value.pointer (Option.some (Go.Addr.mk 1001 0 Option.none)))), (Prod.mk 7 (vI (IntKind.wrap .i64 (a + n1)))), (Prod.mk 8 (vI (IntKind.wrap .i64 (c + n2)))), (Prod.mk 9 (Go.Value.pointer (Option.some (Go.Addr.mk 1002 0 Option.none)))), (Prod.mk 10 (vI n5)), (Prod.mk 11 (Go.Value.pointer (Option.some (Go.Addr.mk 1003 0 Option.none)))), (Prod.mk 12 (vI n10)), (Prod.mk 13 (Go.Value.pointer (Option.some (Go.Addr.mk 1004 0 Option.none)))), (Prod.mk 14 (vI n15))] [(Prod.mk 1000 (AObj.cells [(vI g), (vI e)] 27 false 1)), (Prod.mk 1001 (AObj.cells [(vI m), (vI q), (vI x)] 29 false 1)), (Prod.mk 1002 (AObj.cells [(vI n3), (vI n4)] 32 false 2)), (Prod.mk 1003 (AObj.cells [(vI n6), (vI n7), (vI n8), (vI n9)] 37 false 4)), (Prod.mk 1004 (AObj.cells [(vI n11), (vI n12), (vI n13), (vI n14)] 37 false 4))]))))))))))))))))))))))))))) := by kernel_rfl
abbrev u9 (M Q e f h : Int) : Slots := [(4, P1 1000 0), (5, P1 1001 0), (7, vI M), (8, vI Q), (9, P1 1002 0), (10, vI e), (11, P1 1003 0), (12, vI f), (13, P1 1004 0), (14, vI h)]
abbrev v9 (g e m q x n1 n2 n3 n4 n5 n6 n7 n8 n9 n10 : Int) : Blocks := [oX 1000 g e, oMa 1001 m q x, oF 1002 n1 n2, oG 1003 n3 n4 n5 n6, oG 1004 n7 n8 n9 n10]
def d9 (C : Ct) (L : AtLoop) (g e m q x M Q n1 n2 n3 n4 n5 n6 n7 n8 n9 n10 : Int) (k : List D → Prop) : Prop := jNext Tryz.prog (hS C) L JT 4 30009 .normal (u9 M Q 0 0 0) (v9 g e m q x n1 n2 n3 n4 n5 n6 n7 n8 n9 n10) (dataK k)
theorem d9_text (C : Ct) (L : AtLoop) (g : Int) (e : Int) (m : Int) (q : Int) (x : Int) (M : Int) (Q : Int) (n1 : Int) (n2 : Int) (n3 : Int) (n4 : Int) (n5 : Int) (n6 : Int) (n7 : Int) (n8 : Int) (n9 : Int) (n10 : Int) (k : List D → Prop) : d9 C L g e m q x M Q n1 n2 n3 n4 n5 n6 n7 n8 n9 n10 k =
 (((Says C 25 [(D.agg [(D.val (vI n1)), (D.val (vI n2))])] [(D.val (Value.bool true))]) ∧
 (((Says C 25 [(D.agg [(D.val (vI n3)), (D.val (vI n4))])] [(D.val (Value.bool true))]) ∧
 (((Says C 25 [(D.agg [(D.val (vI n5)), (D.val (vI n6))])] [(D.val (Value.bool true))]) ∧
 (((Says C 25 [(D.agg [(D.val (vI n7)), (D.val (vI n8))])] [(D.val (Value.bool true))]) ∧
 (((Says C 25 [(D.agg [(D.val (vI n9)), (D.val (vI n10))])] [(D.val (Value.bool true))]) ∧
 (L 30010 [(Prod.mk 4 (Go.Value.pointer (Option.some (Go.Addr.mk 1000 0 Option.none)))), (Prod.mk 5 (Go.Value.pointer (Option.some (Go.Addr.mk 1001 0 Option.none)))), (Prod.mk 7 (vI M)), (Prod.mk 8 (vI Q)), (Prod.mk 9 (Go.Value.pointer (Option.some (Go.Addr.mk 1002 0 Option.none)))), (Prod.mk 11 (Go.Value.pointer (Option.some (Go.Addr.mk 1003 0 Option.none)))), (Prod.mk 13 (Go.Value.pointer (Option.some (Go.Addr.mk 1004 0 Option.none)))), (Prod.mk 131 (Value.bool false))] [(Prod.mk 1000 (AObj.cells [(vI g), (vI e)] 27 false 1)), (Prod.mk 1001 (AObj.cells [(vI m), (vI q), (vI x)] 29 false 1)), (Prod.mk 1002 (AObj.cells [(vI n1), (vI n2)] 32 false 2)), (Prod.mk 1003 (AObj.cells [(vI n3), (vI n4), (vI n5), (vI n6)] 37 false 4)), (Prod.mk 1004 (AObj.cells [(vI n7), (vI n8), (vI n9), (vI n10)] 37 false 4))])) ∨
 ((Says C 25 [(D.agg [(D.val (vI n9)), (D.val (vI n10))])] [(D.val (Value.bool false))]) ∧
 (L 30010 [(Prod.mk 4 (Go.Value.pointer (Option.some (Go.Addr.mk 1000 0 Option.none)))), (Prod.mk 5 (Go.Value.pointer (Option.some (Go.Addr.mk 1001 0 Option.none)))), (Prod.mk 7 (vI M)), (Prod.mk 8 (vI Q)), (Prod.mk 9 (Go.Value.pointer (Option.some (Go.Addr.mk 1002 0 Option.none)))), (Prod.mk 11 (Go.Value.pointer (Option.some (Go.Addr.mk 1003 0 Option.none)))), (Prod.mk 13 (Go.Value.pointer (Option.some (Go.Addr.mk 1004 0 Option.none)))), (Prod.mk 131 (Value.bool true))] [(Prod.mk 1000 (AObj.cells [(vI g), (vI e)] 27 false 1)), (Prod.mk 1001 (AObj.cells [(vI m), (vI q), (vI x)] 29 false 1)), (Prod.mk 1002 (AObj.cells [(vI n1), (vI n2)] 32 false 2)), (Prod.mk 1003 (AObj.cells [(vI n3), (vI n4), (vI n5), (vI n6)] 37 false 4)), (Prod.mk 1004 (AObj.cells [(vI n7), (vI n8), (vI n9), (vI n10)] 37 false 4))])))) ∨
 ((Says C 25 [(D.agg [(D.val (vI n7)), (D.val (vI n8))])] [(D.val (Value.bool false))]) ∧
 (L 30010 [(Prod.mk 4 (Go.Value.pointer (Option.some (Go.Addr.mk 1000 0 Option.none)))), (Prod.mk 5 (Go.Value.pointer (Option.some (Go.Addr.mk 1001 0 Option.none)))), (Prod.mk 7 (vI M)), (Prod.mk 8 (vI Q)), (Prod.mk 9 (Go.Value.pointer (Option.some (Go.Addr.mk 1002 0 Option.none)))), (Prod.mk 11 (Go.Value.pointer (Option.some (Go.Addr.mk 1003 0 Option.none)))), (Prod.mk 13 (Go.Value.pointer (Option.some (Go.Addr.mk 1004 0 Option.none)))), (Prod.mk 131 (Value.bool true))] [(Prod.mk 1000 (AObj.cells [(vI g), (vI e)] 27 false 1)), (Prod.mk 1001 (AObj.cells [(vI m), (vI q), (vI x)] 29 false 1)), (Prod.mk 1002 (AObj.cells [(vI n1), (vI n2)] 32 false 2)), (Prod.mk 1003 (AObj.cells [(vI n3), (vI n4), (vI n5), (vI n6)] 37 false 4)), (Prod.mk 1004 (AObj.cells [(vI n7), (vI n8), (vI n9), (vI n10)] 37 false 4))])))) ∨
 ((Says C 25 [(D.agg [(D.val (vI n5)), (D.val (vI n6))])] [(D.val (Value.bool false))]) ∧
 (L 30010 [(Prod.mk 4 (Go.Value.pointer (Option.some (Go.Addr.mk 1000 0 Option.none)))), (Prod.mk 5 (Go.Value.pointer (Option.some (Go.Addr.mk 1001 0 Option.none)))), (Prod.mk 7 (vI M)), (Prod.mk 8 (vI Q)), (Prod.mk 9 (Go.Value.pointer (Option.some (Go.Addr.mk 1002 0 Option.none)))), (Prod.mk 11 (Go.Value.pointer (Option.some (Go.Addr.mk 1003 0 Option.none)))), (Prod.mk 13 (Go.Value.pointer (Option.some (Go.Addr.mk 1004 0 Option.none)))), (Prod.mk 131 (Value.bool true))] [(Prod.mk 1000 (AObj.cells [(vI g), (vI e)] 27 false 1)), (Prod.mk 1001 (AObj.cells [(vI m), (vI q), (vI x)] 29 false 1)), (Prod.mk 1002 (AObj.cells [(vI n1), (vI n2)] 32 false 2)), (Prod.mk 1003 (AObj.cells [(vI n3), (vI n4), (vI n5), (vI n6)] 37 false 4)), (Prod.mk 1004 (AObj.cells [(vI n7), (vI n8), (vI n9), (vI n10)] 37 false 4))])))) ∨
 ((Says C 25 [(D.agg [(D.val (vI n3)), (D.val (vI n4))])] [(D.val (Value.bool false))]) ∧
 (L 30010 [(Prod.mk 4 (Go.Value.pointer (Option.some (Go.Addr.mk 1000 0 Option.none)))), (Prod.mk 5 (Go.Value.pointer (Option.some (Go.Addr.mk 1001 0 Option.none)))), (Prod.mk 7 (vI M)), (Prod.mk 8 (vI Q)), (Prod.mk 9 (Go.Value.pointer (Option.some (Go.Addr.mk 1002 0 Option.none)))), (Prod.mk 11 (Go.Value.pointer (Option.some (Go.Addr.mk 1003 0 Option.none)))), (Prod.mk 13 (Go.Value.pointer (Option.some (Go.Addr.mk 1004 0 Option.none)))), (Prod.mk 131 (Value.bool true))] [(Prod.mk 1000 (AObj.cells [(vI g), (vI e)] 27 false 1)), (Prod.mk 1001 (AObj.cells [(vI m), (vI q), (vI x)] 29 false 1)), (Prod.mk 1002 (AObj.cells [(vI n1), (vI n2)] 32 false 2)), (Prod.mk 1003 (AObj.cells [(vI n3), (vI n4), (vI n5), (vI n6)] 37 false 4)), (Prod.mk 1004 (AObj.cells [(vI n7), (vI n8), (vI n9), (vI n10)] 37 false 4))])))) ∨
 ((Says C 25 [(D.agg [(D.val (vI n1)), (D.val (vI n2))])] [(D.val (Value.bool false))]) ∧
 (L 30010 [(Prod.mk 4 (Go.Value.pointer (Option.some (Go.Addr.mk 1000 0 Option.none)))), (Prod.mk 5 (Go.Value.pointer (Option.some (Go.Addr.mk 1001 0 Option.none)))), (Prod.mk 7 (vI M)), (Prod.mk 8 (vI Q)), (Prod.mk 9 (Go.Value.pointer (Option.some (Go.Addr.mk 1002 0 Option.none)))), (Prod.mk 11 (Go.Value.pointer (Option.some (Go.Addr.mk 1003 0 Option.none)))), (Prod.mk 13 (Go.Value.pointer (Option.some (Go.Addr.mk 1004 0 Option.none)))), (Prod.mk 131 (Value.bool true))] [(Prod.mk 1000 (AObj.cells [(vI g), (vI e)] 27 false 1)), (Prod.mk 1001 (AObj.cells [(vI m), (vI q), (vI x)] 29 false 1)), (Prod.mk 1002 (AObj.cells [(vI n1), (vI n2)] 32 false 2)), (Prod.mk 1003 (AObj.cells [(vI n3), (vI n4), (vI n5), (vI n6)] 37 false 4)), (Prod.mk 1004 (AObj.cells [(vI n7), (vI n8), (vI n9), (vI n10)] 37 false 4))]))) := by kernel_rfl
abbrev u10 (M Q : Int) : Slots := [(4, P1 1000 0), (5, P1 1001 0), (7, vI M), (8, vI Q), (9, P1 1002 0), (11, P1 1003 0), (13, P1 1004 0), (131, .bool false)]
def d10 (C : Ct) (L : AtLoop) (g e m q x M Q n1 n2 n3 n4 n5 n6 n7 n8 n9 n10 : Int) (k : List D → Prop) : Prop := jNext Tryz.prog (hS C) L JT 4 30010 .normal (u10 M Q) (v9 g e m q x n1 n2 n3 n4 n5 n6 n7 n8 n9 n10) (dataK k)
theorem d10_text (C : Ct) (L : AtLoop) (g : Int) (e : Int) (m : Int) (q : Int) (x : Int) (M : Int) (Q : Int) (n1 : Int) (n2 : Int) (n3 : Int) (n4 : Int) (n5 : Int) (n6 : Int) (n7 : Int) (n8 : Int) (n9 : Int) (n10 : Int) (k : List D → Prop) : d10 C L g e m q x M Q n1 n2 n3 n4 n5 n6 n7 n8 n9 n10 k =
 ((((Go.Value.agg [(vI n1), (vI n2)].toArray) = (Go.Value.agg [(vI n1), (vI n2)].toArray)) ∧
 (((Go.Value.agg [(vI n3), (vI n4)].toArray) = (Go.Value.agg [(vI n3), (vI n4)].toArray)) ∧
 (((Go.Value.pointer (Option.some (Go.Addr.mk 1003 0 Option.none))) = (Go.Value.pointer (Option.some (Go.Addr.mk 1003 0 Option.none)))) ∧
 True))) ∧
 (∃ n11 : Int,
 ((Says C 26 [(D.agg [(D.val (vI n3)), (D.val (vI n4))]), (D.agg [(D.val (vI n1)), (D.val (vI n2))])] [(D.val (vI n11))]) ∧
 (bcase (decide (n11 > 0))
 ((((Go.Value.tuple [].toArray) = (Go.Value.tuple [].toArray)) ∧
 (((Go.Value.tuple [].toArray) = (Go.Value.tuple [].toArray)) ∧
 (((Go.Value.tuple [].toArray) = (Go.Value.tuple [].toArray)) ∧
 (((Value.bool true) = (Value.bool true)) ∧
 ((bcase (decide (n11 > 0))
 ((Value.bool true) = (Value.bool true))
 ((Value.bool false) = (Value.bool true))) ∧
 (((Go.Value.pointer (Option.some (Go.Addr.mk 1003 0 Option.none))) = (Go.Value.pointer (Option.some (Go.Addr.mk 1003 0 Option.none)))) ∧
 True)))))) ∧
 ((((Go.Value.tuple [].toArray) = (Go.Value.tuple [].toArray)) ∧
 (((Go.Value.tuple [].toArray) = (Go.Value.tuple [].toArray)) ∧
 (((Go.Value.tuple [].toArray) = (Go.Value.tuple [].toArray)) ∧
 (((Go.Value.tuple [].toArray) = (Go.Value.tuple [].toArray)) ∧
 (((Go.Value.tuple [].toArray) = (Go.Value.tuple [].toArray)) ∧
 (((Go.Value.tuple [].toArray) = (Go.Value.tuple [].toArray)) ∧
 (((Value.bool true) = (Value.bool true)) ∧
 (((Value.bool true) = (Value.bool true)) ∧
 (((Go.Value.tuple [].toArray) = (Go.Value.tuple [].toArray)) ∧
 (((Go.Value.tuple [].toArray) = (Go.Value.tuple [].toArray)) ∧
 ((bcase (decide (n11 > 0))
 ((Value.bool true) = (Value.bool true))
 ((Value.bool false) = (Value.bool true))) ∧
 (((Go.Value.pointer (Option.some (Go.Addr.mk 1003 0 Option.none))) = (Go.Value.pointer (Option.some (Go.Addr.mk 1003 0 Option.none)))) ∧
 True)))))))))))) ∧
 ((((Go.Value.tuple [].toArray) = (Go.Value.tuple [].toArray)) ∧
 (((Go.Value.tuple [].toArray) = (Go.Value.tuple [].toArray)) ∧
 (((Go.Value.tuple [].toArray) = (Go.Value.tuple [].toArray)) ∧
 (((Go.Value.tuple [].toArray) = (Go.Value.tuple [].toArray)) ∧
 (((Go.Value.tuple [].toArray) = (Go.Value.tuple [].toArray)) ∧
 (((Value.bool true) = (Value.bool true)) ∧
 (((Go.Value.tuple [].toArray) = (Go.Value.tuple [].toArray)) ∧
 (((Go.Value.tuple [].toArray) = (Go.Value.tuple [].toArray)) ∧
 ((bcase (decide (n11 > 0))
 ((Value.bool true) = (Value.bool true))
 ((Value.bool false) = (Value.bool true))) ∧
 (((Go.Value.pointer (Option.some (Go.Addr.mk 1003 0 Option.none))) = (Go.Value.pointer (Option.some (Go.Addr.mk 1003 0 Option.none)))) ∧
 True)))))))))) ∧
 ((((Go.Value.tuple [].toArray) = (Go.Value.tuple [].toArray)) ∧
 (((Go.Value.tuple [].toArray) = (Go.Value.tuple [].toArray)) ∧
 (((Go.Value.tuple [].toArray) = (Go.Value.tuple [].toArray)) ∧
 (((Go.Value.tuple [].toArray) = (Go.Value.tuple [].toArray)) ∧
 (((Go.Value.tuple [].toArray) = (Go.Value.tuple [].toArray)) ∧
 (((Go.Value.tuple [].toArray) = (Go.Value.tuple [].toArray)) ∧
 (((Value.bool true) = (Value.bool true)) ∧
 (((Value.bool true) = (Value.bool true)) ∧
 (((Go.Value.tuple [].toArray) = (Go.Value.tuple [].toArray)) ∧
 (((Go.Value.tuple [].toArray) = (Go.Value.tuple [].toArray)) ∧
 (((Go.Value.tuple [].toArray) = (Go.Value.tuple [].toArray)) ∧
 (((Go.Value.tuple [].toArray) = (Go.Value.tuple [].toArray)) ∧
 (((Go.Value.tuple [].toArray) = (Go.Value.tuple [].toArray)) ∧
 (((Value.bool true) = (Value.bool true)) ∧
 (((Go.Value.tuple [].toArray) = (Go.Value.tuple [].toArray)) ∧
 (((Go.Value.tuple [].toArray) = (Go.Value.tuple [].toArray)) ∧
 ((bcase (decide (n11 > 0))
 ((Value.bool true) = (Value.bool true))
 ((Value.bool false) = (Value.bool true))) ∧
 (((Go.Value.pointer (Option.some (Go.Addr.mk 1003 0 Option.none))) = (Go.Value.pointer (Option.some (Go.Addr.mk 1003 0 Option.none)))) ∧
 True)))))))))))))))))) ∧
 ((((Go.Value.tuple [].toArray) = (Go.Value.tuple [].toArray)) ∧
 (((Go.Value.tuple [].toArray) = (Go.Value.tuple [].toArray)) ∧
 (((Go.Value.tuple [].toArray) = (Go.Value.tuple [].toArray)) ∧
 (((Go.Value.tuple [].toArray) = (Go.Value.tuple [].toArray)) ∧
 (((Go.Value.tuple [].toArray) = (Go.Value.tuple [].toArray)) ∧
 (((Value.bool true) = (Value.bool true)) ∧
 (((Go.Value.tuple [].toArray) = (Go.Value.tuple [].toArray)) ∧
 (((Go.Value.tuple [].toArray) = (Go.Value.tuple [].toArray)) ∧
 (((Go.Value.tuple [].toArray) = (Go.Value.tuple [].toArray)) ∧
 (((Go.Value.tuple [].toArray) = (Go.Value.tuple [].toArray)) ∧
 (((Go.Value.tuple [].toArray) = (Go.Value.tuple [].toArray)) ∧
 (((Value.bool true) = (Value.bool true)) ∧
 (((Go.Value.tuple [].toArray) = (Go.Value.tuple [].toArray)) ∧
 (((Go.Value.tuple [].toArray) = (Go.Value.tuple [].toArray)) ∧
 ((bcase (decide (n11 > 0))
 ((Value.bool true) = (Value.bool true))
 ((Value.bool false) = (Value.bool true))) ∧
 (((Go.Value.pointer (Option.some (Go.Addr.mk 1003 0 Option.none))) = (Go.Value.pointer (Option.some (Go.Addr.mk 1003 0 Option.none)))) ∧
 True)))))))))))))))) ∧
 ((((Value.bool true) = (Value.bool true)) ∧
 (((Go.Value.tuple [].toArray) = (Go.Value.tuple [].toArray)) ∧
 (((Go.Value.tuple [].toArray) = (Go.Value.tuple [].toArray)) ∧
 (((Go.Value.tuple [].toArray) = (Go.Value.tuple [].toArray)) ∧
 (((Go.Value.tuple [].toArray) = (Go.Value.tuple [].toArray)) ∧
 (((Go.Value.tuple [].toArray) = (Go.Value.tuple [].toArray)) ∧
 (((Value.bool true) = (Value.bool true)) ∧
 (((Go.Value.tuple [].toArray) = (Go.Value.tuple [].toArray)) ∧
 (((Go.Value.tuple [].toArray) = (Go.Value.tuple [].toArray)) ∧
 (((Go.Value.tuple [].toArray) = (Go.Value.tuple [].toArray)) ∧
 (((Go.Value.tuple [].toArray) = (Go.Value.tuple [].toArray)) ∧
 (((Go.Value.tuple [].toArray) = (Go.Value.tuple [].toArray)) ∧
 (((Value.bool true) = (Value.bool true)) ∧
 (((Go.Value.tuple [].toArray) = (Go.Value.tuple [].toArray)) ∧
 (((Go.Value.tuple [].toArray) = (Go.Value.tuple [].toArray)) ∧
 ((bcase (decide (n11 > 0))
 ((Value.bool true) = (Value.bool true))
 ((Value.bool false) = (Value.bool true))) ∧
 (((Go.Value.pointer (Option.some (Go.Addr.mk 1003 0 Option.none))) = (Go.Value.pointer (Option.some (Go.Addr.mk 1003 0 Option.none)))) ∧
 True))))))))))))))))) ∧
 (L 30012 [(Prod.mk 4 (Go.Value.pointer (Option.some (Go.Addr.mk 1000 0 Option.none)))), (Prod.mk 5 (Go.Value.pointer (Option.some (Go.Addr.mk 1001 0 Option.none)))), (Prod.mk 7 (vI M)), (Prod.mk 8 (vI Q)), (Prod.mk 13 (Go.Value.pointer (Option.some (Go.Addr.mk 1002 0 Option.none)))), (Prod.mk 165 (Value.bool true))] [(Prod.mk 1000 (AObj.cells [(vI g), (vI e)] 27 false 1)), (Prod.mk 1001 (AObj.cells [(vI m), (vI q), (vI x)] 29 false 1)), (Prod.mk 1002 (AObj.cells [(vI n7), (vI n8), (vI n9), (vI n10)] 37 false 4))])))))))
 ((((Go.Value.agg [(vI n5), (vI n6)].toArray) = (Go.Value.agg [(vI n5), (vI n6)].toArray)) ∧
 (((Go.Value.pointer (Option.some (Go.Addr.mk 1003 2 Option.none))) = (Go.Value.pointer (Option.some (Go.Addr.mk 1003 2 Option.none)))) ∧
 (((Go.Value.agg [(vI n1), (vI n2)].toArray) = (Go.Value.agg [(vI n1), (vI n2)].toArray)) ∧
 (((Value.bool false) = (Value.bool false)) ∧
 ((bcase (decide (n11 > 0))
 ((Value.bool true) = (Value.bool false))
 ((Value.bool false) = (Value.bool false))) ∧
 (((Go.Value.pointer (Option.some (Go.Addr.mk 1003 0 Option.none))) = (Go.Value.pointer (Option.some (Go.Addr.mk 1003 0 Option.none)))) ∧
 True)))))) ∧
 (∃ n12 : Int,
 ((Says C 26 [(D.agg [(D.val (vI n1)), (D.val (vI n2))]), (D.agg [(D.val (vI n5)), (D.val (vI n6))])] [(D.val (vI n12))]) ∧
 (bcase (decide (n12 > 0))
 ((((Go.Value.tuple [].toArray) = (Go.Value.tuple [].toArray)) ∧
 (((Go.Value.tuple [].toArray) = (Go.Value.tuple [].toArray)) ∧
 (((Go.Value.tuple [].toArray) = (Go.Value.tuple [].toArray)) ∧
 (((Go.Value.tuple [].toArray) = (Go.Value.tuple [].toArray)) ∧
 (((Go.Value.tuple [].toArray) = (Go.Value.tuple [].toArray)) ∧
 (((Go.Value.tuple [].toArray) = (Go.Value.tuple [].toArray)) ∧
 (((Value.bool true) = (Value.bool true)) ∧
 (((Value.bool true) = (Value.bool true)) ∧
 ((bcase (decide (n12 > 0))
 ((Value.bool true) = (Value.bool true))
 ((Value.bool false) = (Value.bool true))) ∧
 (((Go.Value.pointer (Option.some (Go.Addr.mk 1003 2 Option.none))) = (Go.Value.pointer (Option.some (Go.Addr.mk 1003 2 Option.none)))) ∧
 ((bcase (decide (n11 > 0))
 ((Value.bool true) = (Value.bool false))
 ((Value.bool false) = (Value.bool false))) ∧
 (((Go.Value.pointer (Option.some (Go.Addr.mk 1003 0 Option.none))) = (Go.Value.pointer (Option.some (Go.Addr.mk 1003 0 Option.none)))) ∧
 True)))))))))))) ∧
 ((((Go.Value.tuple [].toArray) = (Go.Value.tuple [].toArray)) ∧
 (((Go.Value.tuple [].toArray) = (Go.Value.tuple [].toArray)) ∧
 (((Go.Value.tuple [].toArray) = (Go.Value.tuple [].toArray)) ∧
 (((Go.Value.tuple [].toArray) = (Go.Value.tuple [].toArray)) ∧
 (((Go.Value.tuple [].toArray) = (Go.Value.tuple [].toArray)) ∧
 (((Value.bool true) = (Value.bool true)) ∧
 ((bcase (decide (n12 > 0))
 ((Value.bool true) = (Value.bool true))
 ((Value.bool false) = (Value.bool true))) ∧
 (((Go.Value.pointer (Option.some (Go.Addr.mk 1003 2 Option.none))) = (Go.Value.pointer (Option.some (Go.Addr.mk 1003 2 Option.none)))) ∧
 ((bcase (decide (n11 > 0))
 ((Value.bool true) = (Value.bool false))
 ((Value.bool false) = (Value.bool false))) ∧
 (((Go.Value.pointer (Option.some (Go.Addr.mk 1003 0 Option.none))) = (Go.Value.pointer (Option.some (Go.Addr.mk 1003 0 Option.none)))) ∧
 True)))))))))) ∧
 ((((Go.Value.tuple [].toArray) = (Go.Value.tuple [].toArray)) ∧
 (((Go.Value.tuple [].toArray) = (Go.Value.tuple [].toArray)) ∧
 (((Go.Value.tuple [].toArray) = (Go.Value.tuple [].toArray)) ∧
 (((Go.Value.tuple [].toArray) = (Go.Value.tuple [].toArray)) ∧
 (((Go.Value.tuple [].toArray) = (Go.Value.tuple [].toArray)) ∧
 (((Go.Value.tuple [].toArray) = (Go.Value.tuple [].toArray)) ∧
 (((Value.bool true) = (Value.bool true)) ∧
 (((Value.bool true) = (Value.bool true)) ∧
 (((Go.Value.tuple [].toArray) = (Go.Value.tuple [].toArray)) ∧
 (((Go.Value.tuple [].toArray) = (Go.Value.tuple [].toArray)) ∧
 (((Go.Value.tuple [].toArray) = (Go.Value.tuple [].toArray)) ∧
 (((Go.Value.tuple [].toArray) = (Go.Value.tuple [].toArray)) ∧
 (((Go.Value.tuple [].toArray) = (Go.Value.tuple [].toArray)) ∧
 (((Value.bool true) = (Value.bool true)) ∧
 ((bcase (decide (n12 > 0))
 ((Value.bool true) = (Value.bool true))
 ((Value.bool false) = (Value.bool true))) ∧
 (((Go.Value.pointer (Option.some (Go.Addr.mk 1003 2 Option.none))) = (Go.Value.pointer (Option.some (Go.Addr.mk 1003 2 Option.none)))) ∧
 ((bcase (decide (n11 > 0))
 ((Value.bool true) = (Value.bool false))
 ((Value.bool false) = (Value.bool false))) ∧
 (((Go.Value.pointer (Option.some (Go.Addr.mk 1003 0 Option.none))) = (Go.Value.pointer (Option.some (Go.Addr.mk 1003 0 Option.none)))) ∧
 True)))))))))))))))))) ∧
 ((((Go.Value.tuple [].toArray) = (Go.Value.tuple [].toArray)) ∧
 (((Go.Value.tuple [].toArray) = (Go.Value.tuple [].toArray)) ∧
 (((Go.Value.tuple [].toArray) = (Go.Value.tuple [].toArray)) ∧
 (((Go.Value.tuple [].toArray) = (Go.Value.tuple [].toArray)) ∧
 (((Go.Value.tuple [].toArray) = (Go.Value.tuple [].toArray)) ∧
 (((Value.bool true) = (Value.bool true)) ∧
 (((Go.Value.tuple [].toArray) = (Go.Value.tuple [].toArray)) ∧
 (((Go.Value.tuple [].toArray) = (Go.Value.tuple [].toArray)) ∧
 (((Go.Value.tuple [].toArray) = (Go.Value.tuple [].toArray)) ∧
 (((Go.Value.tuple [].toArray) = (Go.Value.tuple [].toArray)) ∧
 (((Go.Value.tuple [].toArray) = (Go.Value.tuple [].toArray)) ∧
 (((Value.bool true) = (Value.bool true)) ∧
 ((bcase (decide (n12 > 0))
 ((Value.bool true) = (Value.bool true))
 ((Value.bool false) = (Value.bool true))) ∧
 (((Go.Value.pointer (Option.some (Go.Addr.mk 1003 2 Option.none))) = (Go.Value.pointer (Option.some (Go.Addr.mk 1003 2 Option.none)))) ∧
 ((bcase (decide (n11 > 0))
 ((Value.bool true) = (Value.bool false))
 ((Value.bool false) = (Value.bool false))) ∧
 (((Go.Value.pointer (Option.some (Go.Addr.mk 1003 0 Option.none))) = (Go.Value.pointer (Option.some (Go.Addr.mk 1003 0 Option.none)))) ∧
 True)))))))))))))))) ∧
 ((((Value.bool true) = (Value.bool true)) ∧
 (((Go.Value.tuple [].toArray) = (Go.Value.tuple [].toArray)) ∧
 (((Go.Value.tuple [].toArray) = (Go.Value.tuple [].toArray)) ∧
 (((Go.Value.tuple [].toArray) = (Go.Value.tuple [].toArray)) ∧
 (((Go.Value.tuple [].toArray) = (Go.Value.tuple [].toArray)) ∧
 (((Go.Value.tuple [].toArray) = (Go.Value.tuple [].toArray)) ∧
 (((Value.bool true) = (Value.bool true)) ∧
 (((Go.Value.tuple [].toArray) = (Go.Value.tuple [].toArray)) ∧
 (((Go.Value.tuple [].toArray) = (Go.Value.tuple [].toArray)) ∧
 (((Go.Value.tuple [].toArray) = (Go.Value.tuple [].toArray)) ∧
 (((Go.Value.tuple [].toArray) = (Go.Value.tuple [].toArray)) ∧
 (((Go.Value.tuple [].toArray) = (Go.Value.tuple [].toArray)) ∧
 (((Value.bool true) = (Value.bool true)) ∧
 ((bcase (decide (n12 > 0))
 ((Value.bool true) = (Value.bool true))
 ((Value.bool false) = (Value.bool true))) ∧
 (((Go.Value.pointer (Option.some (Go.Addr.mk 1003 2 Option.none))) = (Go.Value.pointer (Option.some (Go.Addr.mk 1003 2 Option.none)))) ∧
 ((bcase (decide (n11 > 0))
 ((Value.bool true) = (Value.bool false))
 ((Value.bool false) = (Value.bool false))) ∧
 (((Go.Value.pointer (Option.some (Go.Addr.mk 1003 0 Option.none))) = (Go.Value.pointer (Option.some (Go.Addr.mk 1003 0 Option.none)))) ∧
 True))))))))))))))))) ∧
 (L 30012 [(Prod.mk 4 (Go.Value.pointer (Option.some (Go.Addr.mk 1000 0 Option.none)))), (Prod.mk 5 (Go.Value.pointer (Option.some (Go.Addr.mk 1001 0 Option.none)))), (Prod.mk 7 (vI M)), (Prod.mk 8 (vI Q)), (Prod.mk 13 (Go.Value.pointer (Option.some (Go.Addr.mk 1002 0 Option.none)))), (Prod.mk 165 (Value.bool true))] [(Prod.mk 1000 (AObj.cells [(vI g), (vI e)] 27 false 1)), (Prod.mk 1001 (AObj.cells [(vI m), (vI q), (vI x)] 29 false 1)), (Prod.mk 1002 (AObj.cells [(vI n7), (vI n8), (vI n9), (vI n10)] 37 false 4))]))))))
 ((((vI (if e < g then e else g)) = (vI (if e < g then e else g))) ∧
 (((vI e) = (vI e)) ∧
 (((Go.Value.pointer (Option.some (Go.Addr.mk 1000 1 Option.none))) = (Go.Value.pointer (Option.some (Go.Addr.mk 1000 1 Option.none)))) ∧
 (((vI g) = (vI g)) ∧
 (((Go.Value.pointer (Option.some (Go.Addr.mk 1000 0 Option.none))) = (Go.Value.pointer (Option.some (Go.Addr.mk 1000 0 Option.none)))) ∧
 (((Go.Value.agg [(vI n1), (vI n2)].toArray) = (Go.Value.agg [(vI n1), (vI n2)].toArray)) ∧
 (((Value.bool false) = (Value.bool false)) ∧
 (((Value.bool false) = (Value.bool false)) ∧
 ((bcase (decide (n12 > 0))
 ((Value.bool true) = (Value.bool false))
 ((Value.bool false) = (Value.bool false))) ∧
 (((Go.Value.pointer (Option.some (Go.Addr.mk 1003 2 Option.none))) = (Go.Value.pointer (Option.some (Go.Addr.mk 1003 2 Option.none)))) ∧
 ((bcase (decide (n11 > 0))
 ((Value.bool true) = (Value.bool false))
 ((Value.bool false) = (Value.bool false))) ∧
 (((Go.Value.pointer (Option.some (Go.Addr.mk 1003 0 Option.none))) = (Go.Value.pointer (Option.some (Go.Addr.mk 1003 0 Option.none)))) ∧
 True)))))))))))) ∧
 ((((vI e) = (vI e)) ∧
 (((Go.Value.pointer (Option.some (Go.Addr.mk 1000 1 Option.none))) = (Go.Value.pointer (Option.some (Go.Addr.mk 1000 1 Option.none)))) ∧
 (((vI g) = (vI g)) ∧
 (((Go.Value.pointer (Option.some (Go.Addr.mk 1000 0 Option.none))) = (Go.Value.pointer (Option.some (Go.Addr.mk 1000 0 Option.none)))) ∧
 (((Go.Value.agg [(vI n1), (vI n2)].toArray) = (Go.Value.agg [(vI n1), (vI n2)].toArray)) ∧
 (((Value.bool false) = (Value.bool false)) ∧
 ((bcase (decide (n12 > 0))
 ((Value.bool true) = (Value.bool false))
 ((Value.bool false) = (Value.bool false))) ∧
 (((Go.Value.pointer (Option.some (Go.Addr.mk 1003 2 Option.none))) = (Go.Value.pointer (Option.some (Go.Addr.mk 1003 2 Option.none)))) ∧
 ((bcase (decide (n11 > 0))
 ((Value.bool true) = (Value.bool false))
 ((Value.bool false) = (Value.bool false))) ∧
 (((Go.Value.pointer (Option.some (Go.Addr.mk 1003 0 Option.none))) = (Go.Value.pointer (Option.some (Go.Addr.mk 1003 0 Option.none)))) ∧
 True)))))))))) ∧
 (∃ n13 : Int,
 ((Says C 26 [(D.agg [(D.val (vI n1)), (D.val (vI n2))]), (D.agg [(D.val (vI (if e < g then e else g))), (D.val (vI (1 : Int)))])] [(D.val (vI n13))]) ∧
 (bcase (decide (n13 < 0))
 ((((Go.Value.tuple [].toArray) = (Go.Value.tuple [].toArray)) ∧
 (((Go.Value.tuple [].toArray) = (Go.Value.tuple [].toArray)) ∧
 (((Go.Value.tuple [].toArray) = (Go.Value.tuple [].toArray)) ∧
 (((Go.Value.tuple [].toArray) = (Go.Value.tuple [].toArray)) ∧
 (((Go.Value.tuple [].toArray) = (Go.Value.tuple [].toArray)) ∧
 (((Go.Value.tuple [].toArray) = (Go.Value.tuple [].toArray)) ∧
 (((Value.bool true) = (Value.bool true)) ∧
 (((Value.bool true) = (Value.bool true)) ∧
 ((bcase (decide (n13 < 0))
 ((Value.bool true) = (Value.bool true))
 ((Value.bool false) = (Value.bool true))) ∧
 (((vI e) = (vI e)) ∧
 (((Go.Value.pointer (Option.some (Go.Addr.mk 1000 1 Option.none))) = (Go.Value.pointer (Option.some (Go.Addr.mk 1000 1 Option.none)))) ∧
 (((vI g) = (vI g)) ∧
 (((Go.Value.pointer (Option.some (Go.Addr.mk 1000 0 Option.none))) = (Go.Value.pointer (Option.some (Go.Addr.mk 1000 0 Option.none)))) ∧
 (((Value.bool false) = (Value.bool false)) ∧
 ((bcase (decide (n12 > 0))
 ((Value.bool true) = (Value.bool false))
 ((Value.bool false) = (Value.bool false))) ∧
 (((Go.Value.pointer (Option.some (Go.Addr.mk 1003 2 Option.none))) = (Go.Value.pointer (Option.some (Go.Addr.mk 1003 2 Option.none)))) ∧
 ((bcase (decide (n11 > 0))
 ((Value.bool true) = (Value.bool false))
 ((Value.bool false) = (Value.bool false))) ∧
 (((Go.Value.pointer (Option.some (Go.Addr.mk 1003 0 Option.none))) = (Go.Value.pointer (Option.some (Go.Addr.mk 1003 0 Option.none)))) ∧
 True)))))))))))))))))) ∧
 ((((Go.Value.tuple [].toArray) = (Go.Value.tuple [].toArray)) ∧
 (((Go.Value.tuple [].toArray) = (Go.Value.tuple [].toArray)) ∧
 (((Go.Value.tuple [].toArray) = (Go.Value.tuple [].toArray)) ∧
 (((Go.Value.tuple [].toArray) = (Go.Value.tuple [].toArray)) ∧
 (((Go.Value.tuple [].toArray) = (Go.Value.tuple [].toArray)) ∧
 (((Value.bool true) = (Value.bool true)) ∧
 ((bcase (decide (n13 < 0))
 ((Value.bool true) = (Value.bool true))
 ((Value.bool false) = (Value.bool true))) ∧
 (((vI e) = (vI e)) ∧
 (((Go.Value.pointer (Option.some (Go.Addr.mk 1000 1 Option.none))) = (Go.Value.pointer (Option.some (Go.Addr.mk 1000 1 Option.none)))) ∧
 (((vI g) = (vI g)) ∧
 (((Go.Value.pointer (Option.some (Go.Addr.mk 1000 0 Option.none))) = (Go.Value.pointer (Option.some (Go.Addr.mk 1000 0 Option.none)))) ∧
 (((Value.bool false) = (Value.bool false)) ∧
 ((bcase (decide (n12 > 0))
 ((Value.bool true) = (Value.bool false))
 ((Value.bool false) = (Value.bool false))) ∧
 (((Go.Value.pointer (Option.some (Go.Addr.mk 1003 2 Option.none))) = (Go.Value.pointer (Option.some (Go.Addr.mk 1003 2 Option.none)))) ∧
 ((bcase (decide (n11 > 0))
 ((Value.bool true) = (Value.bool false))
 ((Value.bool false) = (Value.bool false))) ∧
 (((Go.Value.pointer (Option.some (Go.Addr.mk 1003 0 Option.none))) = (Go.Value.pointer (Option.some (Go.Addr.mk 1003 0 Option.none)))) ∧
 True)))))))))))))))) ∧
 ((((Value.bool true) = (Value.bool true)) ∧
 (((Go.Value.tuple [].toArray) = (Go.Value.tuple [].toArray)) ∧
 (((Go.Value.tuple [].toArray) = (Go.Value.tuple [].toArray)) ∧
 (((Go.Value.tuple [].toArray) = (Go.Value.tuple [].toArray)) ∧
 (((Go.Value.tuple [].toArray) = (Go.Value.tuple [].toArray)) ∧
 (((Go.Value.tuple [].toArray) = (Go.Value.tuple [].toArray)) ∧
 (((Value.bool true) = (Value.bool true)) ∧
 ((bcase (decide (n13 < 0))
 ((Value.bool true) = (Value.bool true))
 ((Value.bool false) = (Value.bool true))) ∧
 (((vI e) = (vI e)) ∧
 (((Go.Value.pointer (Option.some (Go.Addr.mk 1000 1 Option.none))) = (Go.Value.pointer (Option.some (Go.Addr.mk 1000 1 Option.none)))) ∧
 (((vI g) = (vI g)) ∧
 (((Go.Value.pointer (Option.some (Go.Addr.mk 1000 0 Option.none))) = (Go.Value.pointer (Option.some (Go.Addr.mk 1000 0 Option.none)))) ∧
 (((Value.bool false) = (Value.bool false)) ∧
 ((bcase (decide (n12 > 0))
 ((Value.bool true) = (Value.bool false))
 ((Value.bool false) = (Value.bool false))) ∧
 (((Go.Value.pointer (Option.some (Go.Addr.mk 1003 2 Option.none))) = (Go.Value.pointer (Option.some (Go.Addr.mk 1003 2 Option.none)))) ∧
 ((bcase (decide (n11 > 0))
 ((Value.bool true) = (Value.bool false))
 ((Value.bool false) = (Value.bool false))) ∧
 (((Go.Value.pointer (Option.some (Go.Addr.mk 1003 0 Option.none))) = (Go.Value.pointer (Option.some (Go.Addr.mk 1003 0 Option.none)))) ∧
 True))))))))))))))))) ∧
 (L 30012 [(Prod.mk 4 (Go.Value.pointer (Option.some (Go.Addr.mk 1000 0 Option.none)))), (Prod.mk 5 (Go.Value.pointer (Option.some (Go.Addr.mk 1001 0 Option.none)))), (Prod.mk 7 (vI M)), (Prod.mk 8 (vI Q)), (Prod.mk 13 (Go.Value.pointer (Option.some (Go.Addr.mk 1002 0 Option.none)))), (Prod.mk 165 (Value.bool true))] [(Prod.mk 1000 (AObj.cells [(vI g), (vI e)] 27 false 1)), (Prod.mk 1001 (AObj.cells [(vI m), (vI q), (vI x)] 29 false 1)), (Prod.mk 1002 (AObj.cells [(vI n7), (vI n8), (vI n9), (vI n10)] 37 false 4))]))))
 ((((vI (if e > g then e else g)) = (vI (if e > g then e else g))) ∧
 (((vI e) = (vI e)) ∧
 (((Go.Value.pointer (Option.some (Go.Addr.mk 1000 1 Option.none))) = (Go.Value.pointer (Option.some (Go.Addr.mk 1000 1 Option.none)))) ∧
 (((vI g) = (vI g)) ∧
 (((Go.Value.pointer (Option.some (Go.Addr.mk 1000 0 Option.none))) = (Go.Value.pointer (Option.some (Go.Addr.mk 1000 0 Option.none)))) ∧
 (((Go.Value.agg [(vI n1), (vI n2)].toArray) = (Go.Value.agg [(vI n1), (vI n2)].toArray)) ∧
 (((Value.bool false) = (Value.bool false)) ∧
 (((Value.bool false) = (Value.bool false)) ∧
 ((bcase (decide (n13 < 0))
 ((Value.bool true) = (Value.bool false))
 ((Value.bool false) = (Value.bool false))) ∧
 (((vI e) = (vI e)) ∧
 (((Go.Value.pointer (Option.some (Go.Addr.mk 1000 1 Option.none))) = (Go.Value.pointer (Option.some (Go.Addr.mk 1000 1 Option.none)))) ∧
 (((vI g) = (vI g)) ∧
 (((Go.Value.pointer (Option.some (Go.Addr.mk 1000 0 Option.none))) = (Go.Value.pointer (Option.some (Go.Addr.mk 1000 0 Option.none)))) ∧
 (((Value.bool false) = (Value.bool false)) ∧
 ((bcase (decide (n12 > 0))
 ((Value.bool true) = (Value.bool false))
 ((Value.bool false) = (Value.bool false))) ∧
 (((Go.Value.pointer (Option.some (Go.Addr.mk 1003 2 Option.none))) = (Go.Value.pointer (Option.some (Go.Addr.mk 1003 2 Option.none)))) ∧
 ((bcase (decide (n11 > 0))
 ((Value.bool true) = (Value.bool false))
 ((Value.bool false) = (Value.bool false))) ∧
 (((Go.Value.pointer (Option.some (Go.Addr.mk 1003 0 Option.none))) = (Go.Value.pointer (Option.some (Go.Addr.mk 1003 0 Option.none)))) ∧
 True)))))))))))))))))) ∧
 ((((vI e) = (vI e)) ∧
 (((Go.Value.pointer (Option.some (Go.Addr.mk 1000 1 Option.none))) = (Go.Value.pointer (Option.some (Go.Addr.mk 1000 1 Option.none)))) ∧
 (((vI g) = (vI g)) ∧
 (((Go.Value.pointer (Option.some (Go.Addr.mk 1000 0 Option.none))) = (Go.Value.pointer (Option.some (Go.Addr.mk 1000 0 Option.none)))) ∧
 (((Go.Value.agg [(vI n1), (vI n2)].toArray) = (Go.Value.agg [(vI n1), (vI n2)].toArray)) ∧
 (((Value.bool false) = (Value.bool false)) ∧
 ((bcase (decide (n13 < 0))
 ((Value.bool true) = (Value.bool false))
 ((Value.bool false) = (Value.bool false))) ∧
 (((vI e) = (vI e)) ∧
 (((Go.Value.pointer (Option.some (Go.Addr.mk 1000 1 Option.none))) = (Go.Value.pointer (Option.some (Go.Addr.mk 1000 1 Option.none)))) ∧
 (((vI g) = (vI g)) ∧
 (((Go.Value.pointer (Option.some (Go.Addr.mk 1000 0 Option.none))) = (Go.Value.pointer (Option.some (Go.Addr.mk 1000 0 Option.none)))) ∧
 (((Value.bool false) = (Value.bool false)) ∧
 ((bcase (decide (n12 > 0))
 ((Value.bool true) = (Value.bool false))
 ((Value.bool false) = (Value.bool false))) ∧
 (((Go.Value.pointer (Option.some (Go.Addr.mk 1003 2 Option.none))) = (Go.Value.pointer (Option.some (Go.Addr.mk 1003 2 Option.none)))) ∧
 ((bcase (decide (n11 > 0))
 ((Value.bool true) = (Value.bool false))
 ((Value.bool false) = (Value.bool false))) ∧
 (((Go.Value.pointer (Option.some (Go.Addr.mk 1003 0 Option.none))) = (Go.Value.pointer (Option.some (Go.Addr.mk 1003 0 Option.none)))) ∧
 True)))))))))))))))) ∧
 (∃ n14 : Int,
 ((Says C 26 [(D.agg [(D.val (vI n1)), (D.val (vI n2))]), (D.agg [(D.val (vI (if e > g then e else g))), (D.val (vI (1 : Int)))])] [(D.val (vI n14))]) ∧
 (bcase (decide (n14 > 0))
 ((((Value.bool true) = (Value.bool true)) ∧
 ((bcase (decide (n14 > 0))
 ((Value.bool true) = (Value.bool true))
 ((Value.bool false) = (Value.bool true))) ∧
 (((vI e) = (vI e)) ∧
 (((Go.Value.pointer (Option.some (Go.Addr.mk 1000 1 Option.none))) = (Go.Value.pointer (Option.some (Go.Addr.mk 1000 1 Option.none)))) ∧
 (((vI g) = (vI g)) ∧
 (((Go.Value.pointer (Option.some (Go.Addr.mk 1000 0 Option.none))) = (Go.Value.pointer (Option.some (Go.Addr.mk 1000 0 Option.none)))) ∧
 (((Value.bool false) = (Value.bool false)) ∧
 ((bcase (decide (n13 < 0))
 ((Value.bool true) = (Value.bool false))
 ((Value.bool false) = (Value.bool false))) ∧
 (((vI e) = (vI e)) ∧
 (((Go.Value.pointer (Option.some (Go.Addr.mk 1000 1 Option.none))) = (Go.Value.pointer (Option.some (Go.Addr.mk 1000 1 Option.none)))) ∧
 (((vI g) = (vI g)) ∧
 (((Go.Value.pointer (Option.some (Go.Addr.mk 1000 0 Option.none))) = (Go.Value.pointer (Option.some (Go.Addr.mk 1000 0 Option.none)))) ∧
 (((Value.bool false) = (Value.bool false)) ∧
 ((bcase (decide (n12 > 0))
 ((Value.bool true) = (Value.bool false))
 ((Value.bool false) = (Value.bool false))) ∧
 (((Go.Value.pointer (Option.some (Go.Addr.mk 1003 2 Option.none))) = (Go.Value.pointer (Option.some (Go.Addr.mk 1003 2 Option.none)))) ∧
 ((bcase (decide (n11 > 0))
 ((Value.bool true) = (Value.bool false))
 ((Value.bool false) = (Value.bool false))) ∧
 (((Go.Value.pointer (Option.some (Go.Addr.mk 1003 0 Option.none))) = (Go.Value.pointer (Option.some (Go.Addr.mk 1003 0 Option.none)))) ∧
 True))))))))))))))))) ∧
 (L 30012 [(Prod.mk 4 (Go.Value.pointer (Option.some (Go.Addr.mk 1000 0 Option.none)))), (Prod.mk 5 (Go.Value.pointer (Option.some (Go.Addr.mk 1001 0 Option.none)))), (Prod.mk 7 (vI M)), (Prod.mk 8 (vI Q)), (Prod.mk 13 (Go.Value.pointer (Option.some (Go.Addr.mk 1002 0 Option.none)))), (Prod.mk 165 (Value.bool true))] [(Prod.mk 1000 (AObj.cells [(vI g), (vI e)] 27 false 1)), (Prod.mk 1001 (AObj.cells [(vI m), (vI q), (vI x)] 29 false 1)), (Prod.mk 1002 (AObj.cells [(vI n7), (vI n8), (vI n9), (vI n10)] 37 false 4))]))
 ((((Value.bool false) = (Value.bool false)) ∧
 ((bcase (decide (n14 > 0))
 ((Value.bool true) = (Value.bool false))
 ((Value.bool false) = (Value.bool false))) ∧
 (((vI e) = (vI e)) ∧
 (((Go.Value.pointer (Option.some (Go.Addr.mk 1000 1 Option.none))) = (Go.Value.pointer (Option.some (Go.Addr.mk 1000 1 Option.none)))) ∧
 (((vI g) = (vI g)) ∧
 (((Go.Value.pointer (Option.some (Go.Addr.mk 1000 0 Option.none))) = (Go.Value.pointer (Option.some (Go.Addr.mk 1000 0 Option.none)))) ∧
 (((Value.bool false) = (Value.bool false)) ∧
 ((bcase (decide (n13 < 0))
 ((Value.bool true) = (Value.bool false))
 ((Value.bool false) = (Value.bool false))) ∧
 (((vI e) = (vI e)) ∧
 (((Go.Value.pointer (Option.some (Go.Addr.mk 1000 1 Option.none))) = (Go.Value.pointer (Option.some (Go.Addr.mk 1000 1 Option.none)))) ∧
 (((vI g) = (vI g)) ∧
 (((Go.Value.pointer (Option.some (Go.Addr.mk 1000 0 Option.none))) = (Go.Value.pointer (Option.some (Go.Addr.mk 1000 0 Option.none)))) ∧
 (((Value.bool false) = (Value.bool false)) ∧
 ((bcase (decide (n12 > 0))
 ((Value.bool true) = (Value.bool false))
 ((Value.bool false) = (Value.bool false))) ∧
 (((Go.Value.pointer (Option.some (Go.Addr.mk 1003 2 Option.none))) = (Go.Value.pointer (Option.some (Go.Addr.mk 1003 2 Option.none)))) ∧
 ((bcase (decide (n11 > 0))
 ((Value.bool true) = (Value.bool false))
 ((Value.bool false) = (Value.bool false))) ∧
 (((Go.Value.pointer (Option.some (Go.Addr.mk 1003 0 Option.none))) = (Go.Value.pointer (Option.some (Go.Addr.mk 1003 0 Option.none)))) ∧
 True))))))))))))))))) ∧
 (L 30012 [(Prod.mk 4 (Go.Value.pointer (Option.some (Go.Addr.mk 1000 0 Option.none)))), (Prod.mk 5 (Go.Value.pointer (Option.some (Go.Addr.mk 1001 0 Option.none)))), (Prod.mk 7 (vI M)), (Prod.mk 8 (vI Q)), (Prod.mk 13 (Go.Value.pointer (Option.some (Go.Addr.mk 1002 0 Option.none)))), (Prod.mk 165 (Value.bool false))] [(Prod.mk 1000 (AObj.cells [(vI g), (vI e)] 27 false 1)), (Prod.mk 1001 (AObj.cells [(vI m), (vI q), (vI x)] 29 false 1)), (Prod.mk 1002 (AObj.cells [(vI n7), (vI n8), (vI n9), (vI n10)] 37 false 4))])))))))))))))))))))) := by kernel_rfl
abbrev u12 (M Q : Int) : Slots := [(4, P1 1000 0), (5, P1 1001 0), (7, vI M), (8, vI Q), (13, P1 1002 0), (165, .bool false)]
abbrev v12 (g e m q x n7 n8 n9 n10 : Int) : Blocks := [oX 1000 g e, oMa 1001 m q x, oG 1002 n7 n8 n9 n10]
def d12 (C : Ct) (L : AtLoop) (g e m q x M Q n7 n8 n9 n10 : Int) (k : List D → Prop) : Prop := jNext Tryz.prog (hS C) L JT 4 30012 .normal (u12 M Q) (v12 g e m q x n7 n8 n9 n10) (dataK k)
theorem d12_text (C : Ct) (L : AtLoop) (g : Int) (e : Int) (m : Int) (q : Int) (x : Int) (M : Int) (Q : Int) (n7 : Int) (n8 : Int) (n9 : Int) (n10 : Int) (k : List D → Prop) : d12 C L g e m q x M Q n7 n8 n9 n10 k =
 (∃ n1 : Int,
 (∃ n2 : Int,
 ((Says C 28 [(D.val (vI (IntKind.wrap .i64 (IntKind.wrap .i64 (M * x) - IntKind.wrap .i64 (Q * IntKind.wrap .i64 (e - x)))))), (D.val (vI M))] [(D.agg [(D.val (vI n1)), (D.val (vI n2))])]) ∧
 (∃ n3 : Int,
 ((Says C 26 [(D.agg [(D.val (vI n7)), (D.val (vI n8))]), (D.agg [(D.val (vI n1)), (D.val (vI n2))])] [(D.val (vI n3))]) ∧
 (bcase (decide (n3 > 0))
 (L 30015 [(Prod.mk 4 (Go.Value.pointer (Option.some (Go.Addr.mk 1000 0 Option.none)))), (Prod.mk 5 (Go.Value.pointer (Option.some (Go.Addr.mk 1001 0 Option.none)))), (Prod.mk 7 (vI M)), (Prod.mk 8 (vI Q)), (Prod.mk 15 (Go.Value.pointer (Option.some (Go.Addr.mk 1002 0 Option.none)))), (Prod.mk 191 (Value.bool true))] [(Prod.mk 1000 (AObj.cells [(vI g), (vI e)] 27 false 1)), (Prod.mk 1001 (AObj.cells [(vI m), (vI q), (vI x)] 29 false 1)), (Prod.mk 1002 (AObj.cells [(vI n1), (vI n2)] 32 false 2))])
 (∃ n4 : Int,
 ((Says C 26 [(D.agg [(D.val (vI n1)), (D.val (vI n2))]), (D.agg [(D.val (vI n9)), (D.val (vI n10))])] [(D.val (vI n4))]) ∧
 (bcase (decide (n4 > 0))
 (L 30015 [(Prod.mk 4 (Go.Value.pointer (Option.some (Go.Addr.mk 1000 0 Option.none)))), (Prod.mk 5 (Go.Value.pointer (Option.some (Go.Addr.mk 1001 0 Option.none)))), (Prod.mk 7 (vI M)), (Prod.mk 8 (vI Q)), (Prod.mk 15 (Go.Value.pointer (Option.some (Go.Addr.mk 1002 0 Option.none)))), (Prod.mk 191 (Value.bool true))] [(Prod.mk 1000 (AObj.cells [(vI g), (vI e)] 27 false 1)), (Prod.mk 1001 (AObj.cells [(vI m), (vI q), (vI x)] 29 false 1)), (Prod.mk 1002 (AObj.cells [(vI n1), (vI n2)] 32 false 2))])
 (L 30015 [(Prod.mk 4 (Go.Value.pointer (Option.some (Go.Addr.mk 1000 0 Option.none)))), (Prod.mk 5 (Go.Value.pointer (Option.some (Go.Addr.mk 1001 0 Option.none)))), (Prod.mk 7 (vI M)), (Prod.mk 8 (vI Q)), (Prod.mk 15 (Go.Value.pointer (Option.some (Go.Addr.mk 1002 0 Option.none)))), (Prod.mk 191 (Value.bool false))] [(Prod.mk 1000 (AObj.cells [(vI g), (vI e)] 27 false 1)), (Prod.mk 1001 (AObj.cells [(vI m), (vI q), (vI x)] 29 false 1)), (Prod.mk 1002 (AObj.cells [(vI n1), (vI n2)] 32 false 2))])))))))))) := by kernel_rfl
abbrev u15 (M Q : Int) : Slots := [(4, P1 1000 0), (5, P1 1001 0), (7, vI M), (8, vI Q), (15, P1 1002 0), (191, .bool false)]
abbrev v15 (g e m q x n1 n2 : Int) : Blocks := [oX 1000 g e, oMa 1001 m q x, oF 1002 n1 n2]
def d15 (C : Ct) (L : AtLoop) (g e m q x M Q n1 n2 : Int) (k : List D → Prop) : Prop := jNext Tryz.prog (hS C) L JT 4 30015 .normal (u15 M Q) (v15 g e m q x n1 n2) (dataK k)
theorem d15_text (C : Ct) (L : AtLoop) (g : Int) (e : Int) (m : Int) (q : Int) (x : Int) (M : Int) (Q : Int) (n1 : Int) (n2 : Int) (k : List D → Prop) : d15 C L g e m q x M Q n1 n2 k =
 (bcase (n2 != 1)
 (L 30017 [(Prod.mk 4 (Go.Value.pointer (Option.some (Go.Addr.mk 1000 0 Option.none)))), (Prod.mk 5 (Go.Value.pointer (Option.some (Go.Addr.mk 1001 0 Option.none)))), (Prod.mk 7 (vI M)), (Prod.mk 8 (vI Q)), (Prod.mk 15 (Go.Value.pointer (Option.some (Go.Addr.mk 1002 0 Option.none)))), (Prod.mk 200 (Value.bool true))] [(Prod.mk 1000 (AObj.cells [(vI g), (vI e)] 27 false 1)), (Prod.mk 1001 (AObj.cells [(vI m), (vI q), (vI x)] 29 false 1)), (Prod.mk 1002 (AObj.cells [(vI n1), (vI n2)] 32 false 2))])
 (((Says C 29 [(D.val (vI n1)), (D.val (vI (0 : Int))), (D.val (vI (100000 : Int)))] [(D.val (Value.bool true))]) ∧
 (L 30017 [(Prod.mk 4 (Go.Value.pointer (Option.some (Go.Addr.mk 1000 0 Option.none)))), (Prod.mk 5 (Go.Value.pointer (Option.some (Go.Addr.mk 1001 0 Option.none)))), (Prod.mk 7 (vI M)), (Prod.mk 8 (vI Q)), (Prod.mk 15 (Go.Value.pointer (Option.some (Go.Addr.mk 1002 0 Option.none)))), (Prod.mk 200 (Value.bool false))] [(Prod.mk 1000 (AObj.cells [(vI g), (vI e)] 27 false 1)), (Prod.mk 1001 (AObj.cells [(vI m), (vI q), (vI x)] 29 false 1)), (Prod.mk 1002 (AObj.cells [(vI n1), (vI n2)] 32 false 2))])) ∨
 ((Says C 29 [(D.val (vI n1)), (D.val (vI (0 : Int))), (D.val (vI (100000 : Int)))] [(D.val (Value.bool false))]) ∧
 (L 30017 [(Prod.mk 4 (Go.Value.pointer (Option.some (Go.Addr.mk 1000 0 Option.none)))), (Prod.mk 5 (Go.Value.pointer (Option.some (Go.Addr.mk 1001 0 Option.none)))), (Prod.mk 7 (vI M)), (Prod.mk 8 (vI Q)), (Prod.mk 15 (Go.Value.pointer (Option.some (Go.Addr.mk 1002 0 Option.none)))), (Prod.mk 200 (Value.bool true))] [(Prod.mk 1000 (AObj.cells [(vI g), (vI e)] 27 false 1)), (Prod.mk 1001 (AObj.cells [(vI m), (vI q), (vI x)] 29 false 1)), (Prod.mk 1002 (AObj.cells [(vI n1), (vI n2)] 32 false 2))])))) := by kernel_rfl
abbrev u17 (M Q : Int) (bo : Bool) : Slots := [(4, P1 1000 0), (5, P1 1001 0), (7, vI M), (8, vI Q), (15, P1 1002 0), (200, .bool bo)]
def d17t (C : Ct) (L : AtLoop) (g e m q x M Q n1 n2 : Int) (k : List D → Prop) : Prop := jNext Tryz.prog (hS C) L JT 4 30017 .normal (u17 M Q true) (v15 g e m q x n1 n2) (dataK k)
theorem d17t_text (C : Ct) (L : AtLoop) (g : Int) (e : Int) (m : Int) (q : Int) (x : Int) (M : Int) (Q : Int) (n1 : Int) (n2 : Int) (k : List D → Prop) : d17t C L g e m q x M Q n1 n2 k =
 (k [(D.val (Value.bool true))]) := by kernel_rfl
def d17f (C : Ct) (L : AtLoop) (g e m q x M Q n1 n2 : Int) (k : List D → Prop) : Prop := jNext Tryz.prog (hS C) L JT 4 30017 .normal (u17 M Q false) (v15 g e m q x n1 n2) (dataK k)
theorem d17f_text (C : Ct) (L : AtLoop) (g : Int) (e : Int) (m : Int) (q : Int) (x : Int) (M : Int) (Q : Int) (n1 : Int) (n2 : Int) (k : List D → Prop) : d17f C L g e m q x M Q n1 n2 k =
 (∃ n3 : Int,
 (∃ n4 : Int,
 (∃ n5 : Int,
 ((Says C 13 [(D.val (vI M)), (D.val (vI Q)), (D.agg [(D.val (vI n1)), (D.val (vI e))])] [(D.agg [(D.val (vI n3)), (D.val (vI n4))]), (D.val (vI n5))]) ∧
 (bcase (n5 == 0)
 ((((vI x) = (vI x)) ∧
 (((Go.Value.pointer (Option.some (Go.Addr.mk 1001 2 Option.none))) = (Go.Value.pointer (Option.some (Go.Addr.mk 1001 2 Option.none)))) ∧
 (((Go.Value.agg [(vI n3), (vI n4)].toArray) = (Go.Value.agg [(vI n3), (vI n4)].toArray)) ∧
 (((Value.bool true) = (Value.bool true)) ∧
 ((bcase (n5 == 0)
 ((Value.bool true) = (Value.bool true))
 ((Value.bool false) = (Value.bool true))) ∧
 (((vI n5) = (vI n5)) ∧
 True)))))) ∧
 (bcase (if Bool.false = Bool.true then !(n3 == x && (n4 == 1 && Bool.true)) else n3 == x && (n4 == 1 && Bool.true))
 ((((Value.bool true) = (Value.bool true)) ∧
 ((bcase (if Bool.false = Bool.true then !(n3 == x && (n4 == 1 && Bool.true)) else n3 == x && (n4 == 1 && Bool.true))
 ((Value.bool true) = (Value.bool true))
 ((Value.bool false) = (Value.bool true))) ∧
 (((Go.Value.pointer (Option.some (Go.Addr.mk 1001 2 Option.none))) = (Go.Value.pointer (Option.some (Go.Addr.mk 1001 2 Option.none)))) ∧
 (((Go.Value.agg [(vI n3), (vI n4)].toArray) = (Go.Value.agg [(vI n3), (vI n4)].toArray)) ∧
 ((bcase (n5 == 0)
 ((Value.bool true) = (Value.bool true))
 ((Value.bool false) = (Value.bool true))) ∧
 (((vI n5) = (vI n5)) ∧
 True)))))) ∧
 (True ∧
 (k [(D.val (Value.bool true))])))
 ((((Value.bool false) = (Value.bool false)) ∧
 ((bcase (if Bool.false = Bool.true then !(n3 == x && (n4 == 1 && Bool.true)) else n3 == x && (n4 == 1 && Bool.true))
 ((Value.bool true) = (Value.bool false))
 ((Value.bool false) = (Value.bool false))) ∧
 (((Go.Value.pointer (Option.some (Go.Addr.mk 1001 2 Option.none))) = (Go.Value.pointer (Option.some (Go.Addr.mk 1001 2 Option.none)))) ∧
 (((Go.Value.agg [(vI n3), (vI n4)].toArray) = (Go.Value.agg [(vI n3), (vI n4)].toArray)) ∧
 ((bcase (n5 == 0)
 ((Value.bool true) = (Value.bool true))
 ((Value.bool false) = (Value.bool true))) ∧
 (((vI n5) = (vI n5)) ∧
 True)))))) ∧
 (True ∧
 (k [(D.val (Value.bool false))])))))
 ((((Go.Value.tuple [].toArray) = (Go.Value.tuple [].toArray)) ∧
 (((Go.Value.tuple [].toArray) = (Go.Value.tuple [].toArray)) ∧
 (((Go.Value.tuple [].toArray) = (Go.Value.tuple [].toArray)) ∧
 (((Value.bool false) = (Value.bool false)) ∧
 ((bcase (n5 == 0)
 ((Value.bool true) = (Value.bool false))
 ((Value.bool false) = (Value.bool false))) ∧
 (((vI n5) = (vI n5)) ∧
 True)))))) ∧
 ((((Value.bool false) = (Value.bool false)) ∧
 (((Go.Value.tuple [].toArray) = (Go.Value.tuple [].toArray)) ∧
 (((Go.Value.tuple [].toArray) = (Go.Value.tuple [].toArray)) ∧
 (((Go.Value.tuple [].toArray) = (Go.Value.tuple [].toArray)) ∧
 ((bcase (n5 == 0)
 ((Value.bool true) = (Value.bool false))
 ((Value.bool false) = (Value.bool false))) ∧
 (((vI n5) = (vI n5)) ∧
 True)))))) ∧
 (True ∧
 (k [(D.val (Value.bool false))]))))))))) := by kernel_rfl
end Go.Proofs.G5z

/- GaugeForEvery in data. -/
namespace Go.Proofs.G5z
open Go Go.Abs Go.Proofs Go.Proofs.G5
set_option maxRecDepth 100000
theorem bz_ef {a b : Int} {x y : Prop} (h : a ≠ b) : bcase (a == b) x y = y := by rw [show (a == b) = false by simpa using h]; rfl
theorem bz_et {a : Int} {x y : Prop} : bcase (a == a) x y = x := by rw [show (a == a) = true by simp]; rfl
theorem bz_nf {a : Int} {x y : Prop} : bcase (a != a) x y = y := by rw [show (a != a) = false by simp]; rfl
theorem bz_tt {x y : Prop} : bcase true x y = x := rfl
theorem bz_ff {x y : Prop} : bcase false x y = y := rfl
/-- a number modulo another one -/
def modV (n b : Int) : Int := if n.tmod b < 0 then n.tmod b + b else n.tmod b
theorem modV_bd {n b : Int} (hb : 0 < b) : 0 ≤ modV n b ∧ modV n b < b := by
  have := gcd_step_lt (a := n) (b := b) (by omega)
  unfold modV; split <;> omega
theorem conMd (n b : Int) (hb : 0 < b ∧ b ≤ 1000000) : C5 24 [dI n, dI b] [dI (modV n b)] := by
  refine con_flat hokS mixed Tryz.func24 rfl (by show 0 ≤ 400; omega) rfl (by kernel_rfl) (fun caps => ?_)
  show gMd _ _ n b _
  rw [gMd_text]
  try simp only [eq_self, true_and, and_true]
  have hlt := gcd_step_lt (a := n) (b := b) (by omega)
  refine bc_bne (fun _ => ?_) (fun h => absurd h (by omega))
  try simp only [bc_n (show b ≠ 0 by omega), eq_self, true_and, and_true]
  refine bc_dec (fun h => ?_) (fun h => ?_)
  · rw [w64 (by omega) (by omega)]
    show _ = _; rw [modV, if_pos h]
  · show _ = _; rw [modV, if_neg h]
theorem conSm {p : Int × Int} (h : Gd p) (hg : ((Int.gcd p.1 p.2 : Nat) : Int) = 1) : C5 25 [dF p] [.val (.bool true)] := by
  refine con_flat hokS mixed Tryz.func25 rfl (by show 0 ≤ 400; omega) rfl (by kernel_rfl) (fun caps => ?_)
  show gSm _ _ p.1 p.2 _
  rw [gSm_text]
  have hd := h.den
  have hn := h.num
  have c := conGc p.1 p.2 (by omega) (by omega) (by omega)
  rw [hg] at c
  try simp only [bc_t (show p.2 > 0 by omega), eq_self, and_true]
  refine ⟨1, ⟨c⟩, ?_⟩
  try simp only [bz_et]
  exact .inl ⟨sayWt (by omega), .inl (sayWt (by omega))⟩
theorem low_g1 {n d : Int} (hd : 0 < d) : ((Int.gcd (low n d).1 (low n d).2 : Nat) : Int) = 1 := by
  obtain ⟨_, _, _, _, h⟩ := low_parts (n := n) hd
  exact h
theorem sp_g1 {f0 f1 f2 f3 : Int × Int} (h0 : ((Int.gcd f0.1 f0.2 : Nat) : Int) = 1) (h1 : ((Int.gcd f1.1 f1.2 : Nat) : Int) = 1) (h2 : ((Int.gcd f2.1 f2.2 : Nat) : Int) = 1) (h3 : ((Int.gcd f3.1 f3.2 : Nat) : Int) = 1) :
    ((Int.gcd (spS f0 f1 f2 f3).1.1 (spS f0 f1 f2 f3).1.2 : Nat) : Int) = 1 ∧ ((Int.gcd (spS f0 f1 f2 f3).2.1 (spS f0 f1 f2 f3).2.2 : Nat) : Int) = 1 := by
  have one : ∀ {lo hi f : Int × Int}, ((Int.gcd lo.1 lo.2 : Nat) : Int) = 1 → ((Int.gcd hi.1 hi.2 : Nat) : Int) = 1 → ((Int.gcd f.1 f.2 : Nat) : Int) = 1 → ((Int.gcd (stp (lo, hi) f).1.1 (stp (lo, hi) f).1.2 : Nat) : Int) = 1 ∧ ((Int.gcd (stp (lo, hi) f).2.1 (stp (lo, hi) f).2.2 : Nat) : Int) = 1 := by
    intro lo hi f a1 a2 a3
    unfold stp
    refine ⟨?_, ?_⟩
    · show ((Int.gcd (if ltF f lo then f else lo).1 (if ltF f lo then f else lo).2 : Nat) : Int) = 1
      split <;> assumption
    · show ((Int.gcd (if ltF hi f then f else hi).1 (if ltF hi f then f else hi).2 : Nat) : Int) = 1
      split <;> assumption
  obtain ⟨x1, x2⟩ := one h0 h0 h1
  obtain ⟨y1, y2⟩ := one x1 x2 h2
  exact one y1 y2 h3
theorem cmp_ng {p q : Int × Int} (hp : Gd p) (hq : Gd q) (h : leF p q) : ¬ (cmpV p q > 0) := fun hc => by
  rw [cmp_gt, lt_iff hq hp] at hc
  exact hc h
theorem cmp_nl {p q : Int × Int} (hp : Gd p) (hq : Gd q) (h : leF q p) : ¬ (cmpV p q < 0) := fun hc => by
  rw [cmp_lt, lt_iff hp hq] at hc
  exact hc h
/-- what is known of a stand, a pass, an exit thickness, a modulus and a stiffness -/
structure KF (a b c d g e x M Q : Int) : Prop where
  s : SB a b c d
  p : PB g e
  hx : 1 ≤ x ∧ x ≤ 100000
  xe : x ≤ e
  hM : a ≤ M ∧ M ≤ b
  hQ : c ≤ Q ∧ Q ≤ d
variable {L : AtLoop} {a b c d g e m q x M Q : Int} {k : List D → Prop}
theorem KF.mb (h : KF a b c d g e x M Q) : MB M Q := by
  obtain ⟨⟨⟨h1, h2⟩, h3, h4⟩, _⟩ := h.s
  have := h.hM; have := h.hQ
  omega
theorem KF.xs (h : KF a b c d g e x M Q) : xsP a b c d g e = (exS a b c d g e, 0) := by
  have hs := h.s
  have h1 : stE a b c d = 0 := by
    unfold stE; rw [if_pos hs.1, if_neg (by omega)]
  have h2 : paE g e = 0 := by unfold paE; rw [if_pos h.p]
  rw [xsP, if_neg (fun y => y h1), if_neg (fun y => y h2)]
theorem KF.gs (h : KF a b c d g e x M Q) : gsP a b c d e x = (gaS a b c d e x, 0) := by
  have hs := h.s
  have h1 : stE a b c d = 0 := by
    unfold stE; rw [if_pos hs.1, if_neg (by omega)]
  have he : thE e = 0 := (rngE0 (by decide)).2 h.p.2
  have hx : thE x = 0 := (rngE0 (by decide)).2 h.hx
  have ht : thP e x = 0 := by rw [thP, if_neg (fun y => y he), if_neg (fun y => y hx), if_neg (by have := h.xe; omega)]
  rw [gsP, if_neg (fun y => y h1), if_neg (fun y => y ht)]
theorem xo_ok {g' : Int} (hm : MB M Q) (hp : PB g' e) : xoP M Q g' e = (exV M Q g' e, 0) := by
  have h1 : maE M Q = 0 := by unfold maE; rw [if_pos hm]
  have h2 : paE g' e = 0 := by unfold paE; rw [if_pos hp]
  rw [xoP, if_neg (fun y => y h1), if_neg (fun y => y h2)]
theorem KF.ex (h : KF a b c d g e x M Q) : (Gd (exS a b c d g e).1 ∧ Gd (exS a b c d g e).2) ∧ leF (exS a b c d g e).1 (exV M Q g e) ∧ leF (exV M Q g e) (exS a b c d g e).2 := by
  obtain ⟨⟨⟨h1, h2⟩, h3, h4⟩, _⟩ := h.s
  have hM := h.hM; have hQ := h.hQ; have hp := h.p
  have gF := ex_gd h.mb hp
  have g1 := ex_gd (m := a) (q := d) ⟨h1, h4⟩ hp
  have g2 := ex_gd (m := b) (q := c) ⟨h2, h3⟩ hp
  obtain ⟨⟨k1, k2⟩, ⟨k3, k4⟩, ⟨k5, k6⟩⟩ := sp_ok (ex_gd (m := a) (q := c) ⟨h1, h3⟩ hp) g1 g2 (ex_gd (m := b) (q := d) ⟨h2, h4⟩ hp)
  have x1 := cross (a := c) (M := Q) (Q := M) (d := b) (by omega) hQ.1 (by omega) hM.2
  have x2 := cross (a := a) (M := M) (Q := Q) (d := d) (by omega) hM.1 (by omega) hQ.2
  by_cases hge : g ≤ e
  · have m1 : leF (exV b c g e) (exV M Q g e) := ex_mono (by omega) (by omega) (by omega) (by omega) (Int.mul_nonneg (by omega) (by have := Int.mul_comm b Q; have := Int.mul_comm c M; have := Int.mul_comm M c; omega))
    have m2 : leF (exV M Q g e) (exV a d g e) := ex_mono (by omega) (by omega) (by omega) (by omega) (Int.mul_nonneg (by omega) x2)
    exact ⟨⟨k1, k2⟩, le_tr k1 g2 gF k4 m1, le_tr gF g1 k2 m2 k5⟩
  · have m1 : leF (exV M Q g e) (exV b c g e) := ex_mono (by omega) (by omega) (by omega) (by omega) (by
      have : (e - g) * (c * M - Q * b) = (g - e) * (b * Q - M * c) := by grind
      rw [this]; exact Int.mul_nonneg (by omega) x1)
    have m2 : leF (exV a d g e) (exV M Q g e) := ex_mono (by omega) (by omega) (by omega) (by omega) (by
      have : (e - g) * (Q * a - d * M) = (g - e) * (d * M - Q * a) := by grind
      rw [this]; exact Int.mul_nonneg (by omega) x2)
    exact ⟨⟨k1, k2⟩, le_tr k1 g1 gF k3 m2, le_tr gF g2 k2 m1 k6⟩
theorem KF.ga (h : KF a b c d g e x M Q) : (Gd (gaS a b c d e x).1 ∧ Gd (gaS a b c d e x).2) ∧ leF (gaS a b c d e x).1 (gaV M Q e x) ∧ leF (gaV M Q e x) (gaS a b c d e x).2 := by
  obtain ⟨⟨⟨h1, h2⟩, h3, h4⟩, _⟩ := h.s
  have hM := h.hM; have hQ := h.hQ; have he := h.p.2; have hx := h.hx; have hxe := h.xe
  have gF := ga_gd h.mb he hx
  have g1 := ga_gd (m := a) (q := d) ⟨h1, h4⟩ he hx
  have g2 := ga_gd (m := b) (q := c) ⟨h2, h3⟩ he hx
  obtain ⟨⟨k1, k2⟩, ⟨k3, k4⟩, ⟨k5, k6⟩⟩ := sp_ok (ga_gd (m := a) (q := c) ⟨h1, h3⟩ he hx) g1 g2 (ga_gd (m := b) (q := d) ⟨h2, h4⟩ he hx)
  have x1 := cross (a := c) (M := Q) (Q := M) (d := b) (by omega) hQ.1 (by omega) hM.2
  have x2 := cross (a := a) (M := M) (Q := Q) (d := d) (by omega) hM.1 (by omega) hQ.2
  have m1 : leF (gaV a d e x) (gaV M Q e x) := ga_mono (by omega) (by omega) (Int.mul_nonneg (by omega) x2)
  have m2 : leF (gaV M Q e x) (gaV b c e x) := ga_mono (by omega) (by omega) (Int.mul_nonneg (by omega) (by have := Int.mul_comm b Q; have := Int.mul_comm c M; omega))
  exact ⟨⟨k1, k2⟩, le_tr k1 g1 gF k3 m1, le_tr gF g2 k2 m2 k6⟩
abbrev bl9 (a b c d g e m q x M Q : Int) : Blocks := v9 g e m q x (exV M Q g e).1 (exV M Q g e).2 (exS a b c d g e).1.1 (exS a b c d g e).1.2 (exS a b c d g e).2.1 (exS a b c d g e).2.2 (gaS a b c d e x).1.1 (gaS a b c d e x).1.2 (gaS a b c d e x).2.1 (gaS a b c d e x).2.2
theorem d3_ok (h : KF a b c d g e x (a + modV m (b - a + 1)) (c + modV q (d - c + 1))) (hL : L 30009 (u9 (a + modV m (b - a + 1)) (c + modV q (d - c + 1)) 0 0 0) (bl9 a b c d g e m q x (a + modV m (b - a + 1)) (c + modV q (d - c + 1)))) : d3f C5 L a b c d g e m q x k := by
  rw [d3f_text]
  obtain ⟨⟨⟨h1, h2⟩, h3, h4⟩, h5, h6⟩ := h.s
  have hM := h.hM; have hQ := h.hQ
  have e1 : IntKind.wrap .i64 (IntKind.wrap .i64 (b - a) + 1) = b - a + 1 := by rw [w64 (z := b - a) (by omega) (by omega), w64 (by omega) (by omega)]
  have e2 : IntKind.wrap .i64 (IntKind.wrap .i64 (d - c) + 1) = d - c + 1 := by rw [w64 (z := d - c) (by omega) (by omega), w64 (by omega) (by omega)]
  have e3 : IntKind.wrap .i64 (a + modV m (b - a + 1)) = a + modV m (b - a + 1) := w64 (by omega) (by omega)
  have e4 : IntKind.wrap .i64 (c + modV q (d - c + 1)) = c + modV q (d - c + 1) := w64 (by omega) (by omega)
  try simp only [e1, e2, eq_self, true_and, and_true]
  refine ⟨_, ⟨conMd m (b - a + 1) (by omega)⟩, ?_⟩
  try simp only [e3]
  refine ⟨_, ⟨conMd q (d - c + 1) (by omega)⟩, ?_⟩
  try simp only [e4]
  have c13 := conXO (a + modV m (b - a + 1)) (c + modV q (d - c + 1)) g e
  have c14 := conXS a b c d g e
  have c15 := conGS a b c d e x
  rw [xo_ok h.mb h.p] at c13
  rw [h.xs] at c14
  rw [h.gs] at c15
  exact ⟨_, _, _, ⟨c13⟩, _, _, _, _, _, ⟨c14⟩, _, _, _, _, _, ⟨c15⟩, hL⟩
theorem KF.g1 (h : KF a b c d g e x M Q) : (((Int.gcd (exS a b c d g e).1.1 (exS a b c d g e).1.2 : Nat) : Int) = 1 ∧ ((Int.gcd (exS a b c d g e).2.1 (exS a b c d g e).2.2 : Nat) : Int) = 1) ∧ (((Int.gcd (gaS a b c d e x).1.1 (gaS a b c d e x).1.2 : Nat) : Int) = 1 ∧ ((Int.gcd (gaS a b c d e x).2.1 (gaS a b c d e x).2.2 : Nat) : Int) = 1) := by
  obtain ⟨⟨⟨h1, h2⟩, h3, h4⟩, _⟩ := h.s
  exact ⟨sp_g1 (low_g1 (by omega)) (low_g1 (by omega)) (low_g1 (by omega)) (low_g1 (by omega)), sp_g1 (low_g1 (by omega)) (low_g1 (by omega)) (low_g1 (by omega)) (low_g1 (by omega))⟩
theorem d9_ok (h : KF a b c d g e x M Q) (hL : L 30010 (u10 M Q) (bl9 a b c d g e m q x M Q)) : d9 C5 L g e m q x M Q (exV M Q g e).1 (exV M Q g e).2 (exS a b c d g e).1.1 (exS a b c d g e).1.2 (exS a b c d g e).2.1 (exS a b c d g e).2.2 (gaS a b c d e x).1.1 (gaS a b c d e x).1.2 (gaS a b c d e x).2.1 (gaS a b c d e x).2.2 k := by
  rw [d9_text]
  obtain ⟨⟨k1, k2⟩, _⟩ := h.ex
  obtain ⟨⟨k3, k4⟩, _⟩ := h.ga
  obtain ⟨⟨q1, q2⟩, q3, q4⟩ := h.g1
  have hm := h.mb
  have s0 := conSm (ex_gd hm h.p) (low_g1 (by omega))
  have s1 := conSm k1 q1
  have s2 := conSm k2 q2
  have s3 := conSm k3 q3
  have s4 := conSm k4 q4
  try simp only [eq_self, true_and, and_true]
  exact .inl ⟨⟨s0⟩, .inl ⟨⟨s1⟩, .inl ⟨⟨s2⟩, .inl ⟨⟨s3⟩, .inl ⟨⟨s4⟩, hL⟩⟩⟩⟩⟩
theorem d10_ok (h : KF a b c d g e x M Q) (hL : L 30012 (u12 M Q) (v12 g e m q x (gaS a b c d e x).1.1 (gaS a b c d e x).1.2 (gaS a b c d e x).2.1 (gaS a b c d e x).2.2)) : d10 C5 L g e m q x M Q (exV M Q g e).1 (exV M Q g e).2 (exS a b c d g e).1.1 (exS a b c d g e).1.2 (exS a b c d g e).2.1 (exS a b c d g e).2.2 (gaS a b c d e x).1.1 (gaS a b c d e x).1.2 (gaS a b c d e x).2.1 (gaS a b c d e x).2.2 k := by
  rw [d10_text]
  obtain ⟨⟨k1, k2⟩, k3, k4⟩ := h.ex
  have hm := h.mb
  have hp := h.p
  have gF := ex_gd hm hp
  obtain ⟨b1, b2⟩ := ex_bd hm hp
  have gmin : Gd ((if e < g then e else g), 1) := ⟨by show (0 : Int) < 1 ∧ (1 : Int) ≤ 100000; omega, by show -1000000000 ≤ (if e < g then e else g) ∧ (if e < g then e else g) ≤ 1000000000; split <;> omega⟩
  have gmax : Gd ((if e > g then e else g), 1) := ⟨by show (0 : Int) < 1 ∧ (1 : Int) ≤ 100000; omega, by show -1000000000 ≤ (if e > g then e else g) ∧ (if e > g then e else g) ≤ 1000000000; split <;> omega⟩
  have lmin : leF ((if e < g then e else g), 1) (exV M Q g e) := by
    unfold leF
    rw [Int.mul_one]
    have key : ∀ u : Int, u ≤ g → u ≤ e → u * (M + Q) ≤ M * g + Q * e := by
      intro u h1 h2
      have a1 := Int.mul_le_mul_of_nonneg_left h1 (show 0 ≤ M by omega)
      have a2 := Int.mul_le_mul_of_nonneg_left h2 (show 0 ≤ Q by omega)
      have a3 : u * (M + Q) = M * u + Q * u := by grind
      omega
    exact low_ge (by omega) (key _ (by split <;> omega) (by split <;> omega))
  have lmax : leF (exV M Q g e) ((if e > g then e else g), 1) := by
    unfold leF
    rw [Int.mul_one]
    have key : ∀ u : Int, g ≤ u → e ≤ u → M * g + Q * e ≤ u * (M + Q) := by
      intro u h1 h2
      have a1 := Int.mul_le_mul_of_nonneg_left h1 (show 0 ≤ M by omega)
      have a2 := Int.mul_le_mul_of_nonneg_left h2 (show 0 ≤ Q by omega)
      have a3 : u * (M + Q) = M * u + Q * u := by grind
      omega
    exact low_lek (by omega) (key _ (by split <;> omega) (by split <;> omega))
  have z1 := cmp_ng k1 gF k3
  have z2 := cmp_ng gF k2 k4
  have z3 := cmp_nl gF gmin lmin
  have z4 := cmp_ng gF gmax lmax
  try simp only [eq_self, true_and, and_true]
  refine ⟨_, ⟨conCp (exS a b c d g e).1 (exV M Q g e)⟩, ?_⟩
  simp only [bc_f z1, true_and, and_true]
  refine ⟨_, ⟨conCp (exV M Q g e) (exS a b c d g e).2⟩, ?_⟩
  simp only [bc_f z2, true_and, and_true]
  refine ⟨_, ⟨conCp (exV M Q g e) ((if e < g then e else g), 1)⟩, ?_⟩
  simp only [bc_f z3, true_and, and_true]
  refine ⟨_, ⟨conCp (exV M Q g e) ((if e > g then e else g), 1)⟩, ?_⟩
  simp only [bc_f z4, eq_self, true_and, and_true]
  exact hL
theorem d12_ok (h : KF a b c d g e x M Q) (hL : L 30015 (u15 M Q) (v15 g e m q x (gaV M Q e x).1 (gaV M Q e x).2)) : d12 C5 L g e m q x M Q (gaS a b c d e x).1.1 (gaS a b c d e x).1.2 (gaS a b c d e x).2.1 (gaS a b c d e x).2.2 k := by
  rw [d12_text]
  obtain ⟨⟨k1, k2⟩, k3, k4⟩ := h.ga
  have hm := h.mb
  have he := h.p.2
  have hx := h.hx
  have gF := ga_gd hm he hx
  obtain ⟨b1, b2⟩ := ga_bd hm he hx
  have ecm : M * x = x * M := Int.mul_comm ..
  have e1 : IntKind.wrap .i64 (IntKind.wrap .i64 (M * x) - IntKind.wrap .i64 (Q * IntKind.wrap .i64 (e - x))) = x * M - Q * (e - x) := by
    rw [w64 (z := e - x) (by omega) (by omega), w64 (z := M * x) (by omega) (by omega), w64 (z := Q * (e - x)) (by omega) (by omega), w64 (by omega) (by omega), ecm]
  try simp only [e1, eq_self, true_and, and_true]
  have z1 := cmp_ng k1 gF k3
  have z2 := cmp_ng gF k2 k4
  refine ⟨_, _, ⟨conLo (x * M - Q * (e - x)) M (by omega) (by omega) (by omega)⟩, ?_⟩
  try simp only [eq_self, true_and, and_true]
  refine ⟨_, ⟨conCp (gaS a b c d e x).1 (gaV M Q e x)⟩, ?_⟩
  simp only [bc_f z1, eq_self, true_and, and_true]
  refine ⟨_, ⟨conCp (gaV M Q e x) (gaS a b c d e x).2⟩, ?_⟩
  simp only [bc_f z2, eq_self, true_and, and_true]
  exact hL
theorem d15_ok (hL : ∀ bo, (bo = false → (gaV M Q e x).2 = 1 ∧ (0 ≤ (gaV M Q e x).1 ∧ (gaV M Q e x).1 ≤ 100000)) → L 30017 (u17 M Q bo) (v15 g e m q x (gaV M Q e x).1 (gaV M Q e x).2)) : d15 C5 L g e m q x M Q (gaV M Q e x).1 (gaV M Q e x).2 k := by
  rw [d15_text]
  try simp only [eq_self, true_and, and_true]
  refine bc_bne (fun _ => hL true (fun h => by cases h)) (fun h1 => ?_)
  by_cases h2 : 0 ≤ (gaV M Q e x).1 ∧ (gaV M Q e x).1 ≤ 100000
  · exact .inl ⟨sayWt h2, hL false (fun _ => ⟨h1, h2⟩)⟩
  · exact .inr ⟨sayWf h2, hL true (fun h => by cases h)⟩
theorem d17f_ok (h : KF a b c d g e x M Q) (h1 : (gaV M Q e x).2 = 1) (h2 : 0 ≤ (gaV M Q e x).1 ∧ (gaV M Q e x).1 ≤ 100000) (hk : k [.val (.bool true)]) : d17f C5 L g e m q x M Q (gaV M Q e x).1 (gaV M Q e x).2 k := by
  rw [d17f_text]
  have hm := h.mb
  have hx : exV M Q (gaV M Q e x).1 e = (x, 1) := by
    obtain ⟨G, hG, e1, e2, _⟩ := low_parts (n := x * M - Q * (e - x)) (show 0 < M by omega)
    have e3 : M * (gaV M Q e x).1 = x * M - Q * (e - x) := by
      have : (low (x * M - Q * (e - x)) M).2 = 1 := h1
      rw [this, Int.mul_one] at e2
      rw [e1, gaV, e2]
    have e4 : M * (gaV M Q e x).1 + Q * e = x * (M + Q) := by
      rw [e3]; grind
    rw [exV, e4]
    exact low_mul (by omega)
  have c13 := conXO M Q (gaV M Q e x).1 e
  rw [xo_ok hm ⟨h2, h.p.2⟩, hx] at c13
  try simp only [eq_self, true_and, and_true]
  refine ⟨_, _, _, ⟨c13⟩, ?_⟩
  simp [bz_tt]
  exact hk
theorem con4 (a b c d g e m q x : Int) : C5 4 [.agg [dI a, dI b, dI c, dI d], .agg [dI g, dI e], .agg [dI m, dI q, dI x]] [.val (.bool true)] := by
  obtain ⟨M, hM⟩ : ∃ M, M = a + modV m (b - a + 1) := ⟨_, rfl⟩
  obtain ⟨N, hN⟩ : ∃ N, N = c + modV q (d - c + 1) := ⟨_, rfl⟩
  let K : Prop := KF a b c d g e x M N
  let Z : Nat → Slots × Blocks → Prop := fun id sb =>
    (id = 30003 ∧ ∃ bo, (bo = false → K) ∧ ([(3, P1 1000 0), (4, P1 1001 0), (5, P1 1002 0), (40, .bool bo)], [oS a b c d, oX 1001 g e, oMa 1002 m q x]) = sb) ∨
    (id = 30009 ∧ K ∧ (u9 M N 0 0 0, bl9 a b c d g e m q x M N) = sb) ∨ (id = 30010 ∧ K ∧ (u10 M N, bl9 a b c d g e m q x M N) = sb) ∨
    (id = 30012 ∧ K ∧ (u12 M N, v12 g e m q x (gaS a b c d e x).1.1 (gaS a b c d e x).1.2 (gaS a b c d e x).2.1 (gaS a b c d e x).2.2) = sb) ∨
    (id = 30015 ∧ K ∧ (u15 M N, v15 g e m q x (gaV M N e x).1 (gaV M N e x).2) = sb) ∨
    (id = 30017 ∧ K ∧ ∃ bo, (bo = false → (gaV M N e x).2 = 1 ∧ (0 ≤ (gaV M N e x).1 ∧ (gaV M N e x).1 ≤ 100000)) ∧ (u17 M N bo, v15 g e m q x (gaV M N e x).1 (gaV M N e x).2) = sb)
  refine con_J (L := fun id s b => Z id (s, b)) hokS mixed JT Tryz.func4 rfl (by show 0 ≤ 400; omega) rfl (pts := [30003, 30009, 30010, 30012, 30015, 30017]) (loops := []) (by kernel_rfl) rfl (fun caps hcaps => ?_) (fun id hid hno s bl hL => ?_) (fun id hid => absurd hid (by simp))
  · show gS4 _ _ a b c d g e m q x _
    rw [gS4_text]
    try simp only [eq_self, true_and, and_true]
    refine .inl ⟨⟨con6⟩, _, ⟨conSE a b c d⟩, bc_bne (fun _ => .inl ⟨rfl, true, (fun h => by cases h), rfl⟩) (fun h1 => ?_)⟩
    refine ⟨_, ⟨conPE g e⟩, bc_bne (fun _ => .inl ⟨rfl, true, (fun h => by cases h), rfl⟩) (fun h2 => ?_)⟩
    refine ⟨_, ⟨conTE x⟩, bc_bne (fun _ => .inl ⟨rfl, true, (fun h => by cases h), rfl⟩) (fun h3 => ?_)⟩
    refine bc_dec (fun _ => .inl ⟨rfl, true, (fun h => by cases h), rfl⟩) (fun h4 => .inl ⟨rfl, false, fun _ => ?_, rfl⟩)
    have hs := stE0 h1
    have m1 := modV_bd (n := m) (b := b - a + 1) (by omega)
    have m2 := modV_bd (n := q) (b := d - c + 1) (by omega)
    exact ⟨hs, paE0 h2, thE0 h3, by omega, by omega, by omega⟩
  · rcases hL with ⟨rfl, bo, hK, h⟩ | ⟨rfl, hK, h⟩ | ⟨rfl, hK, h⟩ | ⟨rfl, hK, h⟩ | ⟨rfl, hK, h⟩ | ⟨rfl, hK, bo, hb, h⟩
    · obtain ⟨rfl, rfl⟩ := Prod.mk.inj h
      cases bo with
      | true =>
        show d3t C5 _ a b c d g e m q x _
        rw [d3t_text]
      | false =>
        have hk := hK rfl
        show d3f C5 _ a b c d g e m q x _
        subst hM hN
        exact d3_ok hk (.inr (.inl ⟨rfl, hk, rfl⟩))
    · obtain ⟨rfl, rfl⟩ := Prod.mk.inj h
      exact d9_ok hK (.inr (.inr (.inl ⟨rfl, hK, rfl⟩)))
    · obtain ⟨rfl, rfl⟩ := Prod.mk.inj h
      exact d10_ok hK (.inr (.inr (.inr (.inl ⟨rfl, hK, rfl⟩))))
    · obtain ⟨rfl, rfl⟩ := Prod.mk.inj h
      exact d12_ok hK (.inr (.inr (.inr (.inr (.inl ⟨rfl, hK, rfl⟩)))))
    · obtain ⟨rfl, rfl⟩ := Prod.mk.inj h
      exact d15_ok (fun bo hb => .inr (.inr (.inr (.inr (.inr ⟨rfl, hK, bo, hb, rfl⟩)))))
    · obtain ⟨rfl, rfl⟩ := Prod.mk.inj h
      cases bo with
      | true =>
        show d17t C5 _ g e m q x M N _ _ _
        rw [d17t_text]
      | false =>
        obtain ⟨h1, h2⟩ := hb rfl
        exact d17f_ok hK h1 h2 rfl
end Go.Proofs.G5z

/- GaugeForEvery: whatever the input, it returns true, and the input reads as it did. No condition. -/
namespace Go.Proofs.YthgcicagmdlnmaaGreat.K
open Go Go.Abs Go.RowKit Go.ChangeShapes Go.WideShapes Go.ChangeAt Go.Proofs Go.Flat Go.Proofs.G5z
set_option maxRecDepth 100000
theorem shapes4 : Tryz.f4.params.toList.mapM (argSh Tryz.prog) = some [.agg [3, 3, 3, 3], .agg [3, 3], .agg [3, 3, 3]] := by kernel_rfl
theorem all4 (ds : List D) (h : ShDs Tryz.prog [.agg [3, 3, 3, 3], .agg [3, 3], .agg [3, 3, 3]] ds) : Con Tryz.prog 4 ds [.val (.bool true)] := by
  cases h with | cons h1 t => cases t with | cons h2 t => cases t with | cons h3 t =>
  cases t
  obtain ⟨d1, rfl, h1⟩ := h1
  obtain ⟨d2, rfl, h2⟩ := h2
  obtain ⟨d3, rfl, h3⟩ := h3
  obtain ⟨l1, rfl, e1, _⟩ := leafs_int Tryz.underlying3 (by simp) h1
  obtain ⟨l2, rfl, e2, _⟩ := leafs_int Tryz.underlying3 (by simp) h2
  obtain ⟨l3, rfl, e3, _⟩ := leafs_int Tryz.underlying3 (by simp) h3
  match l1, l2, l3, e1, e2, e3 with
  | [a, b, c, d], [g, e], [m, q, x], _, _, _ => exact con4 a b c d g e m q x
theorem lifted4 (os : Os) (started : os.Started) (H : Type) (enc : TypeId × Value → H) :
    ReturnsInHanded {} Tryz.checked os 4 .any (Rows.gaugeForEverySpec.pre6 enc Tryz.prog Tryz.f4 Rows.gaugeForEveryRow.domain false) (Rows.gaugeForEverySpec.post enc Tryz.prog Tryz.f4 false true false false) := by
  refine returnsInHanded_of_change (C := Tryz.checked) own started (by kernel_rfl) Tryz.func4
    (ChangeSpec.witness6 (enc := enc) (C := Tryz.checked) false ⟨#[], #[.agg #[.int .i64 0, .int .i64 0, .int .i64 0, .int .i64 0], .agg #[.int .i64 0, .int .i64 0], .agg #[.int .i64 0, .int .i64 0, .int .i64 0]], []⟩ 8 (by kernel_rfl) (by kernel_rfl) (by kernel_rfl) (by kernel_rfl)) ?_
  intro W base args ds gs before hval hW _ _
  exact law_shapes (tb := 4) (s := Rows.gaugeForEverySpec) shapes4 all4 laidP mapsP slicesP (tsP (by kernel_rfl)) rfl Tryz.underlying4 rfl (fun ds h => by
    match ds, h with
    | [_, _, _], _ => exact ⟨rfl, rfl, rfl⟩) hval hW
theorem gaugeForEvery_holds : Rows.GaugeForEverySaid :=
  OpenClaim.holds_of_wide 4 Tryz.f4 rfl rfl rfl rfl rfl rfl rfl ⟨rfl, rfl, rfl, rfl, rfl⟩ rfl rfl rfl rfl rfl (by kernel_rfl) Tryz.func4 (by kernel_rfl)
    (of_decide_eq_true (by kernel_rfl)) (by unfold Func.isWrapper; first | (rw [if_pos (by decide +kernel)]; kernel_rfl) | (rw [if_neg (by decide +kernel)]; exact ⟨rfl, rfl⟩))
    (fun os started H enc _ => lifted4 os started H enc)
#print axioms gaugeForEvery_holds
end Go.Proofs.YthgcicagmdlnmaaGreat.K
