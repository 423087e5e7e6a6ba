/- Texts of the proof, put together: GzS1, GzS2, GzS3, GzTA, GzS5, GzKS. -/
import Derived.Test.YthgcicagmdlnmaaGreatP5
import Derived.Test.YthgcicagmdlnmaaGreatGzA
import Derived.Test.YthgcicagmdlnmaaGreatGzT9
/- Chapter 5: stands, in data. -/
namespace Go.Proofs.G5z
open Go Go.Abs Go.Proofs Go.Proofs.G5
set_option maxRecDepth 100000
theorem preSOK : PreOK Tryz.prog (preS C5) := by
  intro g h he args ats H k hk
  unfold preS at he
  split at he
  · rename_i e
    obtain rfl := Option.some.inj he
    rw [beq_iff_eq] at e
    subst e
    exact wpState_call (fun args bs K hk => wit_ok hk) hk
  · split at he
    · obtain rfl := Option.some.inj he
      exact saidH_ok (fun _ _ _ h => h) _ _ _ _ _ hk
    · cases he
theorem hokS : HandlerOK Tryz.prog (hS C5) := handlerX_ok mixed preSOK (by decide) 6
/-! ### fractions -/
theorem conGc (a b : Int) (ha : -9223372036854775808 ≤ a ∧ a ≤ 9223372036854775807) (hb : -9223372036854775807 ≤ b ∧ b ≤ 9223372036854775807) (h0 : b = 0 → -9223372036854775807 ≤ a) : C5 93 [dI a, dI b] [dI (Int.gcd a b)] := by
  let inv : Int × Int → Prop := fun x => (-9223372036854775808 ≤ x.1 ∧ x.1 ≤ 9223372036854775807) ∧ (-9223372036854775807 ≤ x.2 ∧ x.2 ≤ 9223372036854775807) ∧ (x.2 = 0 → -9223372036854775807 ≤ x.1) ∧ Int.gcd x.1 x.2 = Int.gcd a b
  let st : Int × Int → Slots × Blocks := fun x => ([(0, vI x.1), (1, vI x.2)], [])
  refine con_of (L := fun _ s b => ∃ x, inv x ∧ st x = (s, b)) hokS mixed Tryz.func93 rfl (by show 0 ≤ 400; omega) rfl (ids := [0]) (by kernel_rfl) rfl (fun caps => ?_) (fun id hid => ?_)
  · show gGc _ _ a b _
    rw [gGc_text]
    exact ⟨(a, b), ⟨ha, hb, h0, rfl⟩, rfl⟩
  · obtain rfl := List.mem_singleton.1 hid
    refine ⟨Int × Int, st, inv, fun x => x.2.natAbs, ⟨fun s b h => h, by kernel_rfl, ?_⟩⟩
    rintro ⟨x, y⟩ ⟨hx, hy, hxy, hg⟩
    simp only at hx hy hxy hg
    show rGc _ _ x y _ _ _
    rw [rGc_text]
    refine bc_bne (fun h => ?_) (fun h => ?_)
    · simp only [bc_n h, true_and]
      have hlt := gcd_step_lt (a := x) h
      have hst := gcd_step x y
      refine ⟨(y, x.tmod y), ⟨⟨by show -9223372036854775808 ≤ y; omega, hy.2⟩, ?_, fun _ => hy.1, by show Int.gcd y (x.tmod y) = _; omega⟩, hlt, rfl⟩
      show -9223372036854775807 ≤ x.tmod y ∧ x.tmod y ≤ 9223372036854775807
      have : (x.tmod y).natAbs < y.natAbs := hlt
      omega
    · show (if 0 = 0 then _ else _)
      rw [if_pos rfl]
      show nGc _ _ x _
      have hxl := hxy h
      rw [nGc_text, w64 (by omega) (by omega)]
      subst h
      have := gcd_end x
      show [dI _] = [dI _]
      rw [show ((Int.gcd a b : Nat) : Int) = (Int.gcd x 0 : Nat) by rw [hg], this]
      have e : (if 0 - x > x then 0 - x else x) = (if x < 0 then -x else x) := by split <;> split <;> omega
      rw [e]
theorem conLo (n d : Int) (hn : -4611686018427387904 ≤ n ∧ n ≤ 4611686018427387904) (hd : -4611686018427387904 ≤ d ∧ d ≤ 4611686018427387904) (h0 : d ≠ 0) : C5 28 [dI n, dI d] [.agg [dI (low n d).1, dI (low n d).2]] := by
  refine con_flat hokS mixed Tryz.func28 rfl (by show 0 ≤ 400; omega) rfl (by kernel_rfl) (fun caps => ?_)
  show gLo _ _ n d _
  rw [gLo_text]
  have hg := gcd_pos (a := n) (b := d) (.inr h0)
  have hg' : ((Int.gcd n d : Nat) : Int) ≠ 0 := by omega
  have hgl : ((Int.gcd n d : Nat) : Int) ≤ 4611686018427387904 := by
    have : Int.gcd n d ≤ d.natAbs := Nat.le_of_dvd (by omega) (Nat.gcd_dvd_right ..)
    omega
  refine ⟨_, ⟨conGc n d (by omega) (by omega) (by omega)⟩, bc_dec (fun h => ?_) (fun h => ?_)⟩
  · rw [w64 (z := 0 - ((Int.gcd n d : Nat) : Int)) (by omega) (by omega)]
    have hg2 : 0 - ((Int.gcd n d : Nat) : Int) ≠ 0 := by omega
    have b1 := tdiv_small (n := 0 - n) (g := Int.gcd n d) (by omega) hg
    have b2 := tdiv_small (n := 0 - d) (g := Int.gcd n d) (by omega) hg
    simp only [bc_n hg2, true_and, and_true, tdiv_neg']
    rw [w64 (by omega) (by omega), w64 (by omega) (by omega)]
    show _ = _
    rw [low, if_pos h]
  · have b1 := tdiv_small (n := n) (g := Int.gcd n d) hn hg
    have b2 := tdiv_small (n := d) (g := Int.gcd n d) hd hg
    simp only [bc_n hg', true_and, and_true]
    rw [w64 (by omega) (by omega), w64 (by omega) (by omega)]
    show _ = _
    rw [low, if_neg h]
abbrev dF (p : Int × Int) : D := .agg [dI p.1, dI p.2]
/-- is one less than the other, as it is reckoned -/
def ltF (p q : Int × Int) : Prop := W6 (p.1 * q.2) < W6 (q.1 * p.2)
instance (p q : Int × Int) : Decidable (ltF p q) := by unfold ltF; infer_instance
theorem ltF_irr (p : Int × Int) : ¬ ltF p p := by unfold ltF; omega
theorem conIL (p q : Int × Int) : C5 147 [dF p, dF q] [.val (.bool (decide (ltF p q)))] := by
  refine con_flat hokS mixed Tryz.func147 rfl (by show 0 ≤ 400; omega) rfl (by kernel_rfl) (fun caps => ?_)
  show gIL _ _ p.1 p.2 q.1 q.2 _
  rw [gIL_text]
  refine bc_dec (fun h => ?_) (fun h => ?_)
  · show _ = _; rw [decide_eq_true (show ltF p q from h)]
  · show _ = _; rw [decide_eq_false (show ¬ ltF p q from h)]
theorem ilT {p q : Int × Int} (h : ltF p q) : Says C5 147 [dF p, dF q] [.val (.bool true)] := ⟨by have := conIL p q; rwa [decide_eq_true h] at this⟩
theorem ilF {p q : Int × Int} (h : ¬ ltF p q) : Says C5 147 [dF p, dF q] [.val (.bool false)] := ⟨by have := conIL p q; rwa [decide_eq_false h] at this⟩
def cmpV (p q : Int × Int) : Int := if W6 (p.1 * q.2) < W6 (q.1 * p.2) then -1 else if W6 (p.1 * q.2) > W6 (q.1 * p.2) then 1 else 0
theorem conCp (p q : Int × Int) : C5 26 [dF p, dF q] [dI (cmpV p q)] := by
  refine con_flat hokS mixed Tryz.func26 rfl (by show 0 ≤ 400; omega) rfl (by kernel_rfl) (fun caps => ?_)
  show gCp _ _ p.1 p.2 q.1 q.2 _
  rw [gCp_text]
  simp only [eq_self, true_and]
  refine bc_dec (fun h => ?_) (fun h => ?_)
  · show _ = _; rw [cmpV, if_pos h]; rfl
  · refine bc_dec (fun h2 => ?_) (fun h2 => ?_)
    · show _ = _; rw [cmpV, if_neg h, if_pos h2]
    · show _ = _; rw [cmpV, if_neg h, if_neg h2]
theorem cmp_lt (p q : Int × Int) : cmpV p q < 0 ↔ ltF p q := by unfold cmpV ltF; split <;> (try split) <;> omega
theorem cmp_gt (p q : Int × Int) : cmpV p q > 0 ↔ ltF q p := by unfold cmpV ltF; split <;> (try split) <;> omega
/-- one more fraction in a span -/
def stp (s : (Int × Int) × (Int × Int)) (f : Int × Int) : (Int × Int) × (Int × Int) := (if ltF f s.1 then f else s.1, if ltF s.2 f then f else s.2)
abbrev dG (s : (Int × Int) × (Int × Int)) : D := .agg [dI s.1.1, dI s.1.2, dI s.2.1, dI s.2.2]
theorem load2b {ps : List Value} {k : Nat} {p : Int × Int} (h : At ps k 2 [vI p.1, vI p.2]) {Q : Int → Int → Prop} : (∃ n : Int, ∃ m : Int, At ps k 2 [vI n, vI m] ∧ Q n m) = Q p.1 p.2 := at2 h
theorem conHu (p : Int × Int) (r : List (Int × Int)) (hl : r.length < 1000000) : C5 89 [.sl (p :: r).length 2 (vp (p :: r))] [dG (r.foldl stp (p, p))] := by
  let l := p :: r
  let inv : Nat × Nat × ((Int × Int) × (Int × Int)) → Prop := fun y => 1 ≤ y.1 ∧ y.1 ≤ l.length ∧ (l.drop y.1).foldl stp y.2.2 = r.foldl stp (p, p)
  let st : Nat × Nat × ((Int × Int) × (Int × Int)) → Slots × Blocks := fun y => (sHu l.length y.2.1 y.1, [T500 (vp l), oG 1000 0 0 0 0, oG 1001 y.2.2.1.1 y.2.2.1.2 y.2.2.2.1 y.2.2.2.2])
  have hll : l.length = r.length + 1 := rfl
  refine con_of (L := fun _ s b => ∃ x, inv x ∧ st x = (s, b)) hokS mixed Tryz.func89 rfl (by show 1 ≤ 400; omega) rfl (ids := [0]) (by kernel_rfl) rfl (fun caps => ?_) (fun id hid => ?_)
  · show gHu _ _ l.length (caps 500) (vp l) _
    rw [gHu_text]
    have h0 : (0 : Int) < (l.length : Int) := by omega
    have a0 : At (vp l) 0 2 [vI p.1, vI p.2] := ⟨by rw [vp_length]; omega, rfl⟩
    simp only [bc_t h0, load2b a0, eq_self, true_and, and_true]
    exact ⟨(1, caps 500, (p, p)), ⟨Nat.le_refl _, by show 1 ≤ l.length; omega, rfl⟩, rfl⟩
  · obtain rfl := List.mem_singleton.1 hid
    refine ⟨Nat × Nat × ((Int × Int) × (Int × Int)), st, inv, fun y => l.length - y.1, ⟨fun s b h => h, by kernel_rfl, ?_⟩⟩
    rintro ⟨i, cap, ⟨lo, hi⟩⟩ ⟨h1, h2, hf⟩
    simp only at h1 h2 hf
    show rHu _ _ l.length cap (vp l) lo.1 lo.2 hi.1 hi.2 (i : Int) _ _ _
    rw [rHu_text]
    refine bc_dec (fun h => ?_) (fun h => ?_)
    · have hi' : i < l.length := by omega
      have a0 : At (vp l) (0 + i * 2) 2 [vI l[i].1, vI l[i].2] := vp_two l i hi'
      have hfd : (l.drop (i + 1)).foldl stp (stp (lo, hi) l[i]) = r.foldl stp (p, p) := by
        rw [← hf, List.drop_eq_getElem_cons hi']; rfl
      simp only [bc_t h, bc_t (show (0 : Int) ≤ (i : Int) by omega), Int.toNat_natCast, load2b a0, eq_self, true_and, and_true]
      refine ⟨_, ⟨conCp l[i] lo⟩, ?_⟩
      have ew : IntKind.wrap .i64 ((i : Int) + 1) = ((i + 1 : Nat) : Int) := by rw [w64 (by omega) (by omega)]; omega
      rw [ew]
      have go : ∀ s, s = stp (lo, hi) l[i] → ∃ y, inv y ∧ l.length - y.1 < l.length - i ∧ st y = (sHu l.length cap ((i + 1 : Nat) : Int), [T500 (vp l), oG 1000 0 0 0 0, oG 1001 s.1.1 s.1.2 s.2.1 s.2.2]) := by
        rintro s rfl
        exact ⟨(i + 1, cap, stp (lo, hi) l[i]), ⟨by show 1 ≤ i + 1; omega, hi', hfd⟩, by show l.length - (i + 1) < l.length - i; omega, rfl⟩
      by_cases q1 : ltF l[i] lo
      · simp only [bc_t ((cmp_lt l[i] lo).2 q1), true_and]
        refine ⟨_, ⟨conCp l[i] hi⟩, ?_⟩
        by_cases q2 : ltF hi l[i]
        · simp only [bc_t ((cmp_gt l[i] hi).2 q2), true_and]
          exact go (l[i], l[i]) (by unfold stp; rw [if_pos q1, if_pos q2])
        · simp only [bc_f (show ¬ (cmpV l[i] hi > 0) from fun z => q2 ((cmp_gt l[i] hi).1 z)), true_and]
          exact go (l[i], hi) (by unfold stp; rw [if_pos q1, if_neg q2])
      · simp only [bc_f (show ¬ (cmpV l[i] lo < 0) from fun z => q1 ((cmp_lt l[i] lo).1 z)), true_and]
        refine ⟨_, ⟨conCp l[i] hi⟩, ?_⟩
        by_cases q2 : ltF hi l[i]
        · simp only [bc_t ((cmp_gt l[i] hi).2 q2), true_and]
          exact go (lo, l[i]) (by unfold stp; rw [if_neg q1, if_pos q2])
        · simp only [bc_f (show ¬ (cmpV l[i] hi > 0) from fun z => q2 ((cmp_gt l[i] hi).1 z)), true_and]
          exact go (lo, hi) (by unfold stp; rw [if_neg q1, if_neg q2])
    · show (if 0 = 0 then _ else _)
      rw [if_pos rfl]
      show nHu _ _ lo.1 lo.2 hi.1 hi.2 _
      rw [nHu_text]
      have : l.length ≤ i := by omega
      rw [List.drop_of_length_le this] at hf
      show [dG (lo, hi)] = _
      rw [← hf]; rfl
end Go.Proofs.G5z

/- Chapter 5: the errors of stands and passes, spans, in data. -/
namespace Go.Proofs.G5z
open Go Go.Abs Go.Proofs Go.Proofs.G5
set_option maxRecDepth 100000
def stE (a b c d : Int) : Int := if ((1 ≤ a ∧ a ≤ 1000) ∧ (1 ≤ b ∧ b ≤ 1000)) ∧ (0 ≤ c ∧ c ≤ 1000) ∧ (0 ≤ d ∧ d ≤ 1000) then (if a > b ∨ c > d then 9 else 0) else 2
def paE (g e : Int) : Int := if (0 ≤ g ∧ g ≤ 100000) ∧ (1 ≤ e ∧ e ≤ 100000) then 0 else 2
def maE (m q : Int) : Int := if (1 ≤ m ∧ m ≤ 1000) ∧ (0 ≤ q ∧ q ≤ 1000) then 0 else 2
abbrev thE (x : Int) : Int := rngE 1 100000 2 x
theorem conCk (a b c d : Int) : C5 20 [.agg [dI a, dI b, dI c, dI d]] [dI (stE a b c d)] := by
  refine con_flat hokS mixed Tryz.func20 rfl (by show 0 ≤ 400; omega) rfl (by kernel_rfl) (fun caps => ?_)
  show gCk _ _ a b c d _
  rw [gCk_text]
  try simp only [eq_self, true_and, and_true]
  refine ⟨witE 1 1000 2 [vI a, vI b], ⟨rfl⟩, witE 0 1000 2 [vI c, vI d], ⟨rfl⟩, bc_dec (fun h1 => ?_) (fun h1 => bc_dec (fun h2 => ?_) (fun h2 => ?_))⟩
  · refine ⟨_, ⟨conFE [witE 1 1000 2 [vI a, vI b], witE 0 1000 2 [vI c, vI d], 9] (by simp)⟩, ?_⟩
    show [dI _] = [dI _]
    congr 2; congr 1
    simp only [fst0, witE, stE]
    repeat' split
    all_goals first | rfl | omega
  · refine ⟨_, ⟨conFE [witE 1 1000 2 [vI a, vI b], witE 0 1000 2 [vI c, vI d], 9] (by simp)⟩, ?_⟩
    show [dI _] = [dI _]
    congr 2; congr 1
    simp only [fst0, witE, stE]
    repeat' split
    all_goals first | rfl | omega
  · refine ⟨_, ⟨conFE [witE 1 1000 2 [vI a, vI b], witE 0 1000 2 [vI c, vI d], 0] (by simp)⟩, ?_⟩
    show [dI _] = [dI _]
    congr 2; congr 1
    simp only [fst0, witE, stE]
    repeat' split
    all_goals first | rfl | omega
theorem conSE (a b c d : Int) : C5 19 [.agg [dI a, dI b, dI c, dI d]] [dI (stE a b c d)] := by
  refine con_flat hokS mixed Tryz.func19 rfl (by show 0 ≤ 400; omega) rfl (by kernel_rfl) (fun caps => ?_)
  show gSE _ _ a b c d _
  rw [gSE_text]
  try simp only [eq_self, true_and, and_true]
  by_cases h1 : (1 : Int) ≤ a ∧ a ≤ 1000
  · refine .inl ⟨sayWt h1, ?_⟩
    by_cases h2 : (1 : Int) ≤ b ∧ b ≤ 1000
    · refine .inl ⟨sayWt h2, ?_⟩
      by_cases h3 : (0 : Int) ≤ c ∧ c ≤ 1000
      · refine .inl ⟨sayWt h3, ?_⟩
        by_cases h4 : (0 : Int) ≤ d ∧ d ≤ 1000
        · refine .inl ⟨sayWt h4, ?_⟩
          have e : stE a b c d = if a > b ∨ c > d then 9 else 0 := if_pos ⟨⟨h1, h2⟩, h3, h4⟩
          rw [e]
          refine bc_dec (fun h => ?_) (fun h => bc_dec (fun h' => ?_) (fun h' => ?_))
          · rw [if_pos (.inl h)]
          · rw [if_pos (.inr h')]
          · rw [if_neg (fun x => x.elim h h')]
        · refine .inr ⟨sayWf h4, ?_⟩
          rw [stE, if_neg (fun x => h4 x.2.2)]
      · refine .inr ⟨sayWf h3, ?_⟩
        rw [stE, if_neg (fun x => h3 x.2.1)]
    · refine .inr ⟨sayWf h2, ?_⟩
      rw [stE, if_neg (fun x => h2 x.1.2)]
  · refine .inr ⟨sayWf h1, ?_⟩
    rw [stE, if_neg (fun x => h1 x.1.1)]
theorem conTE (a : Int) : C5 22 [dI a] [dI (thE a)] := by
  refine con_flat hokS mixed Tryz.func22 rfl (by show 0 ≤ 400; omega) rfl (by kernel_rfl) (fun caps => ?_)
  show gTE _ _ a _
  rw [gTE_text]
  by_cases h : (1 : Int) ≤ a ∧ a ≤ 100000
  · exact .inl ⟨sayWt h, by show [dI 0] = [dI (rngE 1 100000 2 a)]; rw [rngE, if_pos h]⟩
  · exact .inr ⟨sayWf h, by show [dI 2] = [dI (rngE 1 100000 2 a)]; rw [rngE_no h]⟩
theorem conPE (g e : Int) : C5 17 [.agg [dI g, dI e]] [dI (paE g e)] := by
  refine con_flat hokS mixed Tryz.func17 rfl (by show 0 ≤ 400; omega) rfl (by kernel_rfl) (fun caps => ?_)
  show gPE _ _ g e _
  rw [gPE_text]
  try simp only [eq_self, true_and, and_true]
  by_cases h : (0 : Int) ≤ g ∧ g ≤ 100000
  · refine .inl ⟨sayWt h, _, ⟨conTE e⟩, ?_⟩
    congr 2; congr 1
    unfold paE thE rngE
    repeat' split
    all_goals first | rfl | omega
  · refine .inr ⟨sayWf h, ?_⟩
    rw [paE, if_neg (fun x => h x.1)]
theorem conMa (m q : Int) : C5 16 [dI m, dI q] [dI (maE m q)] := by
  refine con_flat hokS mixed Tryz.func16 rfl (by show 0 ≤ 400; omega) rfl (by kernel_rfl) (fun caps => ?_)
  show gMa _ _ m q _
  rw [gMa_text]
  by_cases h : (1 : Int) ≤ m ∧ m ≤ 1000
  · refine .inl ⟨sayWt h, ?_⟩
    by_cases h2 : (0 : Int) ≤ q ∧ q ≤ 1000
    · exact .inl ⟨sayWt h2, by show _ = _; rw [maE, if_pos ⟨h, h2⟩]⟩
    · exact .inr ⟨sayWf h2, by show _ = _; rw [maE, if_neg (fun x => h2 x.2)]⟩
  · exact .inr ⟨sayWf h, by show _ = _; rw [maE, if_neg (fun x => h x.1)]⟩
theorem conCPa (g e : Int) : C5 81 [.agg [dI g, dI e]] [dI (paE g e)] := by
  refine con_flat hokS mixed Tryz.func81 rfl (by show 0 ≤ 400; omega) rfl (by kernel_rfl) (fun caps => ?_)
  show gCP _ _ g e _
  rw [gCP_text]
  try simp only [eq_self, true_and, and_true]
  refine ⟨_, wit_rng, _, wit_rng, _, ⟨conFE [rngE 0 100000 2 g, rngE 1 100000 2 e] (by simp)⟩, ?_⟩
  congr 2; congr 1
  simp only [fst0, paE, rngE]
  repeat' split
  all_goals first | rfl | omega
/-! ### thicknesses -/
abbrev MB (m q : Int) : Prop := (1 ≤ m ∧ m ≤ 1000) ∧ (0 ≤ q ∧ q ≤ 1000)
abbrev PB (g e : Int) : Prop := (0 ≤ g ∧ g ≤ 100000) ∧ (1 ≤ e ∧ e ≤ 100000)
def exV (m q g e : Int) : Int × Int := low (m * g + q * e) (m + q)
def gaV (m q e x : Int) : Int × Int := low (x * m - q * (e - x)) m
theorem ex_bd {m q g e : Int} (hm : MB m q) (hp : PB g e) : (-100000000 ≤ m * g ∧ m * g ≤ 100000000) ∧ (-100000000 ≤ q * e ∧ q * e ≤ 100000000) := by
  have b1 := mul_bd (A := 1000) (B := 100000) (show 0 ≤ m ∧ m ≤ 1000 by omega) (show -100000 ≤ g ∧ g ≤ 100000 by omega)
  have b2 := mul_bd (A := 1000) (B := 100000) (show 0 ≤ q ∧ q ≤ 1000 by omega) (show -100000 ≤ e ∧ e ≤ 100000 by omega)
  omega
theorem ga_bd {m q e x : Int} (hm : MB m q) (he : 1 ≤ e ∧ e ≤ 100000) (hx : 1 ≤ x ∧ x ≤ 100000) : (-100000000 ≤ x * m ∧ x * m ≤ 100000000) ∧ (-100000000 ≤ q * (e - x) ∧ q * (e - x) ≤ 100000000) := by
  have b1 := mul_bd (A := 100000) (B := 1000) (show 0 ≤ x ∧ x ≤ 100000 by omega) (show -1000 ≤ m ∧ m ≤ 1000 by omega)
  have b2 := mul_bd (A := 1000) (B := 100000) (show 0 ≤ q ∧ q ≤ 1000 by omega) (show -100000 ≤ e - x ∧ e - x ≤ 100000 by omega)
  omega
theorem conEx {m q g e : Int} (hm : MB m q) (hp : PB g e) : C5 82 [dI m, dI q, .agg [dI g, dI e]] [dF (exV m q g e)] := by
  refine con_flat hokS mixed Tryz.func82 rfl (by show 0 ≤ 400; omega) rfl (by kernel_rfl) (fun caps => ?_)
  show gEx _ _ m q g e _
  rw [gEx_text]
  obtain ⟨b1, b2⟩ := ex_bd hm hp
  try simp only [eq_self, true_and, and_true]
  rw [w64 (z := m * g) (by omega) (by omega), w64 (z := q * e) (by omega) (by omega), w64 (z := m * g + q * e) (by omega) (by omega), w64 (z := m + q) (by omega) (by omega)]
  exact ⟨_, _, ⟨conLT _ _ (by omega) (by omega) (by omega)⟩, rfl⟩
theorem conGa {m q e x : Int} (hm : MB m q) (he : 1 ≤ e ∧ e ≤ 100000) (hx : 1 ≤ x ∧ x ≤ 100000) : C5 87 [dI m, dI q, dI e, dI x] [dF (gaV m q e x)] := by
  refine con_flat hokS mixed Tryz.func87 rfl (by show 0 ≤ 400; omega) rfl (by kernel_rfl) (fun caps => ?_)
  show gGa _ _ m q e x _
  rw [gGa_text]
  obtain ⟨b1, b2⟩ := ga_bd hm he hx
  try simp only [eq_self, true_and, and_true]
  rw [w64 (z := e - x) (by omega) (by omega), w64 (z := x * m) (by omega) (by omega), w64 (z := q * (e - x)) (by omega) (by omega), w64 (z := x * m - q * (e - x)) (by omega) (by omega)]
  exact ⟨_, _, ⟨conLT _ _ (by omega) (by omega) (by omega)⟩, rfl⟩
theorem conRX {m q g e : Int} (hm : MB m q) (hp : PB g e) : C5 18 [dI m, dI q, .agg [dI g, dI e]] [dF (exV m q g e)] := by
  refine con_flat hokS mixed Tryz.func18 rfl (by show 0 ≤ 400; omega) rfl (by kernel_rfl) (fun caps => ?_)
  show gRX _ _ m q g e _
  rw [gRX_text]
  obtain ⟨b1, b2⟩ := ex_bd hm hp
  try simp only [eq_self, true_and, and_true]
  rw [w64 (z := m * g) (by omega) (by omega), w64 (z := q * e) (by omega) (by omega), w64 (z := m * g + q * e) (by omega) (by omega), w64 (z := m + q) (by omega) (by omega)]
  exact ⟨_, _, ⟨conLo _ _ (by omega) (by omega) (by omega)⟩, rfl⟩
theorem conRG {m q e x : Int} (hm : MB m q) (he : 1 ≤ e ∧ e ≤ 100000) (hx : 1 ≤ x ∧ x ≤ 100000) : C5 90 [dI m, dI q, dI e, dI x] [dF (gaV m q e x)] := by
  refine con_flat hokS mixed Tryz.func90 rfl (by show 0 ≤ 400; omega) rfl (by kernel_rfl) (fun caps => ?_)
  show gRG _ _ m q e x _
  rw [gRG_text]
  obtain ⟨b1, b2⟩ := ga_bd hm he hx
  try simp only [eq_self, true_and, and_true]
  rw [w64 (z := e - x) (by omega) (by omega), w64 (z := x * m) (by omega) (by omega), w64 (z := q * (e - x)) (by omega) (by omega), w64 (z := x * m - q * (e - x)) (by omega) (by omega)]
  exact ⟨_, _, ⟨conLo _ _ (by omega) (by omega) (by omega)⟩, rfl⟩
/-- what ExitOf gives -/
def xoP (m q g e : Int) : (Int × Int) × Int := if maE m q ≠ 0 then ((0, 0), maE m q) else if paE g e ≠ 0 then ((0, 0), paE g e) else (exV m q g e, 0)
theorem conXO (m q g e : Int) : C5 13 [dI m, dI q, .agg [dI g, dI e]] [dF (xoP m q g e).1, dI (xoP m q g e).2] := by
  refine con_flat hokS mixed Tryz.func13 rfl (by show 0 ≤ 400; omega) rfl (by kernel_rfl) (fun caps => ?_)
  show gXO _ _ m q g e _
  rw [gXO_text]
  try simp only [eq_self, true_and, and_true]
  refine ⟨_, wit_rng, _, wit_rng, _, ⟨conCPa g e⟩, _, ⟨conFE [rngE 1 1000 2 m, rngE 0 1000 2 q, paE g e] (by simp)⟩, ?_⟩
  have hf : fst0 [rngE 1 1000 2 m, rngE 0 1000 2 q, paE g e] = if maE m q ≠ 0 then maE m q else paE g e := by
    simp only [fst0, maE, rngE]
    repeat' split
    all_goals first | rfl | omega
  rw [hf]
  by_cases h1 : maE m q ≠ 0
  · rw [if_pos h1]
    refine bc_bne (fun _ => ?_) (fun h => absurd h h1)
    rw [xoP, if_pos h1]
  · rw [if_neg h1]
    refine bc_bne (fun h => ?_) (fun h => ?_)
    · rw [xoP, if_neg h1, if_pos h]
    · have hm : MB m q := by
        apply Classical.byContradiction
        intro hc
        exact h1 (by rw [maE, if_neg hc]; decide)
      have hp : PB g e := by
        apply Classical.byContradiction
        intro hc
        rw [paE, if_neg hc] at h
        exact absurd h (by decide)
      refine ⟨_, _, ⟨conEx hm hp⟩, ?_⟩
      rw [xoP, if_neg h1, if_neg (fun x => x h)]
end Go.Proofs.G5z

/- Chapter 5: spans of thicknesses, in data. -/
namespace Go.Proofs.G5z
open Go Go.Abs Go.Proofs Go.Proofs.G5
set_option maxRecDepth 100000
theorem choose2 {p q : Int × Int} {X Y : Prop} (h1 : ltF p q → X) (h2 : ¬ ltF p q → Y) : (Says C5 147 [dF p, dF q] [.val (.bool true)] ∧ X) ∨ (Says C5 147 [dF p, dF q] [.val (.bool false)] ∧ Y) := by
  by_cases h : ltF p q
  · exact .inl ⟨ilT h, h1 h⟩
  · exact .inr ⟨ilF h, h2 h⟩
abbrev spS (f0 f1 f2 f3 : Int × Int) : (Int × Int) × (Int × Int) := stp (stp (stp (f0, f0) f1) f2) f3
def exS (a b c d g e : Int) : (Int × Int) × (Int × Int) := spS (exV a c g e) (exV a d g e) (exV b c g e) (exV b d g e)
def gaS (a b c d e x : Int) : (Int × Int) × (Int × Int) := spS (gaV a c e x) (gaV a d e x) (gaV b c e x) (gaV b d e x)
abbrev SB (a b c d : Int) : Prop := (((1 ≤ a ∧ a ≤ 1000) ∧ (1 ≤ b ∧ b ≤ 1000)) ∧ (0 ≤ c ∧ c ≤ 1000) ∧ (0 ≤ d ∧ d ≤ 1000)) ∧ a ≤ b ∧ c ≤ d
theorem stE0 {a b c d : Int} (h : stE a b c d = 0) : SB a b c d := by
  unfold stE at h
  split at h
  · rename_i h1
    split at h
    · cases h
    · rename_i h2
      exact ⟨h1, by omega⟩
  · cases h
theorem paE0 {g e : Int} (h : paE g e = 0) : PB g e := by
  unfold paE at h
  split at h
  · rename_i h1; exact h1
  · cases h
theorem maE0 {m q : Int} (h : maE m q = 0) : MB m q := by
  unfold maE at h
  split at h
  · rename_i h1; exact h1
  · cases h
theorem conRS {a b c d g e : Int} (hs : SB a b c d) (hp : PB g e) : C5 21 [.agg [dI a, dI b, dI c, dI d], .agg [dI g, dI e]] [dG (exS a b c d g e)] := by
  refine con_flat hokS mixed Tryz.func21 rfl (by show 0 ≤ 400; omega) rfl (by kernel_rfl) (fun caps => ?_)
  show gRS _ _ a b c d g e _
  rw [gRS_text]
  try simp only [eq_self, true_and, and_true]
  obtain ⟨⟨⟨ha, hb⟩, hc, hd⟩, _⟩ := hs
  refine ⟨_, _, ⟨conRX ⟨ha, hc⟩ hp⟩, _, _, ⟨conRX ⟨ha, hd⟩ hp⟩, _, _, ⟨conRX ⟨hb, hc⟩ hp⟩, _, _, ⟨conRX ⟨hb, hd⟩ hp⟩, ?_⟩
  exact ⟨_, _, _, _, ⟨conHu (exV a c g e) [exV a d g e, exV b c g e, exV b d g e] (by simp)⟩, rfl⟩
theorem conRT {a b c d e x : Int} (hs : SB a b c d) (he : 1 ≤ e ∧ e ≤ 100000) (hx : 1 ≤ x ∧ x ≤ 100000) : C5 23 [.agg [dI a, dI b, dI c, dI d], dI e, dI x] [dG (gaS a b c d e x)] := by
  refine con_flat hokS mixed Tryz.func23 rfl (by show 0 ≤ 400; omega) rfl (by kernel_rfl) (fun caps => ?_)
  show gRT _ _ a b c d e x _
  rw [gRT_text]
  try simp only [eq_self, true_and, and_true]
  obtain ⟨⟨⟨ha, hb⟩, hc, hd⟩, _⟩ := hs
  refine ⟨_, _, ⟨conRG ⟨ha, hc⟩ he hx⟩, _, _, ⟨conRG ⟨ha, hd⟩ he hx⟩, _, _, ⟨conRG ⟨hb, hc⟩ he hx⟩, _, _, ⟨conRG ⟨hb, hd⟩ he hx⟩, ?_⟩
  exact ⟨_, _, _, _, ⟨conHu (gaV a c e x) [gaV a d e x, gaV b c e x, gaV b d e x] (by simp)⟩, rfl⟩
def zzz : (Int × Int) × (Int × Int) := ((0, 0), (0, 0))
def xsP (a b c d g e : Int) : ((Int × Int) × (Int × Int)) × Int := if stE a b c d ≠ 0 then (zzz, stE a b c d) else if paE g e ≠ 0 then (zzz, paE g e) else (exS a b c d g e, 0)
theorem conXS (a b c d g e : Int) : C5 14 [.agg [dI a, dI b, dI c, dI d], .agg [dI g, dI e]] [dG (xsP a b c d g e).1, dI (xsP a b c d g e).2] := by
  refine con_flat hokS mixed Tryz.func14 rfl (by show 0 ≤ 400; omega) rfl (by kernel_rfl) (fun caps => ?_)
  show gXS _ _ a b c d g e _
  rw [gXS_text]
  try simp only [eq_self, true_and, and_true]
  refine ⟨_, ⟨conCk a b c d⟩, _, ⟨conCPa g e⟩, _, ⟨conFE [stE a b c d, paE g e] (by simp)⟩, ?_⟩
  rw [fst0_two]
  by_cases h1 : stE a b c d = 0
  · rw [if_pos h1]
    refine bc_bne (fun h => ?_) (fun h => ?_)
    · rw [xsP, if_neg (fun x => x h1), if_pos h]; rfl
    · obtain ⟨⟨⟨ha, hb⟩, hc, hd⟩, _⟩ := stE0 h1
      have hp := paE0 h
      rw [xsP, if_neg (fun x => x h1), if_neg (fun x => x h), exS]
      have c0 := conEx ⟨ha, hc⟩ hp
      have c1 := conEx ⟨ha, hd⟩ hp
      have c2 := conEx ⟨hb, hc⟩ hp
      have c3 := conEx ⟨hb, hd⟩ hp
      generalize exV a c g e = f0 at *
      generalize exV a d g e = f1 at *
      generalize exV b c g e = f2 at *
      generalize exV b d g e = f3 at *
      refine ⟨_, _, ⟨c0⟩, _, _, ⟨c0⟩, .inr ⟨ilF (ltF_irr f0), .inr ⟨ilF (ltF_irr f0), _, _, ⟨c1⟩, ?_⟩⟩⟩
      refine choose2 (fun p1 => choose2 (fun q1 => ?_) (fun q1 => ?_)) (fun p1 => choose2 (fun q1 => ?_) (fun q1 => ?_))
      all_goals refine ⟨_, _, ⟨c2⟩, choose2 (fun p2 => choose2 (fun q2 => ?_) (fun q2 => ?_)) (fun p2 => choose2 (fun q2 => ?_) (fun q2 => ?_))⟩
      all_goals refine ⟨_, _, ⟨c3⟩, choose2 (fun p3 => choose2 (fun q3 => ?_) (fun q3 => ?_)) (fun p3 => choose2 (fun q3 => ?_) (fun q3 => ?_))⟩
      all_goals simp [stp, *]
  · rw [if_neg h1]
    refine bc_bne (fun _ => ?_) (fun h => absurd h h1)
    rw [xsP, if_pos h1]; rfl
def thP (e x : Int) : Int := if thE e ≠ 0 then thE e else if thE x ≠ 0 then thE x else if x > e then 9 else 0
def gsP (a b c d e x : Int) : ((Int × Int) × (Int × Int)) × Int := if stE a b c d ≠ 0 then (zzz, stE a b c d) else if thP e x ≠ 0 then (zzz, thP e x) else (gaS a b c d e x, 0)
theorem thE0 {x : Int} (h : thE x = 0) : 1 ≤ x ∧ x ≤ 100000 := (rngE0 (by decide)).1 h
theorem thE_wit (e x : Int) : witE 1 100000 2 [vI e, vI x] = if thE e ≠ 0 then thE e else thE x := by
  simp only [witE, thE, rngE]
  repeat' split
  all_goals first | rfl | omega
theorem conGS (a b c d e x : Int) : C5 15 [.agg [dI a, dI b, dI c, dI d], dI e, dI x] [dG (gsP a b c d e x).1, dI (gsP a b c d e x).2] := by
  refine con_flat hokS mixed Tryz.func15 rfl (by show 0 ≤ 400; omega) rfl (by kernel_rfl) (fun caps => ?_)
  show gGS _ _ a b c d e x _
  rw [gGS_text]
  try simp only [eq_self, true_and, and_true]
  refine ⟨_, ⟨conCk a b c d⟩, witE 1 100000 2 [vI e, vI x], ⟨rfl⟩, _, ⟨conFE [stE a b c d, witE 1 100000 2 [vI e, vI x]] (by simp)⟩, ?_⟩
  rw [fst0_two, thE_wit]
  by_cases h1 : stE a b c d = 0
  · rw [if_pos h1]
    by_cases he0 : thE e ≠ 0
    · rw [if_pos he0]
      refine bc_bne (fun h => ?_) (fun h => absurd h he0)
      have ht : thP e x = thE e := by rw [thP, if_pos he0]
      rw [gsP, if_neg (fun x => x h1), if_pos (by rw [ht]; exact he0), ht]; rfl
    · rw [if_neg he0]
      refine bc_bne (fun h => ?_) (fun h => ?_)
      · have ht : thP e x = thE x := by rw [thP, if_neg he0, if_pos h]
        rw [gsP, if_neg (fun x => x h1), if_pos (by rw [ht]; exact h), ht]; rfl
      · refine bc_dec (fun hx => ?_) (fun hx => ?_)
        · have ht : thP e x = 9 := by rw [thP, if_neg he0, if_neg (fun x => x h), if_pos hx]
          rw [gsP, if_neg (fun x => x h1), if_pos (by rw [ht]; decide), ht]; rfl
        · have ht : thP e x = 0 := by rw [thP, if_neg he0, if_neg (fun x => x h), if_neg hx]
          obtain ⟨⟨⟨ha, hb⟩, hc, hd⟩, _⟩ := stE0 h1
          have he' := thE0 (Classical.not_not.1 he0)
          have hx' := thE0 h
          rw [gsP, if_neg (fun x => x h1), if_neg (fun y => y ht), gaS]
          have c0 := conGa ⟨ha, hc⟩ he' hx'
          have c1 := conGa ⟨ha, hd⟩ he' hx'
          have c2 := conGa ⟨hb, hc⟩ he' hx'
          have c3 := conGa ⟨hb, hd⟩ he' hx'
          generalize gaV a c e x = f0 at *
          generalize gaV a d e x = f1 at *
          generalize gaV b c e x = f2 at *
          generalize gaV b d e x = f3 at *
          refine ⟨_, _, ⟨c0⟩, _, _, ⟨c0⟩, .inr ⟨ilF (ltF_irr f0), .inr ⟨ilF (ltF_irr f0), _, _, ⟨c1⟩, ?_⟩⟩⟩
          refine choose2 (fun p1 => choose2 (fun q1 => ?_) (fun q1 => ?_)) (fun p1 => choose2 (fun q1 => ?_) (fun q1 => ?_))
          all_goals refine ⟨_, _, ⟨c2⟩, choose2 (fun p2 => choose2 (fun q2 => ?_) (fun q2 => ?_)) (fun p2 => choose2 (fun q2 => ?_) (fun q2 => ?_))⟩
          all_goals refine ⟨_, _, ⟨c3⟩, choose2 (fun p3 => choose2 (fun q3 => ?_) (fun q3 => ?_)) (fun p3 => choose2 (fun q3 => ?_) (fun q3 => ?_))⟩
          all_goals simp [stp, *]
  · rw [if_neg h1]
    refine bc_bne (fun _ => ?_) (fun h => absurd h h1)
    rw [gsP, if_pos h1]; rfl
end Go.Proofs.G5z

/- What is left to show of each function, written out; the kernel reckons it. -/
namespace Go.Proofs.G5z
open Go Go.Abs Go.Proofs
set_option maxRecDepth 100000
set_option linter.unusedVariables false
abbrev JS : List Nat := [30005, 30009, 30012, 30017, 30022]
def gS3 (C : Ct) (L : AtLoop) (a b c d g e m q x : Int) (k : List D → Prop) : Prop := jFn Tryz.prog (hS C) L JS 3 #[vA a b c d, vB g e, vC m q x] (heapOf []) (dataK k)
theorem gS3_text (C : Ct) (L : AtLoop) (a : Int) (b : Int) (c : Int) (d : Int) (g : Int) (e : Int) (m : Int) (q : Int) (x : Int) (k : List D → Prop) : gS3 C L a b c d g e m q x k =
 (((Says C 12 [] [(D.val (Value.bool true))]) ∧
 (∃ n1 : Int,
 (∃ n2 : Int,
 (∃ n3 : Int,
 ((Says C 13 [(D.val (vI m)), (D.val (vI q)), (D.agg [(D.val (vI g)), (D.val (vI e))])] [(D.agg [(D.val (vI n1)), (D.val (vI n2))]), (D.val (vI n3))]) ∧
 (∃ n4 : Int,
 (∃ n5 : Int,
 (∃ n6 : Int,
 (∃ n7 : Int,
 (∃ n8 : Int,
 ((Says C 14 [(D.agg [(D.val (vI a)), (D.val (vI b)), (D.val (vI c)), (D.val (vI d))]), (D.agg [(D.val (vI g)), (D.val (vI e))])] [(D.agg [(D.val (vI n4)), (D.val (vI n5)), (D.val (vI n6)), (D.val (vI n7))]), (D.val (vI n8))]) ∧
 (∃ n9 : Int,
 (∃ n10 : Int,
 (∃ n11 : Int,
 (∃ n12 : Int,
 (∃ n13 : Int,
 ((Says C 15 [(D.agg [(D.val (vI a)), (D.val (vI b)), (D.val (vI c)), (D.val (vI d))]), (D.val (vI e)), (D.val (vI x))] [(D.agg [(D.val (vI n9)), (D.val (vI n10)), (D.val (vI n11)), (D.val (vI n12))]), (D.val (vI n13))]) ∧
 (L 30005 [(Prod.mk 3 (Go.Value.pointer (Option.some (Go.Addr.mk 1000 0 Option.none)))), (Prod.mk 4 (Go.Value.pointer (Option.some (Go.Addr.mk 1001 0 Option.none)))), (Prod.mk 5 (Go.Value.pointer (Option.some (Go.Addr.mk 1002 0 Option.none)))), (Prod.mk 7 (Go.Value.pointer (Option.some (Go.Addr.mk 1003 0 Option.none)))), (Prod.mk 8 (vI n3)), (Prod.mk 9 (Go.Value.pointer (Option.some (Go.Addr.mk 1004 0 Option.none)))), (Prod.mk 10 (vI n8)), (Prod.mk 11 (Go.Value.pointer (Option.some (Go.Addr.mk 1005 0 Option.none)))), (Prod.mk 12 (vI n13))] [(Prod.mk 1000 (AObj.cells [(vI a), (vI b), (vI c), (vI d)] 25 false 1)), (Prod.mk 1001 (AObj.cells [(vI g), (vI e)] 27 false 1)), (Prod.mk 1002 (AObj.cells [(vI m), (vI q), (vI x)] 29 false 1)), (Prod.mk 1003 (AObj.cells [(vI n1), (vI n2)] 32 false 2)), (Prod.mk 1004 (AObj.cells [(vI n4), (vI n5), (vI n6), (vI n7)] 37 false 4)), (Prod.mk 1005 (AObj.cells [(vI n9), (vI n10), (vI n11), (vI n12)] 37 false 4))])))))))))))))))))) ∨
 ((Says C 12 [] [(D.val (Value.bool false))]) ∧
 (k [(D.val (Value.bool false))]))) := by kernel_rfl
abbrev oS (a b c d : Int) : Nat × AObj := (1000, .cells [vI a, vI b, vI c, vI d] 25 false 1)
abbrev oX (i : Nat) (g e : Int) : Nat × AObj := (i, .cells [vI g, vI e] 27 false 1)
abbrev oMa (i : Nat) (m q x : Int) : Nat × AObj := (i, .cells [vI m, vI q, vI x] 29 false 1)
abbrev oF (i : Nat) (n d : Int) : Nat × AObj := (i, .cells [vI n, vI d] 32 false 2)
def c5 (C : Ct) (L : AtLoop) (a b c d g e m q x n1 n2 n3 n4 n5 n6 n7 n8 n9 n10 n11 n12 n13 : Int) (k : List D → Prop) : Prop := jNext Tryz.prog (hS C) L JS 3 30005 .normal [(3, P1 1000 0), (4, P1 1001 0), (5, P1 1002 0), (7, P1 1003 0), (8, vI n3), (9, P1 1004 0), (10, vI n8), (11, P1 1005 0), (12, vI n13)] [oS a b c d, oX 1001 g e, oMa 1002 m q x, oF 1003 n1 n2, oG 1004 n4 n5 n6 n7, oG 1005 n9 n10 n11 n12] (dataK k)
theorem c5_text (C : Ct) (L : AtLoop) (a : Int) (b : Int) (c : Int) (d : Int) (g : Int) (e : Int) (m : Int) (q : Int) (x : Int) (n1 : Int) (n2 : Int) (n3 : Int) (n4 : Int) (n5 : Int) (n6 : Int) (n7 : Int) (n8 : Int) (n9 : Int) (n10 : Int) (n11 : Int) (n12 : Int) (n13 : Int) (k : List D → Prop) : c5 C L a b c d g e m q x n1 n2 n3 n4 n5 n6 n7 n8 n9 n10 n11 n12 n13 k =
 (∃ n14 : Int,
 ((Says C 16 [(D.val (vI m)), (D.val (vI q))] [(D.val (vI n14))]) ∧
 (bcase (n14 == 0)
 (∃ n15 : Int,
 ((Says C 17 [(D.agg [(D.val (vI g)), (D.val (vI e))])] [(D.val (vI n15))]) ∧
 (bcase (n15 != 0)
 (bcase (n3 != n15)
 ((((Go.Value.tuple [].toArray) = (Go.Value.tuple [].toArray)) ∧
 (((Go.Value.tuple [].toArray) = (Go.Value.tuple [].toArray)) ∧
 (((Go.Value.tuple [].toArray) = (Go.Value.tuple [].toArray)) ∧
 (((Go.Value.tuple [].toArray) = (Go.Value.tuple [].toArray)) ∧
 (((Go.Value.tuple [].toArray) = (Go.Value.tuple [].toArray)) ∧
 (((Go.Value.tuple [].toArray) = (Go.Value.tuple [].toArray)) ∧
 (((Go.Value.tuple [].toArray) = (Go.Value.tuple [].toArray)) ∧
 (((Go.Value.tuple [].toArray) = (Go.Value.tuple [].toArray)) ∧
 (((Go.Value.tuple [].toArray) = (Go.Value.tuple [].toArray)) ∧
 (((Go.Value.tuple [].toArray) = (Go.Value.tuple [].toArray)) ∧
 (((Go.Value.tuple [].toArray) = (Go.Value.tuple [].toArray)) ∧
 (((Go.Value.tuple [].toArray) = (Go.Value.tuple [].toArray)) ∧
 (((Value.bool true) = (Value.bool true)) ∧
 (((Value.bool true) = (Value.bool true)) ∧
 (((Value.bool true) = (Value.bool true)) ∧
 (((Go.Value.tuple [].toArray) = (Go.Value.tuple [].toArray)) ∧
 (((Go.Value.tuple [].toArray) = (Go.Value.tuple [].toArray)) ∧
 (((Go.Value.tuple [].toArray) = (Go.Value.tuple [].toArray)) ∧
 (((Value.bool true) = (Value.bool true)) ∧
 ((bcase (n3 != n15)
 ((Value.bool true) = (Value.bool true))
 ((Value.bool false) = (Value.bool true))) ∧
 (((vI n15) = (vI n15)) ∧
 (((vI n3) = (vI n3)) ∧
 (((Value.bool true) = (Value.bool true)) ∧
 ((bcase (n15 != 0)
 ((Value.bool true) = (Value.bool true))
 ((Value.bool false) = (Value.bool true))) ∧
 (((vI n15) = (vI n15)) ∧
 True))))))))))))))))))))))))) ∧
 ((((Value.bool true) = (Value.bool true)) ∧
 (((Go.Value.tuple [].toArray) = (Go.Value.tuple [].toArray)) ∧
 (((Go.Value.tuple [].toArray) = (Go.Value.tuple [].toArray)) ∧
 (((Go.Value.tuple [].toArray) = (Go.Value.tuple [].toArray)) ∧
 (((Go.Value.tuple [].toArray) = (Go.Value.tuple [].toArray)) ∧
 (((Go.Value.tuple [].toArray) = (Go.Value.tuple [].toArray)) ∧
 (((Go.Value.tuple [].toArray) = (Go.Value.tuple [].toArray)) ∧
 (((Go.Value.tuple [].toArray) = (Go.Value.tuple [].toArray)) ∧
 (((Go.Value.tuple [].toArray) = (Go.Value.tuple [].toArray)) ∧
 (((Go.Value.tuple [].toArray) = (Go.Value.tuple [].toArray)) ∧
 (((Go.Value.tuple [].toArray) = (Go.Value.tuple [].toArray)) ∧
 (((Go.Value.tuple [].toArray) = (Go.Value.tuple [].toArray)) ∧
 (((Value.bool true) = (Value.bool true)) ∧
 (((Value.bool true) = (Value.bool true)) ∧
 (((Value.bool true) = (Value.bool true)) ∧
 (((Go.Value.tuple [].toArray) = (Go.Value.tuple [].toArray)) ∧
 (((Go.Value.tuple [].toArray) = (Go.Value.tuple [].toArray)) ∧
 (((Go.Value.tuple [].toArray) = (Go.Value.tuple [].toArray)) ∧
 (((Value.bool true) = (Value.bool true)) ∧
 ((bcase (n3 != n15)
 ((Value.bool true) = (Value.bool true))
 ((Value.bool false) = (Value.bool true))) ∧
 (((vI n15) = (vI n15)) ∧
 (((vI n3) = (vI n3)) ∧
 (((Value.bool true) = (Value.bool true)) ∧
 ((bcase (n15 != 0)
 ((Value.bool true) = (Value.bool true))
 ((Value.bool false) = (Value.bool true))) ∧
 (((vI n15) = (vI n15)) ∧
 True))))))))))))))))))))))))) ∧
 (L 30009 [(Prod.mk 3 (Go.Value.pointer (Option.some (Go.Addr.mk 1000 0 Option.none)))), (Prod.mk 4 (Go.Value.pointer (Option.some (Go.Addr.mk 1001 0 Option.none)))), (Prod.mk 5 (Go.Value.pointer (Option.some (Go.Addr.mk 1002 0 Option.none)))), (Prod.mk 9 (Go.Value.pointer (Option.some (Go.Addr.mk 1003 0 Option.none)))), (Prod.mk 10 (vI n8)), (Prod.mk 11 (Go.Value.pointer (Option.some (Go.Addr.mk 1004 0 Option.none)))), (Prod.mk 12 (vI n13)), (Prod.mk 79 (Value.bool true))] [(Prod.mk 1000 (AObj.cells [(vI a), (vI b), (vI c), (vI d)] 25 false 1)), (Prod.mk 1001 (AObj.cells [(vI g), (vI e)] 27 false 1)), (Prod.mk 1002 (AObj.cells [(vI m), (vI q), (vI x)] 29 false 1)), (Prod.mk 1003 (AObj.cells [(vI n4), (vI n5), (vI n6), (vI n7)] 37 false 4)), (Prod.mk 1004 (AObj.cells [(vI n9), (vI n10), (vI n11), (vI n12)] 37 false 4))])))
 (bcase (if Bool.true = Bool.true then !(n1 == 0 && (n2 == 0 && Bool.true)) else n1 == 0 && (n2 == 0 && Bool.true))
 ((((Go.Value.tuple [].toArray) = (Go.Value.tuple [].toArray)) ∧
 (((Go.Value.tuple [].toArray) = (Go.Value.tuple [].toArray)) ∧
 (((Go.Value.tuple [].toArray) = (Go.Value.tuple [].toArray)) ∧
 (((Go.Value.tuple [].toArray) = (Go.Value.tuple [].toArray)) ∧
 (((Go.Value.tuple [].toArray) = (Go.Value.tuple [].toArray)) ∧
 (((Go.Value.tuple [].toArray) = (Go.Value.tuple [].toArray)) ∧
 (((Go.Value.tuple [].toArray) = (Go.Value.tuple [].toArray)) ∧
 (((Go.Value.tuple [].toArray) = (Go.Value.tuple [].toArray)) ∧
 (((Go.Value.tuple [].toArray) = (Go.Value.tuple [].toArray)) ∧
 (((Go.Value.tuple [].toArray) = (Go.Value.tuple [].toArray)) ∧
 (((Go.Value.tuple [].toArray) = (Go.Value.tuple [].toArray)) ∧
 (((Go.Value.tuple [].toArray) = (Go.Value.tuple [].toArray)) ∧
 (((Value.bool true) = (Value.bool true)) ∧
 (((Value.bool true) = (Value.bool true)) ∧
 (((Value.bool true) = (Value.bool true)) ∧
 ((bcase (if Bool.true = Bool.true then !(n1 == 0 && (n2 == 0 && Bool.true)) else n1 == 0 && (n2 == 0 && Bool.true))
 ((Value.bool true) = (Value.bool true))
 ((Value.bool false) = (Value.bool true))) ∧
 (((Go.Value.agg [(vI (0 : Int)), (vI (0 : Int))].toArray) = (Go.Value.agg [(vI (0 : Int)), (vI (0 : Int))].toArray)) ∧
 (((Go.Value.agg [(vI n1), (vI n2)].toArray) = (Go.Value.agg [(vI n1), (vI n2)].toArray)) ∧
 (((Value.bool false) = (Value.bool false)) ∧
 ((bcase (n3 != n15)
 ((Value.bool true) = (Value.bool false))
 ((Value.bool false) = (Value.bool false))) ∧
 (((vI n15) = (vI n15)) ∧
 (((vI n3) = (vI n3)) ∧
 (((Value.bool true) = (Value.bool true)) ∧
 ((bcase (n15 != 0)
 ((Value.bool true) = (Value.bool true))
 ((Value.bool false) = (Value.bool true))) ∧
 (((vI n15) = (vI n15)) ∧
 True))))))))))))))))))))))))) ∧
 ((((Value.bool true) = (Value.bool true)) ∧
 (((Go.Value.tuple [].toArray) = (Go.Value.tuple [].toArray)) ∧
 (((Go.Value.tuple [].toArray) = (Go.Value.tuple [].toArray)) ∧
 (((Go.Value.tuple [].toArray) = (Go.Value.tuple [].toArray)) ∧
 (((Go.Value.tuple [].toArray) = (Go.Value.tuple [].toArray)) ∧
 (((Go.Value.tuple [].toArray) = (Go.Value.tuple [].toArray)) ∧
 (((Go.Value.tuple [].toArray) = (Go.Value.tuple [].toArray)) ∧
 (((Go.Value.tuple [].toArray) = (Go.Value.tuple [].toArray)) ∧
 (((Go.Value.tuple [].toArray) = (Go.Value.tuple [].toArray)) ∧
 (((Go.Value.tuple [].toArray) = (Go.Value.tuple [].toArray)) ∧
 (((Go.Value.tuple [].toArray) = (Go.Value.tuple [].toArray)) ∧
 (((Go.Value.tuple [].toArray) = (Go.Value.tuple [].toArray)) ∧
 (((Value.bool true) = (Value.bool true)) ∧
 (((Value.bool true) = (Value.bool true)) ∧
 (((Value.bool true) = (Value.bool true)) ∧
 ((bcase (if Bool.true = Bool.true then !(n1 == 0 && (n2 == 0 && Bool.true)) else n1 == 0 && (n2 == 0 && Bool.true))
 ((Value.bool true) = (Value.bool true))
 ((Value.bool false) = (Value.bool true))) ∧
 (((Go.Value.agg [(vI (0 : Int)), (vI (0 : Int))].toArray) = (Go.Value.agg [(vI (0 : Int)), (vI (0 : Int))].toArray)) ∧
 (((Go.Value.agg [(vI n1), (vI n2)].toArray) = (Go.Value.agg [(vI n1), (vI n2)].toArray)) ∧
 (((Value.bool false) = (Value.bool false)) ∧
 ((bcase (n3 != n15)
 ((Value.bool true) = (Value.bool false))
 ((Value.bool false) = (Value.bool false))) ∧
 (((vI n15) = (vI n15)) ∧
 (((vI n3) = (vI n3)) ∧
 (((Value.bool true) = (Value.bool true)) ∧
 ((bcase (n15 != 0)
 ((Value.bool true) = (Value.bool true))
 ((Value.bool false) = (Value.bool true))) ∧
 (((vI n15) = (vI n15)) ∧
 True))))))))))))))))))))))))) ∧
 (L 30009 [(Prod.mk 3 (Go.Value.pointer (Option.some (Go.Addr.mk 1000 0 Option.none)))), (Prod.mk 4 (Go.Value.pointer (Option.some (Go.Addr.mk 1001 0 Option.none)))), (Prod.mk 5 (Go.Value.pointer (Option.some (Go.Addr.mk 1002 0 Option.none)))), (Prod.mk 9 (Go.Value.pointer (Option.some (Go.Addr.mk 1003 0 Option.none)))), (Prod.mk 10 (vI n8)), (Prod.mk 11 (Go.Value.pointer (Option.some (Go.Addr.mk 1004 0 Option.none)))), (Prod.mk 12 (vI n13)), (Prod.mk 79 (Value.bool true))] [(Prod.mk 1000 (AObj.cells [(vI a), (vI b), (vI c), (vI d)] 25 false 1)), (Prod.mk 1001 (AObj.cells [(vI g), (vI e)] 27 false 1)), (Prod.mk 1002 (AObj.cells [(vI m), (vI q), (vI x)] 29 false 1)), (Prod.mk 1003 (AObj.cells [(vI n4), (vI n5), (vI n6), (vI n7)] 37 false 4)), (Prod.mk 1004 (AObj.cells [(vI n9), (vI n10), (vI n11), (vI n12)] 37 false 4))])))
 (bcase (n15 == 0)
 (bcase (n3 != 0)
 ((((Go.Value.tuple [].toArray) = (Go.Value.tuple [].toArray)) ∧
 (((Go.Value.tuple [].toArray) = (Go.Value.tuple [].toArray)) ∧
 (((Go.Value.tuple [].toArray) = (Go.Value.tuple [].toArray)) ∧
 (((Go.Value.tuple [].toArray) = (Go.Value.tuple [].toArray)) ∧
 (((Go.Value.tuple [].toArray) = (Go.Value.tuple [].toArray)) ∧
 (((Go.Value.tuple [].toArray) = (Go.Value.tuple [].toArray)) ∧
 (((Value.bool true) = (Value.bool true)) ∧
 ((bcase (n3 != 0)
 ((Value.bool true) = (Value.bool true))
 ((Value.bool false) = (Value.bool true))) ∧
 (((vI n3) = (vI n3)) ∧
 (((Value.bool true) = (Value.bool true)) ∧
 ((bcase (n15 == 0)
 ((Value.bool true) = (Value.bool true))
 ((Value.bool false) = (Value.bool true))) ∧
 (((vI n15) = (vI n15)) ∧
 (((Value.bool false) = (Value.bool false)) ∧
 (((Value.bool false) = (Value.bool false)) ∧
 (((Value.bool false) = (Value.bool false)) ∧
 ((bcase (if Bool.true = Bool.true then !(n1 == 0 && (n2 == 0 && Bool.true)) else n1 == 0 && (n2 == 0 && Bool.true))
 ((Value.bool true) = (Value.bool false))
 ((Value.bool false) = (Value.bool false))) ∧
 (((Go.Value.agg [(vI (0 : Int)), (vI (0 : Int))].toArray) = (Go.Value.agg [(vI (0 : Int)), (vI (0 : Int))].toArray)) ∧
 (((Go.Value.agg [(vI n1), (vI n2)].toArray) = (Go.Value.agg [(vI n1), (vI n2)].toArray)) ∧
 (((Value.bool false) = (Value.bool false)) ∧
 ((bcase (n3 != n15)
 ((Value.bool true) = (Value.bool false))
 ((Value.bool false) = (Value.bool false))) ∧
 (((vI n15) = (vI n15)) ∧
 (((vI n3) = (vI n3)) ∧
 (((Value.bool true) = (Value.bool true)) ∧
 ((bcase (n15 != 0)
 ((Value.bool true) = (Value.bool true))
 ((Value.bool false) = (Value.bool true))) ∧
 (((vI n15) = (vI n15)) ∧
 True))))))))))))))))))))))))) ∧
 ((((Value.bool true) = (Value.bool true)) ∧
 (((Value.bool true) = (Value.bool true)) ∧
 (((Value.bool true) = (Value.bool true)) ∧
 (((Go.Value.tuple [].toArray) = (Go.Value.tuple [].toArray)) ∧
 (((Go.Value.tuple [].toArray) = (Go.Value.tuple [].toArray)) ∧
 (((Go.Value.tuple [].toArray) = (Go.Value.tuple [].toArray)) ∧
 (((Go.Value.tuple [].toArray) = (Go.Value.tuple [].toArray)) ∧
 ((bcase (n3 != 0)
 ((Value.bool true) = (Value.bool true))
 ((Value.bool false) = (Value.bool true))) ∧
 (((vI n3) = (vI n3)) ∧
 (((Value.bool true) = (Value.bool true)) ∧
 ((bcase (n15 == 0)
 ((Value.bool true) = (Value.bool true))
 ((Value.bool false) = (Value.bool true))) ∧
 (((vI n15) = (vI n15)) ∧
 (((Value.bool false) = (Value.bool false)) ∧
 (((Value.bool false) = (Value.bool false)) ∧
 (((Value.bool false) = (Value.bool false)) ∧
 ((bcase (if Bool.true = Bool.true then !(n1 == 0 && (n2 == 0 && Bool.true)) else n1 == 0 && (n2 == 0 && Bool.true))
 ((Value.bool true) = (Value.bool false))
 ((Value.bool false) = (Value.bool false))) ∧
 (((Go.Value.agg [(vI (0 : Int)), (vI (0 : Int))].toArray) = (Go.Value.agg [(vI (0 : Int)), (vI (0 : Int))].toArray)) ∧
 (((Go.Value.agg [(vI n1), (vI n2)].toArray) = (Go.Value.agg [(vI n1), (vI n2)].toArray)) ∧
 (((Value.bool false) = (Value.bool false)) ∧
 ((bcase (n3 != n15)
 ((Value.bool true) = (Value.bool false))
 ((Value.bool false) = (Value.bool false))) ∧
 (((vI n15) = (vI n15)) ∧
 (((vI n3) = (vI n3)) ∧
 (((Value.bool true) = (Value.bool true)) ∧
 ((bcase (n15 != 0)
 ((Value.bool true) = (Value.bool true))
 ((Value.bool false) = (Value.bool true))) ∧
 (((vI n15) = (vI n15)) ∧
 True))))))))))))))))))))))))) ∧
 (L 30009 [(Prod.mk 3 (Go.Value.pointer (Option.some (Go.Addr.mk 1000 0 Option.none)))), (Prod.mk 4 (Go.Value.pointer (Option.some (Go.Addr.mk 1001 0 Option.none)))), (Prod.mk 5 (Go.Value.pointer (Option.some (Go.Addr.mk 1002 0 Option.none)))), (Prod.mk 9 (Go.Value.pointer (Option.some (Go.Addr.mk 1003 0 Option.none)))), (Prod.mk 10 (vI n8)), (Prod.mk 11 (Go.Value.pointer (Option.some (Go.Addr.mk 1004 0 Option.none)))), (Prod.mk 12 (vI n13)), (Prod.mk 79 (Value.bool true))] [(Prod.mk 1000 (AObj.cells [(vI a), (vI b), (vI c), (vI d)] 25 false 1)), (Prod.mk 1001 (AObj.cells [(vI g), (vI e)] 27 false 1)), (Prod.mk 1002 (AObj.cells [(vI m), (vI q), (vI x)] 29 false 1)), (Prod.mk 1003 (AObj.cells [(vI n4), (vI n5), (vI n6), (vI n7)] 37 false 4)), (Prod.mk 1004 (AObj.cells [(vI n9), (vI n10), (vI n11), (vI n12)] 37 false 4))])))
 ((((Go.Value.agg [(vI g), (vI e)].toArray) = (Go.Value.agg [(vI g), (vI e)].toArray)) ∧
 (((vI q) = (vI q)) ∧
 (((Go.Value.pointer (Option.some (Go.Addr.mk 1002 1 Option.none))) = (Go.Value.pointer (Option.some (Go.Addr.mk 1002 1 Option.none)))) ∧
 (((vI m) = (vI m)) ∧
 (((Go.Value.pointer (Option.some (Go.Addr.mk 1002 0 Option.none))) = (Go.Value.pointer (Option.some (Go.Addr.mk 1002 0 Option.none)))) ∧
 (((Go.Value.agg [(vI n1), (vI n2)].toArray) = (Go.Value.agg [(vI n1), (vI n2)].toArray)) ∧
 (((Value.bool false) = (Value.bool false)) ∧
 ((bcase (n3 != 0)
 ((Value.bool true) = (Value.bool false))
 ((Value.bool false) = (Value.bool false))) ∧
 (((vI n3) = (vI n3)) ∧
 (((Value.bool true) = (Value.bool true)) ∧
 ((bcase (n15 == 0)
 ((Value.bool true) = (Value.bool true))
 ((Value.bool false) = (Value.bool true))) ∧
 (((vI n15) = (vI n15)) ∧
 (((Value.bool false) = (Value.bool false)) ∧
 (((Value.bool false) = (Value.bool false)) ∧
 (((Value.bool false) = (Value.bool false)) ∧
 ((bcase (if Bool.true = Bool.true then !(n1 == 0 && (n2 == 0 && Bool.true)) else n1 == 0 && (n2 == 0 && Bool.true))
 ((Value.bool true) = (Value.bool false))
 ((Value.bool false) = (Value.bool false))) ∧
 (((Go.Value.agg [(vI (0 : Int)), (vI (0 : Int))].toArray) = (Go.Value.agg [(vI (0 : Int)), (vI (0 : Int))].toArray)) ∧
 (((Go.Value.agg [(vI n1), (vI n2)].toArray) = (Go.Value.agg [(vI n1), (vI n2)].toArray)) ∧
 (((Value.bool false) = (Value.bool false)) ∧
 ((bcase (n3 != n15)
 ((Value.bool true) = (Value.bool false))
 ((Value.bool false) = (Value.bool false))) ∧
 (((vI n15) = (vI n15)) ∧
 (((vI n3) = (vI n3)) ∧
 (((Value.bool true) = (Value.bool true)) ∧
 ((bcase (n15 != 0)
 ((Value.bool true) = (Value.bool true))
 ((Value.bool false) = (Value.bool true))) ∧
 (((vI n15) = (vI n15)) ∧
 True))))))))))))))))))))))))) ∧
 (∃ n16 : Int,
 (∃ n17 : Int,
 ((Says C 18 [(D.val (vI m)), (D.val (vI q)), (D.agg [(D.val (vI g)), (D.val (vI e))])] [(D.agg [(D.val (vI n16)), (D.val (vI n17))])]) ∧
 (bcase (if Bool.true = Bool.true then !(n1 == n16 && (n2 == n17 && Bool.true)) else n1 == n16 && (n2 == n17 && Bool.true))
 ((((Value.bool true) = (Value.bool true)) ∧
 (((Value.bool true) = (Value.bool true)) ∧
 (((Value.bool true) = (Value.bool true)) ∧
 ((bcase (if Bool.true = Bool.true then !(n1 == n16 && (n2 == n17 && Bool.true)) else n1 == n16 && (n2 == n17 && Bool.true))
 ((Value.bool true) = (Value.bool true))
 ((Value.bool false) = (Value.bool true))) ∧
 (((Go.Value.pointer (Option.some (Go.Addr.mk 1002 1 Option.none))) = (Go.Value.pointer (Option.some (Go.Addr.mk 1002 1 Option.none)))) ∧
 (((Go.Value.pointer (Option.some (Go.Addr.mk 1002 0 Option.none))) = (Go.Value.pointer (Option.some (Go.Addr.mk 1002 0 Option.none)))) ∧
 (((Go.Value.agg [(vI n1), (vI n2)].toArray) = (Go.Value.agg [(vI n1), (vI n2)].toArray)) ∧
 ((bcase (n3 != 0)
 ((Value.bool true) = (Value.bool false))
 ((Value.bool false) = (Value.bool false))) ∧
 (((vI n3) = (vI n3)) ∧
 (((Value.bool true) = (Value.bool true)) ∧
 ((bcase (n15 == 0)
 ((Value.bool true) = (Value.bool true))
 ((Value.bool false) = (Value.bool true))) ∧
 (((vI n15) = (vI n15)) ∧
 (((Value.bool false) = (Value.bool false)) ∧
 (((Value.bool false) = (Value.bool false)) ∧
 (((Value.bool false) = (Value.bool false)) ∧
 ((bcase (if Bool.true = Bool.true then !(n1 == 0 && (n2 == 0 && Bool.true)) else n1 == 0 && (n2 == 0 && Bool.true))
 ((Value.bool true) = (Value.bool false))
 ((Value.bool false) = (Value.bool false))) ∧
 (((Go.Value.agg [(vI (0 : Int)), (vI (0 : Int))].toArray) = (Go.Value.agg [(vI (0 : Int)), (vI (0 : Int))].toArray)) ∧
 (((Go.Value.agg [(vI n1), (vI n2)].toArray) = (Go.Value.agg [(vI n1), (vI n2)].toArray)) ∧
 (((Value.bool false) = (Value.bool false)) ∧
 ((bcase (n3 != n15)
 ((Value.bool true) = (Value.bool false))
 ((Value.bool false) = (Value.bool false))) ∧
 (((vI n15) = (vI n15)) ∧
 (((vI n3) = (vI n3)) ∧
 (((Value.bool true) = (Value.bool true)) ∧
 ((bcase (n15 != 0)
 ((Value.bool true) = (Value.bool true))
 ((Value.bool false) = (Value.bool true))) ∧
 (((vI n15) = (vI n15)) ∧
 True))))))))))))))))))))))))) ∧
 (L 30009 [(Prod.mk 3 (Go.Value.pointer (Option.some (Go.Addr.mk 1000 0 Option.none)))), (Prod.mk 4 (Go.Value.pointer (Option.some (Go.Addr.mk 1001 0 Option.none)))), (Prod.mk 5 (Go.Value.pointer (Option.some (Go.Addr.mk 1002 0 Option.none)))), (Prod.mk 9 (Go.Value.pointer (Option.some (Go.Addr.mk 1003 0 Option.none)))), (Prod.mk 10 (vI n8)), (Prod.mk 11 (Go.Value.pointer (Option.some (Go.Addr.mk 1004 0 Option.none)))), (Prod.mk 12 (vI n13)), (Prod.mk 79 (Value.bool true))] [(Prod.mk 1000 (AObj.cells [(vI a), (vI b), (vI c), (vI d)] 25 false 1)), (Prod.mk 1001 (AObj.cells [(vI g), (vI e)] 27 false 1)), (Prod.mk 1002 (AObj.cells [(vI m), (vI q), (vI x)] 29 false 1)), (Prod.mk 1003 (AObj.cells [(vI n4), (vI n5), (vI n6), (vI n7)] 37 false 4)), (Prod.mk 1004 (AObj.cells [(vI n9), (vI n10), (vI n11), (vI n12)] 37 false 4))]))
 ((((Value.bool false) = (Value.bool false)) ∧
 (((Value.bool false) = (Value.bool false)) ∧
 (((Value.bool false) = (Value.bool false)) ∧
 ((bcase (if Bool.true = Bool.true then !(n1 == n16 && (n2 == n17 && Bool.true)) else n1 == n16 && (n2 == n17 && Bool.true))
 ((Value.bool true) = (Value.bool false))
 ((Value.bool false) = (Value.bool false))) ∧
 (((Go.Value.pointer (Option.some (Go.Addr.mk 1002 1 Option.none))) = (Go.Value.pointer (Option.some (Go.Addr.mk 1002 1 Option.none)))) ∧
 (((Go.Value.pointer (Option.some (Go.Addr.mk 1002 0 Option.none))) = (Go.Value.pointer (Option.some (Go.Addr.mk 1002 0 Option.none)))) ∧
 (((Go.Value.agg [(vI n1), (vI n2)].toArray) = (Go.Value.agg [(vI n1), (vI n2)].toArray)) ∧
 ((bcase (n3 != 0)
 ((Value.bool true) = (Value.bool false))
 ((Value.bool false) = (Value.bool false))) ∧
 (((vI n3) = (vI n3)) ∧
 (((Value.bool true) = (Value.bool true)) ∧
 ((bcase (n15 == 0)
 ((Value.bool true) = (Value.bool true))
 ((Value.bool false) = (Value.bool true))) ∧
 (((vI n15) = (vI n15)) ∧
 (((Value.bool false) = (Value.bool false)) ∧
 (((Value.bool false) = (Value.bool false)) ∧
 (((Value.bool false) = (Value.bool false)) ∧
 ((bcase (if Bool.true = Bool.true then !(n1 == 0 && (n2 == 0 && Bool.true)) else n1 == 0 && (n2 == 0 && Bool.true))
 ((Value.bool true) = (Value.bool false))
 ((Value.bool false) = (Value.bool false))) ∧
 (((Go.Value.agg [(vI (0 : Int)), (vI (0 : Int))].toArray) = (Go.Value.agg [(vI (0 : Int)), (vI (0 : Int))].toArray)) ∧
 (((Go.Value.agg [(vI n1), (vI n2)].toArray) = (Go.Value.agg [(vI n1), (vI n2)].toArray)) ∧
 (((Value.bool false) = (Value.bool false)) ∧
 ((bcase (n3 != n15)
 ((Value.bool true) = (Value.bool false))
 ((Value.bool false) = (Value.bool false))) ∧
 (((vI n15) = (vI n15)) ∧
 (((vI n3) = (vI n3)) ∧
 (((Value.bool true) = (Value.bool true)) ∧
 ((bcase (n15 != 0)
 ((Value.bool true) = (Value.bool true))
 ((Value.bool false) = (Value.bool true))) ∧
 (((vI n15) = (vI n15)) ∧
 True))))))))))))))))))))))))) ∧
 (L 30009 [(Prod.mk 3 (Go.Value.pointer (Option.some (Go.Addr.mk 1000 0 Option.none)))), (Prod.mk 4 (Go.Value.pointer (Option.some (Go.Addr.mk 1001 0 Option.none)))), (Prod.mk 5 (Go.Value.pointer (Option.some (Go.Addr.mk 1002 0 Option.none)))), (Prod.mk 9 (Go.Value.pointer (Option.some (Go.Addr.mk 1003 0 Option.none)))), (Prod.mk 10 (vI n8)), (Prod.mk 11 (Go.Value.pointer (Option.some (Go.Addr.mk 1004 0 Option.none)))), (Prod.mk 12 (vI n13)), (Prod.mk 79 (Value.bool false))] [(Prod.mk 1000 (AObj.cells [(vI a), (vI b), (vI c), (vI d)] 25 false 1)), (Prod.mk 1001 (AObj.cells [(vI g), (vI e)] 27 false 1)), (Prod.mk 1002 (AObj.cells [(vI m), (vI q), (vI x)] 29 false 1)), (Prod.mk 1003 (AObj.cells [(vI n4), (vI n5), (vI n6), (vI n7)] 37 false 4)), (Prod.mk 1004 (AObj.cells [(vI n9), (vI n10), (vI n11), (vI n12)] 37 false 4))]))))))))
 ((((Go.Value.tuple [].toArray) = (Go.Value.tuple [].toArray)) ∧
 (((Go.Value.tuple [].toArray) = (Go.Value.tuple [].toArray)) ∧
 (((Go.Value.tuple [].toArray) = (Go.Value.tuple [].toArray)) ∧
 (((Go.Value.tuple [].toArray) = (Go.Value.tuple [].toArray)) ∧
 (((Go.Value.tuple [].toArray) = (Go.Value.tuple [].toArray)) ∧
 (((Go.Value.tuple [].toArray) = (Go.Value.tuple [].toArray)) ∧
 (((Go.Value.tuple [].toArray) = (Go.Value.tuple [].toArray)) ∧
 (((Go.Value.tuple [].toArray) = (Go.Value.tuple [].toArray)) ∧
 (((Go.Value.tuple [].toArray) = (Go.Value.tuple [].toArray)) ∧
 (((Value.bool false) = (Value.bool false)) ∧
 ((bcase (n15 == 0)
 ((Value.bool true) = (Value.bool false))
 ((Value.bool false) = (Value.bool false))) ∧
 (((vI n15) = (vI n15)) ∧
 (((Value.bool false) = (Value.bool false)) ∧
 (((Value.bool false) = (Value.bool false)) ∧
 (((Value.bool false) = (Value.bool false)) ∧
 ((bcase (if Bool.true = Bool.true then !(n1 == 0 && (n2 == 0 && Bool.true)) else n1 == 0 && (n2 == 0 && Bool.true))
 ((Value.bool true) = (Value.bool false))
 ((Value.bool false) = (Value.bool false))) ∧
 (((Go.Value.agg [(vI (0 : Int)), (vI (0 : Int))].toArray) = (Go.Value.agg [(vI (0 : Int)), (vI (0 : Int))].toArray)) ∧
 (((Go.Value.agg [(vI n1), (vI n2)].toArray) = (Go.Value.agg [(vI n1), (vI n2)].toArray)) ∧
 (((Value.bool false) = (Value.bool false)) ∧
 ((bcase (n3 != n15)
 ((Value.bool true) = (Value.bool false))
 ((Value.bool false) = (Value.bool false))) ∧
 (((vI n15) = (vI n15)) ∧
 (((vI n3) = (vI n3)) ∧
 (((Value.bool true) = (Value.bool true)) ∧
 ((bcase (n15 != 0)
 ((Value.bool true) = (Value.bool true))
 ((Value.bool false) = (Value.bool true))) ∧
 (((vI n15) = (vI n15)) ∧
 True))))))))))))))))))))))))) ∧
 ((((Value.bool false) = (Value.bool false)) ∧
 (((Value.bool false) = (Value.bool false)) ∧
 (((Go.Value.tuple [].toArray) = (Go.Value.tuple [].toArray)) ∧
 (((Go.Value.tuple [].toArray) = (Go.Value.tuple [].toArray)) ∧
 (((Go.Value.tuple [].toArray) = (Go.Value.tuple [].toArray)) ∧
 (((Go.Value.tuple [].toArray) = (Go.Value.tuple [].toArray)) ∧
 (((Go.Value.tuple [].toArray) = (Go.Value.tuple [].toArray)) ∧
 (((Go.Value.tuple [].toArray) = (Go.Value.tuple [].toArray)) ∧
 (((Go.Value.tuple [].toArray) = (Go.Value.tuple [].toArray)) ∧
 (((Value.bool false) = (Value.bool false)) ∧
 ((bcase (n15 == 0)
 ((Value.bool true) = (Value.bool false))
 ((Value.bool false) = (Value.bool false))) ∧
 (((vI n15) = (vI n15)) ∧
 (((Value.bool false) = (Value.bool false)) ∧
 (((Value.bool false) = (Value.bool false)) ∧
 (((Value.bool false) = (Value.bool false)) ∧
 ((bcase (if Bool.true = Bool.true then !(n1 == 0 && (n2 == 0 && Bool.true)) else n1 == 0 && (n2 == 0 && Bool.true))
 ((Value.bool true) = (Value.bool false))
 ((Value.bool false) = (Value.bool false))) ∧
 (((Go.Value.agg [(vI (0 : Int)), (vI (0 : Int))].toArray) = (Go.Value.agg [(vI (0 : Int)), (vI (0 : Int))].toArray)) ∧
 (((Go.Value.agg [(vI n1), (vI n2)].toArray) = (Go.Value.agg [(vI n1), (vI n2)].toArray)) ∧
 (((Value.bool false) = (Value.bool false)) ∧
 ((bcase (n3 != n15)
 ((Value.bool true) = (Value.bool false))
 ((Value.bool false) = (Value.bool false))) ∧
 (((vI n15) = (vI n15)) ∧
 (((vI n3) = (vI n3)) ∧
 (((Value.bool true) = (Value.bool true)) ∧
 ((bcase (n15 != 0)
 ((Value.bool true) = (Value.bool true))
 ((Value.bool false) = (Value.bool true))) ∧
 (((vI n15) = (vI n15)) ∧
 True))))))))))))))))))))))))) ∧
 (L 30009 [(Prod.mk 3 (Go.Value.pointer (Option.some (Go.Addr.mk 1000 0 Option.none)))), (Prod.mk 4 (Go.Value.pointer (Option.some (Go.Addr.mk 1001 0 Option.none)))), (Prod.mk 5 (Go.Value.pointer (Option.some (Go.Addr.mk 1002 0 Option.none)))), (Prod.mk 9 (Go.Value.pointer (Option.some (Go.Addr.mk 1003 0 Option.none)))), (Prod.mk 10 (vI n8)), (Prod.mk 11 (Go.Value.pointer (Option.some (Go.Addr.mk 1004 0 Option.none)))), (Prod.mk 12 (vI n13)), (Prod.mk 79 (Value.bool false))] [(Prod.mk 1000 (AObj.cells [(vI a), (vI b), (vI c), (vI d)] 25 false 1)), (Prod.mk 1001 (AObj.cells [(vI g), (vI e)] 27 false 1)), (Prod.mk 1002 (AObj.cells [(vI m), (vI q), (vI x)] 29 false 1)), (Prod.mk 1003 (AObj.cells [(vI n4), (vI n5), (vI n6), (vI n7)] 37 false 4)), (Prod.mk 1004 (AObj.cells [(vI n9), (vI n10), (vI n11), (vI n12)] 37 false 4))]))))))
 (bcase (n15 == 0)
 (bcase (n3 != 0)
 ((((Go.Value.tuple [].toArray) = (Go.Value.tuple [].toArray)) ∧
 (((Go.Value.tuple [].toArray) = (Go.Value.tuple [].toArray)) ∧
 (((Go.Value.tuple [].toArray) = (Go.Value.tuple [].toArray)) ∧
 (((Go.Value.tuple [].toArray) = (Go.Value.tuple [].toArray)) ∧
 (((Go.Value.tuple [].toArray) = (Go.Value.tuple [].toArray)) ∧
 (((Go.Value.tuple [].toArray) = (Go.Value.tuple [].toArray)) ∧
 (((Value.bool true) = (Value.bool true)) ∧
 ((bcase (n3 != 0)
 ((Value.bool true) = (Value.bool true))
 ((Value.bool false) = (Value.bool true))) ∧
 (((vI n3) = (vI n3)) ∧
 (((Value.bool true) = (Value.bool true)) ∧
 ((bcase (n15 == 0)
 ((Value.bool true) = (Value.bool true))
 ((Value.bool false) = (Value.bool true))) ∧
 (((vI n15) = (vI n15)) ∧
 (((Value.bool false) = (Value.bool false)) ∧
 (((Value.bool false) = (Value.bool false)) ∧
 (((Go.Value.tuple [].toArray) = (Go.Value.tuple [].toArray)) ∧
 (((Go.Value.tuple [].toArray) = (Go.Value.tuple [].toArray)) ∧
 (((Go.Value.tuple [].toArray) = (Go.Value.tuple [].toArray)) ∧
 (((Go.Value.tuple [].toArray) = (Go.Value.tuple [].toArray)) ∧
 (((Go.Value.tuple [].toArray) = (Go.Value.tuple [].toArray)) ∧
 (((Go.Value.tuple [].toArray) = (Go.Value.tuple [].toArray)) ∧
 (((Go.Value.tuple [].toArray) = (Go.Value.tuple [].toArray)) ∧
 (((Go.Value.tuple [].toArray) = (Go.Value.tuple [].toArray)) ∧
 (((Value.bool false) = (Value.bool false)) ∧
 ((bcase (n15 != 0)
 ((Value.bool true) = (Value.bool false))
 ((Value.bool false) = (Value.bool false))) ∧
 (((vI n15) = (vI n15)) ∧
 True))))))))))))))))))))))))) ∧
 ((((Value.bool true) = (Value.bool true)) ∧
 (((Value.bool true) = (Value.bool true)) ∧
 (((Value.bool true) = (Value.bool true)) ∧
 (((Go.Value.tuple [].toArray) = (Go.Value.tuple [].toArray)) ∧
 (((Go.Value.tuple [].toArray) = (Go.Value.tuple [].toArray)) ∧
 (((Go.Value.tuple [].toArray) = (Go.Value.tuple [].toArray)) ∧
 (((Go.Value.tuple [].toArray) = (Go.Value.tuple [].toArray)) ∧
 ((bcase (n3 != 0)
 ((Value.bool true) = (Value.bool true))
 ((Value.bool false) = (Value.bool true))) ∧
 (((vI n3) = (vI n3)) ∧
 (((Value.bool true) = (Value.bool true)) ∧
 ((bcase (n15 == 0)
 ((Value.bool true) = (Value.bool true))
 ((Value.bool false) = (Value.bool true))) ∧
 (((vI n15) = (vI n15)) ∧
 (((Value.bool false) = (Value.bool false)) ∧
 (((Value.bool false) = (Value.bool false)) ∧
 (((Go.Value.tuple [].toArray) = (Go.Value.tuple [].toArray)) ∧
 (((Go.Value.tuple [].toArray) = (Go.Value.tuple [].toArray)) ∧
 (((Go.Value.tuple [].toArray) = (Go.Value.tuple [].toArray)) ∧
 (((Go.Value.tuple [].toArray) = (Go.Value.tuple [].toArray)) ∧
 (((Go.Value.tuple [].toArray) = (Go.Value.tuple [].toArray)) ∧
 (((Go.Value.tuple [].toArray) = (Go.Value.tuple [].toArray)) ∧
 (((Go.Value.tuple [].toArray) = (Go.Value.tuple [].toArray)) ∧
 (((Go.Value.tuple [].toArray) = (Go.Value.tuple [].toArray)) ∧
 (((Value.bool false) = (Value.bool false)) ∧
 ((bcase (n15 != 0)
 ((Value.bool true) = (Value.bool false))
 ((Value.bool false) = (Value.bool false))) ∧
 (((vI n15) = (vI n15)) ∧
 True))))))))))))))))))))))))) ∧
 (L 30009 [(Prod.mk 3 (Go.Value.pointer (Option.some (Go.Addr.mk 1000 0 Option.none)))), (Prod.mk 4 (Go.Value.pointer (Option.some (Go.Addr.mk 1001 0 Option.none)))), (Prod.mk 5 (Go.Value.pointer (Option.some (Go.Addr.mk 1002 0 Option.none)))), (Prod.mk 9 (Go.Value.pointer (Option.some (Go.Addr.mk 1003 0 Option.none)))), (Prod.mk 10 (vI n8)), (Prod.mk 11 (Go.Value.pointer (Option.some (Go.Addr.mk 1004 0 Option.none)))), (Prod.mk 12 (vI n13)), (Prod.mk 79 (Value.bool true))] [(Prod.mk 1000 (AObj.cells [(vI a), (vI b), (vI c), (vI d)] 25 false 1)), (Prod.mk 1001 (AObj.cells [(vI g), (vI e)] 27 false 1)), (Prod.mk 1002 (AObj.cells [(vI m), (vI q), (vI x)] 29 false 1)), (Prod.mk 1003 (AObj.cells [(vI n4), (vI n5), (vI n6), (vI n7)] 37 false 4)), (Prod.mk 1004 (AObj.cells [(vI n9), (vI n10), (vI n11), (vI n12)] 37 false 4))])))
 ((((Go.Value.agg [(vI g), (vI e)].toArray) = (Go.Value.agg [(vI g), (vI e)].toArray)) ∧
 (((vI q) = (vI q)) ∧
 (((Go.Value.pointer (Option.some (Go.Addr.mk 1002 1 Option.none))) = (Go.Value.pointer (Option.some (Go.Addr.mk 1002 1 Option.none)))) ∧
 (((vI m) = (vI m)) ∧
 (((Go.Value.pointer (Option.some (Go.Addr.mk 1002 0 Option.none))) = (Go.Value.pointer (Option.some (Go.Addr.mk 1002 0 Option.none)))) ∧
 (((Go.Value.agg [(vI n1), (vI n2)].toArray) = (Go.Value.agg [(vI n1), (vI n2)].toArray)) ∧
 (((Value.bool false) = (Value.bool false)) ∧
 ((bcase (n3 != 0)
 ((Value.bool true) = (Value.bool false))
 ((Value.bool false) = (Value.bool false))) ∧
 (((vI n3) = (vI n3)) ∧
 (((Value.bool true) = (Value.bool true)) ∧
 ((bcase (n15 == 0)
 ((Value.bool true) = (Value.bool true))
 ((Value.bool false) = (Value.bool true))) ∧
 (((vI n15) = (vI n15)) ∧
 (((Value.bool false) = (Value.bool false)) ∧
 (((Value.bool false) = (Value.bool false)) ∧
 (((Go.Value.tuple [].toArray) = (Go.Value.tuple [].toArray)) ∧
 (((Go.Value.tuple [].toArray) = (Go.Value.tuple [].toArray)) ∧
 (((Go.Value.tuple [].toArray) = (Go.Value.tuple [].toArray)) ∧
 (((Go.Value.tuple [].toArray) = (Go.Value.tuple [].toArray)) ∧
 (((Go.Value.tuple [].toArray) = (Go.Value.tuple [].toArray)) ∧
 (((Go.Value.tuple [].toArray) = (Go.Value.tuple [].toArray)) ∧
 (((Go.Value.tuple [].toArray) = (Go.Value.tuple [].toArray)) ∧
 (((Go.Value.tuple [].toArray) = (Go.Value.tuple [].toArray)) ∧
 (((Value.bool false) = (Value.bool false)) ∧
 ((bcase (n15 != 0)
 ((Value.bool true) = (Value.bool false))
 ((Value.bool false) = (Value.bool false))) ∧
 (((vI n15) = (vI n15)) ∧
 True))))))))))))))))))))))))) ∧
 (∃ n16 : Int,
 (∃ n17 : Int,
 ((Says C 18 [(D.val (vI m)), (D.val (vI q)), (D.agg [(D.val (vI g)), (D.val (vI e))])] [(D.agg [(D.val (vI n16)), (D.val (vI n17))])]) ∧
 (bcase (if Bool.true = Bool.true then !(n1 == n16 && (n2 == n17 && Bool.true)) else n1 == n16 && (n2 == n17 && Bool.true))
 ((((Value.bool true) = (Value.bool true)) ∧
 (((Value.bool true) = (Value.bool true)) ∧
 (((Value.bool true) = (Value.bool true)) ∧
 ((bcase (if Bool.true = Bool.true then !(n1 == n16 && (n2 == n17 && Bool.true)) else n1 == n16 && (n2 == n17 && Bool.true))
 ((Value.bool true) = (Value.bool true))
 ((Value.bool false) = (Value.bool true))) ∧
 (((Go.Value.pointer (Option.some (Go.Addr.mk 1002 1 Option.none))) = (Go.Value.pointer (Option.some (Go.Addr.mk 1002 1 Option.none)))) ∧
 (((Go.Value.pointer (Option.some (Go.Addr.mk 1002 0 Option.none))) = (Go.Value.pointer (Option.some (Go.Addr.mk 1002 0 Option.none)))) ∧
 (((Go.Value.agg [(vI n1), (vI n2)].toArray) = (Go.Value.agg [(vI n1), (vI n2)].toArray)) ∧
 ((bcase (n3 != 0)
 ((Value.bool true) = (Value.bool false))
 ((Value.bool false) = (Value.bool false))) ∧
 (((vI n3) = (vI n3)) ∧
 (((Value.bool true) = (Value.bool true)) ∧
 ((bcase (n15 == 0)
 ((Value.bool true) = (Value.bool true))
 ((Value.bool false) = (Value.bool true))) ∧
 (((vI n15) = (vI n15)) ∧
 (((Value.bool false) = (Value.bool false)) ∧
 (((Value.bool false) = (Value.bool false)) ∧
 (((Go.Value.tuple [].toArray) = (Go.Value.tuple [].toArray)) ∧
 (((Go.Value.tuple [].toArray) = (Go.Value.tuple [].toArray)) ∧
 (((Go.Value.tuple [].toArray) = (Go.Value.tuple [].toArray)) ∧
 (((Go.Value.tuple [].toArray) = (Go.Value.tuple [].toArray)) ∧
 (((Go.Value.tuple [].toArray) = (Go.Value.tuple [].toArray)) ∧
 (((Go.Value.tuple [].toArray) = (Go.Value.tuple [].toArray)) ∧
 (((Go.Value.tuple [].toArray) = (Go.Value.tuple [].toArray)) ∧
 (((Go.Value.tuple [].toArray) = (Go.Value.tuple [].toArray)) ∧
 (((Value.bool false) = (Value.bool false)) ∧
 ((bcase (n15 != 0)
 ((Value.bool true) = (Value.bool false))
 ((Value.bool false) = (Value.bool false))) ∧
 (((vI n15) = (vI n15)) ∧
 True))))))))))))))))))))))))) ∧
 (L 30009 [(Prod.mk 3 (Go.Value.pointer (Option.some (Go.Addr.mk 1000 0 Option.none)))), (Prod.mk 4 (Go.Value.pointer (Option.some (Go.Addr.mk 1001 0 Option.none)))), (Prod.mk 5 (Go.Value.pointer (Option.some (Go.Addr.mk 1002 0 Option.none)))), (Prod.mk 9 (Go.Value.pointer (Option.some (Go.Addr.mk 1003 0 Option.none)))), (Prod.mk 10 (vI n8)), (Prod.mk 11 (Go.Value.pointer (Option.some (Go.Addr.mk 1004 0 Option.none)))), (Prod.mk 12 (vI n13)), (Prod.mk 79 (Value.bool true))] [(Prod.mk 1000 (AObj.cells [(vI a), (vI b), (vI c), (vI d)] 25 false 1)), (Prod.mk 1001 (AObj.cells [(vI g), (vI e)] 27 false 1)), (Prod.mk 1002 (AObj.cells [(vI m), (vI q), (vI x)] 29 false 1)), (Prod.mk 1003 (AObj.cells [(vI n4), (vI n5), (vI n6), (vI n7)] 37 false 4)), (Prod.mk 1004 (AObj.cells [(vI n9), (vI n10), (vI n11), (vI n12)] 37 false 4))]))
 ((((Value.bool false) = (Value.bool false)) ∧
 (((Value.bool false) = (Value.bool false)) ∧
 (((Value.bool false) = (Value.bool false)) ∧
 ((bcase (if Bool.true = Bool.true then !(n1 == n16 && (n2 == n17 && Bool.true)) else n1 == n16 && (n2 == n17 && Bool.true))
 ((Value.bool true) = (Value.bool false))
 ((Value.bool false) = (Value.bool false))) ∧
 (((Go.Value.pointer (Option.some (Go.Addr.mk 1002 1 Option.none))) = (Go.Value.pointer (Option.some (Go.Addr.mk 1002 1 Option.none)))) ∧
 (((Go.Value.pointer (Option.some (Go.Addr.mk 1002 0 Option.none))) = (Go.Value.pointer (Option.some (Go.Addr.mk 1002 0 Option.none)))) ∧
 (((Go.Value.agg [(vI n1), (vI n2)].toArray) = (Go.Value.agg [(vI n1), (vI n2)].toArray)) ∧
 ((bcase (n3 != 0)
 ((Value.bool true) = (Value.bool false))
 ((Value.bool false) = (Value.bool false))) ∧
 (((vI n3) = (vI n3)) ∧
 (((Value.bool true) = (Value.bool true)) ∧
 ((bcase (n15 == 0)
 ((Value.bool true) = (Value.bool true))
 ((Value.bool false) = (Value.bool true))) ∧
 (((vI n15) = (vI n15)) ∧
 (((Value.bool false) = (Value.bool false)) ∧
 (((Value.bool false) = (Value.bool false)) ∧
 (((Go.Value.tuple [].toArray) = (Go.Value.tuple [].toArray)) ∧
 (((Go.Value.tuple [].toArray) = (Go.Value.tuple [].toArray)) ∧
 (((Go.Value.tuple [].toArray) = (Go.Value.tuple [].toArray)) ∧
 (((Go.Value.tuple [].toArray) = (Go.Value.tuple [].toArray)) ∧
 (((Go.Value.tuple [].toArray) = (Go.Value.tuple [].toArray)) ∧
 (((Go.Value.tuple [].toArray) = (Go.Value.tuple [].toArray)) ∧
 (((Go.Value.tuple [].toArray) = (Go.Value.tuple [].toArray)) ∧
 (((Go.Value.tuple [].toArray) = (Go.Value.tuple [].toArray)) ∧
 (((Value.bool false) = (Value.bool false)) ∧
 ((bcase (n15 != 0)
 ((Value.bool true) = (Value.bool false))
 ((Value.bool false) = (Value.bool false))) ∧
 (((vI n15) = (vI n15)) ∧
 True))))))))))))))))))))))))) ∧
 (L 30009 [(Prod.mk 3 (Go.Value.pointer (Option.some (Go.Addr.mk 1000 0 Option.none)))), (Prod.mk 4 (Go.Value.pointer (Option.some (Go.Addr.mk 1001 0 Option.none)))), (Prod.mk 5 (Go.Value.pointer (Option.some (Go.Addr.mk 1002 0 Option.none)))), (Prod.mk 9 (Go.Value.pointer (Option.some (Go.Addr.mk 1003 0 Option.none)))), (Prod.mk 10 (vI n8)), (Prod.mk 11 (Go.Value.pointer (Option.some (Go.Addr.mk 1004 0 Option.none)))), (Prod.mk 12 (vI n13)), (Prod.mk 79 (Value.bool false))] [(Prod.mk 1000 (AObj.cells [(vI a), (vI b), (vI c), (vI d)] 25 false 1)), (Prod.mk 1001 (AObj.cells [(vI g), (vI e)] 27 false 1)), (Prod.mk 1002 (AObj.cells [(vI m), (vI q), (vI x)] 29 false 1)), (Prod.mk 1003 (AObj.cells [(vI n4), (vI n5), (vI n6), (vI n7)] 37 false 4)), (Prod.mk 1004 (AObj.cells [(vI n9), (vI n10), (vI n11), (vI n12)] 37 false 4))]))))))))
 ((((Go.Value.tuple [].toArray) = (Go.Value.tuple [].toArray)) ∧
 (((Go.Value.tuple [].toArray) = (Go.Value.tuple [].toArray)) ∧
 (((Go.Value.tuple [].toArray) = (Go.Value.tuple [].toArray)) ∧
 (((Go.Value.tuple [].toArray) = (Go.Value.tuple [].toArray)) ∧
 (((Go.Value.tuple [].toArray) = (Go.Value.tuple [].toArray)) ∧
 (((Go.Value.tuple [].toArray) = (Go.Value.tuple [].toArray)) ∧
 (((Go.Value.tuple [].toArray) = (Go.Value.tuple [].toArray)) ∧
 (((Go.Value.tuple [].toArray) = (Go.Value.tuple [].toArray)) ∧
 (((Go.Value.tuple [].toArray) = (Go.Value.tuple [].toArray)) ∧
 (((Value.bool false) = (Value.bool false)) ∧
 ((bcase (n15 == 0)
 ((Value.bool true) = (Value.bool false))
 ((Value.bool false) = (Value.bool false))) ∧
 (((vI n15) = (vI n15)) ∧
 (((Value.bool false) = (Value.bool false)) ∧
 (((Value.bool false) = (Value.bool false)) ∧
 (((Go.Value.tuple [].toArray) = (Go.Value.tuple [].toArray)) ∧
 (((Go.Value.tuple [].toArray) = (Go.Value.tuple [].toArray)) ∧
 (((Go.Value.tuple [].toArray) = (Go.Value.tuple [].toArray)) ∧
 (((Go.Value.tuple [].toArray) = (Go.Value.tuple [].toArray)) ∧
 (((Go.Value.tuple [].toArray) = (Go.Value.tuple [].toArray)) ∧
 (((Go.Value.tuple [].toArray) = (Go.Value.tuple [].toArray)) ∧
 (((Go.Value.tuple [].toArray) = (Go.Value.tuple [].toArray)) ∧
 (((Go.Value.tuple [].toArray) = (Go.Value.tuple [].toArray)) ∧
 (((Value.bool false) = (Value.bool false)) ∧
 ((bcase (n15 != 0)
 ((Value.bool true) = (Value.bool false))
 ((Value.bool false) = (Value.bool false))) ∧
 (((vI n15) = (vI n15)) ∧
 True))))))))))))))))))))))))) ∧
 ((((Value.bool false) = (Value.bool false)) ∧
 (((Value.bool false) = (Value.bool false)) ∧
 (((Go.Value.tuple [].toArray) = (Go.Value.tuple [].toArray)) ∧
 (((Go.Value.tuple [].toArray) = (Go.Value.tuple [].toArray)) ∧
 (((Go.Value.tuple [].toArray) = (Go.Value.tuple [].toArray)) ∧
 (((Go.Value.tuple [].toArray) = (Go.Value.tuple [].toArray)) ∧
 (((Go.Value.tuple [].toArray) = (Go.Value.tuple [].toArray)) ∧
 (((Go.Value.tuple [].toArray) = (Go.Value.tuple [].toArray)) ∧
 (((Go.Value.tuple [].toArray) = (Go.Value.tuple [].toArray)) ∧
 (((Value.bool false) = (Value.bool false)) ∧
 ((bcase (n15 == 0)
 ((Value.bool true) = (Value.bool false))
 ((Value.bool false) = (Value.bool false))) ∧
 (((vI n15) = (vI n15)) ∧
 (((Value.bool false) = (Value.bool false)) ∧
 (((Value.bool false) = (Value.bool false)) ∧
 (((Go.Value.tuple [].toArray) = (Go.Value.tuple [].toArray)) ∧
 (((Go.Value.tuple [].toArray) = (Go.Value.tuple [].toArray)) ∧
 (((Go.Value.tuple [].toArray) = (Go.Value.tuple [].toArray)) ∧
 (((Go.Value.tuple [].toArray) = (Go.Value.tuple [].toArray)) ∧
 (((Go.Value.tuple [].toArray) = (Go.Value.tuple [].toArray)) ∧
 (((Go.Value.tuple [].toArray) = (Go.Value.tuple [].toArray)) ∧
 (((Go.Value.tuple [].toArray) = (Go.Value.tuple [].toArray)) ∧
 (((Go.Value.tuple [].toArray) = (Go.Value.tuple [].toArray)) ∧
 (((Value.bool false) = (Value.bool false)) ∧
 ((bcase (n15 != 0)
 ((Value.bool true) = (Value.bool false))
 ((Value.bool false) = (Value.bool false))) ∧
 (((vI n15) = (vI n15)) ∧
 True))))))))))))))))))))))))) ∧
 (L 30009 [(Prod.mk 3 (Go.Value.pointer (Option.some (Go.Addr.mk 1000 0 Option.none)))), (Prod.mk 4 (Go.Value.pointer (Option.some (Go.Addr.mk 1001 0 Option.none)))), (Prod.mk 5 (Go.Value.pointer (Option.some (Go.Addr.mk 1002 0 Option.none)))), (Prod.mk 9 (Go.Value.pointer (Option.some (Go.Addr.mk 1003 0 Option.none)))), (Prod.mk 10 (vI n8)), (Prod.mk 11 (Go.Value.pointer (Option.some (Go.Addr.mk 1004 0 Option.none)))), (Prod.mk 12 (vI n13)), (Prod.mk 79 (Value.bool false))] [(Prod.mk 1000 (AObj.cells [(vI a), (vI b), (vI c), (vI d)] 25 false 1)), (Prod.mk 1001 (AObj.cells [(vI g), (vI e)] 27 false 1)), (Prod.mk 1002 (AObj.cells [(vI m), (vI q), (vI x)] 29 false 1)), (Prod.mk 1003 (AObj.cells [(vI n4), (vI n5), (vI n6), (vI n7)] 37 false 4)), (Prod.mk 1004 (AObj.cells [(vI n9), (vI n10), (vI n11), (vI n12)] 37 false 4))])))))))
 (bcase (n14 != 0)
 (bcase (n3 != n14)
 ((((Go.Value.tuple [].toArray) = (Go.Value.tuple [].toArray)) ∧
 (((Go.Value.tuple [].toArray) = (Go.Value.tuple [].toArray)) ∧
 (((Go.Value.tuple [].toArray) = (Go.Value.tuple [].toArray)) ∧
 (((Go.Value.tuple [].toArray) = (Go.Value.tuple [].toArray)) ∧
 (((Go.Value.tuple [].toArray) = (Go.Value.tuple [].toArray)) ∧
 (((Go.Value.tuple [].toArray) = (Go.Value.tuple [].toArray)) ∧
 (((Go.Value.tuple [].toArray) = (Go.Value.tuple [].toArray)) ∧
 (((Go.Value.tuple [].toArray) = (Go.Value.tuple [].toArray)) ∧
 (((Go.Value.tuple [].toArray) = (Go.Value.tuple [].toArray)) ∧
 (((Go.Value.tuple [].toArray) = (Go.Value.tuple [].toArray)) ∧
 (((Go.Value.tuple [].toArray) = (Go.Value.tuple [].toArray)) ∧
 (((Go.Value.tuple [].toArray) = (Go.Value.tuple [].toArray)) ∧
 (((Value.bool true) = (Value.bool true)) ∧
 (((Value.bool true) = (Value.bool true)) ∧
 (((Value.bool true) = (Value.bool true)) ∧
 (((Go.Value.tuple [].toArray) = (Go.Value.tuple [].toArray)) ∧
 (((Go.Value.tuple [].toArray) = (Go.Value.tuple [].toArray)) ∧
 (((Go.Value.tuple [].toArray) = (Go.Value.tuple [].toArray)) ∧
 (((Value.bool true) = (Value.bool true)) ∧
 ((bcase (n3 != n14)
 ((Value.bool true) = (Value.bool true))
 ((Value.bool false) = (Value.bool true))) ∧
 (((vI n14) = (vI n14)) ∧
 (((vI n3) = (vI n3)) ∧
 (((Value.bool true) = (Value.bool true)) ∧
 ((bcase (n14 != 0)
 ((Value.bool true) = (Value.bool true))
 ((Value.bool false) = (Value.bool true))) ∧
 (((vI n14) = (vI n14)) ∧
 True))))))))))))))))))))))))) ∧
 ((((Value.bool true) = (Value.bool true)) ∧
 (((Go.Value.tuple [].toArray) = (Go.Value.tuple [].toArray)) ∧
 (((Go.Value.tuple [].toArray) = (Go.Value.tuple [].toArray)) ∧
 (((Go.Value.tuple [].toArray) = (Go.Value.tuple [].toArray)) ∧
 (((Go.Value.tuple [].toArray) = (Go.Value.tuple [].toArray)) ∧
 (((Go.Value.tuple [].toArray) = (Go.Value.tuple [].toArray)) ∧
 (((Go.Value.tuple [].toArray) = (Go.Value.tuple [].toArray)) ∧
 (((Go.Value.tuple [].toArray) = (Go.Value.tuple [].toArray)) ∧
 (((Go.Value.tuple [].toArray) = (Go.Value.tuple [].toArray)) ∧
 (((Go.Value.tuple [].toArray) = (Go.Value.tuple [].toArray)) ∧
 (((Go.Value.tuple [].toArray) = (Go.Value.tuple [].toArray)) ∧
 (((Go.Value.tuple [].toArray) = (Go.Value.tuple [].toArray)) ∧
 (((Value.bool true) = (Value.bool true)) ∧
 (((Value.bool true) = (Value.bool true)) ∧
 (((Value.bool true) = (Value.bool true)) ∧
 (((Go.Value.tuple [].toArray) = (Go.Value.tuple [].toArray)) ∧
 (((Go.Value.tuple [].toArray) = (Go.Value.tuple [].toArray)) ∧
 (((Go.Value.tuple [].toArray) = (Go.Value.tuple [].toArray)) ∧
 (((Value.bool true) = (Value.bool true)) ∧
 ((bcase (n3 != n14)
 ((Value.bool true) = (Value.bool true))
 ((Value.bool false) = (Value.bool true))) ∧
 (((vI n14) = (vI n14)) ∧
 (((vI n3) = (vI n3)) ∧
 (((Value.bool true) = (Value.bool true)) ∧
 ((bcase (n14 != 0)
 ((Value.bool true) = (Value.bool true))
 ((Value.bool false) = (Value.bool true))) ∧
 (((vI n14) = (vI n14)) ∧
 True))))))))))))))))))))))))) ∧
 (L 30009 [(Prod.mk 3 (Go.Value.pointer (Option.some (Go.Addr.mk 1000 0 Option.none)))), (Prod.mk 4 (Go.Value.pointer (Option.some (Go.Addr.mk 1001 0 Option.none)))), (Prod.mk 5 (Go.Value.pointer (Option.some (Go.Addr.mk 1002 0 Option.none)))), (Prod.mk 9 (Go.Value.pointer (Option.some (Go.Addr.mk 1003 0 Option.none)))), (Prod.mk 10 (vI n8)), (Prod.mk 11 (Go.Value.pointer (Option.some (Go.Addr.mk 1004 0 Option.none)))), (Prod.mk 12 (vI n13)), (Prod.mk 79 (Value.bool true))] [(Prod.mk 1000 (AObj.cells [(vI a), (vI b), (vI c), (vI d)] 25 false 1)), (Prod.mk 1001 (AObj.cells [(vI g), (vI e)] 27 false 1)), (Prod.mk 1002 (AObj.cells [(vI m), (vI q), (vI x)] 29 false 1)), (Prod.mk 1003 (AObj.cells [(vI n4), (vI n5), (vI n6), (vI n7)] 37 false 4)), (Prod.mk 1004 (AObj.cells [(vI n9), (vI n10), (vI n11), (vI n12)] 37 false 4))])))
 (bcase (if Bool.true = Bool.true then !(n1 == 0 && (n2 == 0 && Bool.true)) else n1 == 0 && (n2 == 0 && Bool.true))
 ((((Go.Value.tuple [].toArray) = (Go.Value.tuple [].toArray)) ∧
 (((Go.Value.tuple [].toArray) = (Go.Value.tuple [].toArray)) ∧
 (((Go.Value.tuple [].toArray) = (Go.Value.tuple [].toArray)) ∧
 (((Go.Value.tuple [].toArray) = (Go.Value.tuple [].toArray)) ∧
 (((Go.Value.tuple [].toArray) = (Go.Value.tuple [].toArray)) ∧
 (((Go.Value.tuple [].toArray) = (Go.Value.tuple [].toArray)) ∧
 (((Go.Value.tuple [].toArray) = (Go.Value.tuple [].toArray)) ∧
 (((Go.Value.tuple [].toArray) = (Go.Value.tuple [].toArray)) ∧
 (((Go.Value.tuple [].toArray) = (Go.Value.tuple [].toArray)) ∧
 (((Go.Value.tuple [].toArray) = (Go.Value.tuple [].toArray)) ∧
 (((Go.Value.tuple [].toArray) = (Go.Value.tuple [].toArray)) ∧
 (((Go.Value.tuple [].toArray) = (Go.Value.tuple [].toArray)) ∧
 (((Value.bool true) = (Value.bool true)) ∧
 (((Value.bool true) = (Value.bool true)) ∧
 (((Value.bool true) = (Value.bool true)) ∧
 ((bcase (if Bool.true = Bool.true then !(n1 == 0 && (n2 == 0 && Bool.true)) else n1 == 0 && (n2 == 0 && Bool.true))
 ((Value.bool true) = (Value.bool true))
 ((Value.bool false) = (Value.bool true))) ∧
 (((Go.Value.agg [(vI (0 : Int)), (vI (0 : Int))].toArray) = (Go.Value.agg [(vI (0 : Int)), (vI (0 : Int))].toArray)) ∧
 (((Go.Value.agg [(vI n1), (vI n2)].toArray) = (Go.Value.agg [(vI n1), (vI n2)].toArray)) ∧
 (((Value.bool false) = (Value.bool false)) ∧
 ((bcase (n3 != n14)
 ((Value.bool true) = (Value.bool false))
 ((Value.bool false) = (Value.bool false))) ∧
 (((vI n14) = (vI n14)) ∧
 (((vI n3) = (vI n3)) ∧
 (((Value.bool true) = (Value.bool true)) ∧
 ((bcase (n14 != 0)
 ((Value.bool true) = (Value.bool true))
 ((Value.bool false) = (Value.bool true))) ∧
 (((vI n14) = (vI n14)) ∧
 True))))))))))))))))))))))))) ∧
 ((((Value.bool true) = (Value.bool true)) ∧
 (((Go.Value.tuple [].toArray) = (Go.Value.tuple [].toArray)) ∧
 (((Go.Value.tuple [].toArray) = (Go.Value.tuple [].toArray)) ∧
 (((Go.Value.tuple [].toArray) = (Go.Value.tuple [].toArray)) ∧
 (((Go.Value.tuple [].toArray) = (Go.Value.tuple [].toArray)) ∧
 (((Go.Value.tuple [].toArray) = (Go.Value.tuple [].toArray)) ∧
 (((Go.Value.tuple [].toArray) = (Go.Value.tuple [].toArray)) ∧
 (((Go.Value.tuple [].toArray) = (Go.Value.tuple [].toArray)) ∧
 (((Go.Value.tuple [].toArray) = (Go.Value.tuple [].toArray)) ∧
 (((Go.Value.tuple [].toArray) = (Go.Value.tuple [].toArray)) ∧
 (((Go.Value.tuple [].toArray) = (Go.Value.tuple [].toArray)) ∧
 (((Go.Value.tuple [].toArray) = (Go.Value.tuple [].toArray)) ∧
 (((Value.bool true) = (Value.bool true)) ∧
 (((Value.bool true) = (Value.bool true)) ∧
 (((Value.bool true) = (Value.bool true)) ∧
 ((bcase (if Bool.true = Bool.true then !(n1 == 0 && (n2 == 0 && Bool.true)) else n1 == 0 && (n2 == 0 && Bool.true))
 ((Value.bool true) = (Value.bool true))
 ((Value.bool false) = (Value.bool true))) ∧
 (((Go.Value.agg [(vI (0 : Int)), (vI (0 : Int))].toArray) = (Go.Value.agg [(vI (0 : Int)), (vI (0 : Int))].toArray)) ∧
 (((Go.Value.agg [(vI n1), (vI n2)].toArray) = (Go.Value.agg [(vI n1), (vI n2)].toArray)) ∧
 (((Value.bool false) = (Value.bool false)) ∧
 ((bcase (n3 != n14)
 ((Value.bool true) = (Value.bool false))
 ((Value.bool false) = (Value.bool false))) ∧
 (((vI n14) = (vI n14)) ∧
 (((vI n3) = (vI n3)) ∧
 (((Value.bool true) = (Value.bool true)) ∧
 ((bcase (n14 != 0)
 ((Value.bool true) = (Value.bool true))
 ((Value.bool false) = (Value.bool true))) ∧
 (((vI n14) = (vI n14)) ∧
 True))))))))))))))))))))))))) ∧
 (L 30009 [(Prod.mk 3 (Go.Value.pointer (Option.some (Go.Addr.mk 1000 0 Option.none)))), (Prod.mk 4 (Go.Value.pointer (Option.some (Go.Addr.mk 1001 0 Option.none)))), (Prod.mk 5 (Go.Value.pointer (Option.some (Go.Addr.mk 1002 0 Option.none)))), (Prod.mk 9 (Go.Value.pointer (Option.some (Go.Addr.mk 1003 0 Option.none)))), (Prod.mk 10 (vI n8)), (Prod.mk 11 (Go.Value.pointer (Option.some (Go.Addr.mk 1004 0 Option.none)))), (Prod.mk 12 (vI n13)), (Prod.mk 79 (Value.bool true))] [(Prod.mk 1000 (AObj.cells [(vI a), (vI b), (vI c), (vI d)] 25 false 1)), (Prod.mk 1001 (AObj.cells [(vI g), (vI e)] 27 false 1)), (Prod.mk 1002 (AObj.cells [(vI m), (vI q), (vI x)] 29 false 1)), (Prod.mk 1003 (AObj.cells [(vI n4), (vI n5), (vI n6), (vI n7)] 37 false 4)), (Prod.mk 1004 (AObj.cells [(vI n9), (vI n10), (vI n11), (vI n12)] 37 false 4))])))
 (bcase (n14 == 0)
 (bcase (n3 != 0)
 ((((Go.Value.tuple [].toArray) = (Go.Value.tuple [].toArray)) ∧
 (((Go.Value.tuple [].toArray) = (Go.Value.tuple [].toArray)) ∧
 (((Go.Value.tuple [].toArray) = (Go.Value.tuple [].toArray)) ∧
 (((Go.Value.tuple [].toArray) = (Go.Value.tuple [].toArray)) ∧
 (((Go.Value.tuple [].toArray) = (Go.Value.tuple [].toArray)) ∧
 (((Go.Value.tuple [].toArray) = (Go.Value.tuple [].toArray)) ∧
 (((Value.bool true) = (Value.bool true)) ∧
 ((bcase (n3 != 0)
 ((Value.bool true) = (Value.bool true))
 ((Value.bool false) = (Value.bool true))) ∧
 (((vI n3) = (vI n3)) ∧
 (((Value.bool true) = (Value.bool true)) ∧
 ((bcase (n14 == 0)
 ((Value.bool true) = (Value.bool true))
 ((Value.bool false) = (Value.bool true))) ∧
 (((vI n14) = (vI n14)) ∧
 (((Value.bool false) = (Value.bool false)) ∧
 (((Value.bool false) = (Value.bool false)) ∧
 (((Value.bool false) = (Value.bool false)) ∧
 ((bcase (if Bool.true = Bool.true then !(n1 == 0 && (n2 == 0 && Bool.true)) else n1 == 0 && (n2 == 0 && Bool.true))
 ((Value.bool true) = (Value.bool false))
 ((Value.bool false) = (Value.bool false))) ∧
 (((Go.Value.agg [(vI (0 : Int)), (vI (0 : Int))].toArray) = (Go.Value.agg [(vI (0 : Int)), (vI (0 : Int))].toArray)) ∧
 (((Go.Value.agg [(vI n1), (vI n2)].toArray) = (Go.Value.agg [(vI n1), (vI n2)].toArray)) ∧
 (((Value.bool false) = (Value.bool false)) ∧
 ((bcase (n3 != n14)
 ((Value.bool true) = (Value.bool false))
 ((Value.bool false) = (Value.bool false))) ∧
 (((vI n14) = (vI n14)) ∧
 (((vI n3) = (vI n3)) ∧
 (((Value.bool true) = (Value.bool true)) ∧
 ((bcase (n14 != 0)
 ((Value.bool true) = (Value.bool true))
 ((Value.bool false) = (Value.bool true))) ∧
 (((vI n14) = (vI n14)) ∧
 True))))))))))))))))))))))))) ∧
 ((((Value.bool true) = (Value.bool true)) ∧
 (((Value.bool true) = (Value.bool true)) ∧
 (((Value.bool true) = (Value.bool true)) ∧
 (((Go.Value.tuple [].toArray) = (Go.Value.tuple [].toArray)) ∧
 (((Go.Value.tuple [].toArray) = (Go.Value.tuple [].toArray)) ∧
 (((Go.Value.tuple [].toArray) = (Go.Value.tuple [].toArray)) ∧
 (((Go.Value.tuple [].toArray) = (Go.Value.tuple [].toArray)) ∧
 ((bcase (n3 != 0)
 ((Value.bool true) = (Value.bool true))
 ((Value.bool false) = (Value.bool true))) ∧
 (((vI n3) = (vI n3)) ∧
 (((Value.bool true) = (Value.bool true)) ∧
 ((bcase (n14 == 0)
 ((Value.bool true) = (Value.bool true))
 ((Value.bool false) = (Value.bool true))) ∧
 (((vI n14) = (vI n14)) ∧
 (((Value.bool false) = (Value.bool false)) ∧
 (((Value.bool false) = (Value.bool false)) ∧
 (((Value.bool false) = (Value.bool false)) ∧
 ((bcase (if Bool.true = Bool.true then !(n1 == 0 && (n2 == 0 && Bool.true)) else n1 == 0 && (n2 == 0 && Bool.true))
 ((Value.bool true) = (Value.bool false))
 ((Value.bool false) = (Value.bool false))) ∧
 (((Go.Value.agg [(vI (0 : Int)), (vI (0 : Int))].toArray) = (Go.Value.agg [(vI (0 : Int)), (vI (0 : Int))].toArray)) ∧
 (((Go.Value.agg [(vI n1), (vI n2)].toArray) = (Go.Value.agg [(vI n1), (vI n2)].toArray)) ∧
 (((Value.bool false) = (Value.bool false)) ∧
 ((bcase (n3 != n14)
 ((Value.bool true) = (Value.bool false))
 ((Value.bool false) = (Value.bool false))) ∧
 (((vI n14) = (vI n14)) ∧
 (((vI n3) = (vI n3)) ∧
 (((Value.bool true) = (Value.bool true)) ∧
 ((bcase (n14 != 0)
 ((Value.bool true) = (Value.bool true))
 ((Value.bool false) = (Value.bool true))) ∧
 (((vI n14) = (vI n14)) ∧
 True))))))))))))))))))))))))) ∧
 (L 30009 [(Prod.mk 3 (Go.Value.pointer (Option.some (Go.Addr.mk 1000 0 Option.none)))), (Prod.mk 4 (Go.Value.pointer (Option.some (Go.Addr.mk 1001 0 Option.none)))), (Prod.mk 5 (Go.Value.pointer (Option.some (Go.Addr.mk 1002 0 Option.none)))), (Prod.mk 9 (Go.Value.pointer (Option.some (Go.Addr.mk 1003 0 Option.none)))), (Prod.mk 10 (vI n8)), (Prod.mk 11 (Go.Value.pointer (Option.some (Go.Addr.mk 1004 0 Option.none)))), (Prod.mk 12 (vI n13)), (Prod.mk 79 (Value.bool true))] [(Prod.mk 1000 (AObj.cells [(vI a), (vI b), (vI c), (vI d)] 25 false 1)), (Prod.mk 1001 (AObj.cells [(vI g), (vI e)] 27 false 1)), (Prod.mk 1002 (AObj.cells [(vI m), (vI q), (vI x)] 29 false 1)), (Prod.mk 1003 (AObj.cells [(vI n4), (vI n5), (vI n6), (vI n7)] 37 false 4)), (Prod.mk 1004 (AObj.cells [(vI n9), (vI n10), (vI n11), (vI n12)] 37 false 4))])))
 ((((Go.Value.agg [(vI g), (vI e)].toArray) = (Go.Value.agg [(vI g), (vI e)].toArray)) ∧
 (((vI q) = (vI q)) ∧
 (((Go.Value.pointer (Option.some (Go.Addr.mk 1002 1 Option.none))) = (Go.Value.pointer (Option.some (Go.Addr.mk 1002 1 Option.none)))) ∧
 (((vI m) = (vI m)) ∧
 (((Go.Value.pointer (Option.some (Go.Addr.mk 1002 0 Option.none))) = (Go.Value.pointer (Option.some (Go.Addr.mk 1002 0 Option.none)))) ∧
 (((Go.Value.agg [(vI n1), (vI n2)].toArray) = (Go.Value.agg [(vI n1), (vI n2)].toArray)) ∧
 (((Value.bool false) = (Value.bool false)) ∧
 ((bcase (n3 != 0)
 ((Value.bool true) = (Value.bool false))
 ((Value.bool false) = (Value.bool false))) ∧
 (((vI n3) = (vI n3)) ∧
 (((Value.bool true) = (Value.bool true)) ∧
 ((bcase (n14 == 0)
 ((Value.bool true) = (Value.bool true))
 ((Value.bool false) = (Value.bool true))) ∧
 (((vI n14) = (vI n14)) ∧
 (((Value.bool false) = (Value.bool false)) ∧
 (((Value.bool false) = (Value.bool false)) ∧
 (((Value.bool false) = (Value.bool false)) ∧
 ((bcase (if Bool.true = Bool.true then !(n1 == 0 && (n2 == 0 && Bool.true)) else n1 == 0 && (n2 == 0 && Bool.true))
 ((Value.bool true) = (Value.bool false))
 ((Value.bool false) = (Value.bool false))) ∧
 (((Go.Value.agg [(vI (0 : Int)), (vI (0 : Int))].toArray) = (Go.Value.agg [(vI (0 : Int)), (vI (0 : Int))].toArray)) ∧
 (((Go.Value.agg [(vI n1), (vI n2)].toArray) = (Go.Value.agg [(vI n1), (vI n2)].toArray)) ∧
 (((Value.bool false) = (Value.bool false)) ∧
 ((bcase (n3 != n14)
 ((Value.bool true) = (Value.bool false))
 ((Value.bool false) = (Value.bool false))) ∧
 (((vI n14) = (vI n14)) ∧
 (((vI n3) = (vI n3)) ∧
 (((Value.bool true) = (Value.bool true)) ∧
 ((bcase (n14 != 0)
 ((Value.bool true) = (Value.bool true))
 ((Value.bool false) = (Value.bool true))) ∧
 (((vI n14) = (vI n14)) ∧
 True))))))))))))))))))))))))) ∧
 (∃ n15 : Int,
 (∃ n16 : Int,
 ((Says C 18 [(D.val (vI m)), (D.val (vI q)), (D.agg [(D.val (vI g)), (D.val (vI e))])] [(D.agg [(D.val (vI n15)), (D.val (vI n16))])]) ∧
 (bcase (if Bool.true = Bool.true then !(n1 == n15 && (n2 == n16 && Bool.true)) else n1 == n15 && (n2 == n16 && Bool.true))
 ((((Value.bool true) = (Value.bool true)) ∧
 (((Value.bool true) = (Value.bool true)) ∧
 (((Value.bool true) = (Value.bool true)) ∧
 ((bcase (if Bool.true = Bool.true then !(n1 == n15 && (n2 == n16 && Bool.true)) else n1 == n15 && (n2 == n16 && Bool.true))
 ((Value.bool true) = (Value.bool true))
 ((Value.bool false) = (Value.bool true))) ∧
 (((Go.Value.pointer (Option.some (Go.Addr.mk 1002 1 Option.none))) = (Go.Value.pointer (Option.some (Go.Addr.mk 1002 1 Option.none)))) ∧
 (((Go.Value.pointer (Option.some (Go.Addr.mk 1002 0 Option.none))) = (Go.Value.pointer (Option.some (Go.Addr.mk 1002 0 Option.none)))) ∧
 (((Go.Value.agg [(vI n1), (vI n2)].toArray) = (Go.Value.agg [(vI n1), (vI n2)].toArray)) ∧
 ((bcase (n3 != 0)
 ((Value.bool true) = (Value.bool false))
 ((Value.bool false) = (Value.bool false))) ∧
 (((vI n3) = (vI n3)) ∧
 (((Value.bool true) = (Value.bool true)) ∧
 ((bcase (n14 == 0)
 ((Value.bool true) = (Value.bool true))
 ((Value.bool false) = (Value.bool true))) ∧
 (((vI n14) = (vI n14)) ∧
 (((Value.bool false) = (Value.bool false)) ∧
 (((Value.bool false) = (Value.bool false)) ∧
 (((Value.bool false) = (Value.bool false)) ∧
 ((bcase (if Bool.true = Bool.true then !(n1 == 0 && (n2 == 0 && Bool.true)) else n1 == 0 && (n2 == 0 && Bool.true))
 ((Value.bool true) = (Value.bool false))
 ((Value.bool false) = (Value.bool false))) ∧
 (((Go.Value.agg [(vI (0 : Int)), (vI (0 : Int))].toArray) = (Go.Value.agg [(vI (0 : Int)), (vI (0 : Int))].toArray)) ∧
 (((Go.Value.agg [(vI n1), (vI n2)].toArray) = (Go.Value.agg [(vI n1), (vI n2)].toArray)) ∧
 (((Value.bool false) = (Value.bool false)) ∧
 ((bcase (n3 != n14)
 ((Value.bool true) = (Value.bool false))
 ((Value.bool false) = (Value.bool false))) ∧
 (((vI n14) = (vI n14)) ∧
 (((vI n3) = (vI n3)) ∧
 (((Value.bool true) = (Value.bool true)) ∧
 ((bcase (n14 != 0)
 ((Value.bool true) = (Value.bool true))
 ((Value.bool false) = (Value.bool true))) ∧
 (((vI n14) = (vI n14)) ∧
 True))))))))))))))))))))))))) ∧
 (L 30009 [(Prod.mk 3 (Go.Value.pointer (Option.some (Go.Addr.mk 1000 0 Option.none)))), (Prod.mk 4 (Go.Value.pointer (Option.some (Go.Addr.mk 1001 0 Option.none)))), (Prod.mk 5 (Go.Value.pointer (Option.some (Go.Addr.mk 1002 0 Option.none)))), (Prod.mk 9 (Go.Value.pointer (Option.some (Go.Addr.mk 1003 0 Option.none)))), (Prod.mk 10 (vI n8)), (Prod.mk 11 (Go.Value.pointer (Option.some (Go.Addr.mk 1004 0 Option.none)))), (Prod.mk 12 (vI n13)), (Prod.mk 79 (Value.bool true))] [(Prod.mk 1000 (AObj.cells [(vI a), (vI b), (vI c), (vI d)] 25 false 1)), (Prod.mk 1001 (AObj.cells [(vI g), (vI e)] 27 false 1)), (Prod.mk 1002 (AObj.cells [(vI m), (vI q), (vI x)] 29 false 1)), (Prod.mk 1003 (AObj.cells [(vI n4), (vI n5), (vI n6), (vI n7)] 37 false 4)), (Prod.mk 1004 (AObj.cells [(vI n9), (vI n10), (vI n11), (vI n12)] 37 false 4))]))
 ((((Value.bool false) = (Value.bool false)) ∧
 (((Value.bool false) = (Value.bool false)) ∧
 (((Value.bool false) = (Value.bool false)) ∧
 ((bcase (if Bool.true = Bool.true then !(n1 == n15 && (n2 == n16 && Bool.true)) else n1 == n15 && (n2 == n16 && Bool.true))
 ((Value.bool true) = (Value.bool false))
 ((Value.bool false) = (Value.bool false))) ∧
 (((Go.Value.pointer (Option.some (Go.Addr.mk 1002 1 Option.none))) = (Go.Value.pointer (Option.some (Go.Addr.mk 1002 1 Option.none)))) ∧
 (((Go.Value.pointer (Option.some (Go.Addr.mk 1002 0 Option.none))) = (Go.Value.pointer (Option.some (Go.Addr.mk 1002 0 Option.none)))) ∧
 (((Go.Value.agg [(vI n1), (vI n2)].toArray) = (Go.Value.agg [(vI n1), (vI n2)].toArray)) ∧
 ((bcase (n3 != 0)
 ((Value.bool true) = (Value.bool false))
 ((Value.bool false) = (Value.bool false))) ∧
 (((vI n3) = (vI n3)) ∧
 (((Value.bool true) = (Value.bool true)) ∧
 ((bcase (n14 == 0)
 ((Value.bool true) = (Value.bool true))
 ((Value.bool false) = (Value.bool true))) ∧
 (((vI n14) = (vI n14)) ∧
 (((Value.bool false) = (Value.bool false)) ∧
 (((Value.bool false) = (Value.bool false)) ∧
 (((Value.bool false) = (Value.bool false)) ∧
 ((bcase (if Bool.true = Bool.true then !(n1 == 0 && (n2 == 0 && Bool.true)) else n1 == 0 && (n2 == 0 && Bool.true))
 ((Value.bool true) = (Value.bool false))
 ((Value.bool false) = (Value.bool false))) ∧
 (((Go.Value.agg [(vI (0 : Int)), (vI (0 : Int))].toArray) = (Go.Value.agg [(vI (0 : Int)), (vI (0 : Int))].toArray)) ∧
 (((Go.Value.agg [(vI n1), (vI n2)].toArray) = (Go.Value.agg [(vI n1), (vI n2)].toArray)) ∧
 (((Value.bool false) = (Value.bool false)) ∧
 ((bcase (n3 != n14)
 ((Value.bool true) = (Value.bool false))
 ((Value.bool false) = (Value.bool false))) ∧
 (((vI n14) = (vI n14)) ∧
 (((vI n3) = (vI n3)) ∧
 (((Value.bool true) = (Value.bool true)) ∧
 ((bcase (n14 != 0)
 ((Value.bool true) = (Value.bool true))
 ((Value.bool false) = (Value.bool true))) ∧
 (((vI n14) = (vI n14)) ∧
 True))))))))))))))))))))))))) ∧
 (L 30009 [(Prod.mk 3 (Go.Value.pointer (Option.some (Go.Addr.mk 1000 0 Option.none)))), (Prod.mk 4 (Go.Value.pointer (Option.some (Go.Addr.mk 1001 0 Option.none)))), (Prod.mk 5 (Go.Value.pointer (Option.some (Go.Addr.mk 1002 0 Option.none)))), (Prod.mk 9 (Go.Value.pointer (Option.some (Go.Addr.mk 1003 0 Option.none)))), (Prod.mk 10 (vI n8)), (Prod.mk 11 (Go.Value.pointer (Option.some (Go.Addr.mk 1004 0 Option.none)))), (Prod.mk 12 (vI n13)), (Prod.mk 79 (Value.bool false))] [(Prod.mk 1000 (AObj.cells [(vI a), (vI b), (vI c), (vI d)] 25 false 1)), (Prod.mk 1001 (AObj.cells [(vI g), (vI e)] 27 false 1)), (Prod.mk 1002 (AObj.cells [(vI m), (vI q), (vI x)] 29 false 1)), (Prod.mk 1003 (AObj.cells [(vI n4), (vI n5), (vI n6), (vI n7)] 37 false 4)), (Prod.mk 1004 (AObj.cells [(vI n9), (vI n10), (vI n11), (vI n12)] 37 false 4))]))))))))
 ((((Go.Value.tuple [].toArray) = (Go.Value.tuple [].toArray)) ∧
 (((Go.Value.tuple [].toArray) = (Go.Value.tuple [].toArray)) ∧
 (((Go.Value.tuple [].toArray) = (Go.Value.tuple [].toArray)) ∧
 (((Go.Value.tuple [].toArray) = (Go.Value.tuple [].toArray)) ∧
 (((Go.Value.tuple [].toArray) = (Go.Value.tuple [].toArray)) ∧
 (((Go.Value.tuple [].toArray) = (Go.Value.tuple [].toArray)) ∧
 (((Go.Value.tuple [].toArray) = (Go.Value.tuple [].toArray)) ∧
 (((Go.Value.tuple [].toArray) = (Go.Value.tuple [].toArray)) ∧
 (((Go.Value.tuple [].toArray) = (Go.Value.tuple [].toArray)) ∧
 (((Value.bool false) = (Value.bool false)) ∧
 ((bcase (n14 == 0)
 ((Value.bool true) = (Value.bool false))
 ((Value.bool false) = (Value.bool false))) ∧
 (((vI n14) = (vI n14)) ∧
 (((Value.bool false) = (Value.bool false)) ∧
 (((Value.bool false) = (Value.bool false)) ∧
 (((Value.bool false) = (Value.bool false)) ∧
 ((bcase (if Bool.true = Bool.true then !(n1 == 0 && (n2 == 0 && Bool.true)) else n1 == 0 && (n2 == 0 && Bool.true))
 ((Value.bool true) = (Value.bool false))
 ((Value.bool false) = (Value.bool false))) ∧
 (((Go.Value.agg [(vI (0 : Int)), (vI (0 : Int))].toArray) = (Go.Value.agg [(vI (0 : Int)), (vI (0 : Int))].toArray)) ∧
 (((Go.Value.agg [(vI n1), (vI n2)].toArray) = (Go.Value.agg [(vI n1), (vI n2)].toArray)) ∧
 (((Value.bool false) = (Value.bool false)) ∧
 ((bcase (n3 != n14)
 ((Value.bool true) = (Value.bool false))
 ((Value.bool false) = (Value.bool false))) ∧
 (((vI n14) = (vI n14)) ∧
 (((vI n3) = (vI n3)) ∧
 (((Value.bool true) = (Value.bool true)) ∧
 ((bcase (n14 != 0)
 ((Value.bool true) = (Value.bool true))
 ((Value.bool false) = (Value.bool true))) ∧
 (((vI n14) = (vI n14)) ∧
 True))))))))))))))))))))))))) ∧
 ((((Value.bool false) = (Value.bool false)) ∧
 (((Value.bool false) = (Value.bool false)) ∧
 (((Go.Value.tuple [].toArray) = (Go.Value.tuple [].toArray)) ∧
 (((Go.Value.tuple [].toArray) = (Go.Value.tuple [].toArray)) ∧
 (((Go.Value.tuple [].toArray) = (Go.Value.tuple [].toArray)) ∧
 (((Go.Value.tuple [].toArray) = (Go.Value.tuple [].toArray)) ∧
 (((Go.Value.tuple [].toArray) = (Go.Value.tuple [].toArray)) ∧
 (((Go.Value.tuple [].toArray) = (Go.Value.tuple [].toArray)) ∧
 (((Go.Value.tuple [].toArray) = (Go.Value.tuple [].toArray)) ∧
 (((Value.bool false) = (Value.bool false)) ∧
 ((bcase (n14 == 0)
 ((Value.bool true) = (Value.bool false))
 ((Value.bool false) = (Value.bool false))) ∧
 (((vI n14) = (vI n14)) ∧
 (((Value.bool false) = (Value.bool false)) ∧
 (((Value.bool false) = (Value.bool false)) ∧
 (((Value.bool false) = (Value.bool false)) ∧
 ((bcase (if Bool.true = Bool.true then !(n1 == 0 && (n2 == 0 && Bool.true)) else n1 == 0 && (n2 == 0 && Bool.true))
 ((Value.bool true) = (Value.bool false))
 ((Value.bool false) = (Value.bool false))) ∧
 (((Go.Value.agg [(vI (0 : Int)), (vI (0 : Int))].toArray) = (Go.Value.agg [(vI (0 : Int)), (vI (0 : Int))].toArray)) ∧
 (((Go.Value.agg [(vI n1), (vI n2)].toArray) = (Go.Value.agg [(vI n1), (vI n2)].toArray)) ∧
 (((Value.bool false) = (Value.bool false)) ∧
 ((bcase (n3 != n14)
 ((Value.bool true) = (Value.bool false))
 ((Value.bool false) = (Value.bool false))) ∧
 (((vI n14) = (vI n14)) ∧
 (((vI n3) = (vI n3)) ∧
 (((Value.bool true) = (Value.bool true)) ∧
 ((bcase (n14 != 0)
 ((Value.bool true) = (Value.bool true))
 ((Value.bool false) = (Value.bool true))) ∧
 (((vI n14) = (vI n14)) ∧
 True))))))))))))))))))))))))) ∧
 (L 30009 [(Prod.mk 3 (Go.Value.pointer (Option.some (Go.Addr.mk 1000 0 Option.none)))), (Prod.mk 4 (Go.Value.pointer (Option.some (Go.Addr.mk 1001 0 Option.none)))), (Prod.mk 5 (Go.Value.pointer (Option.some (Go.Addr.mk 1002 0 Option.none)))), (Prod.mk 9 (Go.Value.pointer (Option.some (Go.Addr.mk 1003 0 Option.none)))), (Prod.mk 10 (vI n8)), (Prod.mk 11 (Go.Value.pointer (Option.some (Go.Addr.mk 1004 0 Option.none)))), (Prod.mk 12 (vI n13)), (Prod.mk 79 (Value.bool false))] [(Prod.mk 1000 (AObj.cells [(vI a), (vI b), (vI c), (vI d)] 25 false 1)), (Prod.mk 1001 (AObj.cells [(vI g), (vI e)] 27 false 1)), (Prod.mk 1002 (AObj.cells [(vI m), (vI q), (vI x)] 29 false 1)), (Prod.mk 1003 (AObj.cells [(vI n4), (vI n5), (vI n6), (vI n7)] 37 false 4)), (Prod.mk 1004 (AObj.cells [(vI n9), (vI n10), (vI n11), (vI n12)] 37 false 4))]))))))
 (bcase (n14 == 0)
 (bcase (n3 != 0)
 ((((Go.Value.tuple [].toArray) = (Go.Value.tuple [].toArray)) ∧
 (((Go.Value.tuple [].toArray) = (Go.Value.tuple [].toArray)) ∧
 (((Go.Value.tuple [].toArray) = (Go.Value.tuple [].toArray)) ∧
 (((Go.Value.tuple [].toArray) = (Go.Value.tuple [].toArray)) ∧
 (((Go.Value.tuple [].toArray) = (Go.Value.tuple [].toArray)) ∧
 (((Go.Value.tuple [].toArray) = (Go.Value.tuple [].toArray)) ∧
 (((Value.bool true) = (Value.bool true)) ∧
 ((bcase (n3 != 0)
 ((Value.bool true) = (Value.bool true))
 ((Value.bool false) = (Value.bool true))) ∧
 (((vI n3) = (vI n3)) ∧
 (((Value.bool true) = (Value.bool true)) ∧
 ((bcase (n14 == 0)
 ((Value.bool true) = (Value.bool true))
 ((Value.bool false) = (Value.bool true))) ∧
 (((vI n14) = (vI n14)) ∧
 (((Value.bool false) = (Value.bool false)) ∧
 (((Value.bool false) = (Value.bool false)) ∧
 (((Go.Value.tuple [].toArray) = (Go.Value.tuple [].toArray)) ∧
 (((Go.Value.tuple [].toArray) = (Go.Value.tuple [].toArray)) ∧
 (((Go.Value.tuple [].toArray) = (Go.Value.tuple [].toArray)) ∧
 (((Go.Value.tuple [].toArray) = (Go.Value.tuple [].toArray)) ∧
 (((Go.Value.tuple [].toArray) = (Go.Value.tuple [].toArray)) ∧
 (((Go.Value.tuple [].toArray) = (Go.Value.tuple [].toArray)) ∧
 (((Go.Value.tuple [].toArray) = (Go.Value.tuple [].toArray)) ∧
 (((Go.Value.tuple [].toArray) = (Go.Value.tuple [].toArray)) ∧
 (((Value.bool false) = (Value.bool false)) ∧
 ((bcase (n14 != 0)
 ((Value.bool true) = (Value.bool false))
 ((Value.bool false) = (Value.bool false))) ∧
 (((vI n14) = (vI n14)) ∧
 True))))))))))))))))))))))))) ∧
 ((((Value.bool true) = (Value.bool true)) ∧
 (((Value.bool true) = (Value.bool true)) ∧
 (((Value.bool true) = (Value.bool true)) ∧
 (((Go.Value.tuple [].toArray) = (Go.Value.tuple [].toArray)) ∧
 (((Go.Value.tuple [].toArray) = (Go.Value.tuple [].toArray)) ∧
 (((Go.Value.tuple [].toArray) = (Go.Value.tuple [].toArray)) ∧
 (((Go.Value.tuple [].toArray) = (Go.Value.tuple [].toArray)) ∧
 ((bcase (n3 != 0)
 ((Value.bool true) = (Value.bool true))
 ((Value.bool false) = (Value.bool true))) ∧
 (((vI n3) = (vI n3)) ∧
 (((Value.bool true) = (Value.bool true)) ∧
 ((bcase (n14 == 0)
 ((Value.bool true) = (Value.bool true))
 ((Value.bool false) = (Value.bool true))) ∧
 (((vI n14) = (vI n14)) ∧
 (((Value.bool false) = (Value.bool false)) ∧
 (((Value.bool false) = (Value.bool false)) ∧
 (((Go.Value.tuple [].toArray) = (Go.Value.tuple [].toArray)) ∧
 (((Go.Value.tuple [].toArray) = (Go.Value.tuple [].toArray)) ∧
 (((Go.Value.tuple [].toArray) = (Go.Value.tuple [].toArray)) ∧
 (((Go.Value.tuple [].toArray) = (Go.Value.tuple [].toArray)) ∧
 (((Go.Value.tuple [].toArray) = (Go.Value.tuple [].toArray)) ∧
 (((Go.Value.tuple [].toArray) = (Go.Value.tuple [].toArray)) ∧
 (((Go.Value.tuple [].toArray) = (Go.Value.tuple [].toArray)) ∧
 (((Go.Value.tuple [].toArray) = (Go.Value.tuple [].toArray)) ∧
 (((Value.bool false) = (Value.bool false)) ∧
 ((bcase (n14 != 0)
 ((Value.bool true) = (Value.bool false))
 ((Value.bool false) = (Value.bool false))) ∧
 (((vI n14) = (vI n14)) ∧
 True))))))))))))))))))))))))) ∧
 (L 30009 [(Prod.mk 3 (Go.Value.pointer (Option.some (Go.Addr.mk 1000 0 Option.none)))), (Prod.mk 4 (Go.Value.pointer (Option.some (Go.Addr.mk 1001 0 Option.none)))), (Prod.mk 5 (Go.Value.pointer (Option.some (Go.Addr.mk 1002 0 Option.none)))), (Prod.mk 9 (Go.Value.pointer (Option.some (Go.Addr.mk 1003 0 Option.none)))), (Prod.mk 10 (vI n8)), (Prod.mk 11 (Go.Value.pointer (Option.some (Go.Addr.mk 1004 0 Option.none)))), (Prod.mk 12 (vI n13)), (Prod.mk 79 (Value.bool true))] [(Prod.mk 1000 (AObj.cells [(vI a), (vI b), (vI c), (vI d)] 25 false 1)), (Prod.mk 1001 (AObj.cells [(vI g), (vI e)] 27 false 1)), (Prod.mk 1002 (AObj.cells [(vI m), (vI q), (vI x)] 29 false 1)), (Prod.mk 1003 (AObj.cells [(vI n4), (vI n5), (vI n6), (vI n7)] 37 false 4)), (Prod.mk 1004 (AObj.cells [(vI n9), (vI n10), (vI n11), (vI n12)] 37 false 4))])))
 ((((Go.Value.agg [(vI g), (vI e)].toArray) = (Go.Value.agg [(vI g), (vI e)].toArray)) ∧
 (((vI q) = (vI q)) ∧
 (((Go.Value.pointer (Option.some (Go.Addr.mk 1002 1 Option.none))) = (Go.Value.pointer (Option.some (Go.Addr.mk 1002 1 Option.none)))) ∧
 (((vI m) = (vI m)) ∧
 (((Go.Value.pointer (Option.some (Go.Addr.mk 1002 0 Option.none))) = (Go.Value.pointer (Option.some (Go.Addr.mk 1002 0 Option.none)))) ∧
 (((Go.Value.agg [(vI n1), (vI n2)].toArray) = (Go.Value.agg [(vI n1), (vI n2)].toArray)) ∧
 (((Value.bool false) = (Value.bool false)) ∧
 ((bcase (n3 != 0)
 ((Value.bool true) = (Value.bool false))
 ((Value.bool false) = (Value.bool false))) ∧
 (((vI n3) = (vI n3)) ∧
 (((Value.bool true) = (Value.bool true)) ∧
 ((bcase (n14 == 0)
 ((Value.bool true) = (Value.bool true))
 ((Value.bool false) = (Value.bool true))) ∧
 (((vI n14) = (vI n14)) ∧
 (((Value.bool false) = (Value.bool false)) ∧
 (((Value.bool false) = (Value.bool false)) ∧
 (((Go.Value.tuple [].toArray) = (Go.Value.tuple [].toArray)) ∧
 (((Go.Value.tuple [].toArray) = (Go.Value.tuple [].toArray)) ∧
 (((Go.Value.tuple [].toArray) = (Go.Value.tuple [].toArray)) ∧
 (((Go.Value.tuple [].toArray) = (Go.Value.tuple [].toArray)) ∧
 (((Go.Value.tuple [].toArray) = (Go.Value.tuple [].toArray)) ∧
 (((Go.Value.tuple [].toArray) = (Go.Value.tuple [].toArray)) ∧
 (((Go.Value.tuple [].toArray) = (Go.Value.tuple [].toArray)) ∧
 (((Go.Value.tuple [].toArray) = (Go.Value.tuple [].toArray)) ∧
 (((Value.bool false) = (Value.bool false)) ∧
 ((bcase (n14 != 0)
 ((Value.bool true) = (Value.bool false))
 ((Value.bool false) = (Value.bool false))) ∧
 (((vI n14) = (vI n14)) ∧
 True))))))))))))))))))))))))) ∧
 (∃ n15 : Int,
 (∃ n16 : Int,
 ((Says C 18 [(D.val (vI m)), (D.val (vI q)), (D.agg [(D.val (vI g)), (D.val (vI e))])] [(D.agg [(D.val (vI n15)), (D.val (vI n16))])]) ∧
 (bcase (if Bool.true = Bool.true then !(n1 == n15 && (n2 == n16 && Bool.true)) else n1 == n15 && (n2 == n16 && Bool.true))
 ((((Value.bool true) = (Value.bool true)) ∧
 (((Value.bool true) = (Value.bool true)) ∧
 (((Value.bool true) = (Value.bool true)) ∧
 ((bcase (if Bool.true = Bool.true then !(n1 == n15 && (n2 == n16 && Bool.true)) else n1 == n15 && (n2 == n16 && Bool.true))
 ((Value.bool true) = (Value.bool true))
 ((Value.bool false) = (Value.bool true))) ∧
 (((Go.Value.pointer (Option.some (Go.Addr.mk 1002 1 Option.none))) = (Go.Value.pointer (Option.some (Go.Addr.mk 1002 1 Option.none)))) ∧
 (((Go.Value.pointer (Option.some (Go.Addr.mk 1002 0 Option.none))) = (Go.Value.pointer (Option.some (Go.Addr.mk 1002 0 Option.none)))) ∧
 (((Go.Value.agg [(vI n1), (vI n2)].toArray) = (Go.Value.agg [(vI n1), (vI n2)].toArray)) ∧
 ((bcase (n3 != 0)
 ((Value.bool true) = (Value.bool false))
 ((Value.bool false) = (Value.bool false))) ∧
 (((vI n3) = (vI n3)) ∧
 (((Value.bool true) = (Value.bool true)) ∧
 ((bcase (n14 == 0)
 ((Value.bool true) = (Value.bool true))
 ((Value.bool false) = (Value.bool true))) ∧
 (((vI n14) = (vI n14)) ∧
 (((Value.bool false) = (Value.bool false)) ∧
 (((Value.bool false) = (Value.bool false)) ∧
 (((Go.Value.tuple [].toArray) = (Go.Value.tuple [].toArray)) ∧
 (((Go.Value.tuple [].toArray) = (Go.Value.tuple [].toArray)) ∧
 (((Go.Value.tuple [].toArray) = (Go.Value.tuple [].toArray)) ∧
 (((Go.Value.tuple [].toArray) = (Go.Value.tuple [].toArray)) ∧
 (((Go.Value.tuple [].toArray) = (Go.Value.tuple [].toArray)) ∧
 (((Go.Value.tuple [].toArray) = (Go.Value.tuple [].toArray)) ∧
 (((Go.Value.tuple [].toArray) = (Go.Value.tuple [].toArray)) ∧
 (((Go.Value.tuple [].toArray) = (Go.Value.tuple [].toArray)) ∧
 (((Value.bool false) = (Value.bool false)) ∧
 ((bcase (n14 != 0)
 ((Value.bool true) = (Value.bool false))
 ((Value.bool false) = (Value.bool false))) ∧
 (((vI n14) = (vI n14)) ∧
 True))))))))))))))))))))))))) ∧
 (L 30009 [(Prod.mk 3 (Go.Value.pointer (Option.some (Go.Addr.mk 1000 0 Option.none)))), (Prod.mk 4 (Go.Value.pointer (Option.some (Go.Addr.mk 1001 0 Option.none)))), (Prod.mk 5 (Go.Value.pointer (Option.some (Go.Addr.mk 1002 0 Option.none)))), (Prod.mk 9 (Go.Value.pointer (Option.some (Go.Addr.mk 1003 0 Option.none)))), (Prod.mk 10 (vI n8)), (Prod.mk 11 (Go.Value.pointer (Option.some (Go.Addr.mk 1004 0 Option.none)))), (Prod.mk 12 (vI n13)), (Prod.mk 79 (Value.bool true))] [(Prod.mk 1000 (AObj.cells [(vI a), (vI b), (vI c), (vI d)] 25 false 1)), (Prod.mk 1001 (AObj.cells [(vI g), (vI e)] 27 false 1)), (Prod.mk 1002 (AObj.cells [(vI m), (vI q), (vI x)] 29 false 1)), (Prod.mk 1003 (AObj.cells [(vI n4), (vI n5), (vI n6), (vI n7)] 37 false 4)), (Prod.mk 1004 (AObj.cells [(vI n9), (vI n10), (vI n11), (vI n12)] 37 false 4))]))
 ((((Value.bool false) = (Value.bool false)) ∧
 (((Value.bool false) = (Value.bool false)) ∧
 (((Value.bool false) = (Value.bool false)) ∧
 ((bcase (if Bool.true = Bool.true then !(n1 == n15 && (n2 == n16 && Bool.true)) else n1 == n15 && (n2 == n16 && Bool.true))
 ((Value.bool true) = (Value.bool false))
 ((Value.bool false) = (Value.bool false))) ∧
 (((Go.Value.pointer (Option.some (Go.Addr.mk 1002 1 Option.none))) = (Go.Value.pointer (Option.some (Go.Addr.mk 1002 1 Option.none)))) ∧
 (((Go.Value.pointer (Option.some (Go.Addr.mk 1002 0 Option.none))) = (Go.Value.pointer (Option.some (Go.Addr.mk 1002 0 Option.none)))) ∧
 (((Go.Value.agg [(vI n1), (vI n2)].toArray) = (Go.Value.agg [(vI n1), (vI n2)].toArray)) ∧
 ((bcase (n3 != 0)
 ((Value.bool true) = (Value.bool false))
 ((Value.bool false) = (Value.bool false))) ∧
 (((vI n3) = (vI n3)) ∧
 (((Value.bool true) = (Value.bool true)) ∧
 ((bcase (n14 == 0)
 ((Value.bool true) = (Value.bool true))
 ((Value.bool false) = (Value.bool true))) ∧
 (((vI n14) = (vI n14)) ∧
 (((Value.bool false) = (Value.bool false)) ∧
 (((Value.bool false) = (Value.bool false)) ∧
 (((Go.Value.tuple [].toArray) = (Go.Value.tuple [].toArray)) ∧
 (((Go.Value.tuple [].toArray) = (Go.Value.tuple [].toArray)) ∧
 (((Go.Value.tuple [].toArray) = (Go.Value.tuple [].toArray)) ∧
 (((Go.Value.tuple [].toArray) = (Go.Value.tuple [].toArray)) ∧
 (((Go.Value.tuple [].toArray) = (Go.Value.tuple [].toArray)) ∧
 (((Go.Value.tuple [].toArray) = (Go.Value.tuple [].toArray)) ∧
 (((Go.Value.tuple [].toArray) = (Go.Value.tuple [].toArray)) ∧
 (((Go.Value.tuple [].toArray) = (Go.Value.tuple [].toArray)) ∧
 (((Value.bool false) = (Value.bool false)) ∧
 ((bcase (n14 != 0)
 ((Value.bool true) = (Value.bool false))
 ((Value.bool false) = (Value.bool false))) ∧
 (((vI n14) = (vI n14)) ∧
 True))))))))))))))))))))))))) ∧
 (L 30009 [(Prod.mk 3 (Go.Value.pointer (Option.some (Go.Addr.mk 1000 0 Option.none)))), (Prod.mk 4 (Go.Value.pointer (Option.some (Go.Addr.mk 1001 0 Option.none)))), (Prod.mk 5 (Go.Value.pointer (Option.some (Go.Addr.mk 1002 0 Option.none)))), (Prod.mk 9 (Go.Value.pointer (Option.some (Go.Addr.mk 1003 0 Option.none)))), (Prod.mk 10 (vI n8)), (Prod.mk 11 (Go.Value.pointer (Option.some (Go.Addr.mk 1004 0 Option.none)))), (Prod.mk 12 (vI n13)), (Prod.mk 79 (Value.bool false))] [(Prod.mk 1000 (AObj.cells [(vI a), (vI b), (vI c), (vI d)] 25 false 1)), (Prod.mk 1001 (AObj.cells [(vI g), (vI e)] 27 false 1)), (Prod.mk 1002 (AObj.cells [(vI m), (vI q), (vI x)] 29 false 1)), (Prod.mk 1003 (AObj.cells [(vI n4), (vI n5), (vI n6), (vI n7)] 37 false 4)), (Prod.mk 1004 (AObj.cells [(vI n9), (vI n10), (vI n11), (vI n12)] 37 false 4))]))))))))
 ((((Go.Value.tuple [].toArray) = (Go.Value.tuple [].toArray)) ∧
 (((Go.Value.tuple [].toArray) = (Go.Value.tuple [].toArray)) ∧
 (((Go.Value.tuple [].toArray) = (Go.Value.tuple [].toArray)) ∧
 (((Go.Value.tuple [].toArray) = (Go.Value.tuple [].toArray)) ∧
 (((Go.Value.tuple [].toArray) = (Go.Value.tuple [].toArray)) ∧
 (((Go.Value.tuple [].toArray) = (Go.Value.tuple [].toArray)) ∧
 (((Go.Value.tuple [].toArray) = (Go.Value.tuple [].toArray)) ∧
 (((Go.Value.tuple [].toArray) = (Go.Value.tuple [].toArray)) ∧
 (((Go.Value.tuple [].toArray) = (Go.Value.tuple [].toArray)) ∧
 (((Value.bool false) = (Value.bool false)) ∧
 ((bcase (n14 == 0)
 ((Value.bool true) = (Value.bool false))
 ((Value.bool false) = (Value.bool false))) ∧
 (((vI n14) = (vI n14)) ∧
 (((Value.bool false) = (Value.bool false)) ∧
 (((Value.bool false) = (Value.bool false)) ∧
 (((Go.Value.tuple [].toArray) = (Go.Value.tuple [].toArray)) ∧
 (((Go.Value.tuple [].toArray) = (Go.Value.tuple [].toArray)) ∧
 (((Go.Value.tuple [].toArray) = (Go.Value.tuple [].toArray)) ∧
 (((Go.Value.tuple [].toArray) = (Go.Value.tuple [].toArray)) ∧
 (((Go.Value.tuple [].toArray) = (Go.Value.tuple [].toArray)) ∧
 (((Go.Value.tuple [].toArray) = (Go.Value.tuple [].toArray)) ∧
 (((Go.Value.tuple [].toArray) = (Go.Value.tuple [].toArray)) ∧
 (((Go.Value.tuple [].toArray) = (Go.Value.tuple [].toArray)) ∧
 (((Value.bool false) = (Value.bool false)) ∧
 ((bcase (n14 != 0)
 ((Value.bool true) = (Value.bool false))
 ((Value.bool false) = (Value.bool false))) ∧
 (((vI n14) = (vI n14)) ∧
 True))))))))))))))))))))))))) ∧
 ((((Value.bool false) = (Value.bool false)) ∧
 (((Value.bool false) = (Value.bool false)) ∧
 (((Go.Value.tuple [].toArray) = (Go.Value.tuple [].toArray)) ∧
 (((Go.Value.tuple [].toArray) = (Go.Value.tuple [].toArray)) ∧
 (((Go.Value.tuple [].toArray) = (Go.Value.tuple [].toArray)) ∧
 (((Go.Value.tuple [].toArray) = (Go.Value.tuple [].toArray)) ∧
 (((Go.Value.tuple [].toArray) = (Go.Value.tuple [].toArray)) ∧
 (((Go.Value.tuple [].toArray) = (Go.Value.tuple [].toArray)) ∧
 (((Go.Value.tuple [].toArray) = (Go.Value.tuple [].toArray)) ∧
 (((Value.bool false) = (Value.bool false)) ∧
 ((bcase (n14 == 0)
 ((Value.bool true) = (Value.bool false))
 ((Value.bool false) = (Value.bool false))) ∧
 (((vI n14) = (vI n14)) ∧
 (((Value.bool false) = (Value.bool false)) ∧
 (((Value.bool false) = (Value.bool false)) ∧
 (((Go.Value.tuple [].toArray) = (Go.Value.tuple [].toArray)) ∧
 (((Go.Value.tuple [].toArray) = (Go.Value.tuple [].toArray)) ∧
 (((Go.Value.tuple [].toArray) = (Go.Value.tuple [].toArray)) ∧
 (((Go.Value.tuple [].toArray) = (Go.Value.tuple [].toArray)) ∧
 (((Go.Value.tuple [].toArray) = (Go.Value.tuple [].toArray)) ∧
 (((Go.Value.tuple [].toArray) = (Go.Value.tuple [].toArray)) ∧
 (((Go.Value.tuple [].toArray) = (Go.Value.tuple [].toArray)) ∧
 (((Go.Value.tuple [].toArray) = (Go.Value.tuple [].toArray)) ∧
 (((Value.bool false) = (Value.bool false)) ∧
 ((bcase (n14 != 0)
 ((Value.bool true) = (Value.bool false))
 ((Value.bool false) = (Value.bool false))) ∧
 (((vI n14) = (vI n14)) ∧
 True))))))))))))))))))))))))) ∧
 (L 30009 [(Prod.mk 3 (Go.Value.pointer (Option.some (Go.Addr.mk 1000 0 Option.none)))), (Prod.mk 4 (Go.Value.pointer (Option.some (Go.Addr.mk 1001 0 Option.none)))), (Prod.mk 5 (Go.Value.pointer (Option.some (Go.Addr.mk 1002 0 Option.none)))), (Prod.mk 9 (Go.Value.pointer (Option.some (Go.Addr.mk 1003 0 Option.none)))), (Prod.mk 10 (vI n8)), (Prod.mk 11 (Go.Value.pointer (Option.some (Go.Addr.mk 1004 0 Option.none)))), (Prod.mk 12 (vI n13)), (Prod.mk 79 (Value.bool false))] [(Prod.mk 1000 (AObj.cells [(vI a), (vI b), (vI c), (vI d)] 25 false 1)), (Prod.mk 1001 (AObj.cells [(vI g), (vI e)] 27 false 1)), (Prod.mk 1002 (AObj.cells [(vI m), (vI q), (vI x)] 29 false 1)), (Prod.mk 1003 (AObj.cells [(vI n4), (vI n5), (vI n6), (vI n7)] 37 false 4)), (Prod.mk 1004 (AObj.cells [(vI n9), (vI n10), (vI n11), (vI n12)] 37 false 4))])))))))) := by kernel_rfl
def c9 (C : Ct) (L : AtLoop) (a b c d g e m q x n4 n5 n6 n7 n8 n9 n10 n11 n12 n13 : Int) (k : List D → Prop) : Prop := jNext Tryz.prog (hS C) L JS 3 30009 .normal [(3, P1 1000 0), (4, P1 1001 0), (5, P1 1002 0), (9, P1 1003 0), (10, vI n8), (11, P1 1004 0), (12, vI n13), (79, .bool false)] [oS a b c d, oX 1001 g e, oMa 1002 m q x, oG 1003 n4 n5 n6 n7, oG 1004 n9 n10 n11 n12] (dataK k)
theorem c9_text (C : Ct) (L : AtLoop) (a : Int) (b : Int) (c : Int) (d : Int) (g : Int) (e : Int) (m : Int) (q : Int) (x : Int) (n4 : Int) (n5 : Int) (n6 : Int) (n7 : Int) (n8 : Int) (n9 : Int) (n10 : Int) (n11 : Int) (n12 : Int) (n13 : Int) (k : List D → Prop) : c9 C L a b c d g e m q x n4 n5 n6 n7 n8 n9 n10 n11 n12 n13 k =
 (∃ n1 : Int,
 ((Says C 19 [(D.agg [(D.val (vI a)), (D.val (vI b)), (D.val (vI c)), (D.val (vI d))])] [(D.val (vI n1))]) ∧
 (∃ n2 : Int,
 ((Says C 20 [(D.agg [(D.val (vI a)), (D.val (vI b)), (D.val (vI c)), (D.val (vI d))])] [(D.val (vI n2))]) ∧
 (bcase (n2 != n1)
 (L 30012 [(Prod.mk 3 (Go.Value.pointer (Option.some (Go.Addr.mk 1000 0 Option.none)))), (Prod.mk 4 (Go.Value.pointer (Option.some (Go.Addr.mk 1001 0 Option.none)))), (Prod.mk 5 (Go.Value.pointer (Option.some (Go.Addr.mk 1002 0 Option.none)))), (Prod.mk 9 (Go.Value.pointer (Option.some (Go.Addr.mk 1003 0 Option.none)))), (Prod.mk 10 (vI n8)), (Prod.mk 11 (Go.Value.pointer (Option.some (Go.Addr.mk 1004 0 Option.none)))), (Prod.mk 12 (vI n13)), (Prod.mk 14 (vI n1)), (Prod.mk 85 (Value.bool true))] [(Prod.mk 1000 (AObj.cells [(vI a), (vI b), (vI c), (vI d)] 25 false 1)), (Prod.mk 1001 (AObj.cells [(vI g), (vI e)] 27 false 1)), (Prod.mk 1002 (AObj.cells [(vI m), (vI q), (vI x)] 29 false 1)), (Prod.mk 1003 (AObj.cells [(vI n4), (vI n5), (vI n6), (vI n7)] 37 false 4)), (Prod.mk 1004 (AObj.cells [(vI n9), (vI n10), (vI n11), (vI n12)] 37 false 4))])
 (L 30012 [(Prod.mk 3 (Go.Value.pointer (Option.some (Go.Addr.mk 1000 0 Option.none)))), (Prod.mk 4 (Go.Value.pointer (Option.some (Go.Addr.mk 1001 0 Option.none)))), (Prod.mk 5 (Go.Value.pointer (Option.some (Go.Addr.mk 1002 0 Option.none)))), (Prod.mk 9 (Go.Value.pointer (Option.some (Go.Addr.mk 1003 0 Option.none)))), (Prod.mk 10 (vI n8)), (Prod.mk 11 (Go.Value.pointer (Option.some (Go.Addr.mk 1004 0 Option.none)))), (Prod.mk 12 (vI n13)), (Prod.mk 14 (vI n1)), (Prod.mk 85 (Value.bool false))] [(Prod.mk 1000 (AObj.cells [(vI a), (vI b), (vI c), (vI d)] 25 false 1)), (Prod.mk 1001 (AObj.cells [(vI g), (vI e)] 27 false 1)), (Prod.mk 1002 (AObj.cells [(vI m), (vI q), (vI x)] 29 false 1)), (Prod.mk 1003 (AObj.cells [(vI n4), (vI n5), (vI n6), (vI n7)] 37 false 4)), (Prod.mk 1004 (AObj.cells [(vI n9), (vI n10), (vI n11), (vI n12)] 37 false 4))])))))) := by kernel_rfl
def c12 (C : Ct) (L : AtLoop) (a b c d g e m q x n4 n5 n6 n7 n8 n9 n10 n11 n12 n13 o : Int) (k : List D → Prop) : Prop := jNext Tryz.prog (hS C) L JS 3 30012 .normal [(3, P1 1000 0), (4, P1 1001 0), (5, P1 1002 0), (9, P1 1003 0), (10, vI n8), (11, P1 1004 0), (12, vI n13), (14, vI o), (85, .bool false)] [oS a b c d, oX 1001 g e, oMa 1002 m q x, oG 1003 n4 n5 n6 n7, oG 1004 n9 n10 n11 n12] (dataK k)
theorem c12_text (C : Ct) (L : AtLoop) (a : Int) (b : Int) (c : Int) (d : Int) (g : Int) (e : Int) (m : Int) (q : Int) (x : Int) (n4 : Int) (n5 : Int) (n6 : Int) (n7 : Int) (n8 : Int) (n9 : Int) (n10 : Int) (n11 : Int) (n12 : Int) (n13 : Int) (o : Int) (k : List D → Prop) : c12 C L a b c d g e m q x n4 n5 n6 n7 n8 n9 n10 n11 n12 n13 o k =
 (bcase (o != 0)
 (bcase (n8 == o)
 (bcase (n13 == o)
 (bcase (if Bool.false = Bool.true then !(n4 == 0 && (n5 == 0 && Bool.true) && (n6 == 0 && (n7 == 0 && Bool.true) && Bool.true)) else n4 == 0 && (n5 == 0 && Bool.true) && (n6 == 0 && (n7 == 0 && Bool.true) && Bool.true))
 (bcase (if Bool.false = Bool.true then !(n9 == 0 && (n10 == 0 && Bool.true) && (n11 == 0 && (n12 == 0 && Bool.true) && Bool.true)) else n9 == 0 && (n10 == 0 && Bool.true) && (n11 == 0 && (n12 == 0 && Bool.true) && Bool.true))
 (k [(D.val (Value.bool true))])
 (k [(D.val (Value.bool false))]))
 (k [(D.val (Value.bool false))]))
 (k [(D.val (Value.bool false))]))
 (k [(D.val (Value.bool false))]))
 (∃ n1 : Int,
 ((Says C 17 [(D.agg [(D.val (vI g)), (D.val (vI e))])] [(D.val (vI n1))]) ∧
 (bcase (n1 != 0)
 (bcase (n8 != n1)
 ((((Go.Value.tuple [].toArray) = (Go.Value.tuple [].toArray)) ∧
 (((Go.Value.tuple [].toArray) = (Go.Value.tuple [].toArray)) ∧
 (((Go.Value.tuple [].toArray) = (Go.Value.tuple [].toArray)) ∧
 (((Go.Value.tuple [].toArray) = (Go.Value.tuple [].toArray)) ∧
 (((Go.Value.tuple [].toArray) = (Go.Value.tuple [].toArray)) ∧
 (((Go.Value.tuple [].toArray) = (Go.Value.tuple [].toArray)) ∧
 (((Go.Value.tuple [].toArray) = (Go.Value.tuple [].toArray)) ∧
 (((Go.Value.tuple [].toArray) = (Go.Value.tuple [].toArray)) ∧
 (((Go.Value.tuple [].toArray) = (Go.Value.tuple [].toArray)) ∧
 (((Value.bool true) = (Value.bool true)) ∧
 (((Value.bool true) = (Value.bool true)) ∧
 (((Value.bool true) = (Value.bool true)) ∧
 (((Go.Value.tuple [].toArray) = (Go.Value.tuple [].toArray)) ∧
 (((Go.Value.tuple [].toArray) = (Go.Value.tuple [].toArray)) ∧
 (((Go.Value.tuple [].toArray) = (Go.Value.tuple [].toArray)) ∧
 (((Value.bool true) = (Value.bool true)) ∧
 ((bcase (n8 != n1)
 ((Value.bool true) = (Value.bool true))
 ((Value.bool false) = (Value.bool true))) ∧
 (((vI n1) = (vI n1)) ∧
 (((vI n8) = (vI n8)) ∧
 (((Value.bool true) = (Value.bool true)) ∧
 ((bcase (n1 != 0)
 ((Value.bool true) = (Value.bool true))
 ((Value.bool false) = (Value.bool true))) ∧
 (((vI n1) = (vI n1)) ∧
 True)))))))))))))))))))))) ∧
 ((((Value.bool true) = (Value.bool true)) ∧
 (((Go.Value.tuple [].toArray) = (Go.Value.tuple [].toArray)) ∧
 (((Go.Value.tuple [].toArray) = (Go.Value.tuple [].toArray)) ∧
 (((Go.Value.tuple [].toArray) = (Go.Value.tuple [].toArray)) ∧
 (((Go.Value.tuple [].toArray) = (Go.Value.tuple [].toArray)) ∧
 (((Go.Value.tuple [].toArray) = (Go.Value.tuple [].toArray)) ∧
 (((Go.Value.tuple [].toArray) = (Go.Value.tuple [].toArray)) ∧
 (((Go.Value.tuple [].toArray) = (Go.Value.tuple [].toArray)) ∧
 (((Go.Value.tuple [].toArray) = (Go.Value.tuple [].toArray)) ∧
 (((Go.Value.tuple [].toArray) = (Go.Value.tuple [].toArray)) ∧
 (((Value.bool true) = (Value.bool true)) ∧
 (((Value.bool true) = (Value.bool true)) ∧
 (((Value.bool true) = (Value.bool true)) ∧
 (((Go.Value.tuple [].toArray) = (Go.Value.tuple [].toArray)) ∧
 (((Go.Value.tuple [].toArray) = (Go.Value.tuple [].toArray)) ∧
 (((Go.Value.tuple [].toArray) = (Go.Value.tuple [].toArray)) ∧
 (((Value.bool true) = (Value.bool true)) ∧
 ((bcase (n8 != n1)
 ((Value.bool true) = (Value.bool true))
 ((Value.bool false) = (Value.bool true))) ∧
 (((vI n1) = (vI n1)) ∧
 (((vI n8) = (vI n8)) ∧
 (((Value.bool true) = (Value.bool true)) ∧
 ((bcase (n1 != 0)
 ((Value.bool true) = (Value.bool true))
 ((Value.bool false) = (Value.bool true))) ∧
 (((vI n1) = (vI n1)) ∧
 True))))))))))))))))))))))) ∧
 (L 30017 [(Prod.mk 3 (Go.Value.pointer (Option.some (Go.Addr.mk 1000 0 Option.none)))), (Prod.mk 4 (Go.Value.pointer (Option.some (Go.Addr.mk 1001 0 Option.none)))), (Prod.mk 5 (Go.Value.pointer (Option.some (Go.Addr.mk 1002 0 Option.none)))), (Prod.mk 11 (Go.Value.pointer (Option.some (Go.Addr.mk 1003 0 Option.none)))), (Prod.mk 12 (vI n13)), (Prod.mk 134 (Value.bool true))] [(Prod.mk 1000 (AObj.cells [(vI a), (vI b), (vI c), (vI d)] 25 false 1)), (Prod.mk 1001 (AObj.cells [(vI g), (vI e)] 27 false 1)), (Prod.mk 1002 (AObj.cells [(vI m), (vI q), (vI x)] 29 false 1)), (Prod.mk 1003 (AObj.cells [(vI n9), (vI n10), (vI n11), (vI n12)] 37 false 4))])))
 (bcase (if Bool.true = Bool.true then !(n4 == 0 && (n5 == 0 && Bool.true) && (n6 == 0 && (n7 == 0 && Bool.true) && Bool.true)) else n4 == 0 && (n5 == 0 && Bool.true) && (n6 == 0 && (n7 == 0 && Bool.true) && Bool.true))
 ((((Go.Value.tuple [].toArray) = (Go.Value.tuple [].toArray)) ∧
 (((Go.Value.tuple [].toArray) = (Go.Value.tuple [].toArray)) ∧
 (((Go.Value.tuple [].toArray) = (Go.Value.tuple [].toArray)) ∧
 (((Go.Value.tuple [].toArray) = (Go.Value.tuple [].toArray)) ∧
 (((Go.Value.tuple [].toArray) = (Go.Value.tuple [].toArray)) ∧
 (((Go.Value.tuple [].toArray) = (Go.Value.tuple [].toArray)) ∧
 (((Go.Value.tuple [].toArray) = (Go.Value.tuple [].toArray)) ∧
 (((Go.Value.tuple [].toArray) = (Go.Value.tuple [].toArray)) ∧
 (((Go.Value.tuple [].toArray) = (Go.Value.tuple [].toArray)) ∧
 (((Value.bool true) = (Value.bool true)) ∧
 (((Value.bool true) = (Value.bool true)) ∧
 (((Value.bool true) = (Value.bool true)) ∧
 ((bcase (if Bool.true = Bool.true then !(n4 == 0 && (n5 == 0 && Bool.true) && (n6 == 0 && (n7 == 0 && Bool.true) && Bool.true)) else n4 == 0 && (n5 == 0 && Bool.true) && (n6 == 0 && (n7 == 0 && Bool.true) && Bool.true))
 ((Value.bool true) = (Value.bool true))
 ((Value.bool false) = (Value.bool true))) ∧
 (((Go.Value.agg [(vI (0 : Int)), (vI (0 : Int)), (vI (0 : Int)), (vI (0 : Int))].toArray) = (Go.Value.agg [(vI (0 : Int)), (vI (0 : Int)), (vI (0 : Int)), (vI (0 : Int))].toArray)) ∧
 (((Go.Value.agg [(vI n4), (vI n5), (vI n6), (vI n7)].toArray) = (Go.Value.agg [(vI n4), (vI n5), (vI n6), (vI n7)].toArray)) ∧
 (((Value.bool false) = (Value.bool false)) ∧
 ((bcase (n8 != n1)
 ((Value.bool true) = (Value.bool false))
 ((Value.bool false) = (Value.bool false))) ∧
 (((vI n1) = (vI n1)) ∧
 (((vI n8) = (vI n8)) ∧
 (((Value.bool true) = (Value.bool true)) ∧
 ((bcase (n1 != 0)
 ((Value.bool true) = (Value.bool true))
 ((Value.bool false) = (Value.bool true))) ∧
 (((vI n1) = (vI n1)) ∧
 True)))))))))))))))))))))) ∧
 ((((Value.bool true) = (Value.bool true)) ∧
 (((Go.Value.tuple [].toArray) = (Go.Value.tuple [].toArray)) ∧
 (((Go.Value.tuple [].toArray) = (Go.Value.tuple [].toArray)) ∧
 (((Go.Value.tuple [].toArray) = (Go.Value.tuple [].toArray)) ∧
 (((Go.Value.tuple [].toArray) = (Go.Value.tuple [].toArray)) ∧
 (((Go.Value.tuple [].toArray) = (Go.Value.tuple [].toArray)) ∧
 (((Go.Value.tuple [].toArray) = (Go.Value.tuple [].toArray)) ∧
 (((Go.Value.tuple [].toArray) = (Go.Value.tuple [].toArray)) ∧
 (((Go.Value.tuple [].toArray) = (Go.Value.tuple [].toArray)) ∧
 (((Go.Value.tuple [].toArray) = (Go.Value.tuple [].toArray)) ∧
 (((Value.bool true) = (Value.bool true)) ∧
 (((Value.bool true) = (Value.bool true)) ∧
 (((Value.bool true) = (Value.bool true)) ∧
 ((bcase (if Bool.true = Bool.true then !(n4 == 0 && (n5 == 0 && Bool.true) && (n6 == 0 && (n7 == 0 && Bool.true) && Bool.true)) else n4 == 0 && (n5 == 0 && Bool.true) && (n6 == 0 && (n7 == 0 && Bool.true) && Bool.true))
 ((Value.bool true) = (Value.bool true))
 ((Value.bool false) = (Value.bool true))) ∧
 (((Go.Value.agg [(vI (0 : Int)), (vI (0 : Int)), (vI (0 : Int)), (vI (0 : Int))].toArray) = (Go.Value.agg [(vI (0 : Int)), (vI (0 : Int)), (vI (0 : Int)), (vI (0 : Int))].toArray)) ∧
 (((Go.Value.agg [(vI n4), (vI n5), (vI n6), (vI n7)].toArray) = (Go.Value.agg [(vI n4), (vI n5), (vI n6), (vI n7)].toArray)) ∧
 (((Value.bool false) = (Value.bool false)) ∧
 ((bcase (n8 != n1)
 ((Value.bool true) = (Value.bool false))
 ((Value.bool false) = (Value.bool false))) ∧
 (((vI n1) = (vI n1)) ∧
 (((vI n8) = (vI n8)) ∧
 (((Value.bool true) = (Value.bool true)) ∧
 ((bcase (n1 != 0)
 ((Value.bool true) = (Value.bool true))
 ((Value.bool false) = (Value.bool true))) ∧
 (((vI n1) = (vI n1)) ∧
 True))))))))))))))))))))))) ∧
 (L 30017 [(Prod.mk 3 (Go.Value.pointer (Option.some (Go.Addr.mk 1000 0 Option.none)))), (Prod.mk 4 (Go.Value.pointer (Option.some (Go.Addr.mk 1001 0 Option.none)))), (Prod.mk 5 (Go.Value.pointer (Option.some (Go.Addr.mk 1002 0 Option.none)))), (Prod.mk 11 (Go.Value.pointer (Option.some (Go.Addr.mk 1003 0 Option.none)))), (Prod.mk 12 (vI n13)), (Prod.mk 134 (Value.bool true))] [(Prod.mk 1000 (AObj.cells [(vI a), (vI b), (vI c), (vI d)] 25 false 1)), (Prod.mk 1001 (AObj.cells [(vI g), (vI e)] 27 false 1)), (Prod.mk 1002 (AObj.cells [(vI m), (vI q), (vI x)] 29 false 1)), (Prod.mk 1003 (AObj.cells [(vI n9), (vI n10), (vI n11), (vI n12)] 37 false 4))])))
 (bcase (n1 == 0)
 (bcase (n8 != 0)
 ((((Go.Value.tuple [].toArray) = (Go.Value.tuple [].toArray)) ∧
 (((Go.Value.tuple [].toArray) = (Go.Value.tuple [].toArray)) ∧
 (((Go.Value.tuple [].toArray) = (Go.Value.tuple [].toArray)) ∧
 (((Value.bool true) = (Value.bool true)) ∧
 ((bcase (n8 != 0)
 ((Value.bool true) = (Value.bool true))
 ((Value.bool false) = (Value.bool true))) ∧
 (((vI n8) = (vI n8)) ∧
 (((Value.bool true) = (Value.bool true)) ∧
 ((bcase (n1 == 0)
 ((Value.bool true) = (Value.bool true))
 ((Value.bool false) = (Value.bool true))) ∧
 (((vI n1) = (vI n1)) ∧
 (((Value.bool false) = (Value.bool false)) ∧
 (((Value.bool false) = (Value.bool false)) ∧
 (((Value.bool false) = (Value.bool false)) ∧
 ((bcase (if Bool.true = Bool.true then !(n4 == 0 && (n5 == 0 && Bool.true) && (n6 == 0 && (n7 == 0 && Bool.true) && Bool.true)) else n4 == 0 && (n5 == 0 && Bool.true) && (n6 == 0 && (n7 == 0 && Bool.true) && Bool.true))
 ((Value.bool true) = (Value.bool false))
 ((Value.bool false) = (Value.bool false))) ∧
 (((Go.Value.agg [(vI (0 : Int)), (vI (0 : Int)), (vI (0 : Int)), (vI (0 : Int))].toArray) = (Go.Value.agg [(vI (0 : Int)), (vI (0 : Int)), (vI (0 : Int)), (vI (0 : Int))].toArray)) ∧
 (((Go.Value.agg [(vI n4), (vI n5), (vI n6), (vI n7)].toArray) = (Go.Value.agg [(vI n4), (vI n5), (vI n6), (vI n7)].toArray)) ∧
 (((Value.bool false) = (Value.bool false)) ∧
 ((bcase (n8 != n1)
 ((Value.bool true) = (Value.bool false))
 ((Value.bool false) = (Value.bool false))) ∧
 (((vI n1) = (vI n1)) ∧
 (((vI n8) = (vI n8)) ∧
 (((Value.bool true) = (Value.bool true)) ∧
 ((bcase (n1 != 0)
 ((Value.bool true) = (Value.bool true))
 ((Value.bool false) = (Value.bool true))) ∧
 (((vI n1) = (vI n1)) ∧
 True)))))))))))))))))))))) ∧
 ((((Value.bool true) = (Value.bool true)) ∧
 (((Value.bool true) = (Value.bool true)) ∧
 (((Value.bool true) = (Value.bool true)) ∧
 (((Go.Value.tuple [].toArray) = (Go.Value.tuple [].toArray)) ∧
 (((Go.Value.tuple [].toArray) = (Go.Value.tuple [].toArray)) ∧
 ((bcase (n8 != 0)
 ((Value.bool true) = (Value.bool true))
 ((Value.bool false) = (Value.bool true))) ∧
 (((vI n8) = (vI n8)) ∧
 (((Value.bool true) = (Value.bool true)) ∧
 ((bcase (n1 == 0)
 ((Value.bool true) = (Value.bool true))
 ((Value.bool false) = (Value.bool true))) ∧
 (((vI n1) = (vI n1)) ∧
 (((Value.bool false) = (Value.bool false)) ∧
 (((Value.bool false) = (Value.bool false)) ∧
 (((Value.bool false) = (Value.bool false)) ∧
 ((bcase (if Bool.true = Bool.true then !(n4 == 0 && (n5 == 0 && Bool.true) && (n6 == 0 && (n7 == 0 && Bool.true) && Bool.true)) else n4 == 0 && (n5 == 0 && Bool.true) && (n6 == 0 && (n7 == 0 && Bool.true) && Bool.true))
 ((Value.bool true) = (Value.bool false))
 ((Value.bool false) = (Value.bool false))) ∧
 (((Go.Value.agg [(vI (0 : Int)), (vI (0 : Int)), (vI (0 : Int)), (vI (0 : Int))].toArray) = (Go.Value.agg [(vI (0 : Int)), (vI (0 : Int)), (vI (0 : Int)), (vI (0 : Int))].toArray)) ∧
 (((Go.Value.agg [(vI n4), (vI n5), (vI n6), (vI n7)].toArray) = (Go.Value.agg [(vI n4), (vI n5), (vI n6), (vI n7)].toArray)) ∧
 (((Value.bool false) = (Value.bool false)) ∧
 ((bcase (n8 != n1)
 ((Value.bool true) = (Value.bool false))
 ((Value.bool false) = (Value.bool false))) ∧
 (((vI n1) = (vI n1)) ∧
 (((vI n8) = (vI n8)) ∧
 (((Value.bool true) = (Value.bool true)) ∧
 ((bcase (n1 != 0)
 ((Value.bool true) = (Value.bool true))
 ((Value.bool false) = (Value.bool true))) ∧
 (((vI n1) = (vI n1)) ∧
 True))))))))))))))))))))))) ∧
 (L 30017 [(Prod.mk 3 (Go.Value.pointer (Option.some (Go.Addr.mk 1000 0 Option.none)))), (Prod.mk 4 (Go.Value.pointer (Option.some (Go.Addr.mk 1001 0 Option.none)))), (Prod.mk 5 (Go.Value.pointer (Option.some (Go.Addr.mk 1002 0 Option.none)))), (Prod.mk 11 (Go.Value.pointer (Option.some (Go.Addr.mk 1003 0 Option.none)))), (Prod.mk 12 (vI n13)), (Prod.mk 134 (Value.bool true))] [(Prod.mk 1000 (AObj.cells [(vI a), (vI b), (vI c), (vI d)] 25 false 1)), (Prod.mk 1001 (AObj.cells [(vI g), (vI e)] 27 false 1)), (Prod.mk 1002 (AObj.cells [(vI m), (vI q), (vI x)] 29 false 1)), (Prod.mk 1003 (AObj.cells [(vI n9), (vI n10), (vI n11), (vI n12)] 37 false 4))])))
 ((((Go.Value.agg [(vI g), (vI e)].toArray) = (Go.Value.agg [(vI g), (vI e)].toArray)) ∧
 (((Go.Value.agg [(vI a), (vI b), (vI c), (vI d)].toArray) = (Go.Value.agg [(vI a), (vI b), (vI c), (vI d)].toArray)) ∧
 (((Go.Value.agg [(vI n4), (vI n5), (vI n6), (vI n7)].toArray) = (Go.Value.agg [(vI n4), (vI n5), (vI n6), (vI n7)].toArray)) ∧
 (((Value.bool false) = (Value.bool false)) ∧
 ((bcase (n8 != 0)
 ((Value.bool true) = (Value.bool false))
 ((Value.bool false) = (Value.bool false))) ∧
 (((vI n8) = (vI n8)) ∧
 (((Value.bool true) = (Value.bool true)) ∧
 ((bcase (n1 == 0)
 ((Value.bool true) = (Value.bool true))
 ((Value.bool false) = (Value.bool true))) ∧
 (((vI n1) = (vI n1)) ∧
 (((Value.bool false) = (Value.bool false)) ∧
 (((Value.bool false) = (Value.bool false)) ∧
 (((Value.bool false) = (Value.bool false)) ∧
 ((bcase (if Bool.true = Bool.true then !(n4 == 0 && (n5 == 0 && Bool.true) && (n6 == 0 && (n7 == 0 && Bool.true) && Bool.true)) else n4 == 0 && (n5 == 0 && Bool.true) && (n6 == 0 && (n7 == 0 && Bool.true) && Bool.true))
 ((Value.bool true) = (Value.bool false))
 ((Value.bool false) = (Value.bool false))) ∧
 (((Go.Value.agg [(vI (0 : Int)), (vI (0 : Int)), (vI (0 : Int)), (vI (0 : Int))].toArray) = (Go.Value.agg [(vI (0 : Int)), (vI (0 : Int)), (vI (0 : Int)), (vI (0 : Int))].toArray)) ∧
 (((Go.Value.agg [(vI n4), (vI n5), (vI n6), (vI n7)].toArray) = (Go.Value.agg [(vI n4), (vI n5), (vI n6), (vI n7)].toArray)) ∧
 (((Value.bool false) = (Value.bool false)) ∧
 ((bcase (n8 != n1)
 ((Value.bool true) = (Value.bool false))
 ((Value.bool false) = (Value.bool false))) ∧
 (((vI n1) = (vI n1)) ∧
 (((vI n8) = (vI n8)) ∧
 (((Value.bool true) = (Value.bool true)) ∧
 ((bcase (n1 != 0)
 ((Value.bool true) = (Value.bool true))
 ((Value.bool false) = (Value.bool true))) ∧
 (((vI n1) = (vI n1)) ∧
 True)))))))))))))))))))))) ∧
 (∃ n2 : Int,
 (∃ n3 : Int,
 (∃ n14 : Int,
 (∃ n15 : Int,
 ((Says C 21 [(D.agg [(D.val (vI a)), (D.val (vI b)), (D.val (vI c)), (D.val (vI d))]), (D.agg [(D.val (vI g)), (D.val (vI e))])] [(D.agg [(D.val (vI n2)), (D.val (vI n3)), (D.val (vI n14)), (D.val (vI n15))])]) ∧
 (bcase (if Bool.true = Bool.true then !(n4 == n2 && (n5 == n3 && Bool.true) && (n6 == n14 && (n7 == n15 && Bool.true) && Bool.true)) else n4 == n2 && (n5 == n3 && Bool.true) && (n6 == n14 && (n7 == n15 && Bool.true) && Bool.true))
 ((((Value.bool true) = (Value.bool true)) ∧
 (((Value.bool true) = (Value.bool true)) ∧
 (((Value.bool true) = (Value.bool true)) ∧
 ((bcase (if Bool.true = Bool.true then !(n4 == n2 && (n5 == n3 && Bool.true) && (n6 == n14 && (n7 == n15 && Bool.true) && Bool.true)) else n4 == n2 && (n5 == n3 && Bool.true) && (n6 == n14 && (n7 == n15 && Bool.true) && Bool.true))
 ((Value.bool true) = (Value.bool true))
 ((Value.bool false) = (Value.bool true))) ∧
 (((Go.Value.agg [(vI n4), (vI n5), (vI n6), (vI n7)].toArray) = (Go.Value.agg [(vI n4), (vI n5), (vI n6), (vI n7)].toArray)) ∧
 ((bcase (n8 != 0)
 ((Value.bool true) = (Value.bool false))
 ((Value.bool false) = (Value.bool false))) ∧
 (((vI n8) = (vI n8)) ∧
 (((Value.bool true) = (Value.bool true)) ∧
 ((bcase (n1 == 0)
 ((Value.bool true) = (Value.bool true))
 ((Value.bool false) = (Value.bool true))) ∧
 (((vI n1) = (vI n1)) ∧
 (((Value.bool false) = (Value.bool false)) ∧
 (((Value.bool false) = (Value.bool false)) ∧
 (((Value.bool false) = (Value.bool false)) ∧
 ((bcase (if Bool.true = Bool.true then !(n4 == 0 && (n5 == 0 && Bool.true) && (n6 == 0 && (n7 == 0 && Bool.true) && Bool.true)) else n4 == 0 && (n5 == 0 && Bool.true) && (n6 == 0 && (n7 == 0 && Bool.true) && Bool.true))
 ((Value.bool true) = (Value.bool false))
 ((Value.bool false) = (Value.bool false))) ∧
 (((Go.Value.agg [(vI (0 : Int)), (vI (0 : Int)), (vI (0 : Int)), (vI (0 : Int))].toArray) = (Go.Value.agg [(vI (0 : Int)), (vI (0 : Int)), (vI (0 : Int)), (vI (0 : Int))].toArray)) ∧
 (((Go.Value.agg [(vI n4), (vI n5), (vI n6), (vI n7)].toArray) = (Go.Value.agg [(vI n4), (vI n5), (vI n6), (vI n7)].toArray)) ∧
 (((Value.bool false) = (Value.bool false)) ∧
 ((bcase (n8 != n1)
 ((Value.bool true) = (Value.bool false))
 ((Value.bool false) = (Value.bool false))) ∧
 (((vI n1) = (vI n1)) ∧
 (((vI n8) = (vI n8)) ∧
 (((Value.bool true) = (Value.bool true)) ∧
 ((bcase (n1 != 0)
 ((Value.bool true) = (Value.bool true))
 ((Value.bool false) = (Value.bool true))) ∧
 (((vI n1) = (vI n1)) ∧
 True))))))))))))))))))))))) ∧
 (L 30017 [(Prod.mk 3 (Go.Value.pointer (Option.some (Go.Addr.mk 1000 0 Option.none)))), (Prod.mk 4 (Go.Value.pointer (Option.some (Go.Addr.mk 1001 0 Option.none)))), (Prod.mk 5 (Go.Value.pointer (Option.some (Go.Addr.mk 1002 0 Option.none)))), (Prod.mk 11 (Go.Value.pointer (Option.some (Go.Addr.mk 1003 0 Option.none)))), (Prod.mk 12 (vI n13)), (Prod.mk 134 (Value.bool true))] [(Prod.mk 1000 (AObj.cells [(vI a), (vI b), (vI c), (vI d)] 25 false 1)), (Prod.mk 1001 (AObj.cells [(vI g), (vI e)] 27 false 1)), (Prod.mk 1002 (AObj.cells [(vI m), (vI q), (vI x)] 29 false 1)), (Prod.mk 1003 (AObj.cells [(vI n9), (vI n10), (vI n11), (vI n12)] 37 false 4))]))
 ((((Value.bool false) = (Value.bool false)) ∧
 (((Value.bool false) = (Value.bool false)) ∧
 (((Value.bool false) = (Value.bool false)) ∧
 ((bcase (if Bool.true = Bool.true then !(n4 == n2 && (n5 == n3 && Bool.true) && (n6 == n14 && (n7 == n15 && Bool.true) && Bool.true)) else n4 == n2 && (n5 == n3 && Bool.true) && (n6 == n14 && (n7 == n15 && Bool.true) && Bool.true))
 ((Value.bool true) = (Value.bool false))
 ((Value.bool false) = (Value.bool false))) ∧
 (((Go.Value.agg [(vI n4), (vI n5), (vI n6), (vI n7)].toArray) = (Go.Value.agg [(vI n4), (vI n5), (vI n6), (vI n7)].toArray)) ∧
 ((bcase (n8 != 0)
 ((Value.bool true) = (Value.bool false))
 ((Value.bool false) = (Value.bool false))) ∧
 (((vI n8) = (vI n8)) ∧
 (((Value.bool true) = (Value.bool true)) ∧
 ((bcase (n1 == 0)
 ((Value.bool true) = (Value.bool true))
 ((Value.bool false) = (Value.bool true))) ∧
 (((vI n1) = (vI n1)) ∧
 (((Value.bool false) = (Value.bool false)) ∧
 (((Value.bool false) = (Value.bool false)) ∧
 (((Value.bool false) = (Value.bool false)) ∧
 ((bcase (if Bool.true = Bool.true then !(n4 == 0 && (n5 == 0 && Bool.true) && (n6 == 0 && (n7 == 0 && Bool.true) && Bool.true)) else n4 == 0 && (n5 == 0 && Bool.true) && (n6 == 0 && (n7 == 0 && Bool.true) && Bool.true))
 ((Value.bool true) = (Value.bool false))
 ((Value.bool false) = (Value.bool false))) ∧
 (((Go.Value.agg [(vI (0 : Int)), (vI (0 : Int)), (vI (0 : Int)), (vI (0 : Int))].toArray) = (Go.Value.agg [(vI (0 : Int)), (vI (0 : Int)), (vI (0 : Int)), (vI (0 : Int))].toArray)) ∧
 (((Go.Value.agg [(vI n4), (vI n5), (vI n6), (vI n7)].toArray) = (Go.Value.agg [(vI n4), (vI n5), (vI n6), (vI n7)].toArray)) ∧
 (((Value.bool false) = (Value.bool false)) ∧
 ((bcase (n8 != n1)
 ((Value.bool true) = (Value.bool false))
 ((Value.bool false) = (Value.bool false))) ∧
 (((vI n1) = (vI n1)) ∧
 (((vI n8) = (vI n8)) ∧
 (((Value.bool true) = (Value.bool true)) ∧
 ((bcase (n1 != 0)
 ((Value.bool true) = (Value.bool true))
 ((Value.bool false) = (Value.bool true))) ∧
 (((vI n1) = (vI n1)) ∧
 True))))))))))))))))))))))) ∧
 (L 30017 [(Prod.mk 3 (Go.Value.pointer (Option.some (Go.Addr.mk 1000 0 Option.none)))), (Prod.mk 4 (Go.Value.pointer (Option.some (Go.Addr.mk 1001 0 Option.none)))), (Prod.mk 5 (Go.Value.pointer (Option.some (Go.Addr.mk 1002 0 Option.none)))), (Prod.mk 11 (Go.Value.pointer (Option.some (Go.Addr.mk 1003 0 Option.none)))), (Prod.mk 12 (vI n13)), (Prod.mk 134 (Value.bool false))] [(Prod.mk 1000 (AObj.cells [(vI a), (vI b), (vI c), (vI d)] 25 false 1)), (Prod.mk 1001 (AObj.cells [(vI g), (vI e)] 27 false 1)), (Prod.mk 1002 (AObj.cells [(vI m), (vI q), (vI x)] 29 false 1)), (Prod.mk 1003 (AObj.cells [(vI n9), (vI n10), (vI n11), (vI n12)] 37 false 4))]))))))))))
 ((((Go.Value.tuple [].toArray) = (Go.Value.tuple [].toArray)) ∧
 (((Go.Value.tuple [].toArray) = (Go.Value.tuple [].toArray)) ∧
 (((Go.Value.tuple [].toArray) = (Go.Value.tuple [].toArray)) ∧
 (((Go.Value.tuple [].toArray) = (Go.Value.tuple [].toArray)) ∧
 (((Go.Value.tuple [].toArray) = (Go.Value.tuple [].toArray)) ∧
 (((Go.Value.tuple [].toArray) = (Go.Value.tuple [].toArray)) ∧
 (((Value.bool false) = (Value.bool false)) ∧
 ((bcase (n1 == 0)
 ((Value.bool true) = (Value.bool false))
 ((Value.bool false) = (Value.bool false))) ∧
 (((vI n1) = (vI n1)) ∧
 (((Value.bool false) = (Value.bool false)) ∧
 (((Value.bool false) = (Value.bool false)) ∧
 (((Value.bool false) = (Value.bool false)) ∧
 ((bcase (if Bool.true = Bool.true then !(n4 == 0 && (n5 == 0 && Bool.true) && (n6 == 0 && (n7 == 0 && Bool.true) && Bool.true)) else n4 == 0 && (n5 == 0 && Bool.true) && (n6 == 0 && (n7 == 0 && Bool.true) && Bool.true))
 ((Value.bool true) = (Value.bool false))
 ((Value.bool false) = (Value.bool false))) ∧
 (((Go.Value.agg [(vI (0 : Int)), (vI (0 : Int)), (vI (0 : Int)), (vI (0 : Int))].toArray) = (Go.Value.agg [(vI (0 : Int)), (vI (0 : Int)), (vI (0 : Int)), (vI (0 : Int))].toArray)) ∧
 (((Go.Value.agg [(vI n4), (vI n5), (vI n6), (vI n7)].toArray) = (Go.Value.agg [(vI n4), (vI n5), (vI n6), (vI n7)].toArray)) ∧
 (((Value.bool false) = (Value.bool false)) ∧
 ((bcase (n8 != n1)
 ((Value.bool true) = (Value.bool false))
 ((Value.bool false) = (Value.bool false))) ∧
 (((vI n1) = (vI n1)) ∧
 (((vI n8) = (vI n8)) ∧
 (((Value.bool true) = (Value.bool true)) ∧
 ((bcase (n1 != 0)
 ((Value.bool true) = (Value.bool true))
 ((Value.bool false) = (Value.bool true))) ∧
 (((vI n1) = (vI n1)) ∧
 True)))))))))))))))))))))) ∧
 ((((Value.bool false) = (Value.bool false)) ∧
 (((Value.bool false) = (Value.bool false)) ∧
 (((Go.Value.tuple [].toArray) = (Go.Value.tuple [].toArray)) ∧
 (((Go.Value.tuple [].toArray) = (Go.Value.tuple [].toArray)) ∧
 (((Go.Value.tuple [].toArray) = (Go.Value.tuple [].toArray)) ∧
 (((Go.Value.tuple [].toArray) = (Go.Value.tuple [].toArray)) ∧
 (((Go.Value.tuple [].toArray) = (Go.Value.tuple [].toArray)) ∧
 (((Value.bool false) = (Value.bool false)) ∧
 ((bcase (n1 == 0)
 ((Value.bool true) = (Value.bool false))
 ((Value.bool false) = (Value.bool false))) ∧
 (((vI n1) = (vI n1)) ∧
 (((Value.bool false) = (Value.bool false)) ∧
 (((Value.bool false) = (Value.bool false)) ∧
 (((Value.bool false) = (Value.bool false)) ∧
 ((bcase (if Bool.true = Bool.true then !(n4 == 0 && (n5 == 0 && Bool.true) && (n6 == 0 && (n7 == 0 && Bool.true) && Bool.true)) else n4 == 0 && (n5 == 0 && Bool.true) && (n6 == 0 && (n7 == 0 && Bool.true) && Bool.true))
 ((Value.bool true) = (Value.bool false))
 ((Value.bool false) = (Value.bool false))) ∧
 (((Go.Value.agg [(vI (0 : Int)), (vI (0 : Int)), (vI (0 : Int)), (vI (0 : Int))].toArray) = (Go.Value.agg [(vI (0 : Int)), (vI (0 : Int)), (vI (0 : Int)), (vI (0 : Int))].toArray)) ∧
 (((Go.Value.agg [(vI n4), (vI n5), (vI n6), (vI n7)].toArray) = (Go.Value.agg [(vI n4), (vI n5), (vI n6), (vI n7)].toArray)) ∧
 (((Value.bool false) = (Value.bool false)) ∧
 ((bcase (n8 != n1)
 ((Value.bool true) = (Value.bool false))
 ((Value.bool false) = (Value.bool false))) ∧
 (((vI n1) = (vI n1)) ∧
 (((vI n8) = (vI n8)) ∧
 (((Value.bool true) = (Value.bool true)) ∧
 ((bcase (n1 != 0)
 ((Value.bool true) = (Value.bool true))
 ((Value.bool false) = (Value.bool true))) ∧
 (((vI n1) = (vI n1)) ∧
 True))))))))))))))))))))))) ∧
 (L 30017 [(Prod.mk 3 (Go.Value.pointer (Option.some (Go.Addr.mk 1000 0 Option.none)))), (Prod.mk 4 (Go.Value.pointer (Option.some (Go.Addr.mk 1001 0 Option.none)))), (Prod.mk 5 (Go.Value.pointer (Option.some (Go.Addr.mk 1002 0 Option.none)))), (Prod.mk 11 (Go.Value.pointer (Option.some (Go.Addr.mk 1003 0 Option.none)))), (Prod.mk 12 (vI n13)), (Prod.mk 134 (Value.bool false))] [(Prod.mk 1000 (AObj.cells [(vI a), (vI b), (vI c), (vI d)] 25 false 1)), (Prod.mk 1001 (AObj.cells [(vI g), (vI e)] 27 false 1)), (Prod.mk 1002 (AObj.cells [(vI m), (vI q), (vI x)] 29 false 1)), (Prod.mk 1003 (AObj.cells [(vI n9), (vI n10), (vI n11), (vI n12)] 37 false 4))]))))))
 (bcase (n1 == 0)
 (bcase (n8 != 0)
 ((((Go.Value.tuple [].toArray) = (Go.Value.tuple [].toArray)) ∧
 (((Go.Value.tuple [].toArray) = (Go.Value.tuple [].toArray)) ∧
 (((Go.Value.tuple [].toArray) = (Go.Value.tuple [].toArray)) ∧
 (((Value.bool true) = (Value.bool true)) ∧
 ((bcase (n8 != 0)
 ((Value.bool true) = (Value.bool true))
 ((Value.bool false) = (Value.bool true))) ∧
 (((vI n8) = (vI n8)) ∧
 (((Value.bool true) = (Value.bool true)) ∧
 ((bcase (n1 == 0)
 ((Value.bool true) = (Value.bool true))
 ((Value.bool false) = (Value.bool true))) ∧
 (((vI n1) = (vI n1)) ∧
 (((Value.bool false) = (Value.bool false)) ∧
 (((Value.bool false) = (Value.bool false)) ∧
 (((Go.Value.tuple [].toArray) = (Go.Value.tuple [].toArray)) ∧
 (((Go.Value.tuple [].toArray) = (Go.Value.tuple [].toArray)) ∧
 (((Go.Value.tuple [].toArray) = (Go.Value.tuple [].toArray)) ∧
 (((Go.Value.tuple [].toArray) = (Go.Value.tuple [].toArray)) ∧
 (((Go.Value.tuple [].toArray) = (Go.Value.tuple [].toArray)) ∧
 (((Go.Value.tuple [].toArray) = (Go.Value.tuple [].toArray)) ∧
 (((Go.Value.tuple [].toArray) = (Go.Value.tuple [].toArray)) ∧
 (((Go.Value.tuple [].toArray) = (Go.Value.tuple [].toArray)) ∧
 (((Value.bool false) = (Value.bool false)) ∧
 ((bcase (n1 != 0)
 ((Value.bool true) = (Value.bool false))
 ((Value.bool false) = (Value.bool false))) ∧
 (((vI n1) = (vI n1)) ∧
 True)))))))))))))))))))))) ∧
 ((((Value.bool true) = (Value.bool true)) ∧
 (((Value.bool true) = (Value.bool true)) ∧
 (((Value.bool true) = (Value.bool true)) ∧
 (((Go.Value.tuple [].toArray) = (Go.Value.tuple [].toArray)) ∧
 (((Go.Value.tuple [].toArray) = (Go.Value.tuple [].toArray)) ∧
 ((bcase (n8 != 0)
 ((Value.bool true) = (Value.bool true))
 ((Value.bool false) = (Value.bool true))) ∧
 (((vI n8) = (vI n8)) ∧
 (((Value.bool true) = (Value.bool true)) ∧
 ((bcase (n1 == 0)
 ((Value.bool true) = (Value.bool true))
 ((Value.bool false) = (Value.bool true))) ∧
 (((vI n1) = (vI n1)) ∧
 (((Value.bool false) = (Value.bool false)) ∧
 (((Value.bool false) = (Value.bool false)) ∧
 (((Go.Value.tuple [].toArray) = (Go.Value.tuple [].toArray)) ∧
 (((Go.Value.tuple [].toArray) = (Go.Value.tuple [].toArray)) ∧
 (((Go.Value.tuple [].toArray) = (Go.Value.tuple [].toArray)) ∧
 (((Go.Value.tuple [].toArray) = (Go.Value.tuple [].toArray)) ∧
 (((Go.Value.tuple [].toArray) = (Go.Value.tuple [].toArray)) ∧
 (((Go.Value.tuple [].toArray) = (Go.Value.tuple [].toArray)) ∧
 (((Go.Value.tuple [].toArray) = (Go.Value.tuple [].toArray)) ∧
 (((Go.Value.tuple [].toArray) = (Go.Value.tuple [].toArray)) ∧
 (((Value.bool false) = (Value.bool false)) ∧
 ((bcase (n1 != 0)
 ((Value.bool true) = (Value.bool false))
 ((Value.bool false) = (Value.bool false))) ∧
 (((vI n1) = (vI n1)) ∧
 True))))))))))))))))))))))) ∧
 (L 30017 [(Prod.mk 3 (Go.Value.pointer (Option.some (Go.Addr.mk 1000 0 Option.none)))), (Prod.mk 4 (Go.Value.pointer (Option.some (Go.Addr.mk 1001 0 Option.none)))), (Prod.mk 5 (Go.Value.pointer (Option.some (Go.Addr.mk 1002 0 Option.none)))), (Prod.mk 11 (Go.Value.pointer (Option.some (Go.Addr.mk 1003 0 Option.none)))), (Prod.mk 12 (vI n13)), (Prod.mk 134 (Value.bool true))] [(Prod.mk 1000 (AObj.cells [(vI a), (vI b), (vI c), (vI d)] 25 false 1)), (Prod.mk 1001 (AObj.cells [(vI g), (vI e)] 27 false 1)), (Prod.mk 1002 (AObj.cells [(vI m), (vI q), (vI x)] 29 false 1)), (Prod.mk 1003 (AObj.cells [(vI n9), (vI n10), (vI n11), (vI n12)] 37 false 4))])))
 ((((Go.Value.agg [(vI g), (vI e)].toArray) = (Go.Value.agg [(vI g), (vI e)].toArray)) ∧
 (((Go.Value.agg [(vI a), (vI b), (vI c), (vI d)].toArray) = (Go.Value.agg [(vI a), (vI b), (vI c), (vI d)].toArray)) ∧
 (((Go.Value.agg [(vI n4), (vI n5), (vI n6), (vI n7)].toArray) = (Go.Value.agg [(vI n4), (vI n5), (vI n6), (vI n7)].toArray)) ∧
 (((Value.bool false) = (Value.bool false)) ∧
 ((bcase (n8 != 0)
 ((Value.bool true) = (Value.bool false))
 ((Value.bool false) = (Value.bool false))) ∧
 (((vI n8) = (vI n8)) ∧
 (((Value.bool true) = (Value.bool true)) ∧
 ((bcase (n1 == 0)
 ((Value.bool true) = (Value.bool true))
 ((Value.bool false) = (Value.bool true))) ∧
 (((vI n1) = (vI n1)) ∧
 (((Value.bool false) = (Value.bool false)) ∧
 (((Value.bool false) = (Value.bool false)) ∧
 (((Go.Value.tuple [].toArray) = (Go.Value.tuple [].toArray)) ∧
 (((Go.Value.tuple [].toArray) = (Go.Value.tuple [].toArray)) ∧
 (((Go.Value.tuple [].toArray) = (Go.Value.tuple [].toArray)) ∧
 (((Go.Value.tuple [].toArray) = (Go.Value.tuple [].toArray)) ∧
 (((Go.Value.tuple [].toArray) = (Go.Value.tuple [].toArray)) ∧
 (((Go.Value.tuple [].toArray) = (Go.Value.tuple [].toArray)) ∧
 (((Go.Value.tuple [].toArray) = (Go.Value.tuple [].toArray)) ∧
 (((Go.Value.tuple [].toArray) = (Go.Value.tuple [].toArray)) ∧
 (((Value.bool false) = (Value.bool false)) ∧
 ((bcase (n1 != 0)
 ((Value.bool true) = (Value.bool false))
 ((Value.bool false) = (Value.bool false))) ∧
 (((vI n1) = (vI n1)) ∧
 True)))))))))))))))))))))) ∧
 (∃ n2 : Int,
 (∃ n3 : Int,
 (∃ n14 : Int,
 (∃ n15 : Int,
 ((Says C 21 [(D.agg [(D.val (vI a)), (D.val (vI b)), (D.val (vI c)), (D.val (vI d))]), (D.agg [(D.val (vI g)), (D.val (vI e))])] [(D.agg [(D.val (vI n2)), (D.val (vI n3)), (D.val (vI n14)), (D.val (vI n15))])]) ∧
 (bcase (if Bool.true = Bool.true then !(n4 == n2 && (n5 == n3 && Bool.true) && (n6 == n14 && (n7 == n15 && Bool.true) && Bool.true)) else n4 == n2 && (n5 == n3 && Bool.true) && (n6 == n14 && (n7 == n15 && Bool.true) && Bool.true))
 ((((Value.bool true) = (Value.bool true)) ∧
 (((Value.bool true) = (Value.bool true)) ∧
 (((Value.bool true) = (Value.bool true)) ∧
 ((bcase (if Bool.true = Bool.true then !(n4 == n2 && (n5 == n3 && Bool.true) && (n6 == n14 && (n7 == n15 && Bool.true) && Bool.true)) else n4 == n2 && (n5 == n3 && Bool.true) && (n6 == n14 && (n7 == n15 && Bool.true) && Bool.true))
 ((Value.bool true) = (Value.bool true))
 ((Value.bool false) = (Value.bool true))) ∧
 (((Go.Value.agg [(vI n4), (vI n5), (vI n6), (vI n7)].toArray) = (Go.Value.agg [(vI n4), (vI n5), (vI n6), (vI n7)].toArray)) ∧
 ((bcase (n8 != 0)
 ((Value.bool true) = (Value.bool false))
 ((Value.bool false) = (Value.bool false))) ∧
 (((vI n8) = (vI n8)) ∧
 (((Value.bool true) = (Value.bool true)) ∧
 ((bcase (n1 == 0)
 ((Value.bool true) = (Value.bool true))
 ((Value.bool false) = (Value.bool true))) ∧
 (((vI n1) = (vI n1)) ∧
 (((Value.bool false) = (Value.bool false)) ∧
 (((Value.bool false) = (Value.bool false)) ∧
 (((Go.Value.tuple [].toArray) = (Go.Value.tuple [].toArray)) ∧
 (((Go.Value.tuple [].toArray) = (Go.Value.tuple [].toArray)) ∧
 (((Go.Value.tuple [].toArray) = (Go.Value.tuple [].toArray)) ∧
 (((Go.Value.tuple [].toArray) = (Go.Value.tuple [].toArray)) ∧
 (((Go.Value.tuple [].toArray) = (Go.Value.tuple [].toArray)) ∧
 (((Go.Value.tuple [].toArray) = (Go.Value.tuple [].toArray)) ∧
 (((Go.Value.tuple [].toArray) = (Go.Value.tuple [].toArray)) ∧
 (((Go.Value.tuple [].toArray) = (Go.Value.tuple [].toArray)) ∧
 (((Value.bool false) = (Value.bool false)) ∧
 ((bcase (n1 != 0)
 ((Value.bool true) = (Value.bool false))
 ((Value.bool false) = (Value.bool false))) ∧
 (((vI n1) = (vI n1)) ∧
 True))))))))))))))))))))))) ∧
 (L 30017 [(Prod.mk 3 (Go.Value.pointer (Option.some (Go.Addr.mk 1000 0 Option.none)))), (Prod.mk 4 (Go.Value.pointer (Option.some (Go.Addr.mk 1001 0 Option.none)))), (Prod.mk 5 (Go.Value.pointer (Option.some (Go.Addr.mk 1002 0 Option.none)))), (Prod.mk 11 (Go.Value.pointer (Option.some (Go.Addr.mk 1003 0 Option.none)))), (Prod.mk 12 (vI n13)), (Prod.mk 134 (Value.bool true))] [(Prod.mk 1000 (AObj.cells [(vI a), (vI b), (vI c), (vI d)] 25 false 1)), (Prod.mk 1001 (AObj.cells [(vI g), (vI e)] 27 false 1)), (Prod.mk 1002 (AObj.cells [(vI m), (vI q), (vI x)] 29 false 1)), (Prod.mk 1003 (AObj.cells [(vI n9), (vI n10), (vI n11), (vI n12)] 37 false 4))]))
 ((((Value.bool false) = (Value.bool false)) ∧
 (((Value.bool false) = (Value.bool false)) ∧
 (((Value.bool false) = (Value.bool false)) ∧
 ((bcase (if Bool.true = Bool.true then !(n4 == n2 && (n5 == n3 && Bool.true) && (n6 == n14 && (n7 == n15 && Bool.true) && Bool.true)) else n4 == n2 && (n5 == n3 && Bool.true) && (n6 == n14 && (n7 == n15 && Bool.true) && Bool.true))
 ((Value.bool true) = (Value.bool false))
 ((Value.bool false) = (Value.bool false))) ∧
 (((Go.Value.agg [(vI n4), (vI n5), (vI n6), (vI n7)].toArray) = (Go.Value.agg [(vI n4), (vI n5), (vI n6), (vI n7)].toArray)) ∧
 ((bcase (n8 != 0)
 ((Value.bool true) = (Value.bool false))
 ((Value.bool false) = (Value.bool false))) ∧
 (((vI n8) = (vI n8)) ∧
 (((Value.bool true) = (Value.bool true)) ∧
 ((bcase (n1 == 0)
 ((Value.bool true) = (Value.bool true))
 ((Value.bool false) = (Value.bool true))) ∧
 (((vI n1) = (vI n1)) ∧
 (((Value.bool false) = (Value.bool false)) ∧
 (((Value.bool false) = (Value.bool false)) ∧
 (((Go.Value.tuple [].toArray) = (Go.Value.tuple [].toArray)) ∧
 (((Go.Value.tuple [].toArray) = (Go.Value.tuple [].toArray)) ∧
 (((Go.Value.tuple [].toArray) = (Go.Value.tuple [].toArray)) ∧
 (((Go.Value.tuple [].toArray) = (Go.Value.tuple [].toArray)) ∧
 (((Go.Value.tuple [].toArray) = (Go.Value.tuple [].toArray)) ∧
 (((Go.Value.tuple [].toArray) = (Go.Value.tuple [].toArray)) ∧
 (((Go.Value.tuple [].toArray) = (Go.Value.tuple [].toArray)) ∧
 (((Go.Value.tuple [].toArray) = (Go.Value.tuple [].toArray)) ∧
 (((Value.bool false) = (Value.bool false)) ∧
 ((bcase (n1 != 0)
 ((Value.bool true) = (Value.bool false))
 ((Value.bool false) = (Value.bool false))) ∧
 (((vI n1) = (vI n1)) ∧
 True))))))))))))))))))))))) ∧
 (L 30017 [(Prod.mk 3 (Go.Value.pointer (Option.some (Go.Addr.mk 1000 0 Option.none)))), (Prod.mk 4 (Go.Value.pointer (Option.some (Go.Addr.mk 1001 0 Option.none)))), (Prod.mk 5 (Go.Value.pointer (Option.some (Go.Addr.mk 1002 0 Option.none)))), (Prod.mk 11 (Go.Value.pointer (Option.some (Go.Addr.mk 1003 0 Option.none)))), (Prod.mk 12 (vI n13)), (Prod.mk 134 (Value.bool false))] [(Prod.mk 1000 (AObj.cells [(vI a), (vI b), (vI c), (vI d)] 25 false 1)), (Prod.mk 1001 (AObj.cells [(vI g), (vI e)] 27 false 1)), (Prod.mk 1002 (AObj.cells [(vI m), (vI q), (vI x)] 29 false 1)), (Prod.mk 1003 (AObj.cells [(vI n9), (vI n10), (vI n11), (vI n12)] 37 false 4))]))))))))))
 ((((Go.Value.tuple [].toArray) = (Go.Value.tuple [].toArray)) ∧
 (((Go.Value.tuple [].toArray) = (Go.Value.tuple [].toArray)) ∧
 (((Go.Value.tuple [].toArray) = (Go.Value.tuple [].toArray)) ∧
 (((Go.Value.tuple [].toArray) = (Go.Value.tuple [].toArray)) ∧
 (((Go.Value.tuple [].toArray) = (Go.Value.tuple [].toArray)) ∧
 (((Go.Value.tuple [].toArray) = (Go.Value.tuple [].toArray)) ∧
 (((Value.bool false) = (Value.bool false)) ∧
 ((bcase (n1 == 0)
 ((Value.bool true) = (Value.bool false))
 ((Value.bool false) = (Value.bool false))) ∧
 (((vI n1) = (vI n1)) ∧
 (((Value.bool false) = (Value.bool false)) ∧
 (((Value.bool false) = (Value.bool false)) ∧
 (((Go.Value.tuple [].toArray) = (Go.Value.tuple [].toArray)) ∧
 (((Go.Value.tuple [].toArray) = (Go.Value.tuple [].toArray)) ∧
 (((Go.Value.tuple [].toArray) = (Go.Value.tuple [].toArray)) ∧
 (((Go.Value.tuple [].toArray) = (Go.Value.tuple [].toArray)) ∧
 (((Go.Value.tuple [].toArray) = (Go.Value.tuple [].toArray)) ∧
 (((Go.Value.tuple [].toArray) = (Go.Value.tuple [].toArray)) ∧
 (((Go.Value.tuple [].toArray) = (Go.Value.tuple [].toArray)) ∧
 (((Go.Value.tuple [].toArray) = (Go.Value.tuple [].toArray)) ∧
 (((Value.bool false) = (Value.bool false)) ∧
 ((bcase (n1 != 0)
 ((Value.bool true) = (Value.bool false))
 ((Value.bool false) = (Value.bool false))) ∧
 (((vI n1) = (vI n1)) ∧
 True)))))))))))))))))))))) ∧
 ((((Value.bool false) = (Value.bool false)) ∧
 (((Value.bool false) = (Value.bool false)) ∧
 (((Go.Value.tuple [].toArray) = (Go.Value.tuple [].toArray)) ∧
 (((Go.Value.tuple [].toArray) = (Go.Value.tuple [].toArray)) ∧
 (((Go.Value.tuple [].toArray) = (Go.Value.tuple [].toArray)) ∧
 (((Go.Value.tuple [].toArray) = (Go.Value.tuple [].toArray)) ∧
 (((Go.Value.tuple [].toArray) = (Go.Value.tuple [].toArray)) ∧
 (((Value.bool false) = (Value.bool false)) ∧
 ((bcase (n1 == 0)
 ((Value.bool true) = (Value.bool false))
 ((Value.bool false) = (Value.bool false))) ∧
 (((vI n1) = (vI n1)) ∧
 (((Value.bool false) = (Value.bool false)) ∧
 (((Value.bool false) = (Value.bool false)) ∧
 (((Go.Value.tuple [].toArray) = (Go.Value.tuple [].toArray)) ∧
 (((Go.Value.tuple [].toArray) = (Go.Value.tuple [].toArray)) ∧
 (((Go.Value.tuple [].toArray) = (Go.Value.tuple [].toArray)) ∧
 (((Go.Value.tuple [].toArray) = (Go.Value.tuple [].toArray)) ∧
 (((Go.Value.tuple [].toArray) = (Go.Value.tuple [].toArray)) ∧
 (((Go.Value.tuple [].toArray) = (Go.Value.tuple [].toArray)) ∧
 (((Go.Value.tuple [].toArray) = (Go.Value.tuple [].toArray)) ∧
 (((Go.Value.tuple [].toArray) = (Go.Value.tuple [].toArray)) ∧
 (((Value.bool false) = (Value.bool false)) ∧
 ((bcase (n1 != 0)
 ((Value.bool true) = (Value.bool false))
 ((Value.bool false) = (Value.bool false))) ∧
 (((vI n1) = (vI n1)) ∧
 True))))))))))))))))))))))) ∧
 (L 30017 [(Prod.mk 3 (Go.Value.pointer (Option.some (Go.Addr.mk 1000 0 Option.none)))), (Prod.mk 4 (Go.Value.pointer (Option.some (Go.Addr.mk 1001 0 Option.none)))), (Prod.mk 5 (Go.Value.pointer (Option.some (Go.Addr.mk 1002 0 Option.none)))), (Prod.mk 11 (Go.Value.pointer (Option.some (Go.Addr.mk 1003 0 Option.none)))), (Prod.mk 12 (vI n13)), (Prod.mk 134 (Value.bool false))] [(Prod.mk 1000 (AObj.cells [(vI a), (vI b), (vI c), (vI d)] 25 false 1)), (Prod.mk 1001 (AObj.cells [(vI g), (vI e)] 27 false 1)), (Prod.mk 1002 (AObj.cells [(vI m), (vI q), (vI x)] 29 false 1)), (Prod.mk 1003 (AObj.cells [(vI n9), (vI n10), (vI n11), (vI n12)] 37 false 4))])))))))) := by kernel_rfl
def c17 (C : Ct) (L : AtLoop) (a b c d g e m q x n9 n10 n11 n12 n13 : Int) (k : List D → Prop) : Prop := jNext Tryz.prog (hS C) L JS 3 30017 .normal [(3, P1 1000 0), (4, P1 1001 0), (5, P1 1002 0), (11, P1 1003 0), (12, vI n13), (134, .bool false)] [oS a b c d, oX 1001 g e, oMa 1002 m q x, oG 1003 n9 n10 n11 n12] (dataK k)
theorem c17_text (C : Ct) (L : AtLoop) (a : Int) (b : Int) (c : Int) (d : Int) (g : Int) (e : Int) (m : Int) (q : Int) (x : Int) (n9 : Int) (n10 : Int) (n11 : Int) (n12 : Int) (n13 : Int) (k : List D → Prop) : c17 C L a b c d g e m q x n9 n10 n11 n12 n13 k =
 (∃ n1 : Int,
 ((Says C 22 [(D.val (vI e))] [(D.val (vI n1))]) ∧
 (bcase (n1 == 0)
 (∃ n2 : Int,
 ((Says C 22 [(D.val (vI x))] [(D.val (vI n2))]) ∧
 (bcase (n2 == 0)
 (bcase (decide (x > e))
 (L 30022 [(Prod.mk 3 (Go.Value.pointer (Option.some (Go.Addr.mk 1000 0 Option.none)))), (Prod.mk 4 (Go.Value.pointer (Option.some (Go.Addr.mk 1001 0 Option.none)))), (Prod.mk 5 (Go.Value.pointer (Option.some (Go.Addr.mk 1002 0 Option.none)))), (Prod.mk 11 (Go.Value.pointer (Option.some (Go.Addr.mk 1003 0 Option.none)))), (Prod.mk 12 (vI n13)), (Prod.mk 13 (vI n2)), (Prod.mk 151 (Value.bool true))] [(Prod.mk 1000 (AObj.cells [(vI a), (vI b), (vI c), (vI d)] 25 false 1)), (Prod.mk 1001 (AObj.cells [(vI g), (vI e)] 27 false 1)), (Prod.mk 1002 (AObj.cells [(vI m), (vI q), (vI x)] 29 false 1)), (Prod.mk 1003 (AObj.cells [(vI n9), (vI n10), (vI n11), (vI n12)] 37 false 4))])
 (L 30022 [(Prod.mk 3 (Go.Value.pointer (Option.some (Go.Addr.mk 1000 0 Option.none)))), (Prod.mk 4 (Go.Value.pointer (Option.some (Go.Addr.mk 1001 0 Option.none)))), (Prod.mk 5 (Go.Value.pointer (Option.some (Go.Addr.mk 1002 0 Option.none)))), (Prod.mk 11 (Go.Value.pointer (Option.some (Go.Addr.mk 1003 0 Option.none)))), (Prod.mk 12 (vI n13)), (Prod.mk 13 (vI n2)), (Prod.mk 151 (Value.bool false))] [(Prod.mk 1000 (AObj.cells [(vI a), (vI b), (vI c), (vI d)] 25 false 1)), (Prod.mk 1001 (AObj.cells [(vI g), (vI e)] 27 false 1)), (Prod.mk 1002 (AObj.cells [(vI m), (vI q), (vI x)] 29 false 1)), (Prod.mk 1003 (AObj.cells [(vI n9), (vI n10), (vI n11), (vI n12)] 37 false 4))]))
 (L 30022 [(Prod.mk 3 (Go.Value.pointer (Option.some (Go.Addr.mk 1000 0 Option.none)))), (Prod.mk 4 (Go.Value.pointer (Option.some (Go.Addr.mk 1001 0 Option.none)))), (Prod.mk 5 (Go.Value.pointer (Option.some (Go.Addr.mk 1002 0 Option.none)))), (Prod.mk 11 (Go.Value.pointer (Option.some (Go.Addr.mk 1003 0 Option.none)))), (Prod.mk 12 (vI n13)), (Prod.mk 13 (vI n2)), (Prod.mk 151 (Value.bool false))] [(Prod.mk 1000 (AObj.cells [(vI a), (vI b), (vI c), (vI d)] 25 false 1)), (Prod.mk 1001 (AObj.cells [(vI g), (vI e)] 27 false 1)), (Prod.mk 1002 (AObj.cells [(vI m), (vI q), (vI x)] 29 false 1)), (Prod.mk 1003 (AObj.cells [(vI n9), (vI n10), (vI n11), (vI n12)] 37 false 4))]))))
 (bcase (n1 == 0)
 (bcase (decide (x > e))
 (L 30022 [(Prod.mk 3 (Go.Value.pointer (Option.some (Go.Addr.mk 1000 0 Option.none)))), (Prod.mk 4 (Go.Value.pointer (Option.some (Go.Addr.mk 1001 0 Option.none)))), (Prod.mk 5 (Go.Value.pointer (Option.some (Go.Addr.mk 1002 0 Option.none)))), (Prod.mk 11 (Go.Value.pointer (Option.some (Go.Addr.mk 1003 0 Option.none)))), (Prod.mk 12 (vI n13)), (Prod.mk 13 (vI n1)), (Prod.mk 151 (Value.bool true))] [(Prod.mk 1000 (AObj.cells [(vI a), (vI b), (vI c), (vI d)] 25 false 1)), (Prod.mk 1001 (AObj.cells [(vI g), (vI e)] 27 false 1)), (Prod.mk 1002 (AObj.cells [(vI m), (vI q), (vI x)] 29 false 1)), (Prod.mk 1003 (AObj.cells [(vI n9), (vI n10), (vI n11), (vI n12)] 37 false 4))])
 (L 30022 [(Prod.mk 3 (Go.Value.pointer (Option.some (Go.Addr.mk 1000 0 Option.none)))), (Prod.mk 4 (Go.Value.pointer (Option.some (Go.Addr.mk 1001 0 Option.none)))), (Prod.mk 5 (Go.Value.pointer (Option.some (Go.Addr.mk 1002 0 Option.none)))), (Prod.mk 11 (Go.Value.pointer (Option.some (Go.Addr.mk 1003 0 Option.none)))), (Prod.mk 12 (vI n13)), (Prod.mk 13 (vI n1)), (Prod.mk 151 (Value.bool false))] [(Prod.mk 1000 (AObj.cells [(vI a), (vI b), (vI c), (vI d)] 25 false 1)), (Prod.mk 1001 (AObj.cells [(vI g), (vI e)] 27 false 1)), (Prod.mk 1002 (AObj.cells [(vI m), (vI q), (vI x)] 29 false 1)), (Prod.mk 1003 (AObj.cells [(vI n9), (vI n10), (vI n11), (vI n12)] 37 false 4))]))
 (L 30022 [(Prod.mk 3 (Go.Value.pointer (Option.some (Go.Addr.mk 1000 0 Option.none)))), (Prod.mk 4 (Go.Value.pointer (Option.some (Go.Addr.mk 1001 0 Option.none)))), (Prod.mk 5 (Go.Value.pointer (Option.some (Go.Addr.mk 1002 0 Option.none)))), (Prod.mk 11 (Go.Value.pointer (Option.some (Go.Addr.mk 1003 0 Option.none)))), (Prod.mk 12 (vI n13)), (Prod.mk 13 (vI n1)), (Prod.mk 151 (Value.bool false))] [(Prod.mk 1000 (AObj.cells [(vI a), (vI b), (vI c), (vI d)] 25 false 1)), (Prod.mk 1001 (AObj.cells [(vI g), (vI e)] 27 false 1)), (Prod.mk 1002 (AObj.cells [(vI m), (vI q), (vI x)] 29 false 1)), (Prod.mk 1003 (AObj.cells [(vI n9), (vI n10), (vI n11), (vI n12)] 37 false 4))]))))) := by kernel_rfl
def c22 (C : Ct) (L : AtLoop) (a b c d g e m q x n9 n10 n11 n12 n13 o : Int) (bo : Bool) (k : List D → Prop) : Prop := jNext Tryz.prog (hS C) L JS 3 30022 .normal [(3, P1 1000 0), (4, P1 1001 0), (5, P1 1002 0), (11, P1 1003 0), (12, vI n13), (13, vI o), (151, .bool bo)] [oS a b c d, oX 1001 g e, oMa 1002 m q x, oG 1003 n9 n10 n11 n12] (dataK k)
def c22t (C : Ct) (L : AtLoop) (a b c d g e m q x n9 n10 n11 n12 n13 o : Int) (k : List D → Prop) : Prop := c22 C L a b c d g e m q x n9 n10 n11 n12 n13 o true k
theorem c22t_text (C : Ct) (L : AtLoop) (a : Int) (b : Int) (c : Int) (d : Int) (g : Int) (e : Int) (m : Int) (q : Int) (x : Int) (n9 : Int) (n10 : Int) (n11 : Int) (n12 : Int) (n13 : Int) (o : Int) (k : List D → Prop) : c22t C L a b c d g e m q x n9 n10 n11 n12 n13 o k =
 (bcase (n13 == 9)
 (bcase (if Bool.false = Bool.true then !(n9 == 0 && (n10 == 0 && Bool.true) && (n11 == 0 && (n12 == 0 && Bool.true) && Bool.true)) else n9 == 0 && (n10 == 0 && Bool.true) && (n11 == 0 && (n12 == 0 && Bool.true) && Bool.true))
 (k [(D.val (Value.bool true))])
 (k [(D.val (Value.bool false))]))
 (k [(D.val (Value.bool false))])) := by kernel_rfl
def c22f (C : Ct) (L : AtLoop) (a b c d g e m q x n9 n10 n11 n12 n13 o : Int) (k : List D → Prop) : Prop := c22 C L a b c d g e m q x n9 n10 n11 n12 n13 o false k
theorem c22f_text (C : Ct) (L : AtLoop) (a : Int) (b : Int) (c : Int) (d : Int) (g : Int) (e : Int) (m : Int) (q : Int) (x : Int) (n9 : Int) (n10 : Int) (n11 : Int) (n12 : Int) (n13 : Int) (o : Int) (k : List D → Prop) : c22f C L a b c d g e m q x n9 n10 n11 n12 n13 o k =
 (bcase (o != 0)
 (bcase (n13 == o)
 (bcase (if Bool.false = Bool.true then !(n9 == 0 && (n10 == 0 && Bool.true) && (n11 == 0 && (n12 == 0 && Bool.true) && Bool.true)) else n9 == 0 && (n10 == 0 && Bool.true) && (n11 == 0 && (n12 == 0 && Bool.true) && Bool.true))
 (k [(D.val (Value.bool true))])
 (k [(D.val (Value.bool false))]))
 (k [(D.val (Value.bool false))]))
 (bcase (n13 == 0)
 ((((vI x) = (vI x)) ∧
 (((Go.Value.pointer (Option.some (Go.Addr.mk 1002 2 Option.none))) = (Go.Value.pointer (Option.some (Go.Addr.mk 1002 2 Option.none)))) ∧
 (((vI e) = (vI e)) ∧
 (((Go.Value.pointer (Option.some (Go.Addr.mk 1001 1 Option.none))) = (Go.Value.pointer (Option.some (Go.Addr.mk 1001 1 Option.none)))) ∧
 (((Go.Value.agg [(vI a), (vI b), (vI c), (vI d)].toArray) = (Go.Value.agg [(vI a), (vI b), (vI c), (vI d)].toArray)) ∧
 (((Go.Value.agg [(vI n9), (vI n10), (vI n11), (vI n12)].toArray) = (Go.Value.agg [(vI n9), (vI n10), (vI n11), (vI n12)].toArray)) ∧
 (((Value.bool true) = (Value.bool true)) ∧
 ((bcase (n13 == 0)
 ((Value.bool true) = (Value.bool true))
 ((Value.bool false) = (Value.bool true))) ∧
 (((vI n13) = (vI n13)) ∧
 True))))))))) ∧
 (∃ n1 : Int,
 (∃ n2 : Int,
 (∃ n3 : Int,
 (∃ n4 : Int,
 ((Says C 23 [(D.agg [(D.val (vI a)), (D.val (vI b)), (D.val (vI c)), (D.val (vI d))]), (D.val (vI e)), (D.val (vI x))] [(D.agg [(D.val (vI n1)), (D.val (vI n2)), (D.val (vI n3)), (D.val (vI n4))])]) ∧
 (bcase (if Bool.false = Bool.true then !(n9 == n1 && (n10 == n2 && Bool.true) && (n11 == n3 && (n12 == n4 && Bool.true) && Bool.true)) else n9 == n1 && (n10 == n2 && Bool.true) && (n11 == n3 && (n12 == n4 && Bool.true) && Bool.true))
 ((((Value.bool true) = (Value.bool true)) ∧
 ((bcase (if Bool.false = Bool.true then !(n9 == n1 && (n10 == n2 && Bool.true) && (n11 == n3 && (n12 == n4 && Bool.true) && Bool.true)) else n9 == n1 && (n10 == n2 && Bool.true) && (n11 == n3 && (n12 == n4 && Bool.true) && Bool.true))
 ((Value.bool true) = (Value.bool true))
 ((Value.bool false) = (Value.bool true))) ∧
 (((Go.Value.pointer (Option.some (Go.Addr.mk 1002 2 Option.none))) = (Go.Value.pointer (Option.some (Go.Addr.mk 1002 2 Option.none)))) ∧
 (((Go.Value.pointer (Option.some (Go.Addr.mk 1001 1 Option.none))) = (Go.Value.pointer (Option.some (Go.Addr.mk 1001 1 Option.none)))) ∧
 (((Go.Value.agg [(vI n9), (vI n10), (vI n11), (vI n12)].toArray) = (Go.Value.agg [(vI n9), (vI n10), (vI n11), (vI n12)].toArray)) ∧
 ((bcase (n13 == 0)
 ((Value.bool true) = (Value.bool true))
 ((Value.bool false) = (Value.bool true))) ∧
 (((vI n13) = (vI n13)) ∧
 True))))))) ∧
 (True ∧
 (k [(D.val (Value.bool true))])))
 ((((Value.bool false) = (Value.bool false)) ∧
 ((bcase (if Bool.false = Bool.true then !(n9 == n1 && (n10 == n2 && Bool.true) && (n11 == n3 && (n12 == n4 && Bool.true) && Bool.true)) else n9 == n1 && (n10 == n2 && Bool.true) && (n11 == n3 && (n12 == n4 && Bool.true) && Bool.true))
 ((Value.bool true) = (Value.bool false))
 ((Value.bool false) = (Value.bool false))) ∧
 (((Go.Value.pointer (Option.some (Go.Addr.mk 1002 2 Option.none))) = (Go.Value.pointer (Option.some (Go.Addr.mk 1002 2 Option.none)))) ∧
 (((Go.Value.pointer (Option.some (Go.Addr.mk 1001 1 Option.none))) = (Go.Value.pointer (Option.some (Go.Addr.mk 1001 1 Option.none)))) ∧
 (((Go.Value.agg [(vI n9), (vI n10), (vI n11), (vI n12)].toArray) = (Go.Value.agg [(vI n9), (vI n10), (vI n11), (vI n12)].toArray)) ∧
 ((bcase (n13 == 0)
 ((Value.bool true) = (Value.bool true))
 ((Value.bool false) = (Value.bool true))) ∧
 (((vI n13) = (vI n13)) ∧
 True))))))) ∧
 (True ∧
 (k [(D.val (Value.bool false))]))))))))))
 ((((Go.Value.tuple [].toArray) = (Go.Value.tuple [].toArray)) ∧
 (((Go.Value.tuple [].toArray) = (Go.Value.tuple [].toArray)) ∧
 (((Go.Value.tuple [].toArray) = (Go.Value.tuple [].toArray)) ∧
 (((Go.Value.tuple [].toArray) = (Go.Value.tuple [].toArray)) ∧
 (((Go.Value.tuple [].toArray) = (Go.Value.tuple [].toArray)) ∧
 (((Go.Value.tuple [].toArray) = (Go.Value.tuple [].toArray)) ∧
 (((Value.bool false) = (Value.bool false)) ∧
 ((bcase (n13 == 0)
 ((Value.bool true) = (Value.bool false))
 ((Value.bool false) = (Value.bool false))) ∧
 (((vI n13) = (vI n13)) ∧
 True))))))))) ∧
 ((((Value.bool false) = (Value.bool false)) ∧
 (((Go.Value.tuple [].toArray) = (Go.Value.tuple [].toArray)) ∧
 (((Go.Value.tuple [].toArray) = (Go.Value.tuple [].toArray)) ∧
 (((Go.Value.tuple [].toArray) = (Go.Value.tuple [].toArray)) ∧
 (((Go.Value.tuple [].toArray) = (Go.Value.tuple [].toArray)) ∧
 ((bcase (n13 == 0)
 ((Value.bool true) = (Value.bool false))
 ((Value.bool false) = (Value.bool false))) ∧
 (((vI n13) = (vI n13)) ∧
 True))))))) ∧
 (True ∧
 (k [(D.val (Value.bool false))])))))) := by kernel_rfl
end Go.Proofs.G5z

/- GaugeStands in data. -/
namespace Go.Proofs.G5z
open Go Go.Abs Go.Proofs Go.Proofs.G5
set_option maxRecDepth 100000
theorem bc_ef {a b : Int} {x y : Prop} (h : a ≠ b) : bcase (a == b) x y = y := by rw [show (a == b) = false by simpa using h]; rfl
theorem bc_et {a : Int} {x y : Prop} : bcase (a == a) x y = x := by rw [show (a == a) = true by simp]; rfl
theorem bc_nf {a : Int} {x y : Prop} : bcase (a != a) x y = y := by rw [show (a != a) = false by simp]; rfl
theorem bcase_tt {x y : Prop} : bcase true x y = x := rfl
theorem bcase_ff {x y : Prop} : bcase false x y = y := rfl
theorem maE_c (m q : Int) : maE m q = 0 ∨ maE m q = 2 := by unfold maE; split <;> simp
theorem paE_c (g e : Int) : paE g e = 0 ∨ paE g e = 2 := by unfold paE; split <;> simp
theorem thE_c (x : Int) : thE x = 0 ∨ thE x = 2 := by unfold thE rngE; split <;> simp
theorem stE_c (a b c d : Int) : stE a b c d = 0 ∨ stE a b c d = 2 ∨ stE a b c d = 9 := by unfold stE; split <;> (try split) <;> simp
abbrev s9 (n8 n13 : Int) : Slots := [(3, P1 1000 0), (4, P1 1001 0), (5, P1 1002 0), (9, P1 1003 0), (10, vI n8), (11, P1 1004 0), (12, vI n13), (79, .bool false)]
abbrev b9 (a b c d g e m q x n4 n5 n6 n7 n9 n10 n11 n12 : Int) : Blocks := [oS a b c d, oX 1001 g e, oMa 1002 m q x, oG 1003 n4 n5 n6 n7, oG 1004 n9 n10 n11 n12]
abbrev s12 (n8 n13 o : Int) : Slots := [(3, P1 1000 0), (4, P1 1001 0), (5, P1 1002 0), (9, P1 1003 0), (10, vI n8), (11, P1 1004 0), (12, vI n13), (14, vI o), (85, .bool false)]
abbrev s17 (n13 : Int) : Slots := [(3, P1 1000 0), (4, P1 1001 0), (5, P1 1002 0), (11, P1 1003 0), (12, vI n13), (134, .bool false)]
abbrev b17 (a b c d g e m q x n9 n10 n11 n12 : Int) : Blocks := [oS a b c d, oX 1001 g e, oMa 1002 m q x, oG 1003 n9 n10 n11 n12]
abbrev s22 (n13 o : Int) (bo : Bool) : Slots := [(3, P1 1000 0), (4, P1 1001 0), (5, P1 1002 0), (11, P1 1003 0), (12, vI n13), (13, vI o), (151, .bool bo)]
variable {L : AtLoop} {a b c d g e m q x n4 n5 n6 n7 n8 n9 n10 n11 n12 n13 : Int} {k : List D → Prop}
theorem c5_ok (hL : L 30009 (s9 n8 n13) (b9 a b c d g e m q x n4 n5 n6 n7 n9 n10 n11 n12)) : c5 C5 L a b c d g e m q x (xoP m q g e).1.1 (xoP m q g e).1.2 (xoP m q g e).2 n4 n5 n6 n7 n8 n9 n10 n11 n12 n13 k := by
  rw [c5_text]
  have c16 := conMa m q
  have c17 := conPE g e
  rcases maE_c m q with h1 | h1
  · rcases paE_c g e with h2 | h2
    · have hx : xoP m q g e = (exV m q g e, 0) := by rw [xoP, if_neg (fun y => y h1), if_neg (fun y => y h2)]
      rw [h1] at c16; rw [h2] at c17
      rw [hx]
      refine ⟨0, ⟨c16⟩, ?_⟩
      simp only [bc_et]
      refine ⟨0, ⟨c17⟩, ?_⟩
      simp only [bc_et, bc_nf, true_and, and_true]
      refine ⟨_, _, ⟨conRX (maE0 h1) (paE0 h2)⟩, ?_⟩
      simp [bcase_ff]
      exact hL
    · have hx : xoP m q g e = ((0, 0), 2) := by rw [xoP, if_neg (fun y => y h1), if_pos (by omega), h2]
      rw [h1] at c16; rw [h2] at c17
      rw [hx]
      refine ⟨0, ⟨c16⟩, ?_⟩
      simp only [bc_et]
      refine ⟨2, ⟨c17⟩, ?_⟩
      simp [bcase_tt, bcase_ff]
      exact hL
  · have hx : xoP m q g e = ((0, 0), 2) := by rw [xoP, if_pos (by omega), h1]
    rw [h1] at c16
    rw [hx]
    refine ⟨2, ⟨c16⟩, ?_⟩
    simp [bcase_tt, bcase_ff]
    exact hL
theorem c9_ok (hL : L 30012 (s12 n8 n13 (stE a b c d)) (b9 a b c d g e m q x n4 n5 n6 n7 n9 n10 n11 n12)) : c9 C5 L a b c d g e m q x n4 n5 n6 n7 n8 n9 n10 n11 n12 n13 k := by
  rw [c9_text]
  try simp only [eq_self, true_and, and_true]
  refine ⟨_, ⟨conSE a b c d⟩, _, ⟨conCk a b c d⟩, ?_⟩
  rw [bc_nf]
  exact hL
theorem c12_ok (hk : k [.val (.bool true)]) (hL : stE a b c d = 0 → L 30017 (s17 (gsP a b c d e x).2) (b17 a b c d g e m q x (gsP a b c d e x).1.1.1 (gsP a b c d e x).1.1.2 (gsP a b c d e x).1.2.1 (gsP a b c d e x).1.2.2)) :
    c12 C5 L a b c d g e m q x (xsP a b c d g e).1.1.1 (xsP a b c d g e).1.1.2 (xsP a b c d g e).1.2.1 (xsP a b c d g e).1.2.2 (xsP a b c d g e).2 (gsP a b c d e x).1.1.1 (gsP a b c d e x).1.1.2 (gsP a b c d e x).1.2.1 (gsP a b c d e x).1.2.2 (gsP a b c d e x).2 (stE a b c d) k := by
  rw [c12_text]
  have c17 := conPE g e
  have bad : stE a b c d ≠ 0 → xsP a b c d g e = (zzz, stE a b c d) ∧ gsP a b c d e x = (zzz, stE a b c d) := fun h => ⟨by rw [xsP, if_pos h], by rw [gsP, if_pos h]⟩
  rcases stE_c a b c d with h0 | h0 | h0
  · have hL' := hL h0
    rw [h0]
    generalize gsP a b c d e x = G at *
    rcases paE_c g e with h2 | h2
    · have hx : xsP a b c d g e = (exS a b c d g e, 0) := by rw [xsP, if_neg (fun y => y h0), if_neg (fun y => y h2)]
      rw [h2] at c17
      rw [hx]
      simp only [bc_nf]
      refine ⟨0, ⟨c17⟩, ?_⟩
      simp only [bc_et, bc_nf, true_and, and_true]
      refine ⟨_, _, _, _, ⟨conRS (stE0 h0) (paE0 h2)⟩, ?_⟩
      simp [bcase_ff]
      exact hL'
    · have hx : xsP a b c d g e = (zzz, 2) := by rw [xsP, if_neg (fun y => y h0), if_pos (by omega), h2]
      rw [h2] at c17
      rw [hx, zzz]
      simp only [bc_nf]
      refine ⟨2, ⟨c17⟩, ?_⟩
      simp [bcase_tt, bcase_ff]
      exact hL'
  · obtain ⟨e1, e2⟩ := bad (by omega)
    rw [e1, e2, h0, zzz]
    simp [bcase_tt, bcase_ff]
    exact hk
  · obtain ⟨e1, e2⟩ := bad (by omega)
    rw [e1, e2, h0, zzz]
    simp [bcase_tt, bcase_ff]
    exact hk
/-- what is known before the last part -/
def K22 (a b c d e x o : Int) (bo : Bool) : Prop := (o = 2 ∧ bo = false ∧ gsP a b c d e x = (zzz, 2)) ∨ (o = 0 ∧ bo = true ∧ gsP a b c d e x = (zzz, 9)) ∨ (o = 0 ∧ bo = false ∧ gsP a b c d e x = (gaS a b c d e x, 0) ∧ (1 ≤ e ∧ e ≤ 100000) ∧ (1 ≤ x ∧ x ≤ 100000))
theorem c17_ok (h0 : stE a b c d = 0) (hL : ∀ o bo, K22 a b c d e x o bo → L 30022 (s22 n13 o bo) (b17 a b c d g e m q x n9 n10 n11 n12)) : c17 C5 L a b c d g e m q x n9 n10 n11 n12 n13 k := by
  rw [c17_text]
  have ce := conTE e
  have cx := conTE x
  try simp only [eq_self, true_and, and_true]
  rcases thE_c e with h1 | h1
  · rw [h1] at ce
    refine ⟨0, ⟨ce⟩, ?_⟩
    rw [bc_et]
    rcases thE_c x with h2 | h2
    · rw [h2] at cx
      refine ⟨0, ⟨cx⟩, ?_⟩
      rw [bc_et]
      refine bc_dec (fun h => ?_) (fun h => ?_)
      · have ht : thP e x = 9 := by rw [thP, if_neg (fun y => y h1), if_neg (fun y => y h2), if_pos h]
        exact hL 0 true (.inr (.inl ⟨rfl, rfl, by rw [gsP, if_neg (fun y => y h0), if_pos (by omega), ht]⟩))
      · have ht : thP e x = 0 := by rw [thP, if_neg (fun y => y h1), if_neg (fun y => y h2), if_neg h]
        exact hL 0 false (.inr (.inr ⟨rfl, rfl, by rw [gsP, if_neg (fun y => y h0), if_neg (fun y => y ht)], thE0 h1, thE0 h2⟩))
    · rw [h2] at cx
      refine ⟨2, ⟨cx⟩, ?_⟩
      rw [bc_ef (by decide)]
      have ht : thP e x = 2 := by rw [thP, if_neg (fun y => y h1), if_pos (by omega), h2]
      exact hL 2 false (.inl ⟨rfl, rfl, by rw [gsP, if_neg (fun y => y h0), if_pos (by omega), ht]⟩)
  · rw [h1] at ce
    refine ⟨2, ⟨ce⟩, ?_⟩
    rw [bc_ef (by decide), bc_ef (by decide)]
    have ht : thP e x = 2 := by rw [thP, if_pos (by omega), h1]
    exact hL 2 false (.inl ⟨rfl, rfl, by rw [gsP, if_neg (fun y => y h0), if_pos (by omega), ht]⟩)
theorem c22_ok {o : Int} {bo : Bool} (h0 : stE a b c d = 0) (hk : k [.val (.bool true)]) (h : K22 a b c d e x o bo) : c22 C5 L a b c d g e m q x (gsP a b c d e x).1.1.1 (gsP a b c d e x).1.1.2 (gsP a b c d e x).1.2.1 (gsP a b c d e x).1.2.2 (gsP a b c d e x).2 o bo k := by
  rcases h with ⟨rfl, rfl, h⟩ | ⟨rfl, rfl, h⟩ | ⟨rfl, rfl, h, he, hx⟩
  · rw [h]
    show c22f C5 L a b c d g e m q x _ _ _ _ _ _ k
    rw [c22f_text, zzz]
    simp [bcase_tt, bcase_ff]
    exact hk
  · rw [h]
    show c22t C5 L a b c d g e m q x _ _ _ _ _ _ k
    rw [c22t_text, zzz]
    simp [bcase_tt]
    exact hk
  · rw [h]
    show c22f C5 L a b c d g e m q x _ _ _ _ _ _ k
    rw [c22f_text]
    simp only [bc_et, bc_nf, eq_self, true_and, and_true]
    refine ⟨_, _, _, _, ⟨conRT (stE0 h0) he hx⟩, ?_⟩
    simp [bcase_tt]
    exact hk
theorem con3 (a b c d g e m q x : Int) : C5 3 [.agg [dI a, dI b, dI c, dI d], .agg [dI g, dI e], .agg [dI m, dI q, dI x]] [.val (.bool true)] := by
  let st5 : Slots × Blocks := ([(3, P1 1000 0), (4, P1 1001 0), (5, P1 1002 0), (7, P1 1003 0), (8, vI (xoP m q g e).2), (9, P1 1004 0), (10, vI (xsP a b c d g e).2), (11, P1 1005 0), (12, vI (gsP a b c d e x).2)], [oS a b c d, oX 1001 g e, oMa 1002 m q x, oF 1003 (xoP m q g e).1.1 (xoP m q g e).1.2, oG 1004 (xsP a b c d g e).1.1.1 (xsP a b c d g e).1.1.2 (xsP a b c d g e).1.2.1 (xsP a b c d g e).1.2.2, oG 1005 (gsP a b c d e x).1.1.1 (gsP a b c d e x).1.1.2 (gsP a b c d e x).1.2.1 (gsP a b c d e x).1.2.2])
  let bl9 : Blocks := b9 a b c d g e m q x (xsP a b c d g e).1.1.1 (xsP a b c d g e).1.1.2 (xsP a b c d g e).1.2.1 (xsP a b c d g e).1.2.2 (gsP a b c d e x).1.1.1 (gsP a b c d e x).1.1.2 (gsP a b c d e x).1.2.1 (gsP a b c d e x).1.2.2
  let bl17 : Blocks := b17 a b c d g e m q x (gsP a b c d e x).1.1.1 (gsP a b c d e x).1.1.2 (gsP a b c d e x).1.2.1 (gsP a b c d e x).1.2.2
  let Q : Nat → Slots × Blocks → Prop := fun id sb =>
    (id = 30005 ∧ st5 = sb) ∨ (id = 30009 ∧ (s9 (xsP a b c d g e).2 (gsP a b c d e x).2, bl9) = sb) ∨ (id = 30012 ∧ (s12 (xsP a b c d g e).2 (gsP a b c d e x).2 (stE a b c d), bl9) = sb) ∨
    (id = 30017 ∧ stE a b c d = 0 ∧ (s17 (gsP a b c d e x).2, bl17) = sb) ∨ (id = 30022 ∧ stE a b c d = 0 ∧ ∃ o bo, K22 a b c d e x o bo ∧ (s22 (gsP a b c d e x).2 o bo, bl17) = sb)
  refine con_J (L := fun id s b => Q id (s, b)) hokS mixed JS Tryz.func3 rfl (by show 0 ≤ 400; omega) rfl (pts := [30005, 30009, 30012, 30017, 30022]) (loops := []) (by kernel_rfl) rfl (fun caps hcaps => ?_) (fun id hid hno s bl hL => ?_) (fun id hid => absurd hid (by simp))
  · show gS3 _ _ a b c d g e m q x _
    rw [gS3_text]
    try simp only [eq_self, true_and, and_true]
    exact .inl ⟨⟨con6⟩, _, _, _, ⟨conXO m q g e⟩, _, _, _, _, _, ⟨conXS a b c d g e⟩, _, _, _, _, _, ⟨conGS a b c d e x⟩, .inl ⟨rfl, rfl⟩⟩
  · rcases hL with ⟨rfl, h⟩ | ⟨rfl, h⟩ | ⟨rfl, h⟩ | ⟨rfl, h0, h⟩ | ⟨rfl, h0, o, bo, hk, h⟩
    · obtain ⟨rfl, rfl⟩ := Prod.mk.inj h
      exact c5_ok (.inr (.inl ⟨rfl, rfl⟩))
    · obtain ⟨rfl, rfl⟩ := Prod.mk.inj h
      exact c9_ok (.inr (.inr (.inl ⟨rfl, rfl⟩)))
    · obtain ⟨rfl, rfl⟩ := Prod.mk.inj h
      exact c12_ok rfl (fun h0 => .inr (.inr (.inr (.inl ⟨rfl, h0, rfl⟩))))
    · obtain ⟨rfl, rfl⟩ := Prod.mk.inj h
      exact c17_ok h0 (fun o bo hk => .inr (.inr (.inr (.inr ⟨rfl, h0, o, bo, hk, rfl⟩))))
    · obtain ⟨rfl, rfl⟩ := Prod.mk.inj h
      exact c22_ok h0 rfl hk
end Go.Proofs.G5z

/- GaugeStands: whatever the input, it returns true, and the input reads as it did. No condition. -/
namespace Go.Proofs.YthgcicagmdlnmaaGreat.K
open Go Go.Abs Go.RowKit Go.ChangeShapes Go.WideShapes Go.ChangeAt Go.Proofs Go.Flat Go.Proofs.G5z
set_option maxRecDepth 100000
theorem shapes3 : Tryz.f3.params.toList.mapM (argSh Tryz.prog) = some [.agg [3, 3, 3, 3], .agg [3, 3], .agg [3, 3, 3]] := by kernel_rfl
theorem three_args {ds : List D} (h : ShDs Tryz.prog [.agg [3, 3, 3, 3], .agg [3, 3], .agg [3, 3, 3]] ds) : ∃ a b c d g e m q x : Int, ds = [.agg [dI a, dI b, dI c, dI d], .agg [dI g, dI e], .agg [dI m, dI q, dI x]] ∧ (-9223372036854775808 ≤ m ∧ m ≤ 9223372036854775807) ∧ (-9223372036854775808 ≤ q ∧ q ≤ 9223372036854775807) := by
  cases h with | cons h1 t => cases t with | cons h2 t => cases t with | cons h3 t =>
  cases t
  obtain ⟨d1, rfl, h1⟩ := h1
  obtain ⟨d2, rfl, h2⟩ := h2
  obtain ⟨d3, rfl, h3⟩ := h3
  obtain ⟨l1, rfl, e1, _⟩ := leafs_int Tryz.underlying3 (by simp) h1
  obtain ⟨l2, rfl, e2, _⟩ := leafs_int Tryz.underlying3 (by simp) h2
  obtain ⟨l3, rfl, e3, b3⟩ := leafs_int Tryz.underlying3 (by simp) h3
  match l1, l2, l3, e1, e2, e3 with
  | [a, b, c, d], [g, e], [m, q, x], _, _, _ => exact ⟨a, b, c, d, g, e, m, q, x, rfl, b3 m (by simp), b3 q (by simp)⟩
theorem all3 (ds : List D) (h : ShDs Tryz.prog [.agg [3, 3, 3, 3], .agg [3, 3], .agg [3, 3, 3]] ds) : Con Tryz.prog 3 ds [.val (.bool true)] := by
  obtain ⟨a, b, c, d, g, e, m, q, x, rfl, _, _⟩ := three_args h
  exact con3 a b c d g e m q x
theorem lifted3 (os : Os) (started : os.Started) (H : Type) (enc : TypeId × Value → H) :
    ReturnsInHanded {} Tryz.checked os 3 .any (Rows.gaugeStandsSpec.pre6 enc Tryz.prog Tryz.f3 Rows.gaugeStandsRow.domain false) (Rows.gaugeStandsSpec.post enc Tryz.prog Tryz.f3 false true false false) := by
  refine returnsInHanded_of_change (C := Tryz.checked) own started (by kernel_rfl) Tryz.func3
    (ChangeSpec.witness6 (enc := enc) (C := Tryz.checked) false ⟨#[], #[.agg #[.int .i64 0, .int .i64 0, .int .i64 0, .int .i64 0], .agg #[.int .i64 0, .int .i64 0], .agg #[.int .i64 0, .int .i64 0, .int .i64 0]], []⟩ 8 (by kernel_rfl) (by kernel_rfl) (by kernel_rfl) (by kernel_rfl)) ?_
  intro W base args ds gs before hval hW _ _
  exact law_shapes (tb := 4) (s := Rows.gaugeStandsSpec) shapes3 all3 laidP mapsP slicesP (tsP (by kernel_rfl)) rfl Tryz.underlying4 rfl (fun ds h => by
    match ds, h with
    | [_, _, _], _ => exact ⟨rfl, rfl, rfl⟩) hval hW
theorem gaugeStands_holds : Rows.GaugeStandsSaid :=
  OpenClaim.holds_of_wide 3 Tryz.f3 rfl rfl rfl rfl rfl rfl rfl ⟨rfl, rfl, rfl, rfl, rfl⟩ rfl rfl rfl rfl rfl (by kernel_rfl) Tryz.func3 (by kernel_rfl)
    (of_decide_eq_true (by kernel_rfl)) (by unfold Func.isWrapper; first | (rw [if_pos (by decide +kernel)]; kernel_rfl) | (rw [if_neg (by decide +kernel)]; exact ⟨rfl, rfl⟩))
    (fun os started H enc _ => lifted3 os started H enc)
#print axioms gaugeStands_holds
end Go.Proofs.YthgcicagmdlnmaaGreat.K
