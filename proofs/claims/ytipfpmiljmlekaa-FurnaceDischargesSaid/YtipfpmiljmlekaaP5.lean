/- Texts of the proof, put together: GjEH2, GjEH3, GjEH4, GjEH5, AbsTakD, GjTK1, GjEG1, GjTKf, GjEG2, AbsJ, AbsJ2, AbsJ3. -/
import Derived.Test.YtipfpmiljmlekaaP4
import Derived.Test.YtipfpmiljmlekaaP3
import Derived.Test.YtipfpmiljmlekaaP2
/- Chapter 2, heating: small functions and tables, in data. -/
namespace Go.Proofs.G5j
open Go Go.Abs Go.Proofs Go.Proofs.G2
set_option maxRecDepth 100000
theorem conFE (l : List Int) (hlen : l.length < 1000000000) : C5 34 [.sl l.length 1 (vi l)] [dI (fst0 l)] := by
  let inv : Nat × Nat → Prop := fun x => x.1 ≤ l.length ∧ fst0 l = fst0 (l.drop x.1)
  let st : Nat × Nat → Slots × Blocks := fun x => zFE1 l.length x.2 l.length x.1 (vi l)
  refine con_of (L := fun _ s b => ∃ x, inv x ∧ st x = (s, b)) hokE mixed Try.func34 rfl (by show 1 ≤ 400; omega) rfl (ids := [0]) (by kernel_rfl) rfl (fun caps => ?_) (fun id hid => ?_)
  · show gFE _ _ l.length (caps 500) (vi l) _
    rw [gFE_text]
    exact ⟨(0, caps 500), ⟨by simp, rfl⟩, rfl⟩
  · obtain rfl := List.mem_singleton.1 hid
    refine ⟨Nat × Nat, st, inv, fun x => l.length - x.1, ⟨fun s b h => h, by kernel_rfl, ?_⟩⟩
    rintro ⟨i, cap⟩ ⟨hi, hr⟩
    simp only at hi hr
    show rFE1 _ _ l.length cap l.length i (vi l) _ _ _
    rw [rFE1_text]
    refine bc_dec (fun h => ?_) (fun h => ?_)
    · have hi' : i < l.length := by omega
      rw [List.drop_eq_getElem_cons hi', fst0] at hr
      simp only [bc_t h, bc_t (show (0 : Int) ≤ (i : Int) by omega), Int.toNat_natCast, at1 (vi_at l i hi')]
      refine bc_bne (fun hc => ?_) (fun hc => ?_)
      · rw [if_neg hc] at hr
        show [dI l[i]] = [dI (fst0 l)]
        rw [hr]
      · rw [if_pos hc] at hr
        refine ⟨(i + 1, cap), ⟨by show i + 1 ≤ l.length; omega, hr⟩, by show l.length - (i + 1) < l.length - i; omega, ?_⟩
        rw [w64 (by omega) (by omega)]; rfl
    · show (if 0 = 0 then _ else _)
      rw [if_pos rfl]
      show nFE2 _ _ _
      rw [nFE2_text]
      have : i = l.length := by omega
      rw [this, List.drop_length] at hr
      show [dI 0] = [dI (fst0 l)]
      rw [hr]; rfl
theorem conWi (a b c : Int) : C5 16 [dI a, dI b, dI c] [.val (.bool (decide (b ≤ a ∧ a ≤ c)))] := by
  refine con_flat hokE mixed Try.func16 rfl (by show 0 ≤ 400; omega) rfl (by kernel_rfl) (fun caps => ?_)
  show gWi _ _ a b c _
  rw [gWi_text]
  refine bc_dec (fun h => bc_dec (fun h2 => ?_) (fun h2 => ?_)) (fun h => ?_)
  · show _ = _; rw [decide_eq_true (show b ≤ a ∧ a ≤ c from ⟨h, h2⟩)]
  · show _ = _; rw [decide_eq_false (show ¬ (b ≤ a ∧ a ≤ c) by omega)]
  · show _ = _; rw [decide_eq_false (show ¬ (b ≤ a ∧ a ≤ c) by omega)]
theorem sayWt {a b c : Int} (h : b ≤ a ∧ a ≤ c) : Says C5 16 [dI a, dI b, dI c] [.val (.bool true)] := by
  have := conWi a b c
  rw [decide_eq_true h] at this
  exact ⟨this⟩
theorem sayWf {a b c : Int} (h : ¬ (b ≤ a ∧ a ≤ c)) : Says C5 16 [dI a, dI b, dI c] [.val (.bool false)] := by
  have := conWi a b c
  rw [decide_eq_false h] at this
  exact ⟨this⟩
theorem div_bd {n b : Int} (_hb : 0 < b) (hn : -4611686018427387904 ≤ n ∧ n ≤ 4611686018427387904) : (-4611686018427387905 ≤ n.tdiv b ∧ n.tdiv b ≤ 4611686018427387904) := by
  have h := Int.natAbs_tdiv_le_natAbs n b
  omega
theorem conFl (n b : Int) (hb : 0 < b) (hn : -4611686018427387904 ≤ n ∧ n ≤ 4611686018427387904) : C5 83 [dI n, dI b] [dI (n / b)] := by
  refine con_flat hokE mixed Try.func83 rfl (by show 0 ≤ 400; omega) rfl (by kernel_rfl) (fun caps => ?_)
  show gFl _ _ n b _
  have hd := div_bd hb hn
  rw [gFl_text, bc_n (show b ≠ 0 by omega), bc_n (show b ≠ 0 by omega), w64 (z := n.tdiv b) (by omega) (by omega), w64 (by omega) (by omega), ← floor_eq hb]
  refine bc_dec (fun h => ?_) (fun h => ?_)
  · show _ = _; rw [if_pos h]
  · show _ = _; rw [if_neg h]
theorem conCl (l : List Int) (hl : l.length ≤ 1000000) : C5 70 [.sl l.length 1 (vi l)] [.sl l.length 1 (vi l)] := by
  refine con_flat hokE mixed Try.func70 rfl (by show 1 ≤ 400; omega) rfl (by kernel_rfl) (fun caps => ?_)
  show gCl _ _ l.length (caps 500) (vi l) _
  rw [gCl_text]
  refine bc_yes (by simp) (bc_beq (fun h0 => ⟨⟨rfl, rfl⟩, ?_⟩) (fun h0 => bc_yes (by omega) (bc_yes (by omega) (bc_yes (by omega) ⟨⟨rfl, by simp⟩, ?_⟩))))
  · obtain rfl : l = [] := List.length_eq_zero_iff.1 h0
    rfl
  · rw [vi_whole, Nat.zero_add, List.nil_append]
theorem conQu (n b : Int) (hb : 0 < b) (hn : -4611686018427387904 ≤ n ∧ n ≤ 4611686018427387904) : C5 59 [dI n, dI b] [dI (n / b)] := by
  refine con_flat hokH mixed Try.func59 rfl (by show 0 ≤ 400; omega) rfl (by kernel_rfl) (fun caps => ?_)
  show gQu _ _ n b _
  have hd := div_bd hb hn
  rw [gQu_text, bc_n (show b ≠ 0 by omega), bc_n (show b ≠ 0 by omega), w64 (z := n.tdiv b) (by omega) (by omega), w64 (by omega) (by omega), ← floor_eq hb]
  refine bc_dec (fun h => ?_) (fun h => ?_)
  · show _ = _; rw [if_pos h]
  · show _ = _; rw [if_neg h]

theorem v2le (l : List Pt) : 0 + l.length * 2 ≤ (vp l).length := by simp
theorem v1le (l : List Int) : 0 + l.length * 1 ≤ (vi l).length := by simp
/-- the error of a temperature, of a part of a thousand -/
def tErr (a : Int) : Int := if 0 ≤ a ∧ a ≤ 20000 then 0 else 2
def eErr (a : Int) : Int := if 0 ≤ a ∧ a ≤ 1000 then 0 else 2
theorem tErr0 {a : Int} : tErr a = 0 ↔ 0 ≤ a ∧ a ≤ 20000 := by unfold tErr; split <;> simp_all
theorem eErr0 {a : Int} : eErr a = 0 ↔ 0 ≤ a ∧ a ≤ 1000 := by unfold eErr; split <;> simp_all
/-- all numbers lie in a range -/
theorem limE_all {lo hi : Int} : ∀ l : List Int, limE lo hi (vi l) = if ∀ z ∈ l, lo ≤ z ∧ z ≤ hi then 0 else 2
  | [] => by simp [vi, limE]
  | x :: r => by
    have ih := limE_all (lo := lo) (hi := hi) r
    show (if x < lo ∨ x > hi then 2 else limE lo hi (vi r)) = _
    by_cases h : lo ≤ x ∧ x ≤ hi
    · rw [if_neg (by omega), ih]
      by_cases h2 : ∀ z ∈ r, lo ≤ z ∧ z ≤ hi
      · rw [if_pos h2, if_pos ((List.forall_mem_cons (p := fun z => lo ≤ z ∧ z ≤ hi)).2 ⟨h, h2⟩)]
      · rw [if_neg h2, if_neg (fun hh => h2 fun z hz => hh z (List.mem_cons_of_mem _ hz))]
    · rw [if_pos (by omega), if_neg (fun hh => h (hh x (List.mem_cons_self ..)))]
theorem concT (l : List Int) (hl : l.length < 1000000000) : C5 36 [.sl l.length 1 (vi l)] [dI (limE 0 20000 (vi l))] := by
  refine con_flat hokH mixed Try.func36 rfl (by show 1 ≤ 400; omega) rfl (by kernel_rfl) (fun caps => ?_)
  show gcT _ _ l.length (caps 500) (vi l) _
  rw [gcT_text]
  exact ⟨l, rfl, rfl, hl, _, ⟨limC_of rfl⟩, rfl⟩
theorem concP (l : List Int) (hl : l.length < 1000000000) : C5 35 [.sl l.length 1 (vi l)] [dI (limE 0 1000 (vi l))] := by
  refine con_flat hokH mixed Try.func35 rfl (by show 1 ≤ 400; omega) rfl (by kernel_rfl) (fun caps => ?_)
  show gcP _ _ l.length (caps 500) (vi l) _
  rw [gcP_text]
  exact ⟨l, rfl, rfl, hl, _, ⟨limC_of rfl⟩, rfl⟩
theorem concT1 (a : Int) : C5 36 [.sl 1 1 [vI a]] [dI (tErr a)] := by
  have := concT [a] (by simp)
  rw [show limE 0 20000 (vi [a]) = tErr a from limE1 ..] at this; exact this
theorem concP1 (a : Int) : C5 35 [.sl 1 1 [vI a]] [dI (eErr a)] := by
  have := concP [a] (by simp)
  rw [show limE 0 1000 (vi [a]) = eErr a from limE1 ..] at this; exact this
theorem concE (a b : Int) : C5 69 [.agg [dI a, dI b]] [dI (if a > b then 9 else 0)] := by
  refine con_flat hokH mixed Try.func69 rfl (by show 0 ≤ 400; omega) rfl (by kernel_rfl) (fun caps => ?_)
  show gcE _ _ a b _
  rw [gcE_text]
  refine bc_dec (fun h => ?_) (fun h => ?_)
  · show _ = _; rw [if_pos h]
  · show _ = _; rw [if_neg h]
theorem conTE (a : Int) : C5 40 [dI a] [dI (tErr a)] := by
  refine con_flat hokH mixed Try.func40 rfl (by show 0 ≤ 400; omega) rfl (by kernel_rfl) (fun caps => ?_)
  show gTE _ _ a _
  rw [gTE_text]
  by_cases h : 0 ≤ a ∧ a ≤ 20000
  · exact .inl ⟨sayWt h, by rw [tErr, if_pos h]⟩
  · exact .inr ⟨sayWf h, by rw [tErr, if_neg h]⟩
theorem conEE (a : Int) : C5 51 [dI a] [dI (eErr a)] := by
  refine con_flat hokH mixed Try.func51 rfl (by show 0 ≤ 400; omega) rfl (by kernel_rfl) (fun caps => ?_)
  show gEE _ _ a _
  rw [gEE_text]
  by_cases h : 0 ≤ a ∧ a ≤ 1000
  · exact .inl ⟨sayWt h, by rw [eErr, if_pos h]⟩
  · exact .inr ⟨sayWf h, by rw [eErr, if_neg h]⟩
/-- the error of a point after another one -/
def rise (q p : Pt) : Int := if p.1 ≤ q.1 ∨ p.2 < q.2 then 9 else if IntKind.wrap .i64 (p.2 - q.2) > IntKind.wrap .i64 (p.1 - q.1) then 22 else 0
theorem conRs (q p : Pt) : C5 79 [.agg [dI q.1, dI q.2], .agg [dI p.1, dI p.2]] [dI (rise q p)] := by
  refine con_flat hokH mixed Try.func79 rfl (by show 0 ≤ 400; omega) rfl (by kernel_rfl) (fun caps => ?_)
  show gRs _ _ q.1 q.2 p.1 p.2 _
  rw [gRs_text]
  refine bc_dec (fun h => ?_) (fun h1 => bc_dec (fun h => ?_) (fun h2 => bc_dec (fun h => ?_) (fun h3 => ?_)))
  · show [dI 9] = _; rw [rise, if_pos (by omega)]
  · show [dI 9] = _; rw [rise, if_pos (by omega)]
  · show [dI 22] = _; rw [rise, if_neg (by omega), if_pos h]
  · show [dI 0] = _; rw [rise, if_neg (by omega), if_neg h3]
/-- a table's check: what is left of it, the point before, the index -/
def tchk : List Pt → Option Pt → Int → List D
  | [], _, _ => [dI 0, dI 0]
  | p :: r, q, i => if tErr p.1 = 0 ∧ tErr p.2 = 0 then (match q with
    | none => tchk r (some p) (i + 1)
    | some q => if rise q p = 0 then tchk r (some p) (i + 1) else [dI i, dI (rise q p)]) else [dI i, dI 2]
theorem tchk_cons (p : Pt) (r : List Pt) (q : Option Pt) (i : Int) : tchk (p :: r) q i = if tErr p.1 = 0 ∧ tErr p.2 = 0 then (match q with
    | none => tchk r (some p) (i + 1)
    | some q => if rise q p = 0 then tchk r (some p) (i + 1) else [dI i, dI (rise q p)]) else [dI i, dI 2] := by cases q <;> rfl
def prev (ps : List Pt) : Nat → Option Pt
  | 0 => none
  | j + 1 => ps[j]?
def tabRes (ps : List Pt) : List D := if ps.length = 0 then [dI 0, dI 10] else if 10 < ps.length then [dI 0, dI 8] else tchk ps none 0
abbrev dTab (ps : List Pt) : D := .agg [.sl ps.length 2 (vp ps)]
theorem tErr_or (a : Int) : tErr a = 0 ∨ tErr a = 2 := by unfold tErr; split <;> simp
theorem lim20 {a : Int} : Says limC 0 [dI 0, dI 20000, .sl 1 1 [vI a]] [dI (tErr a)] := ⟨limC_of (limE1 0 20000 a).symm⟩
theorem conCT (ps : List Pt) (hlen : ps.length < 1000000000) : C5 68 [dTab ps] (tabRes ps) := by
  let inv : Nat × Nat × Nat → Prop := fun x => x.1 ≤ ps.length ∧ tabRes ps = tchk (ps.drop x.1) (prev ps x.1) x.1
  let st : Nat × Nat × Nat → Slots × Blocks := fun x => zCT1 ps.length x.2.1 ps.length x.1 ps.length x.2.2 (vp ps)
  refine con_of (L := fun _ s b => ∃ x, inv x ∧ st x = (s, b)) hokH mixed Try.func68 rfl (by show 1 ≤ 400; omega) rfl (ids := [1]) (by kernel_rfl) rfl (fun caps => ?_) (fun id hid => ?_)
  · show gCT _ _ ps.length (caps 500) (vp ps) _
    rw [gCT_text]
    refine bc_beq (fun h => ?_) (fun h0 => bc_dec (fun h => ?_) (fun h5 => ?_))
    · show _ = _; rw [tabRes, if_pos (by omega)]
    · show _ = _; rw [tabRes, if_neg (by omega), if_pos (by omega)]
    · exact ⟨(0, caps 500, caps 500), ⟨by simp, by rw [tabRes, if_neg (by omega), if_neg (by omega)]; rfl⟩, rfl⟩
  · obtain rfl := List.mem_singleton.1 hid
    refine ⟨Nat × Nat × Nat, st, inv, fun x => ps.length - x.1, ⟨fun s b h => h, by kernel_rfl, ?_⟩⟩
    rintro ⟨i, c1, c2⟩ ⟨hi, hr⟩
    simp only at hi hr
    show rCT1 _ _ ps.length c1 ps.length i ps.length c2 (vp ps) _ _ _
    rw [rCT1_text]
    refine bc_dec (fun h => ?_) (fun h => ?_)
    · have hi' : i < ps.length := by omega
      rw [List.drop_eq_getElem_cons hi', tchk_cons] at hr
      obtain ⟨e0, he0⟩ : ∃ e, e = fst0 [tErr ps[i].1, tErr ps[i].2] := ⟨_, rfl⟩
      have c88 : C5 34 [.sl 2 1 [.int .i64 (tErr ps[i].1), .int .i64 (tErr ps[i].2)]] [dI e0] := by rw [he0]; exact conFE [tErr ps[i].1, tErr ps[i].2] (by simp)
      rw [fst0_two] at he0
      have hbad : e0 ≠ 0 → [dI i, dI e0] = tabRes ps := fun hb => by
        have h1 : ¬ (tErr ps[i].1 = 0 ∧ tErr ps[i].2 = 0) := by
          rintro ⟨h1, h2⟩
          rw [if_pos h1] at he0
          omega
        have h2 : e0 = 2 := by
          have := tErr_or ps[i].1
          have := tErr_or ps[i].2
          split at he0 <;> omega
        rw [hr, if_neg h1, h2]
      have hgood : e0 = 0 → tErr ps[i].1 = 0 ∧ tErr ps[i].2 = 0 := fun hb => by
        split at he0
        · rename_i h; exact ⟨h, by omega⟩
        · rename_i h; omega
      refine bc_yes (by omega) (bc_yes h ⟨_, _, vp_two ps i hi', ?_⟩)
      simp only [eq_self, true_and]
      refine ⟨tErr ps[i].1, ⟨concT1 _⟩, tErr ps[i].2, lim20, e0, ⟨c88⟩, ?_⟩
      cases i with
      | zero =>
        refine bc_no (by omega) (bc_bne hbad (fun hz => ?_))
        have h12 := hgood hz
        rw [if_pos h12] at hr
        refine ⟨(1, c1, c2), ⟨by show 1 ≤ ps.length; omega, ?_⟩, by show ps.length - 1 < ps.length - 0; omega, ?_⟩
        · rw [hr]; simp only [prev, List.getElem?_eq_getElem hi']; rfl
        · rw [w64 (by omega) (by omega)]; rfl
      | succ j =>
        have hj : j < ps.length := by omega
        have hw : IntKind.wrap .i64 (((j + 1 : Nat) : Int) - 1) = (j : Int) := by rw [w64 (by omega) (by omega)]; omega
        have hp : prev ps (j + 1) = some ps[j] := List.getElem?_eq_getElem hj
        simp only [hp] at hr
        have hz0 : (0 : Int) ≤ (j : Int) := by omega
        have hz1 : (j : Int) < (ps.length : Int) := by omega
        simp only [hw]
        refine bc_yes (by omega) (bc_yes hz0 (bc_yes hz1 ⟨_, _, vp_two ps j hj, ?_⟩))
        simp only [load2 (vp_two ps j hj), Int.toNat_natCast, bc_t hz0, bc_t hz1, true_and]
        refine ⟨rise ps[j] ps[j + 1], ⟨conRs _ _⟩, fst0 [e0, rise ps[j] ps[j + 1]], ⟨conFE [e0, rise ps[j] ps[j + 1]] (by simp)⟩, bc_bne (fun hne => ?_) (fun hz => ?_)⟩
        · show [dI _, dI _] = tabRes ps
          rw [fst0_two] at hne ⊢
          by_cases h0 : e0 = 0
          · rw [if_pos h0] at hne ⊢
            rw [if_pos (hgood h0), if_neg hne] at hr
            exact hr.symm
          · rw [if_neg h0]; exact hbad h0
        · rw [fst0_two] at hz
          by_cases h0 : e0 = 0
          · rw [if_pos h0] at hz
            rw [if_pos (hgood h0), if_pos hz] at hr
            refine ⟨(j + 1 + 1, c1, c2), ⟨by show j + 1 + 1 ≤ ps.length; omega, ?_⟩, by show ps.length - (j + 1 + 1) < ps.length - (j + 1); omega, ?_⟩
            · rw [hr]; simp only [prev, List.getElem?_eq_getElem hi']; rfl
            · rw [w64 (by omega) (by omega)]; rfl
          · rw [if_neg h0] at hz; exact absurd hz h0
    · show (if 1 = 1 then _ else _)
      rw [if_pos rfl]
      show nCT2 _ _ _
      rw [nCT2_text]
      have : i = ps.length := by omega
      rw [this, List.drop_length] at hr
      exact hr.symm
theorem conRT (ps : List Pt) (hlen : ps.length < 1000000000) : C5 67 [dTab ps] (tabRes ps) := by
  let inv : Nat × Nat → Prop := fun x => x.1 ≤ ps.length ∧ tabRes ps = tchk (ps.drop x.1) (prev ps x.1) x.1
  let st : Nat × Nat → Slots × Blocks := fun x => zRT1 x.1 ps.length x.2 (vp ps)
  refine con_of (L := fun _ s b => ∃ x, inv x ∧ st x = (s, b)) hokH mixed Try.func67 rfl (by show 1 ≤ 400; omega) rfl (ids := [0]) (by kernel_rfl) rfl (fun caps => ?_) (fun id hid => ?_)
  · show gRT _ _ ps.length (caps 500) (vp ps) _
    rw [gRT_text]
    refine bc_beq (fun h => ?_) (fun h0 => bc_dec (fun h => ?_) (fun h5 => ?_))
    · show _ = _; rw [tabRes, if_pos (by omega)]
    · show _ = _; rw [tabRes, if_neg (by omega), if_pos (by omega)]
    · exact ⟨(0, caps 500), ⟨by simp, by rw [tabRes, if_neg (by omega), if_neg (by omega)]; rfl⟩, rfl⟩
  · obtain rfl := List.mem_singleton.1 hid
    refine ⟨Nat × Nat, st, inv, fun x => ps.length - x.1, ⟨fun s b h => h, by kernel_rfl, ?_⟩⟩
    rintro ⟨i, cap⟩ ⟨hi, hr⟩
    simp only at hi hr
    show rRT1 _ _ i ps.length cap (vp ps) _ _ _
    rw [rRT1_text]
    refine bc_dec (fun h => ?_) (fun h => ?_)
    · have hi' : i < ps.length := by omega
      rw [List.drop_eq_getElem_cons hi', tchk_cons] at hr
      have bad : ¬ (tErr ps[i].1 = 0 ∧ tErr ps[i].2 = 0) → [dI i, dI 2] = tabRes ps := fun hb => by rw [hr, if_neg hb]
      refine bc_yes (by omega) (bc_yes h ⟨_, _, vp_two ps i hi', tErr ps[i].1, ⟨conTE _⟩, bc_bne (fun h1 => bad (fun h => h1 h.1)) (fun h1 => ?_)⟩)
      by_cases h2 : 0 ≤ ps[i].2 ∧ ps[i].2 ≤ 20000
      · rw [if_pos ⟨h1, tErr0.2 h2⟩] at hr
        refine .inl ⟨sayWt h2, ?_⟩
        cases i with
        | zero =>
          refine bc_true (by simp) ⟨(1, cap), ⟨by show 1 ≤ ps.length; omega, ?_⟩, by show ps.length - 1 < ps.length - 0; omega, ?_⟩
          · rw [hr]; simp only [prev, List.getElem?_eq_getElem hi']; rfl
          · rw [w64 (by omega) (by omega)]; rfl
        | succ j =>
          have hj : j < ps.length := by omega
          have hw : IntKind.wrap .i64 (((j + 1 : Nat) : Int) - 1) = (j : Int) := by rw [w64 (by omega) (by omega)]; omega
          have hp : prev ps (j + 1) = some ps[j] := List.getElem?_eq_getElem hj
          simp only [hp] at hr
          simp only [hw]
          refine bc_false (by simp; omega) (bc_yes (by omega) (bc_yes (by omega) ⟨_, _, vp_two ps j hj, bc_dec (fun h5 => ?_) (fun h5 => bc_dec (fun h6 => ?_) (fun h6 => bc_dec (fun h7 => ?_) (fun h7 => ?_)))⟩))
          · have e : rise ps[j] ps[j + 1] = 9 := by rw [rise, if_pos (.inl h5)]
            rw [e, if_neg (by omega)] at hr; exact hr.symm
          · have e : rise ps[j] ps[j + 1] = 9 := by rw [rise, if_pos (.inr h6)]
            rw [e, if_neg (by omega)] at hr; exact hr.symm
          · have e : rise ps[j] ps[j + 1] = 22 := by rw [rise, if_neg (by omega), if_pos h7]
            rw [e, if_neg (by omega)] at hr; exact hr.symm
          · have e : rise ps[j] ps[j + 1] = 0 := by rw [rise, if_neg (by omega), if_neg h7]
            rw [if_pos e] at hr
            refine ⟨(j + 1 + 1, cap), ⟨by show j + 1 + 1 ≤ ps.length; omega, ?_⟩, by show ps.length - (j + 1 + 1) < ps.length - (j + 1); omega, ?_⟩
            · rw [hr]; simp only [prev, List.getElem?_eq_getElem hi']; rfl
            · rw [w64 (by omega) (by omega)]; rfl
      · exact .inr ⟨sayWf h2, bad (fun h => h2 (tErr0.1 h.2))⟩
    · show (if 0 = 0 then _ else _)
      rw [if_pos rfl]
      show nRT2 _ _ _
      rw [nRT2_text]
      have : i = ps.length := by omega
      rw [this, List.drop_length] at hr
      exact hr.symm
theorem conRTn : C5 67 [.agg [.nil]] [dI 0, dI 10] := by
  refine con_of (L := fun _ _ _ => False) hokH mixed Try.func67 rfl (by show 0 ≤ 400; omega) rfl (ids := [0]) (by kernel_rfl) rfl (fun caps => ?_) (fun id hid => ?_)
  · show gRTn _ _ _
    rw [gRTn_text]
  · obtain rfl := List.mem_singleton.1 hid
    exact ⟨Unit, fun _ => (default, []), fun _ => False, fun _ => 0, ⟨fun s b h => h.elim, by kernel_rfl, fun x h => h.elim⟩⟩
theorem rise_fol {q p : Pt} (hq : In20 q) (hp : In20 p) (h : rise q p = 0) : Fol q p := by
  obtain ⟨a1, a2⟩ := hq
  obtain ⟨b1, b2⟩ := hp
  unfold rise at h
  rw [w64 (by omega) (by omega), w64 (by omega) (by omega)] at h
  split at h
  · omega
  · split at h
    · omega
    · refine ⟨?_, ?_, ?_⟩ <;> omega
/-- what a check says, and what it means -/
def From : Option Pt → List Pt → Prop
  | some q, l => Chain q l
  | none, [] => True
  | none, p :: r => Chain p r
theorem tchk_shape : ∀ (l : List Pt) (q : Option Pt) (i : Int), (∀ p, q = some p → In20 p) → ∃ a e, tchk l q i = [dI a, dI e] ∧ (e = 0 → (∀ p ∈ l, In20 p) ∧ From q l)
  | [], q, i, _ => ⟨0, 0, rfl, fun _ => ⟨by simp, by cases q <;> trivial⟩⟩
  | p :: r, q, i, hq => by
    rw [tchk_cons]
    by_cases h : tErr p.1 = 0 ∧ tErr p.2 = 0
    · rw [if_pos h]
      have hp : In20 p := ⟨tErr0.1 h.1, tErr0.1 h.2⟩
      obtain ⟨a, e, h1, h2⟩ := tchk_shape r (some p) (i + 1) (fun p' e => by cases e; exact hp)
      have hall : e = 0 → ∀ p' ∈ p :: r, In20 p' := fun he p' hp' => by
        rcases List.mem_cons.1 hp' with rfl | h
        · exact hp
        · exact (h2 he).1 p' h
      cases q with
      | none => exact ⟨a, e, h1, fun he => ⟨hall he, (h2 he).2⟩⟩
      | some q =>
        by_cases h0 : rise q p = 0
        · exact ⟨a, e, by simp only [if_pos h0]; exact h1, fun he => ⟨hall he, rise_fol (hq q rfl) hp h0, (h2 he).2⟩⟩
        · exact ⟨i, rise q p, by simp only [if_neg h0], fun h => absurd h h0⟩
    · exact ⟨i, 2, by rw [if_neg h], fun h => by omega⟩
theorem tab_shape (ps : List Pt) : ∃ a e, tabRes ps = [dI a, dI e] ∧ (e = 0 → OkT ps ∧ ps.length ≤ 10) := by
  unfold tabRes
  split
  · exact ⟨0, 10, rfl, fun h => by omega⟩
  · split
    · exact ⟨0, 8, rfl, fun h => by omega⟩
    · obtain ⟨a, e, h1, h2⟩ := tchk_shape ps none 0 (fun _ h => by cases h)
      refine ⟨a, e, h1, fun he => ⟨?_, by omega⟩⟩
      cases ps with
      | nil => rename_i h _; exact absurd rfl h
      | cons p r => exact h2 he
end Go.Proofs.G5j

/- Chapter 2, heating: radiance, rules, slabs, means, in data. -/
namespace Go.Proofs.G5j
open Go Go.Abs Go.Proofs Go.Proofs.G2
set_option maxRecDepth 100000
theorem chain_get : ∀ {p : Pt} {r : List Pt}, Chain p r → ∀ (j : Nat) (h : j + 1 < (p :: r).length), Fol ((p :: r)[j]'(by omega)) (p :: r)[j + 1]
  | p, [], _, j, h => by simp at h
  | p, q :: r, hc, 0, _ => hc.1
  | p, q :: r, hc, j + 1, h => chain_get hc.2 j (by simpa using h)
theorem okT_fol {l : List Pt} (h : OkT l) (j : Nat) (hj : j + 1 < l.length) : Fol (l[j]'(by omega)) l[j + 1] := by
  cases l with
  | nil => simp at hj
  | cons p r => exact chain_get h.2 j hj
theorem okT_in {l : List Pt} (h : OkT l) (j : Nat) (hj : j < l.length) : In20 l[j] := by
  cases l with
  | nil => simp at hj
  | cons p r => exact h.1 _ (List.getElem_mem hj)
theorem okT_pos {l : List Pt} (h : OkT l) : 0 < l.length := by
  cases l with
  | nil => exact h.elim
  | cons p r => simp
theorem rad_le {ps : List Pt} (h : 0 < ps.length) {x : Int} (hx : x ≤ ps[0].1) : rad x ps = ps[0].2 := by
  cases ps with
  | nil => simp at h
  | cons p r => exact if_pos hx
theorem rad_gt {ps : List Pt} (h : 0 < ps.length) {x : Int} (hx : ¬ x ≤ ps[0].1) : rad x ps = radG x ps[0] (ps.drop 1) := by
  cases ps with
  | nil => simp at h
  | cons p r => exact if_neg hx
theorem lin_w {p q : Pt} (hp : In20 p) (hq : In20 q) (h : Fol p q) {x : Int} (h1 : p.1 ≤ x) (h2 : x ≤ q.1) : IntKind.wrap .i64 (p.2 + IntKind.wrap .i64 (Int.tdiv (IntKind.wrap .i64 (IntKind.wrap .i64 (x - p.1) * IntKind.wrap .i64 (q.2 - p.2))) (IntKind.wrap .i64 (q.1 - p.1)))) = lin p q x := by
  have hl := lin_in h h1 h2
  obtain ⟨a1, a2⟩ := hp
  obtain ⟨b1, b2⟩ := hq
  obtain ⟨c1, c2, c3⟩ := h
  have m1 := Int.mul_nonneg (show 0 ≤ x - p.1 by omega) (show 0 ≤ q.2 - p.2 by omega)
  have m2 := Int.mul_le_mul (show x - p.1 ≤ 20000 by omega) (show q.2 - p.2 ≤ 20000 by omega) (by omega) (by decide : (0 : Int) ≤ 20000)
  rw [w64 (z := x - p.1) (by omega) (by omega), w64 (z := q.2 - p.2) (by omega) (by omega), w64 (z := q.1 - p.1) (by omega) (by omega), w64 (z := (x - p.1) * (q.2 - p.2)) (by omega) (by omega), tdiv_nn m1]
  unfold lin at hl ⊢
  rw [w64 (z := (x - p.1) * (q.2 - p.2) / (q.1 - p.1)) (by omega) (by omega), w64 (by omega) (by omega)]
theorem conRA {ps : List Pt} (hv : OkT ps) (hl : ps.length ≤ 10) (x : Int) : C5 82 [dTab ps, dI x] [dI (rad x ps)] := by
  have hpos := okT_pos hv
  let inv : Nat × Nat → Prop := fun y => 0 < y.1 ∧ y.1 ≤ ps.length ∧ ∀ h : y.1 - 1 < ps.length, ps[y.1 - 1].1 < x ∧ rad x ps = radG x ps[y.1 - 1] (ps.drop y.1)
  let st : Nat × Nat → Slots × Blocks := fun y => zRA1 x ps.length y.2 y.1 (vp ps)
  refine con_of (L := fun _ s b => ∃ x, inv x ∧ st x = (s, b)) hokH mixed Try.func82 rfl (by show 1 ≤ 400; omega) rfl (ids := [0]) (by kernel_rfl) rfl (fun caps => ?_) (fun id hid => ?_)
  · show gRA _ _ ps.length (caps 500) (vp ps) x _
    rw [gRA_text]
    refine bc_yes (by omega) ⟨_, vp_one ps 0 hpos, bc_dec (fun hx => ?_) (fun hx => ?_)⟩
    · refine bc_yes (by omega) ⟨_, vp_snd ps 0 hpos, ?_⟩
      show [dI _] = [dI _]
      rw [rad_le hpos hx]
    · refine ⟨(1, caps 500), ⟨by show 0 < 1; omega, by show 1 ≤ ps.length; omega, fun _ => ⟨by show ps[0].1 < x; omega, ?_⟩⟩, rfl⟩
      exact rad_gt hpos hx
  · obtain rfl := List.mem_singleton.1 hid
    refine ⟨Nat × Nat, st, inv, fun x => ps.length - x.1, ⟨fun s b h => h, by kernel_rfl, ?_⟩⟩
    rintro ⟨i, cap⟩ ⟨hi0, hi, hr⟩
    simp only at hi0 hi hr
    obtain ⟨j, rfl⟩ : ∃ j, i = j + 1 := ⟨i - 1, by omega⟩
    have hj : j < ps.length := by omega
    obtain ⟨hxj, hr⟩ := hr hj
    simp only [Nat.add_sub_cancel] at hr hxj
    have hw : IntKind.wrap .i64 (((j + 1 : Nat) : Int) - 1) = (j : Int) := by rw [w64 (by omega) (by omega)]; omega
    have hz0 : (0 : Int) ≤ (j : Int) := by omega
    have hz1 : (j : Int) < (ps.length : Int) := by omega
    show rRA1 _ _ x ps.length cap ((j + 1 : Nat) : Int) (vp ps) _ _ _
    rw [rRA1_text]
    refine bc_dec (fun h => ?_) (fun h => ?_)
    · have hi' : j + 1 < ps.length := by omega
      have hy0 : (0 : Int) ≤ ((j + 1 : Nat) : Int) := by omega
      rw [List.drop_eq_getElem_cons hi', radG] at hr
      refine bc_yes (by omega) (bc_yes h ⟨_, vp_one ps (j + 1) hi', bc_dec (fun hx => ?_) (fun hx => ?_)⟩)
      · rw [if_pos hx] at hr
        have hf := okT_fol hv j hi'
        have hd : IntKind.wrap .i64 (ps[j + 1].1 - ps[j].1) ≠ 0 := by
          have h1 := okT_in hv j hj
          have h2 := okT_in hv (j + 1) hi'
          obtain ⟨h1, _⟩ := h1
          obtain ⟨h2, _⟩ := h2
          have h3 := hf.1
          rw [w64 (by omega) (by omega)]
          omega
        simp only [hw]
        refine bc_yes hz0 (bc_yes hz1 ⟨_, _, vp_two ps j hj, bc_yes hy0 (bc_yes h ⟨_, _, vp_two ps (j + 1) hi', ?_⟩)⟩)
        simp only [load2 (vp_two ps j hj), load2 (vp_two ps (j + 1) hi'), Int.toNat_natCast, bc_t hz0, bc_t hz1, bc_t hy0, bc_t h, bc_n hd, true_and]
        show [dI _] = [dI _]
        rw [hr, lin_w (okT_in hv j hj) (okT_in hv (j + 1) hi') hf (by omega) hx]
      · rw [if_neg hx] at hr
        refine ⟨(j + 1 + 1, cap), ⟨by show 0 < j + 1 + 1; omega, by show j + 1 + 1 ≤ ps.length; omega, fun _ => ⟨by show ps[j + 1].1 < x; omega, hr⟩⟩, by show ps.length - (j + 1 + 1) < ps.length - (j + 1); omega, ?_⟩
        rw [w64 (by omega) (by omega)]; rfl
    · show (if 0 = 0 then _ else _)
      rw [if_pos rfl]
      show nRA2 _ _ ps.length cap (vp ps) _
      have he : j + 1 = ps.length := by omega
      have hwl : IntKind.wrap .i64 ((ps.length : Int) - 1) = (j : Int) := by rw [← he]; exact hw
      rw [nRA2_text]
      simp only [hwl]
      rw [List.drop_eq_nil_of_le (by omega)] at hr
      refine bc_yes hz0 (bc_yes hz1 ⟨_, vp_snd ps j hj, ?_⟩)
      show [dI _] = [dI _]
      rw [hr]; rfl
theorem conrI {ps : List Pt} (hv : OkT ps) (hl : ps.length ≤ 10) (x : Int) : C5 57 [dTab ps, dI x] [dI (rad x ps)] := by
  have hpos := okT_pos hv
  let at_ : Nat → Prop := fun i => match i with
    | 0 => True
    | j + 1 => ∀ h : j < ps.length, ps[j].1 < x ∧ rad x ps = radG x ps[j] (ps.drop (j + 1))
  let inv : Nat × Nat → Prop := fun y => y.1 ≤ ps.length ∧ at_ y.1
  let st : Nat × Nat → Slots × Blocks := fun y => zrI1 x y.1 ps.length y.2 (vp ps)
  refine con_of (L := fun _ s b => ∃ x, inv x ∧ st x = (s, b)) hokH mixed Try.func57 rfl (by show 1 ≤ 400; omega) rfl (ids := [0]) (by kernel_rfl) rfl (fun caps => ?_) (fun id hid => ?_)
  · show grI _ _ ps.length (caps 500) (vp ps) x _
    rw [grI_text]
    exact ⟨(0, caps 500), ⟨by simp, trivial⟩, rfl⟩
  · obtain rfl := List.mem_singleton.1 hid
    refine ⟨Nat × Nat, st, inv, fun x => ps.length - x.1, ⟨fun s b h => h, by kernel_rfl, ?_⟩⟩
    rintro ⟨i, cap⟩ ⟨hi, hr⟩
    simp only at hi hr
    have out : (∀ h : i < ps.length, x ≤ ps[i].1) → nrI2 C5 (fun _ s b => ∃ x, inv x ∧ st x = (s, b)) x i ps.length cap (vp ps) (· = [dI (rad x ps)]) := by
      intro hx
      rw [nrI2_text]
      cases i with
      | zero =>
        refine bc_true (by simp) (bc_yes (by omega) ⟨_, vp_snd ps 0 hpos, ?_⟩)
        show [dI _] = [dI _]
        rw [rad_le hpos (hx hpos)]
      | succ j =>
        have hj : j < ps.length := by omega
        obtain ⟨hxj, hr⟩ := hr hj
        have hw : IntKind.wrap .i64 (((j + 1 : Nat) : Int) - 1) = (j : Int) := by rw [w64 (by omega) (by omega)]; omega
        have hz0 : (0 : Int) ≤ (j : Int) := by omega
        have hz1 : (j : Int) < (ps.length : Int) := by omega
        simp only [hw]
        refine bc_false (by simp; omega) (bc_beq (fun he => ?_) (fun hne => ?_))
        · refine bc_yes hz0 (bc_yes hz1 ⟨_, vp_snd ps j hj, ?_⟩)
          rw [List.drop_eq_nil_of_le (by omega)] at hr
          show [dI _] = [dI _]
          rw [hr]; rfl
        · have hi' : j + 1 < ps.length := by omega
          have hy0 : (0 : Int) ≤ ((j + 1 : Nat) : Int) := by omega
          have hy1 : ((j + 1 : Nat) : Int) < (ps.length : Int) := by omega
          rw [List.drop_eq_getElem_cons hi', radG, if_pos (hx hi')] at hr
          have hf := okT_fol hv j hi'
          have hd : IntKind.wrap .i64 (ps[j + 1].1 - ps[j].1) ≠ 0 := by
            obtain ⟨h1, _⟩ := okT_in hv j hj
            obtain ⟨h2, _⟩ := okT_in hv (j + 1) hi'
            have h3 := hf.1
            rw [w64 (by omega) (by omega)]
            omega
          refine bc_yes hz0 (bc_yes hz1 ⟨_, _, vp_two ps j hj, bc_yes hy0 (bc_yes hy1 ⟨_, _, vp_two ps (j + 1) hi', ?_⟩)⟩)
          simp only [load2 (vp_two ps j hj), load2 (vp_two ps (j + 1) hi'), Int.toNat_natCast, bc_t hz0, bc_t hz1, bc_t hy0, bc_t hy1, bc_n hd, true_and]
          show [dI _] = [dI _]
          rw [hr, Int.mul_comm, lin_w (okT_in hv j hj) (okT_in hv (j + 1) hi') hf (by omega) (hx hi')]
    show rrI1 _ _ x i ps.length cap (vp ps) _ _ _
    rw [rrI1_text]
    refine bc_dec (fun h => ?_) (fun h => ?_)
    · have hi' : i < ps.length := by omega
      refine bc_yes (by omega) (bc_yes h ⟨_, vp_one ps i hi', bc_dec (fun hx => ?_) (fun hx => ?_)⟩)
      · refine ⟨(i + 1, cap), ⟨by show i + 1 ≤ ps.length; omega, ?_⟩, by show ps.length - (i + 1) < ps.length - i; omega, ?_⟩
        · intro _
          refine ⟨hx, ?_⟩
          cases i with
          | zero => exact rad_gt hpos (by omega)
          | succ j =>
            have hr := (hr (show j < ps.length by omega)).2
            rw [List.drop_eq_getElem_cons hi', radG, if_neg (by omega)] at hr
            exact hr
        · rw [w64 (by omega) (by omega)]; rfl
      · show (if 0 = 0 then _ else _)
        rw [if_pos rfl]
        exact out (fun _ => by omega)
    · show (if 0 = 0 then _ else _)
      rw [if_pos rfl]
      exact out (fun h' => by omega)
/-! ### rules and slabs -/
def tabE (ps : List Pt) : Int := match tabRes ps with | [_, .val (.int _ e)] => e | _ => 0
theorem tab_e (ps : List Pt) : ∃ a, tabRes ps = [dI a, dI (tabE ps)] := by
  obtain ⟨a, e, h, _⟩ := tab_shape ps
  exact ⟨a, by rw [tabE, h]⟩
theorem tab_ok {ps : List Pt} (h0 : tabE ps = 0) : OkT ps ∧ ps.length ≤ 10 := by
  obtain ⟨a, e, h, h1⟩ := tab_shape ps
  refine h1 ?_
  rw [tabE, h] at h0; exact h0
def rulE (ps : List Pt) (m lo hi : Int) : Int := if tabE ps ≠ 0 then tabE ps else if (0 ≤ m ∧ m ≤ 50) ∧ (0 ≤ lo ∧ lo ≤ 1000) ∧ 0 ≤ hi ∧ hi ≤ 1000 then (if lo > hi then 9 else 0) else 2
abbrev dRu (ps : List Pt) (m lo hi : Int) : D := .agg [.sl ps.length 2 (vp ps), dI m, dI lo, dI hi]
abbrev dRn (m lo hi : Int) : D := .agg [.nil, dI m, dI lo, dI hi]
theorem fst0_four (a b c d : Int) : fst0 [a, b, c, d] = if a = 0 then (if b = 0 then (if c = 0 then d else c) else b) else a := by
  simp only [fst0]; repeat' split
  all_goals first | rfl | omega
theorem conCR (ps : List Pt) (hl : ps.length < 1000000000) (m lo hi : Int) : C5 52 [dRu ps m lo hi] [dI (rulE ps m lo hi)] := by
  refine con_flat hokH mixed Try.func52 rfl (by show 1 ≤ 400; omega) rfl (by kernel_rfl) (fun caps => ?_)
  show gCR _ _ ps.length (caps 500) (vp ps) m lo hi _
  rw [gCR_text]
  obtain ⟨a, ha⟩ := tab_e ps
  have c1 := conCT ps hl
  rw [ha] at c1
  simp only [vp_whole, bc_t (v2le ps), eq_self, true_and]
  have c2 := concP [lo, hi] (by simp)
  rw [show limE 0 1000 (vi [lo, hi]) = _ from limE2 ..] at c2
  refine ⟨a, tabE ps, ⟨c1⟩, ?_⟩
  try simp only [eq_self, true_and]
  refine ⟨_, ⟨limC_of (limE1 0 50 m).symm⟩, ?_⟩
  try simp only [eq_self, true_and]
  refine ⟨_, ⟨c2⟩, ?_⟩
  try simp only [eq_self, true_and]
  refine ⟨_, ⟨concE lo hi⟩, ?_⟩
  try simp only [eq_self, true_and]
  refine ⟨_, ⟨conFE [tabE ps, if 0 ≤ m ∧ m ≤ 50 then 0 else 2, if (0 ≤ lo ∧ lo ≤ 1000) ∧ 0 ≤ hi ∧ hi ≤ 1000 then 0 else 2, if lo > hi then 9 else 0] (by simp)⟩, ?_⟩
  show [dI _] = [dI _]
  rw [fst0_four, rulE]
  repeat' split
  all_goals first | rfl | omega
theorem conRE (ps : List Pt) (hl : ps.length < 1000000000) (m lo hi : Int) : C5 30 [dRu ps m lo hi] [dI (rulE ps m lo hi)] := by
  refine con_flat hokH mixed Try.func30 rfl (by show 1 ≤ 400; omega) rfl (by kernel_rfl) (fun caps => ?_)
  show gRE _ _ ps.length (caps 500) (vp ps) m lo hi _
  rw [gRE_text]
  obtain ⟨a, ha⟩ := tab_e ps
  have c1 := conRT ps hl
  rw [ha] at c1
  simp only [vp_whole, bc_t (v2le ps)]
  refine ⟨a, tabE ps, ⟨c1⟩, bc_bne (fun h => ?_) (fun h => ?_)⟩
  · show _ = _; rw [rulE, if_pos h]
  · by_cases hm : 0 ≤ m ∧ m ≤ 50
    · refine .inl ⟨sayWt hm, eErr lo, ⟨conEE lo⟩, bc_bne (fun h1 => ?_) (fun h1 => ⟨eErr hi, ⟨conEE hi⟩, bc_bne (fun h2 => ?_) (fun h2 => ?_)⟩)⟩
      · show _ = _; rw [rulE, if_neg (by omega), if_neg (fun hh => h1 (eErr0.2 hh.2.1))]
      · show _ = _; rw [rulE, if_neg (by omega), if_neg (fun hh => h2 (eErr0.2 hh.2.2))]
      · rw [rulE, if_neg (by omega), if_pos ⟨hm, eErr0.1 h1, eErr0.1 h2⟩]
        refine bc_dec (fun h3 => ?_) (fun h3 => ?_)
        · show _ = _; rw [if_pos h3]
        · show _ = _; rw [if_neg h3]
    · refine .inr ⟨sayWf hm, ?_⟩
      show _ = _; rw [rulE, if_neg (by omega), if_neg (fun hh => hm hh.1)]
theorem conREn (m lo hi : Int) : C5 30 [dRn m lo hi] [dI 10] := by
  refine con_flat hokH mixed Try.func30 rfl (by show 0 ≤ 400; omega) rfl (by kernel_rfl) (fun caps => ?_)
  show gREn _ _ m lo hi _
  rw [gREn_text]
  exact ⟨0, 10, ⟨conRTn⟩, bc_true (by simp) rfl⟩
def slE (l : List Int) (bo : Int) : Int := if l.length < 2 then 10 else if 8 < l.length then 8 else if (∀ z ∈ l, 0 ≤ z ∧ z ≤ 20000) ∧ 0 ≤ bo ∧ bo ≤ 1000 then 0 else 2
abbrev dSl (l : List Int) (bo : Int) : D := .agg [.sl l.length 1 (vi l), dI bo]
abbrev dSn (bo : Int) : D := .agg [.nil, dI bo]
theorem conCS (l : List Int) (hl : l.length < 1000000000) (bo : Int) : C5 53 [dSl l bo] [dI (slE l bo)] := by
  refine con_flat hokH mixed Try.func53 rfl (by show 1 ≤ 400; omega) rfl (by kernel_rfl) (fun caps => ?_)
  show gCS _ _ l.length (caps 500) (vi l) bo _
  rw [gCS_text]
  refine bc_dec (fun h => ?_) (fun h => bc_dec (fun h2 => ?_) (fun h2 => ?_))
  · show _ = _; rw [slE, if_pos (by omega)]
  · show _ = _; rw [slE, if_neg (by omega), if_pos (by omega)]
  · have c1 := concT l hl
    rw [limE_all] at c1
    simp only [vi_whole, bc_t (v1le l), eq_self, true_and]
    refine ⟨_, ⟨c1⟩, ?_⟩
    try simp only [eq_self, true_and]
    refine ⟨eErr bo, ⟨concP1 bo⟩, ?_⟩
    try simp only [eq_self, true_and]
    refine ⟨_, ⟨conFE [if ∀ z ∈ l, 0 ≤ z ∧ z ≤ 20000 then 0 else 2, eErr bo] (by simp)⟩, ?_⟩
    have e : fst0 [if ∀ z ∈ l, 0 ≤ z ∧ z ≤ 20000 then 0 else 2, eErr bo] = slE l bo := by
      rw [fst0_two, slE, if_neg (show ¬ l.length < 2 by omega), if_neg (show ¬ 8 < l.length by omega)]
      by_cases h3 : ∀ z ∈ l, 0 ≤ z ∧ z ≤ 20000
      · by_cases h4 : 0 ≤ bo ∧ bo ≤ 1000
        · rw [if_pos h3, if_pos rfl, if_pos ⟨h3, h4⟩, eErr, if_pos h4]
        · rw [if_pos h3, if_pos rfl, if_neg (fun hh => h4 hh.2), eErr, if_neg h4]
      · rw [if_neg h3, if_neg (by omega), if_neg (fun hh => h3 hh.1)]
    show [dI _] = [dI _]
    rw [← e]
theorem conSE (l : List Int) (hl : l.length < 1000000000) (bo : Int) : C5 13 [dSl l bo] [dI (slE l bo)] := by
  let inv : Nat × Nat → Prop := fun x => x.1 ≤ l.length ∧ 2 ≤ l.length ∧ l.length ≤ 8 ∧ ∀ z ∈ l.take x.1, 0 ≤ z ∧ z ≤ 20000
  let st : Nat × Nat → Slots × Blocks := fun x => zSE1 x.1 l.length x.2 bo (vi l)
  refine con_of (L := fun _ s b => ∃ x, inv x ∧ st x = (s, b)) hokH mixed Try.func13 rfl (by show 1 ≤ 400; omega) rfl (ids := [0]) (by kernel_rfl) rfl (fun caps => ?_) (fun id hid => ?_)
  · show gSE _ _ l.length (caps 500) (vi l) bo _
    rw [gSE_text]
    refine bc_dec (fun h => ?_) (fun h => bc_dec (fun h2 => ?_) (fun h2 => ?_))
    · show _ = _; rw [slE, if_pos (by omega)]
    · show _ = _; rw [slE, if_neg (by omega), if_pos (by omega)]
    · exact ⟨(0, caps 500), ⟨Nat.zero_le _, by omega, by omega, by simp⟩, rfl⟩
  · obtain rfl := List.mem_singleton.1 hid
    refine ⟨Nat × Nat, st, inv, fun x => l.length - x.1, ⟨fun s b h => h, by kernel_rfl, ?_⟩⟩
    rintro ⟨i, cap⟩ ⟨hi, h2, h8, ha⟩
    simp only at hi ha
    show rSE1 _ _ i l.length cap bo (vi l) _ _ _
    rw [rSE1_text]
    refine bc_dec (fun h => ?_) (fun h => ?_)
    · have hi' : i < l.length := by omega
      simp only [bc_t h, bc_t (show (0 : Int) ≤ (i : Int) by omega), Int.toNat_natCast, at1 (vi_at l i hi')]
      refine ⟨tErr l[i], ⟨conTE _⟩, bc_bne (fun h1 => ?_) (fun h1 => ?_)⟩
      · show [dI _] = [dI _]
        have hn : ¬ ∀ z ∈ l, 0 ≤ z ∧ z ≤ 20000 := fun hh => h1 (tErr0.2 (hh _ (List.getElem_mem hi')))
        rw [slE, if_neg (by omega), if_neg (by omega), if_neg (fun hh => hn hh.1)]
        rcases tErr_or l[i] with h | h
        · exact absurd h h1
        · rw [h]
      · refine ⟨(i + 1, cap), ⟨hi', h2, h8, ?_⟩, by show l.length - (i + 1) < l.length - i; omega, ?_⟩
        · intro z hz
          rw [List.take_succ_eq_append_getElem hi'] at hz
          rcases List.mem_append.1 hz with h | h
          · exact ha z h
          · rw [List.mem_singleton.1 h]; exact tErr0.1 h1
        · rw [w64 (by omega) (by omega)]; rfl
    · show (if 0 = 0 then _ else _)
      rw [if_pos rfl]
      show nSE2 _ _ l.length cap bo (vi l) _
      rw [nSE2_text]
      have hall : ∀ z ∈ l, 0 ≤ z ∧ z ≤ 20000 := by
        rw [List.take_of_length_le (by omega)] at ha; exact ha
      rw [slE, if_neg (by omega), if_neg (by omega)]
      by_cases hb : 0 ≤ bo ∧ bo ≤ 1000
      · rw [if_pos ⟨hall, hb⟩]; exact .inl ⟨sayWt hb, rfl⟩
      · rw [if_neg (fun hh => hb hh.2)]; exact .inr ⟨sayWf hb, rfl⟩
theorem conSEn (bo : Int) : C5 13 [dSn bo] [dI 10] := by
  refine con_of (L := fun _ _ _ => False) hokH mixed Try.func13 rfl (by show 0 ≤ 400; omega) rfl (ids := [0]) (by kernel_rfl) rfl (fun caps => ?_) (fun id hid => ?_)
  · show gSEn _ _ bo _
    rw [gSEn_text]
  · obtain rfl := List.mem_singleton.1 hid
    exact ⟨Unit, fun _ => (default, []), fun _ => False, fun _ => 0, ⟨fun s b h => h.elim, by kernel_rfl, fun x h => h.elim⟩⟩
theorem sl_ok {l : List Int} {bo : Int} (h : slE l bo = 0) : 2 ≤ l.length ∧ l.length ≤ 8 ∧ (∀ z ∈ l, 0 ≤ z ∧ z ≤ 20000) ∧ 0 ≤ bo ∧ bo ≤ 1000 := by
  unfold slE at h
  split at h
  · omega
  · split at h
    · omega
    · split at h
      · rename_i hh; exact ⟨by omega, by omega, hh.1, hh.2⟩
      · omega
theorem rul_ok {ps : List Pt} {m lo hi : Int} (h : rulE ps m lo hi = 0) : (OkT ps ∧ ps.length ≤ 10) ∧ 0 ≤ m ∧ m ≤ 50 := by
  unfold rulE at h
  split at h
  · omega
  · split at h
    · rename_i h1 h2; exact ⟨tab_ok (by omega), h2.1⟩
    · omega
/-! ### means -/
end Go.Proofs.G5j

/- Chapter 2, heating: a step, in data. -/
namespace Go.Proofs.G5j
open Go Go.Abs Go.Proofs Go.Proofs.G2
set_option maxRecDepth 100000
theorem em_bd {em a b : Int} (he : 0 ≤ em ∧ em ≤ 1000) (ha : 0 ≤ a ∧ a ≤ 20000) (hb : 0 ≤ b ∧ b ≤ 20000) : -20000000 ≤ em * (a - b) ∧ em * (a - b) ≤ 20000000 := by
  have h1 := Int.mul_le_mul_of_nonneg_left (show a - b ≤ 20000 by omega) he.1
  have h2 := Int.mul_le_mul_of_nonneg_left (show -20000 ≤ a - b by omega) he.1
  omega
theorem bo_bd {g bo : Int} (hg : -20000000 ≤ g ∧ g ≤ 20000000) (hb : 0 ≤ bo ∧ bo ≤ 1000) : -20000000000 ≤ g * bo ∧ g * bo ≤ 20000000000 := by
  have h1 := Int.mul_le_mul_of_nonneg_right hg.2 hb.1
  have h2 := Int.mul_le_mul_of_nonneg_right hg.1 hb.1
  omega
theorem div_in {x k B : Int} (hk : 0 < k) (h : -(B * k) ≤ x ∧ x ≤ B * k) : -B ≤ x / k ∧ x / k ≤ B := by
  refine ⟨(Int.le_ediv_iff_mul_le hk).2 (by rw [Int.neg_mul]; exact h.1), ?_⟩
  have := Int.ediv_le_ediv hk h.2
  rwa [Int.mul_ediv_cancel _ (by omega)] at this
theorem conlw {ps : List Pt} (hv : OkT ps) (hl : ps.length ≤ 10) (m lo hi : Int) {em set bo node : Int} (he : 0 ≤ em ∧ em ≤ 1000) (hb : 0 ≤ bo ∧ bo ≤ 1000) (hn : 0 ≤ node ∧ node ≤ 20000) : C5 76 [dRu ps m lo hi, .agg [dI em, dI set], dI node, dI bo] [dI (half ps em set bo node)] := by
  refine con_flat hokH mixed Try.func76 rfl (by show 1 ≤ 400; omega) rfl (by kernel_rfl) (fun caps => ?_)
  show glw _ _ ps.length (caps 500) (vp ps) m lo hi em set node bo _
  rw [glw_text]
  have r1 := rad_in hv set
  have r2 := rad_in hv node
  have b1 := em_bd he r1 r2
  have b2 := bo_bd b1 hb
  have b3 := div_in (x := em * (rad set ps - rad node ps) * bo) (k := 1000000) (B := 20000) (by decide) (by omega)
  simp only [vp_whole, bc_t (v2le ps), eq_self, true_and, and_true]
  refine ⟨rad set ps, ⟨conRA hv hl set⟩, rad node ps, ⟨conRA hv hl node⟩, ?_⟩
  rw [w64 (z := rad set ps - rad node ps) (by omega) (by omega), w64 (z := em * (rad set ps - rad node ps)) (by omega) (by omega), w64 (z := em * (rad set ps - rad node ps) * bo) (by omega) (by omega)]
  refine ⟨_, ⟨conFl _ _ (by omega) (by omega)⟩, ?_⟩
  rw [w64 (by omega) (by omega)]
  rfl
theorem conup {ps : List Pt} (hv : OkT ps) (hl : ps.length ≤ 10) (m lo hi : Int) {em set node : Int} (he : 0 ≤ em ∧ em ≤ 1000) (hn : 0 ≤ node ∧ node ≤ 20000) : C5 77 [dRu ps m lo hi, .agg [dI em, dI set], dI node] [dI (half ps em set 1000 node)] := by
  refine con_flat hokH mixed Try.func77 rfl (by show 1 ≤ 400; omega) rfl (by kernel_rfl) (fun caps => ?_)
  show gup _ _ ps.length (caps 500) (vp ps) m lo hi em set node _
  rw [gup_text]
  have r1 := rad_in hv set
  have r2 := rad_in hv node
  have b1 := em_bd he r1 r2
  have b3 := div_in (x := em * (rad set ps - rad node ps)) (k := 1000) (B := 20000) (by decide) (by omega)
  simp only [vp_whole, bc_t (v2le ps), eq_self, true_and, and_true]
  refine ⟨rad set ps, ⟨conRA hv hl set⟩, rad node ps, ⟨conRA hv hl node⟩, ?_⟩
  rw [w64 (z := rad set ps - rad node ps) (by omega) (by omega), w64 (z := em * (rad set ps - rad node ps)) (by omega) (by omega)]
  refine ⟨_, ⟨conFl _ _ (by omega) (by omega)⟩, ?_⟩
  rw [w64 (by omega) (by omega), half_up]
/-- indices -/
theorem ix_lo {i : Nat} (h : i < 1000000000) : (if IntKind.wrap .i64 ((i : Int) - 1) > 0 then IntKind.wrap .i64 ((i : Int) - 1) else 0) = ((i - 1 : Nat) : Int) := by
  rw [w64 (by omega) (by omega)]; split <;> omega
theorem ix_hi {i n : Nat} (h : i < n) (hn : n < 1000000000) : (if IntKind.wrap .i64 ((i : Int) + 1) < IntKind.wrap .i64 ((n : Int) - 1) then IntKind.wrap .i64 ((i : Int) + 1) else IntKind.wrap .i64 ((n : Int) - 1)) = ((min (i + 1) (n - 1) : Nat) : Int) := by
  rw [w64 (z := (i : Int) + 1) (by omega) (by omega), w64 (z := (n : Int) - 1) (by omega) (by omega)]; split <;> omega
theorem mix_w {m a b c : Int} (hm : 0 ≤ m ∧ m ≤ 50) (ha : 0 ≤ a ∧ a ≤ 100000) (hb : 0 ≤ b ∧ b ≤ 100000) (hc : 0 ≤ c ∧ c ≤ 100000) :
    IntKind.wrap .i64 (IntKind.wrap .i64 (IntKind.wrap .i64 (m * a) + IntKind.wrap .i64 (m * b)) + IntKind.wrap .i64 (IntKind.wrap .i64 (100 - IntKind.wrap .i64 (2 * m)) * c)) = m * (a + b) + (100 - 2 * m) * c ∧ 0 ≤ m * (a + b) + (100 - 2 * m) * c ∧ m * (a + b) + (100 - 2 * m) * c ≤ 20000000 := by
  have p1 := Int.mul_le_mul_of_nonneg_left ha.2 hm.1
  have p2 := Int.mul_nonneg hm.1 ha.1
  have p3 := Int.mul_le_mul_of_nonneg_left hb.2 hm.1
  have p4 := Int.mul_nonneg hm.1 hb.1
  have p5 := Int.mul_le_mul_of_nonneg_left hc.2 (show 0 ≤ 100 - 2 * m by omega)
  have p6 := Int.mul_nonneg (show 0 ≤ 100 - 2 * m by omega) hc.1
  have e : m * (a + b) = m * a + m * b := Int.mul_add ..
  rw [w64 (z := m * a) (by omega) (by omega), w64 (z := m * b) (by omega) (by omega), w64 (z := m * a + m * b) (by omega) (by omega), w64 (z := 2 * m) (by omega) (by omega), w64 (z := 100 - 2 * m) (by omega) (by omega), w64 (z := (100 - 2 * m) * c) (by omega) (by omega), w64 (by omega) (by omega), e]
  omega
theorem rg_snoc (f : Nat → Int) (n : Nat) : vi ((List.range n).map f) ++ [vI (f n)] = vi ((List.range (n + 1)).map f) := by
  rw [List.range_succ, List.map_append, vi, vi, List.map_append]; rfl
theorem rg_take (f : Nat → Int) (n : Nat) : List.take (n * 1) (List.drop 0 (vi ((List.range n).map f))) = vi ((List.range n).map f) := by
  rw [List.drop_zero, List.take_of_length_le (by simp)]
theorem conMi (ps : List Pt) (m lo hi : Int) (hm : 0 ≤ m ∧ m ≤ 50) (l : List Int) (h1 : 1 ≤ l.length) (h2 : l.length ≤ 1000) (hg : ∀ i, i < l.length → 0 ≤ gd l i ∧ gd l i ≤ 100000) : C5 78 [dRu ps m lo hi, .sl l.length 1 (vi l)] [.sl l.length 1 (vi (mixL m l))] := by
  let inv : Nat × Nat × Nat → Prop := fun x => x.1 ≤ l.length
  let st : Nat × Nat × Nat → Slots × Blocks := fun x => match x.1 with
    | 0 => zMi1 l.length x.2.1 0 (vi l) ps.length x.2.2 m lo hi (vp ps)
    | i + 1 => zMi2 l.length x.2.1 (i + 1) ((i + 1 : Nat) : Int) (vi l) ps.length x.2.2 m lo hi (vi ((List.range (i + 1)).map (mixAt m l))) (vp ps)
  refine con_of (L := fun _ s b => ∃ x, inv x ∧ st x = (s, b)) hokH mixed Try.func78 rfl (by show 2 ≤ 400; omega) rfl (ids := [0]) (by kernel_rfl) rfl (fun caps => ?_) (fun id hid => ?_)
  · show gMi _ _ ps.length (caps 500) (vp ps) m lo hi l.length (caps 501) (vi l) _
    rw [gMi_text]
    exact ⟨(0, caps 501, caps 500), Nat.zero_le _, rfl⟩
  · obtain rfl := List.mem_singleton.1 hid
    refine ⟨Nat × Nat × Nat, st, inv, fun x => l.length - x.1, ⟨fun s b h => h, by kernel_rfl, ?_⟩⟩
    rintro ⟨i, c1, c2⟩ hi'
    have hi' : i ≤ l.length := hi'
    have facts : ∀ h : i < l.length, At (vi l) (0 + i * 1) 1 [vI (gd l i)] ∧ At (vi l) (0 + (i - 1) * 1) 1 [vI (gd l (i - 1))] ∧ At (vi l) (0 + (min (i + 1) (l.length - 1)) * 1) 1 [vI (gd l (min (i + 1) (l.length - 1)))] := fun h => ⟨at_gd h, at_gd (by omega), at_gd (by omega)⟩
    have val : ∀ h : i < l.length, _ := fun h => mix_w hm (hg (i - 1) (by omega)) (hg (min (i + 1) (l.length - 1)) (by omega)) (hg i h)
    cases i with
    | zero =>
      show rMi1 _ _ l.length c1 ((0 : Nat) : Int) (vi l) ps.length c2 m lo hi (vp ps) _ _ _
      rw [rMi1_text]
      have h : 0 < l.length := by omega
      obtain ⟨a0, a1, a2⟩ := facts h
      obtain ⟨v1, v2, v3⟩ := val h
      have hd := div_in (x := m * (gd l (0 - 1) + gd l (min (0 + 1) (l.length - 1))) + (100 - 2 * m) * gd l 0) (k := 100) (B := 200000) (by decide) (by omega)
      have j0 : (0 : Int) ≤ ((0 - 1 : Nat) : Int) := by omega
      have j1 : ((0 - 1 : Nat) : Int) < (l.length : Int) := by omega
      have k0 : (0 : Int) ≤ ((min (0 + 1) (l.length - 1) : Nat) : Int) := by omega
      have k1 : ((min (0 + 1) (l.length - 1) : Nat) : Int) < (l.length : Int) := by omega
      have i0 : (0 : Int) ≤ ((0 : Nat) : Int) := by omega
      have i1 : ((0 : Nat) : Int) < (l.length : Int) := by omega
      simp only [ix_lo (show (0 : Nat) < 1000000000 by omega), ix_hi h (by omega), Int.toNat_natCast, bc_t i0, bc_t i1, bc_t k0, bc_t k1, at1 a0, at1 a2, eq_self, true_and, and_true]
      rw [v1]
      refine ⟨_, ⟨conFl _ _ (by omega) (by omega)⟩, ?_⟩
      refine ⟨(1, c1, c2), by show 1 ≤ l.length; omega, by show l.length - 1 < l.length - 0; omega, ?_⟩
      rw [w64 (by omega) (by omega)]; rfl
    | succ j =>
      show rMi2 _ _ l.length c1 (j + 1) ((j + 1 : Nat) : Int) (vi l) ps.length c2 m lo hi (vi ((List.range (j + 1)).map (mixAt m l))) (vp ps) _ _ _
      rw [rMi2_text]
      refine bc_dec (fun h => ?_) (fun h => ?_)
      · have h : j + 1 < l.length := by omega
        obtain ⟨a0, a1, a2⟩ := facts h
        obtain ⟨v1, v2, v3⟩ := val h
        have hd := div_in (x := m * (gd l (j + 1 - 1) + gd l (min (j + 1 + 1) (l.length - 1))) + (100 - 2 * m) * gd l (j + 1)) (k := 100) (B := 200000) (by decide) (by omega)
        have j0 : (0 : Int) ≤ ((j + 1 - 1 : Nat) : Int) := by omega
        have j1 : ((j + 1 - 1 : Nat) : Int) < (l.length : Int) := by omega
        have k0 : (0 : Int) ≤ ((min (j + 1 + 1) (l.length - 1) : Nat) : Int) := by omega
        have k1 : ((min (j + 1 + 1) (l.length - 1) : Nat) : Int) < (l.length : Int) := by omega
        have i0 : (0 : Int) ≤ ((j + 1 : Nat) : Int) := by omega
        have i1 : ((j + 1 : Nat) : Int) < (l.length : Int) := by omega
        simp only [ix_lo (show j + 1 < 1000000000 by omega), ix_hi h (by omega), Int.toNat_natCast, bc_t i0, bc_t i1, bc_t j0, bc_t j1, bc_t k0, bc_t k1, at1 a0, at1 a1, at1 a2, eq_self, true_and, and_true]
        rw [v1]
        refine ⟨_, ⟨conFl _ _ (by omega) (by omega)⟩, ?_⟩
        refine bc_yes (by omega) (bc_yes (by omega) (bc_yes (by omega) (bc_yes (by simp) (bc_yes (by simp) ?_))))
        refine ⟨(j + 1 + 1, c1, c2), h, by show l.length - (j + 1 + 1) < l.length - (j + 1); omega, ?_⟩
        rw [w64 (by omega) (by omega), rg_take]
        have e := rg_snoc (mixAt m l) (j + 1)
        show zMi2 _ _ _ _ _ _ _ _ _ _ (vi ((List.range (j + 1 + 1)).map (mixAt m l))) _ = _
        rw [← e]; rfl
      · show (if 0 = 0 then _ else _)
        rw [if_pos rfl]
        show nMi4 _ _ (j + 1) (vi ((List.range (j + 1)).map (mixAt m l))) _
        rw [nMi4_text]
        have e : j + 1 = l.length := by omega
        rw [e]
        exact ⟨⟨rfl, by simp⟩, rfl⟩
end Go.Proofs.G5j

/- Chapter 2, heating: steps of slabs, in data. -/
namespace Go.Proofs.G5j
open Go Go.Abs Go.Proofs Go.Proofs.G2
set_option maxRecDepth 100000
theorem set0 (l : List Int) (v : Int) (h : 0 < l.length) : (vI v :: List.drop (0 + [vI v].length) (vi l)) = vi (l.set 0 v) := by
  cases l with
  | nil => simp at h
  | cons x r => rfl
theorem w_last {n : Nat} (h : 0 < n) (h2 : n < 1000000000) : IntKind.wrap .i64 ((n : Int) - 1) = ((n - 1 : Nat) : Int) := by rw [w64 (by omega) (by omega)]; omega
/-- the error of rules, then of a slab -/
def both (a b : Int) : Int := if a ≠ 0 then a else b
theorem conbE (ps : List Pt) (hp : ps.length < 1000000000) (m lo hi : Int) (l : List Int) (hl : l.length < 1000000000) (bo : Int) : C5 7 [dRu ps m lo hi, dSl l bo] [dI (both (rulE ps m lo hi) (slE l bo))] := by
  refine con_flat hokH mixed Try.func7 rfl (by show 2 ≤ 400; omega) rfl (by kernel_rfl) (fun caps => ?_)
  show gbE _ _ ps.length (caps 500) (vp ps) m lo hi l.length (caps 501) (vi l) bo _
  rw [gbE_text]
  simp only [vp_whole, vi_whole, bc_t (v2le ps), bc_t (v1le l)]
  refine ⟨_, ⟨conRE ps hp m lo hi⟩, bc_bne (fun h => ?_) (fun h => ⟨_, ⟨conSE l hl bo⟩, ?_⟩)⟩
  · show _ = _; rw [both, if_pos h]
  · show _ = _; rw [both, if_neg (by omega)]
theorem conbE1 (ps : List Pt) (hp : ps.length < 1000000000) (m lo hi bo : Int) : C5 7 [dRu ps m lo hi, dSn bo] [dI (both (rulE ps m lo hi) 10)] := by
  refine con_flat hokH mixed Try.func7 rfl (by show 1 ≤ 400; omega) rfl (by kernel_rfl) (fun caps => ?_)
  show gbE1 _ _ ps.length (caps 500) (vp ps) m lo hi bo _
  rw [gbE1_text]
  simp only [vp_whole, bc_t (v2le ps)]
  refine ⟨_, ⟨conRE ps hp m lo hi⟩, bc_bne (fun h => ?_) (fun h => ⟨_, ⟨conSEn bo⟩, ?_⟩)⟩
  · show _ = _; rw [both, if_pos h]
  · show _ = _; rw [both, if_neg (by omega)]
theorem conbE2 (m lo hi : Int) (l : List Int) (bo : Int) : C5 7 [dRn m lo hi, dSl l bo] [dI 10] := by
  refine con_flat hokH mixed Try.func7 rfl (by show 1 ≤ 400; omega) rfl (by kernel_rfl) (fun caps => ?_)
  show gbE2 _ _ m lo hi l.length (caps 500) (vi l) bo _
  rw [gbE2_text]
  try simp only [eq_self, true_and, and_true]
  exact ⟨_, ⟨conREn m lo hi⟩, bc_true (by simp) rfl⟩
theorem conbE3 (m lo hi bo : Int) : C5 7 [dRn m lo hi, dSn bo] [dI 10] := by
  refine con_flat hokH mixed Try.func7 rfl (by show 0 ≤ 400; omega) rfl (by kernel_rfl) (fun caps => ?_)
  show gbE3 _ _ m lo hi bo _
  rw [gbE3_text]
  try simp only [eq_self, true_and, and_true]
  exact ⟨_, ⟨conREn m lo hi⟩, bc_true (by simp) rfl⟩
/-! ### copies -/
theorem conYr (ps : List Pt) (hl : ps.length ≤ 1000000) (m lo hi : Int) : C5 12 [dRu ps m lo hi] [dRu ps m lo hi] := by
  refine con_flat hokE mixed Try.func12 rfl (by show 1 ≤ 400; omega) rfl (by kernel_rfl) (fun caps => ?_)
  show gYr _ _ ps.length (caps 500) (vp ps) m lo hi _
  rw [gYr_text]
  try simp only [eq_self, true_and, and_true]
  refine bc_yes (by simp) (bc_beq (fun h0 => ?_) (fun h0 => bc_yes (by omega) (bc_yes (by omega) (bc_yes (by omega) ⟨by simp, ?_⟩))))
  · obtain rfl : ps = [] := List.length_eq_zero_iff.1 h0
    rfl
  · rw [vp_whole, Nat.zero_add, List.nil_append]
theorem conYrn (m lo hi : Int) : C5 12 [dRn m lo hi] [dRu [] m lo hi] := by
  refine con_flat hokE mixed Try.func12 rfl (by show 0 ≤ 400; omega) rfl (by kernel_rfl) (fun caps => ?_)
  show gYrn _ _ m lo hi _
  rw [gYrn_text]
  exact ⟨⟨rfl, rfl⟩, rfl⟩
theorem conYs (l : List Int) (hl : l.length ≤ 1000000) (bo : Int) : C5 9 [dSl l bo] [dSl l bo] := by
  refine con_flat hokE mixed Try.func9 rfl (by show 1 ≤ 400; omega) rfl (by kernel_rfl) (fun caps => ?_)
  show gYs _ _ l.length (caps 500) (vi l) bo _
  rw [gYs_text]
  try simp only [eq_self, true_and, and_true]
  refine bc_yes (by simp) (bc_beq (fun h0 => ?_) (fun h0 => bc_yes (by omega) (bc_yes (by omega) (bc_yes (by omega) ⟨by simp, ?_⟩))))
  · obtain rfl : l = [] := List.length_eq_zero_iff.1 h0
    rfl
  · rw [vi_whole, Nat.zero_add, List.nil_append]
theorem conYsn (bo : Int) : C5 9 [dSn bo] [dSl [] bo] := by
  refine con_flat hokE mixed Try.func9 rfl (by show 0 ≤ 400; omega) rfl (by kernel_rfl) (fun caps => ?_)
  show gYsn _ _ bo _
  rw [gYsn_text]
  simp only [eq_self, true_and, and_true]
  all_goals rfl
end Go.Proofs.G5j

/- Chapter 2: steps of a slab by the lower or the higher one of two heats (state contracts). -/
namespace Go.Abs
/-- a node after the first half of a step: emissivity, radiance of the furnace, share, radiance by temperature -/
def halfR (rd : Int → Int) (em ra share node : Int) : Int := node + em * (ra - rd node) * share / 1000000
def lowR (rd : Int → Int) (up : Bool) (a b ra rb share node : Int) : Int :=
  if up then (if halfR rd a ra share node < halfR rd b rb share node then halfR rd b rb share node else halfR rd a ra share node)
  else (if halfR rd b rb share node < halfR rd a ra share node then halfR rd b rb share node else halfR rd a ra share node)
def encS (rd : Int → Int) (up : Bool) (mi a b ra rb bo : Int) (l : List Int) : List Int :=
  mixL mi ((l.set 0 (lowR rd up a b ra rb bo (l.getD 0 0))).set (l.length - 1) (lowR rd up a b ra rb 1000 (l.getD (l.length - 1) 0)))
def encN (rd : Int → Int) (up : Bool) (mi a b ra rb bo : Int) : Nat → List Int → List Int
  | 0, l => l
  | n + 1, l => encN rd up mi a b ra rb bo n (encS rd up mi a b ra rb bo l)
/-- a table by its radiances, and bounds -/
structure RadOK (C : FuncId → List D → List D → Prop) (fr : FuncId) (l0 : List Value) (n0 : Nat) (mi a b bo : Int) (rd : Int → Int) : Prop where
  len : l0.length = n0 * 2
  says : ∀ x, Says C fr [.agg [.sl n0 2 l0], .val (.int .i64 x)] [.val (.int .i64 (rd x))]
  rdb : ∀ x, 0 ≤ rd x ∧ rd x ≤ 20000
  fmi : 0 ≤ mi ∧ mi ≤ 50
  fa : 0 ≤ a ∧ a ≤ 1000
  fb : 0 ≤ b ∧ b ≤ 1000
  fbo : 0 ≤ bo ∧ bo ≤ 1000
  half : ∀ em set s x, (em = a ∨ em = b) → 0 ≤ set ∧ set ≤ 20000 → 0 ≤ s ∧ s ≤ 1000 → 0 ≤ x ∧ x ≤ 20000 → 0 ≤ halfR rd em (rd set) s x ∧ halfR rd em (rd set) s x ≤ 20000
structure NodOK (l : List Int) : Prop where
  two : 2 ≤ l.length
  few : l.length ≤ 8
  all : ∀ z ∈ l, 0 ≤ z ∧ z ≤ 20000
structure GoodTake (C : FuncId → List D → List D → Prop) (fr : FuncId) (up : Bool) (l0 : List Value) (n0 : Nat) (mi a b ra rb bo : Int) (l1 : List Value) (n1 : Nat) (st : Int) (out : List Value) : Prop where
  h : ∃ (rd : Int → Int) (set : Int) (l : List Int), RadOK C fr l0 n0 mi a b bo rd ∧ NodOK l ∧ l1 = l.map (Value.int .i64) ∧ n1 = l.length ∧ (0 ≤ set ∧ set ≤ 20000) ∧ ra = rd set ∧ rb = rd set ∧ (0 ≤ st ∧ st ≤ 1000) ∧ out = (encN rd up mi a b ra rb bo st.toNat l).map (Value.int .i64)
def eqL : List Value → List Value → Prop
  | [], [] => True
  | v :: r, w :: q => v = w ∧ eqL r q
  | _, _ => False
def eqB : Blocks → Blocks → Prop
  | [], [] => True
  | (i, o) :: r, (j, p) :: q => ((Value.int .i64 (i : Int)) = Value.int .i64 (j : Int) ∧ some o = some p) ∧ eqB r q
  | _, _ => False
abbrev pAt (b : Nat) : Value := .pointer (some ⟨b, 0, none⟩)
def heatV (b : Nat) (n0 c0 n1 c1 : Nat) (mi a b' bo : Int) : List Value := [.slice (some ⟨500, 0, none⟩) n0 c0, .int .i64 mi, .int .i64 a, .int .i64 b', .slice (some ⟨b, 0, none⟩) n1 c1, .int .i64 bo]
def takeArgs (f : FuncId) (n0 c0 n1 c1 : Nat) (mi a b bo st : Int) : List Value := [.agg (heatV 900 n0 c0 n1 c1 mi a b bo).toArray, .int .i64 st, .func (.func f) #[] #[pAt 901, pAt 902]]
def takeBs (hb : FuncId) (tf th ti : TypeId) (n0 c0 n1 c1 : Nat) (mi a b bo ra rb : Int) (l0 l1 : List Value) : Blocks :=
  [(500, .sym l0 false 2), (900, .sym l1 true 1),
   (901, .cells [.func (.func hb) #[] #[pAt 903, pAt 904, pAt 905]] tf false 1),
   (902, .cells [.func (.func hb) #[] #[pAt 906, pAt 907, pAt 908]] tf false 1),
   (903, .cells [.int .i64 a] ti false 1), (904, .cells [.int .i64 ra] ti false 1), (905, .cells (heatV 900 n0 c0 n1 c1 mi a b bo) th false 1),
   (906, .cells [.int .i64 b] ti false 1), (907, .cells [.int .i64 rb] ti false 1), (908, .cells (heatV 900 n0 c0 n1 c1 mi a b bo) th false 1)]
def takeEnd (hb : FuncId) (tf th ti : TypeId) (n0 c0 n1 c1 : Nat) (mi a b bo ra rb : Int) (l0 out : List Value) : Blocks :=
  [(900, .sym out true 1),
   (901, .cells [.func (.func hb) #[] #[pAt 903, pAt 904, pAt 905]] tf false 1),
   (902, .cells [.func (.func hb) #[] #[pAt 906, pAt 907, pAt 908]] tf false 1),
   (903, .cells [.int .i64 a] ti false 1), (904, .cells [.int .i64 ra] ti false 1), (905, .cells (heatV 900 n0 c0 n1 c1 mi a b bo) th false 1),
   (906, .cells [.int .i64 b] ti false 1), (907, .cells [.int .i64 rb] ti false 1), (908, .cells (heatV 900 n0 c0 n1 c1 mi a b bo) th false 1),
   (500, .sym l0 false 2)]
def takeP (C : FuncId → List D → List D → Prop) (fr fl fh hb : FuncId) (tf th ti : TypeId) : SpecS := fun args bs K =>
  match args, bs with
  | .agg cells :: .int _ st :: .func (.func f) _ _ :: _, (_, .sym l0 _ _) :: (_, .sym l1 _ _) :: _ :: _ :: _ :: (_, .cells (.int _ ra :: _) _ _ _) :: _ :: _ :: (_, .cells (.int _ rb :: _) _ _ _) :: _ =>
    match cells.toList with
    | [.slice _ n0 c0, .int _ mi, .int _ a, .int _ b, .slice _ n1 c1, .int _ bo] =>
      if f == fl then
        eqL args (takeArgs fl n0 c0 n1 c1 mi a b bo st) ∧ eqB bs (takeBs hb tf th ti n0 c0 n1 c1 mi a b bo ra rb l0 l1) ∧
          ∃ out : List Value, GoodTake C fr false l0 n0 mi a b ra rb bo l1 n1 st out ∧ K (.tuple #[]) (takeEnd hb tf th ti n0 c0 n1 c1 mi a b bo ra rb l0 out)
      else if f == fh then
        eqL args (takeArgs fh n0 c0 n1 c1 mi a b bo st) ∧ eqB bs (takeBs hb tf th ti n0 c0 n1 c1 mi a b bo ra rb l0 l1) ∧
          ∃ out : List Value, GoodTake C fr true l0 n0 mi a b ra rb bo l1 n1 st out ∧ K (.tuple #[]) (takeEnd hb tf th ti n0 c0 n1 c1 mi a b bo ra rb l0 out)
      else False
    | _ => False
  | _, _ => False
/-- both slabs of an enclosure, by the steps of a zone -/
structure GoodZone (C : FuncId → List D → List D → Prop) (fr : FuncId) (l0 : List Value) (n0 : Nat) (mi a b bo : Int) (l1 : List Value) (n1 : Nat) (l2 : List Value) (n2 : Nat) (set st : Int) (o1 o2 : List Value) : Prop where
  h : ∃ (rd : Int → Int) (l m : List Int), RadOK C fr l0 n0 mi a b bo rd ∧ NodOK l ∧ NodOK m ∧ l1 = l.map (Value.int .i64) ∧ n1 = l.length ∧ l2 = m.map (Value.int .i64) ∧ n2 = m.length ∧ (0 ≤ set ∧ set ≤ 20000) ∧ (0 ≤ st ∧ st ≤ 1000) ∧ o1 = (encN rd false mi a b (rd set) (rd set) bo st.toNat l).map (Value.int .i64) ∧ o2 = (encN rd true mi a b (rd set) (rd set) bo st.toNat m).map (Value.int .i64)
def encV (n0 c0 n1 c1 n2 c2 : Nat) (mi a b bo : Int) : List Value := heatV 900 n0 c0 n1 c1 mi a b bo ++ heatV 901 n0 c0 n2 c2 mi a b bo
def zoneP (C : FuncId → List D → List D → Prop) (fr : FuncId) : SpecS := fun args bs K =>
  match args, bs with
  | .agg cells :: .agg z :: _, (_, .sym l0 _ _) :: (_, .sym l1 _ _) :: (_, .sym l2 _ _) :: _ =>
    match cells.toList, z.toList with
    | .slice _ n0 c0 :: .int _ mi :: .int _ a :: .int _ b :: .slice _ n1 c1 :: .int _ bo :: _ :: _ :: _ :: _ :: .slice _ n2 c2 :: _, .int _ set :: .int _ st :: _ =>
        eqL args [.agg (encV n0 c0 n1 c1 n2 c2 mi a b bo).toArray, .agg #[.int .i64 set, .int .i64 st]] ∧ eqB bs [(500, .sym l0 false 2), (900, .sym l1 true 1), (901, .sym l2 true 1)] ∧
          ∃ o1 o2 : List Value, GoodZone C fr l0 n0 mi a b bo l1 n1 l2 n2 set st o1 o2 ∧ K (.tuple #[]) [(900, .sym o1 true 1), (901, .sym o2 true 1)]
    | _, _ => False
  | _, _ => False
/-- the zones of a route, one after another -/
def encZ (rd : Int → Int) (up : Bool) (mi a b bo : Int) : List (Int × Int) → List Int → List Int
  | [], l => l
  | z :: r, l => encZ rd up mi a b bo r (encN rd up mi a b (rd z.1) (rd z.1) bo z.2.toNat l)
structure GoodRoute (C : FuncId → List D → List D → Prop) (fr : FuncId) (l0 : List Value) (n0 : Nat) (mi a b bo : Int) (l1 : List Value) (n1 : Nat) (l2 : List Value) (n2 : Nat) (l3 : List Value) (n3 : Nat) (o1 o2 : List Value) : Prop where
  h : ∃ (rd : Int → Int) (l m : List Int) (z : List (Int × Int)), RadOK C fr l0 n0 mi a b bo rd ∧ NodOK l ∧ NodOK m ∧ l1 = l.map (Value.int .i64) ∧ n1 = l.length ∧ l2 = m.map (Value.int .i64) ∧ n2 = m.length ∧ (l3 = z.flatMap fun p => [Value.int .i64 p.1, .int .i64 p.2]) ∧ n3 = z.length ∧ z.length ≤ 1000 ∧ (∀ p ∈ z, (0 ≤ p.1 ∧ p.1 ≤ 20000) ∧ 0 ≤ p.2 ∧ p.2 ≤ 1000) ∧ o1 = (encZ rd false mi a b bo z l).map (Value.int .i64) ∧ o2 = (encZ rd true mi a b bo z m).map (Value.int .i64)
def routeP (C : FuncId → List D → List D → Prop) (fr : FuncId) : SpecS := fun args bs K =>
  match args, bs with
  | .agg cells :: .slice _ n3 c3 :: _, (_, .sym l0 _ _) :: (_, .sym l1 _ _) :: (_, .sym l2 _ _) :: (_, .sym l3 _ _) :: _ =>
    match cells.toList with
    | .slice _ n0 c0 :: .int _ mi :: .int _ a :: .int _ b :: .slice _ n1 c1 :: .int _ bo :: _ :: _ :: _ :: _ :: .slice _ n2 c2 :: _ =>
        eqL args [.agg (encV n0 c0 n1 c1 n2 c2 mi a b bo).toArray, .slice (some ⟨501, 0, none⟩) n3 c3] ∧ eqB bs [(500, .sym l0 false 2), (900, .sym l1 true 1), (901, .sym l2 true 1), (501, .sym l3 false 2)] ∧
          ∃ o1 o2 : List Value, GoodRoute C fr l0 n0 mi a b bo l1 n1 l2 n2 l3 n3 o1 o2 ∧ K (.tuple #[]) [(900, .sym o1 true 1), (901, .sym o2 true 1)]
    | _ => False
  | _, _ => False
def copyRou : List D → Option (List D)
  | [.nil] => some [.sl 0 2 []]
  | [.sl n es cs] => some [.sl n es cs]
  | _ => none
def copyGoa : List D → Option (List D)
  | [.agg [.nil, a, b]] => some [.agg [.sl 0 2 [], a, b]]
  | [.agg [.sl n es cs, a, b]] => some [.agg [.sl n es cs, a, b]]
  | _ => none
end Go.Abs

/- What is left to show of each function, written out; the kernel reckons it. -/
namespace Go.Proofs.G5j
open Go Go.Abs Go.Proofs
set_option maxRecDepth 100000
set_option linter.unusedVariables false
def preT (C : Ct) : FuncId → Option Handler := fun g => if g == 37 then some (stateH (takeP C 57 80 81 58 84 78 3)) else if [44, 63, 41, 74, 61, 31, 8, 46, 21, 75, 66, 64, 65, 999999, 28, 15, 19, 14, 17, 10].contains g then some (saidH Try.prog C) else preH C g
def preZ (C : Ct) : FuncId → Option Handler := fun g => if g == 60 then some (stateH (zoneP C 57)) else if g == 43 then some (stateH (routeP C 57)) else preT C g
abbrev hT (C : Ct) : Handler := handlerX Try.prog (preT C) 12 6
abbrev hZ (C : Ct) : Handler := handlerX Try.prog (preZ C) 12 6
def preY (C : Ct) : FuncId → Option Handler := fun g => if g == 60 then some (stateH (zoneP C 57)) else preT C g
abbrev hY (C : Ct) : Handler := handlerX Try.prog (preY C) 12 6
def gtL (C : Ct) (L : AtLoop) (mi : Int) (a : Int) (b : Int) (bo : Int) (n0 : Nat) (c0 : Nat) (l0 : List Value) (n1 : Nat) (c1 : Nat) (l1 : List Value) (st : Int) (ra : Int) (rb : Int) (K : Value → Blocks → Prop) : Prop := wpFn Try.prog (hH C) L 0 37 #[.agg #[.slice (some ⟨500, 0, none⟩) n0 c0, .int .i64 mi, .int .i64 a, .int .i64 b, .slice (some ⟨900, 0, none⟩) n1 c1, .int .i64 bo], .int .i64 st, .func (.func 80) #[] #[.pointer (some ⟨901, 0, none⟩), .pointer (some ⟨902, 0, none⟩)]] (heapOf [(500, .sym l0 false 2), (900, .sym l1 true 1), (901, .cells [.func (.func 58) #[] #[.pointer (some ⟨903, 0, none⟩), .pointer (some ⟨904, 0, none⟩), .pointer (some ⟨905, 0, none⟩)]] 84 false 1), (902, .cells [.func (.func 58) #[] #[.pointer (some ⟨906, 0, none⟩), .pointer (some ⟨907, 0, none⟩), .pointer (some ⟨908, 0, none⟩)]] 84 false 1), (903, .cells [.int .i64 a] 3 false 1), (904, .cells [.int .i64 ra] 3 false 1), (905, .cells [.slice (some ⟨500, 0, none⟩) n0 c0, .int .i64 mi, .int .i64 a, .int .i64 b, .slice (some ⟨900, 0, none⟩) n1 c1, .int .i64 bo] 78 false 1), (906, .cells [.int .i64 b] 3 false 1), (907, .cells [.int .i64 rb] 3 false 1), (908, .cells [.slice (some ⟨500, 0, none⟩) n0 c0, .int .i64 mi, .int .i64 a, .int .i64 b, .slice (some ⟨900, 0, none⟩) n1 c1, .int .i64 bo] 78 false 1)]) (stateK K)
theorem gtL_text (C : Ct) (L : AtLoop) (mi : Int) (a : Int) (b : Int) (bo : Int) (n0 : Nat) (c0 : Nat) (l0 : List Go.Value) (n1 : Nat) (c1 : Nat) (l1 : List Go.Value) (st : Int) (ra : Int) (rb : Int) (K : Go.Value → Blocks → Prop) : gtL C L mi a b bo n0 c0 l0 n1 c1 l1 st ra rb K =
 (((Qv (vI (IntKind.wrap .i64 ((↑n1 : Int) - 1)))) ∧
 ((Qv (vI ((↑n1 : Int)))) ∧
 ((Qv (Sl 900 (n1) (c1))) ∧
 ((Qv (Pt 1000 4)) ∧
 ((Qv (Pt 1000 4)) ∧
 True))))) ∧
 (((Qv (vI (IntKind.wrap .i64 ((↑n1 : Int) - 1)))) ∧
 ((Qv (vI ((↑n1 : Int)))) ∧
 ((Qv (Sl 900 (n1) (c1))) ∧
 ((Qv (Pt 1000 4)) ∧
 ((Qv (Pt 1000 4)) ∧
 True))))) ∧
 (True ∧
 (L 0 [(Prod.mk 2 (Value.func (Go.Fn.func 80) [].toArray [(Pt 901 0), (Pt 902 0)].toArray)), (Prod.mk 3 (Pt 1000 0)), (Prod.mk 6 (vI 0)), (Prod.mk 7 (vI (IntKind.wrap .i64 ((↑n1 : Int) - 1)))), (Prod.mk 13 (vI st)), (Prod.mk 14 (vI 0))] [(Prod.mk 901 (AObj.cells [(Value.func (Go.Fn.func 58) [].toArray [(Pt 903 0), (Pt 904 0), (Pt 905 0)].toArray)] 84 false 1)), (Prod.mk 902 (AObj.cells [(Value.func (Go.Fn.func 58) [].toArray [(Pt 906 0), (Pt 907 0), (Pt 908 0)].toArray)] 84 false 1)), (Prod.mk 1000 (AObj.cells [(Sl 500 (n0) (c0)), (vI mi), (vI a), (vI b), (Sl 900 (n1) (c1)), (vI bo)] 78 false 1)), (Prod.mk 900 (AObj.sym (l1) true 1)), (Prod.mk 903 (AObj.cells [(vI a)] 3 false 1)), (Prod.mk 904 (AObj.cells [(vI ra)] 3 false 1)), (Prod.mk 905 (AObj.cells [(Sl 500 (n0) (c0)), (vI mi), (vI a), (vI b), (Sl 900 (n1) (c1)), (vI bo)] 78 false 1)), (Prod.mk 906 (AObj.cells [(vI b)] 3 false 1)), (Prod.mk 907 (AObj.cells [(vI rb)] 3 false 1)), (Prod.mk 908 (AObj.cells [(Sl 500 (n0) (c0)), (vI mi), (vI a), (vI b), (Sl 900 (n1) (c1)), (vI bo)] 78 false 1)), (Prod.mk 500 (AObj.sym (l0) false 2))])))) := by kernel_rfl
abbrev ztL1 (x0 : Int) (x1 : Int) (x2 : Int) (x3 : Int) (n4 : Nat) (c5 : Nat) (x6 : Int) (x7 : Int) (x8 : Int) (n9 : Nat) (c10 : Nat) (x11 : Int) (l12 : List Value) (x13 : Int) (x14 : Int) (n15 : Nat) (c16 : Nat) (x17 : Int) (x18 : Int) (x19 : Int) (n20 : Nat) (c21 : Nat) (x22 : Int) (x23 : Int) (x24 : Int) (n25 : Nat) (c26 : Nat) (x27 : Int) (x28 : Int) (x29 : Int) (n30 : Nat) (c31 : Nat) (x32 : Int) (l33 : List Value) : Slots × Blocks := ([(2, (Value.func (.func 80) #[] #[(Value.pointer (some ⟨901, 0, none⟩)), (Value.pointer (some ⟨902, 0, none⟩))])), (3, (Value.pointer (some ⟨1000, 0, none⟩))), (6, (Value.int .i64 x0)), (7, (Value.int .i64 x1)), (13, (Value.int .i64 x2)), (14, (Value.int .i64 x3))], [(901, (AObj.cells [(Value.func (.func 58) #[] #[(Value.pointer (some ⟨903, 0, none⟩)), (Value.pointer (some ⟨904, 0, none⟩)), (Value.pointer (some ⟨905, 0, none⟩))])] 84 false 1)), (902, (AObj.cells [(Value.func (.func 58) #[] #[(Value.pointer (some ⟨906, 0, none⟩)), (Value.pointer (some ⟨907, 0, none⟩)), (Value.pointer (some ⟨908, 0, none⟩))])] 84 false 1)), (1000, (AObj.cells [(Value.slice (some ⟨500, 0, none⟩) n4 c5), (Value.int .i64 x6), (Value.int .i64 x7), (Value.int .i64 x8), (Value.slice (some ⟨900, 0, none⟩) n9 c10), (Value.int .i64 x11)] 78 false 1)), (900, (AObj.sym l12 true 1)), (903, (AObj.cells [(Value.int .i64 x13)] 3 false 1)), (904, (AObj.cells [(Value.int .i64 x14)] 3 false 1)), (905, (AObj.cells [(Value.slice (some ⟨500, 0, none⟩) n15 c16), (Value.int .i64 x17), (Value.int .i64 x18), (Value.int .i64 x19), (Value.slice (some ⟨900, 0, none⟩) n20 c21), (Value.int .i64 x22)] 78 false 1)), (906, (AObj.cells [(Value.int .i64 x23)] 3 false 1)), (907, (AObj.cells [(Value.int .i64 x24)] 3 false 1)), (908, (AObj.cells [(Value.slice (some ⟨500, 0, none⟩) n25 c26), (Value.int .i64 x27), (Value.int .i64 x28), (Value.int .i64 x29), (Value.slice (some ⟨900, 0, none⟩) n30 c31), (Value.int .i64 x32)] 78 false 1)), (500, (AObj.sym l33 false 2))])
def rtL1 (C : Ct) (L : AtLoop) (x0 : Int) (x1 : Int) (x2 : Int) (x3 : Int) (n4 : Nat) (c5 : Nat) (x6 : Int) (x7 : Int) (x8 : Int) (n9 : Nat) (c10 : Nat) (x11 : Int) (l12 : List Value) (x13 : Int) (x14 : Int) (n15 : Nat) (c16 : Nat) (x17 : Int) (x18 : Int) (x19 : Int) (n20 : Nat) (c21 : Nat) (x22 : Int) (x23 : Int) (x24 : Int) (n25 : Nat) (c26 : Nat) (x27 : Int) (x28 : Int) (x29 : Int) (n30 : Nat) (c31 : Nat) (x32 : Int) (l33 : List Value) (B : Bx) (X : Xx) (K : Value → Blocks → Prop) : Prop := wpRound Try.prog (hH C) L 37 0 [(2, (Value.func (.func 80) #[] #[(Value.pointer (some ⟨901, 0, none⟩)), (Value.pointer (some ⟨902, 0, none⟩))])), (3, (Value.pointer (some ⟨1000, 0, none⟩))), (6, (Value.int .i64 x0)), (7, (Value.int .i64 x1)), (13, (Value.int .i64 x2)), (14, (Value.int .i64 x3))] [(901, (AObj.cells [(Value.func (.func 58) #[] #[(Value.pointer (some ⟨903, 0, none⟩)), (Value.pointer (some ⟨904, 0, none⟩)), (Value.pointer (some ⟨905, 0, none⟩))])] 84 false 1)), (902, (AObj.cells [(Value.func (.func 58) #[] #[(Value.pointer (some ⟨906, 0, none⟩)), (Value.pointer (some ⟨907, 0, none⟩)), (Value.pointer (some ⟨908, 0, none⟩))])] 84 false 1)), (1000, (AObj.cells [(Value.slice (some ⟨500, 0, none⟩) n4 c5), (Value.int .i64 x6), (Value.int .i64 x7), (Value.int .i64 x8), (Value.slice (some ⟨900, 0, none⟩) n9 c10), (Value.int .i64 x11)] 78 false 1)), (900, (AObj.sym l12 true 1)), (903, (AObj.cells [(Value.int .i64 x13)] 3 false 1)), (904, (AObj.cells [(Value.int .i64 x14)] 3 false 1)), (905, (AObj.cells [(Value.slice (some ⟨500, 0, none⟩) n15 c16), (Value.int .i64 x17), (Value.int .i64 x18), (Value.int .i64 x19), (Value.slice (some ⟨900, 0, none⟩) n20 c21), (Value.int .i64 x22)] 78 false 1)), (906, (AObj.cells [(Value.int .i64 x23)] 3 false 1)), (907, (AObj.cells [(Value.int .i64 x24)] 3 false 1)), (908, (AObj.cells [(Value.slice (some ⟨500, 0, none⟩) n25 c26), (Value.int .i64 x27), (Value.int .i64 x28), (Value.int .i64 x29), (Value.slice (some ⟨900, 0, none⟩) n30 c31), (Value.int .i64 x32)] 78 false 1)), (500, (AObj.sym l33 false 2))] B X (stateK K)
theorem rtL1_text (C : Ct) (L : AtLoop) (x0 : Int) (x1 : Int) (x2 : Int) (x3 : Int) (n4 : Nat) (c5 : Nat) (x6 : Int) (x7 : Int) (x8 : Int) (n9 : Nat) (c10 : Nat) (x11 : Int) (l12 : List Go.Value) (x13 : Int) (x14 : Int) (n15 : Nat) (c16 : Nat) (x17 : Int) (x18 : Int) (x19 : Int) (n20 : Nat) (c21 : Nat) (x22 : Int) (x23 : Int) (x24 : Int) (n25 : Nat) (c26 : Nat) (x27 : Int) (x28 : Int) (x29 : Int) (n30 : Nat) (c31 : Nat) (x32 : Int) (l33 : List Go.Value) (B : Bx) (X : Xx) (K : Go.Value → Blocks → Prop) : rtL1 C L x0 x1 x2 x3 n4 c5 x6 x7 x8 n9 c10 x11 l12 x13 x14 n15 c16 x17 x18 x19 n20 c21 x22 x23 x24 n25 c26 x27 x28 x29 n30 c31 x32 l33 B X K =
 (bcase (decide (x3 < x2))
 (bcase (decide (0 ≤ x0))
 (bcase (decide (x0 < (↑n9 : Int)))
 (∃ n1 : Int,
 ((At (l12) (0 + Int.toNat x0 * 1) 1 [(vI n1)]) ∧
 (((Qv (vI x11)) ∧
 ((Qv (Pt 1000 5)) ∧
 ((Qv (Pt 1000 4)) ∧
 ((∃ n2 : Int,
 ((At (l12) (0 + Int.toNat x0 * 1) 1 [(vI n2)]) ∧
 ((vI n2) = (vI n1)))) ∧
 ((bcase (decide (0 ≤ x0))
 (bcase (decide (x0 < (↑n9 : Int)))
 (Qv (Pt 900 (0 + Int.toNat x0 * 1)))
 False)
 False) ∧
 ((Qv (vI x0)) ∧
 ((Qv (Sl 900 (n9) (c10))) ∧
 ((Qv (Pt 1000 4)) ∧
 ((Qv (Pt 1000 4)) ∧
 ((Qv (Value.func (Go.Fn.func 80) [].toArray [(Pt 901 0), (Pt 902 0)].toArray)) ∧
 ((Qv (vI x0)) ∧
 ((Qv (Sl 900 (n9) (c10))) ∧
 ((Qv (Pt 1000 4)) ∧
 ((Qv (Pt 1000 4)) ∧
 True)))))))))))))) ∧
 (((Qv (vI x11)) ∧
 ((Qv (vI n1)) ∧
 ((Qv (Value.func (Go.Fn.func 58) [].toArray [(Pt 906 0), (Pt 907 0), (Pt 908 0)].toArray)) ∧
 ((Qv (vI x11)) ∧
 ((Qv (vI n1)) ∧
 ((Qv (Value.func (Go.Fn.func 58) [].toArray [(Pt 903 0), (Pt 904 0), (Pt 905 0)].toArray)) ∧
 True)))))) ∧
 (((Qv (vI n1)) ∧
 ((Qv (Value.agg [(Sl 500 (n15) (c16))].toArray)) ∧
 ((Qv (Pt 905 0)) ∧
 ((Qv (Pt 905 0)) ∧
 ((Qv (vI x14)) ∧
 ((Qv (vI x13)) ∧
 True)))))) ∧
 (bcase (decide (0 + n15 * 2 ≤ List.length l33))
 (∃ n2 : Int,
 ((Says C 57 [(D.agg [(D.sl (n15) 2 (List.take (n15 * 2) (List.drop 0 l33)))]), (D.val (vI n1))] [(D.val (vI n2))]) ∧
 (((Qv (vI (IntKind.wrap .i64 (x13 * IntKind.wrap .i64 (x14 - n2))))) ∧
 ((Qv (vI (IntKind.wrap .i64 (x14 - n2)))) ∧
 ((Qv (Pt 905 0)) ∧
 ((Qv (Pt 905 0)) ∧
 ((Qv (vI x14)) ∧
 ((Qv (vI x13)) ∧
 True)))))) ∧
 (True ∧
 (∃ n3 : Int,
 ((Says C 59 [(D.val (vI (IntKind.wrap .i64 (IntKind.wrap .i64 (x13 * IntKind.wrap .i64 (x14 - n2)) * x11)))), (D.val (vI 1000000))] [(D.val (vI n3))]) ∧
 (((Qv (vI x11)) ∧
 ((Qv (vI n1)) ∧
 ((Qv (Value.func (Go.Fn.func 58) [].toArray [(Pt 906 0), (Pt 907 0), (Pt 908 0)].toArray)) ∧
 True))) ∧
 (((Qv (vI n1)) ∧
 ((Qv (Value.agg [(Sl 500 (n25) (c26))].toArray)) ∧
 ((Qv (Pt 908 0)) ∧
 ((Qv (Pt 908 0)) ∧
 ((Qv (vI x24)) ∧
 ((Qv (vI x23)) ∧
 True)))))) ∧
 (bcase (decide (0 + n25 * 2 ≤ List.length l33))
 (∃ n5 : Int,
 ((Says C 57 [(D.agg [(D.sl (n25) 2 (List.take (n25 * 2) (List.drop 0 l33)))]), (D.val (vI n1))] [(D.val (vI n5))]) ∧
 (((Qv (vI (IntKind.wrap .i64 (x23 * IntKind.wrap .i64 (x24 - n5))))) ∧
 ((Qv (vI (IntKind.wrap .i64 (x24 - n5)))) ∧
 ((Qv (Pt 908 0)) ∧
 ((Qv (Pt 908 0)) ∧
 ((Qv (vI x24)) ∧
 ((Qv (vI x23)) ∧
 True)))))) ∧
 (True ∧
 (∃ n6 : Int,
 ((Says C 59 [(D.val (vI (IntKind.wrap .i64 (IntKind.wrap .i64 (x23 * IntKind.wrap .i64 (x24 - n5)) * x11)))), (D.val (vI 1000000))] [(D.val (vI n6))]) ∧
 (((Qv (vI (if IntKind.wrap .i64 (n1 + n6) < IntKind.wrap .i64 (n1 + n3) then IntKind.wrap .i64 (n1 + n6) else IntKind.wrap .i64 (n1 + n3)))) ∧
 True) ∧
 (True ∧
 (bcase (decide (0 ≤ x0))
 (bcase (decide (x0 < (↑n9 : Int)))
 (((bcase (decide (0 ≤ x0))
 (bcase (decide (x0 < (↑n9 : Int)))
 (Qv (Pt 900 (0 + Int.toNat x0 * 1)))
 False)
 False) ∧
 ((Qv (Pt 1000 5)) ∧
 ((Qv (Pt 1000 4)) ∧
 ((bcase (decide (0 ≤ x0))
 (bcase (decide (x0 < (↑n9 : Int)))
 (Qv (Pt 900 (0 + Int.toNat x0 * 1)))
 False)
 False) ∧
 ((Qv (vI x0)) ∧
 ((Qv (Sl 900 (n9) (c10))) ∧
 ((Qv (Pt 1000 4)) ∧
 ((Qv (Pt 1000 4)) ∧
 ((Qv (vI x0)) ∧
 ((Qv (Sl 900 (n9) (c10))) ∧
 ((Qv (Pt 1000 4)) ∧
 ((Qv (Pt 1000 4)) ∧
 True)))))))))))) ∧
 (bcase (decide (0 + Int.toNat x0 * 1 + 1 ≤ List.length l12))
 (True ∧
 (bcase (decide (0 ≤ x1))
 (bcase (decide (x1 < (↑n9 : Int)))
 (∃ n7 : Int,
 ((At (listSet (l12) (0 + Int.toNat x0 * 1) [(vI (if IntKind.wrap .i64 (n1 + n6) < IntKind.wrap .i64 (n1 + n3) then IntKind.wrap .i64 (n1 + n6) else IntKind.wrap .i64 (n1 + n3)))]) (0 + Int.toNat x1 * 1) 1 [(vI n7)]) ∧
 (((∃ n8 : Int,
 ((At (listSet (l12) (0 + Int.toNat x0 * 1) [(vI (if IntKind.wrap .i64 (n1 + n6) < IntKind.wrap .i64 (n1 + n3) then IntKind.wrap .i64 (n1 + n6) else IntKind.wrap .i64 (n1 + n3)))]) (0 + Int.toNat x1 * 1) 1 [(vI n8)]) ∧
 ((vI n8) = (vI n7)))) ∧
 ((bcase (decide (0 ≤ x1))
 (bcase (decide (x1 < (↑n9 : Int)))
 (Qv (Pt 900 (0 + Int.toNat x1 * 1)))
 False)
 False) ∧
 ((Qv (vI x1)) ∧
 ((Qv (Sl 900 (n9) (c10))) ∧
 ((Qv (Pt 1000 4)) ∧
 ((Qv (Pt 1000 4)) ∧
 ((Qv (Value.func (Go.Fn.func 80) [].toArray [(Pt 901 0), (Pt 902 0)].toArray)) ∧
 ((Qv (vI x1)) ∧
 ((Qv (Sl 900 (n9) (c10))) ∧
 ((Qv (Pt 1000 4)) ∧
 ((Qv (Pt 1000 4)) ∧
 True))))))))))) ∧
 (((Qv (vI 1000)) ∧
 ((Qv (vI n7)) ∧
 ((Qv (Value.func (Go.Fn.func 58) [].toArray [(Pt 906 0), (Pt 907 0), (Pt 908 0)].toArray)) ∧
 ((Qv (vI 1000)) ∧
 ((Qv (vI n7)) ∧
 ((Qv (Value.func (Go.Fn.func 58) [].toArray [(Pt 903 0), (Pt 904 0), (Pt 905 0)].toArray)) ∧
 True)))))) ∧
 (((Qv (vI n7)) ∧
 ((Qv (Value.agg [(Sl 500 (n15) (c16))].toArray)) ∧
 ((Qv (Pt 905 0)) ∧
 ((Qv (Pt 905 0)) ∧
 ((Qv (vI x14)) ∧
 ((Qv (vI x13)) ∧
 True)))))) ∧
 (bcase (decide (0 + n15 * 2 ≤ List.length l33))
 (∃ n8 : Int,
 ((Says C 57 [(D.agg [(D.sl (n15) 2 (List.take (n15 * 2) (List.drop 0 l33)))]), (D.val (vI n7))] [(D.val (vI n8))]) ∧
 (((Qv (vI (IntKind.wrap .i64 (x13 * IntKind.wrap .i64 (x14 - n8))))) ∧
 ((Qv (vI (IntKind.wrap .i64 (x14 - n8)))) ∧
 ((Qv (Pt 905 0)) ∧
 ((Qv (Pt 905 0)) ∧
 ((Qv (vI x14)) ∧
 ((Qv (vI x13)) ∧
 True)))))) ∧
 (True ∧
 (∃ n10 : Int,
 ((Says C 59 [(D.val (vI (IntKind.wrap .i64 (IntKind.wrap .i64 (x13 * IntKind.wrap .i64 (x14 - n8)) * 1000)))), (D.val (vI 1000000))] [(D.val (vI n10))]) ∧
 (((Qv (vI 1000)) ∧
 ((Qv (vI n7)) ∧
 ((Qv (Value.func (Go.Fn.func 58) [].toArray [(Pt 906 0), (Pt 907 0), (Pt 908 0)].toArray)) ∧
 True))) ∧
 (((Qv (vI n7)) ∧
 ((Qv (Value.agg [(Sl 500 (n25) (c26))].toArray)) ∧
 ((Qv (Pt 908 0)) ∧
 ((Qv (Pt 908 0)) ∧
 ((Qv (vI x24)) ∧
 ((Qv (vI x23)) ∧
 True)))))) ∧
 (bcase (decide (0 + n25 * 2 ≤ List.length l33))
 (∃ n11 : Int,
 ((Says C 57 [(D.agg [(D.sl (n25) 2 (List.take (n25 * 2) (List.drop 0 l33)))]), (D.val (vI n7))] [(D.val (vI n11))]) ∧
 (((Qv (vI (IntKind.wrap .i64 (x23 * IntKind.wrap .i64 (x24 - n11))))) ∧
 ((Qv (vI (IntKind.wrap .i64 (x24 - n11)))) ∧
 ((Qv (Pt 908 0)) ∧
 ((Qv (Pt 908 0)) ∧
 ((Qv (vI x24)) ∧
 ((Qv (vI x23)) ∧
 True)))))) ∧
 (True ∧
 (∃ n12 : Int,
 ((Says C 59 [(D.val (vI (IntKind.wrap .i64 (IntKind.wrap .i64 (x23 * IntKind.wrap .i64 (x24 - n11)) * 1000)))), (D.val (vI 1000000))] [(D.val (vI n12))]) ∧
 (((Qv (vI (if IntKind.wrap .i64 (n7 + n12) < IntKind.wrap .i64 (n7 + n10) then IntKind.wrap .i64 (n7 + n12) else IntKind.wrap .i64 (n7 + n10)))) ∧
 True) ∧
 (True ∧
 (bcase (decide (0 ≤ x1))
 (bcase (decide (x1 < (↑n9 : Int)))
 (((bcase (decide (0 ≤ x1))
 (bcase (decide (x1 < (↑n9 : Int)))
 (Qv (Pt 900 (0 + Int.toNat x1 * 1)))
 False)
 False) ∧
 ((bcase (decide (0 ≤ x1))
 (bcase (decide (x1 < (↑n9 : Int)))
 (Qv (Pt 900 (0 + Int.toNat x1 * 1)))
 False)
 False) ∧
 ((Qv (vI x1)) ∧
 ((Qv (Sl 900 (n9) (c10))) ∧
 ((Qv (Pt 1000 4)) ∧
 ((Qv (Pt 1000 4)) ∧
 ((Qv (vI x1)) ∧
 ((Qv (Sl 900 (n9) (c10))) ∧
 ((Qv (Pt 1000 4)) ∧
 ((Qv (Pt 1000 4)) ∧
 True)))))))))) ∧
 (bcase (decide (0 + Int.toNat x1 * 1 + 1 ≤ List.length (listSet l12 (0 + Int.toNat x0 * 1) [vI (if IntKind.wrap .i64 (n1 + n6) < IntKind.wrap .i64 (n1 + n3) then IntKind.wrap .i64 (n1 + n6) else IntKind.wrap .i64 (n1 + n3))])))
 (True ∧
 (∃ l1 : List Int,
 (((listSet (listSet (l12) (0 + Int.toNat x0 * 1) [(vI (if IntKind.wrap .i64 (n1 + n6) < IntKind.wrap .i64 (n1 + n3) then IntKind.wrap .i64 (n1 + n6) else IntKind.wrap .i64 (n1 + n3)))]) (0 + Int.toNat x1 * 1) [(vI (if IntKind.wrap .i64 (n7 + n12) < IntKind.wrap .i64 (n7 + n10) then IntKind.wrap .i64 (n7 + n12) else IntKind.wrap .i64 (n7 + n10)))]) = (List.map (vI) l1)) ∧
 (((n9) = (List.length l1)) ∧
 ((2 ≤ (List.length l1)) ∧
 (((List.length l1) ≤ 1000) ∧
 (((0 : Int) ≤ (x6)) ∧
 (((x6) ≤ (50 : Int)) ∧
 ((GoodNums l1) ∧
 (B [(Prod.mk 2 (Value.func (Go.Fn.func 80) [].toArray [(Pt 901 0), (Pt 902 0)].toArray)), (Prod.mk 3 (Pt 1000 0)), (Prod.mk 6 (vI x0)), (Prod.mk 7 (vI x1)), (Prod.mk 13 (vI x2)), (Prod.mk 14 (vI (IntKind.wrap .i64 (x3 + 1))))] [(Prod.mk 901 (AObj.cells [(Value.func (Go.Fn.func 58) [].toArray [(Pt 903 0), (Pt 904 0), (Pt 905 0)].toArray)] 84 false 1)), (Prod.mk 902 (AObj.cells [(Value.func (Go.Fn.func 58) [].toArray [(Pt 906 0), (Pt 907 0), (Pt 908 0)].toArray)] 84 false 1)), (Prod.mk 1000 (AObj.cells [(Sl 500 (n4) (c5)), (vI x6), (vI x7), (vI x8), (Sl 900 (n9) (c10)), (vI x11)] 78 false 1)), (Prod.mk 900 (AObj.sym (List.map (vI) (mixL x6 l1)) true 1)), (Prod.mk 903 (AObj.cells [(vI x13)] 3 false 1)), (Prod.mk 904 (AObj.cells [(vI x14)] 3 false 1)), (Prod.mk 905 (AObj.cells [(Sl 500 (n15) (c16)), (vI x17), (vI x18), (vI x19), (Sl 900 (n20) (c21)), (vI x22)] 78 false 1)), (Prod.mk 906 (AObj.cells [(vI x23)] 3 false 1)), (Prod.mk 907 (AObj.cells [(vI x24)] 3 false 1)), (Prod.mk 908 (AObj.cells [(Sl 500 (n25) (c26)), (vI x27), (vI x28), (vI x29), (Sl 900 (n30) (c31)), (vI x32)] 78 false 1)), (Prod.mk 500 (AObj.sym (l33) false 2))]))))))))))
 False))
 False)
 False)))))))))
 False)))))))))
 False))))))
 False)
 False))
 False))
 False)
 False)))))))))
 False)))))))))
 False))))))
 False)
 False)
 (X 0 [] [(Prod.mk 900 (AObj.sym (l12) true 1)), (Prod.mk 901 (AObj.cells [(Value.func (Go.Fn.func 58) [].toArray [(Pt 903 0), (Pt 904 0), (Pt 905 0)].toArray)] 84 false 1)), (Prod.mk 902 (AObj.cells [(Value.func (Go.Fn.func 58) [].toArray [(Pt 906 0), (Pt 907 0), (Pt 908 0)].toArray)] 84 false 1)), (Prod.mk 903 (AObj.cells [(vI x13)] 3 false 1)), (Prod.mk 904 (AObj.cells [(vI x14)] 3 false 1)), (Prod.mk 905 (AObj.cells [(Sl 500 (n15) (c16)), (vI x17), (vI x18), (vI x19), (Sl 900 (n20) (c21)), (vI x22)] 78 false 1)), (Prod.mk 906 (AObj.cells [(vI x23)] 3 false 1)), (Prod.mk 907 (AObj.cells [(vI x24)] 3 false 1)), (Prod.mk 908 (AObj.cells [(Sl 500 (n25) (c26)), (vI x27), (vI x28), (vI x29), (Sl 900 (n30) (c31)), (vI x32)] 78 false 1)), (Prod.mk 500 (AObj.sym (l33) false 2))])) := by kernel_rfl
def ntL2 (C : Ct) (L : AtLoop) (l0 : List Value) (x1 : Int) (x2 : Int) (n3 : Nat) (c4 : Nat) (x5 : Int) (x6 : Int) (x7 : Int) (n8 : Nat) (c9 : Nat) (x10 : Int) (x11 : Int) (x12 : Int) (n13 : Nat) (c14 : Nat) (x15 : Int) (x16 : Int) (x17 : Int) (n18 : Nat) (c19 : Nat) (x20 : Int) (l21 : List Value) (K : Value → Blocks → Prop) : Prop := wpNext Try.prog (hH C) L 37 0 .normal [] [(900, (AObj.sym l0 true 1)), (901, (AObj.cells [(Value.func (.func 58) #[] #[(Value.pointer (some ⟨903, 0, none⟩)), (Value.pointer (some ⟨904, 0, none⟩)), (Value.pointer (some ⟨905, 0, none⟩))])] 84 false 1)), (902, (AObj.cells [(Value.func (.func 58) #[] #[(Value.pointer (some ⟨906, 0, none⟩)), (Value.pointer (some ⟨907, 0, none⟩)), (Value.pointer (some ⟨908, 0, none⟩))])] 84 false 1)), (903, (AObj.cells [(Value.int .i64 x1)] 3 false 1)), (904, (AObj.cells [(Value.int .i64 x2)] 3 false 1)), (905, (AObj.cells [(Value.slice (some ⟨500, 0, none⟩) n3 c4), (Value.int .i64 x5), (Value.int .i64 x6), (Value.int .i64 x7), (Value.slice (some ⟨900, 0, none⟩) n8 c9), (Value.int .i64 x10)] 78 false 1)), (906, (AObj.cells [(Value.int .i64 x11)] 3 false 1)), (907, (AObj.cells [(Value.int .i64 x12)] 3 false 1)), (908, (AObj.cells [(Value.slice (some ⟨500, 0, none⟩) n13 c14), (Value.int .i64 x15), (Value.int .i64 x16), (Value.int .i64 x17), (Value.slice (some ⟨900, 0, none⟩) n18 c19), (Value.int .i64 x20)] 78 false 1)), (500, (AObj.sym l21 false 2))] (stateK K)
theorem ntL2_text (C : Ct) (L : AtLoop) (l0 : List Go.Value) (x1 : Int) (x2 : Int) (n3 : Nat) (c4 : Nat) (x5 : Int) (x6 : Int) (x7 : Int) (n8 : Nat) (c9 : Nat) (x10 : Int) (x11 : Int) (x12 : Int) (n13 : Nat) (c14 : Nat) (x15 : Int) (x16 : Int) (x17 : Int) (n18 : Nat) (c19 : Nat) (x20 : Int) (l21 : List Go.Value) (K : Go.Value → Blocks → Prop) : ntL2 C L l0 x1 x2 n3 c4 x5 x6 x7 n8 c9 x10 x11 x12 n13 c14 x15 x16 x17 n18 c19 x20 l21 K =
 (K (Value.tuple [].toArray) [(Prod.mk 900 (AObj.sym (l0) true 1)), (Prod.mk 901 (AObj.cells [(Value.func (Go.Fn.func 58) [].toArray [(Pt 903 0), (Pt 904 0), (Pt 905 0)].toArray)] 84 false 1)), (Prod.mk 902 (AObj.cells [(Value.func (Go.Fn.func 58) [].toArray [(Pt 906 0), (Pt 907 0), (Pt 908 0)].toArray)] 84 false 1)), (Prod.mk 903 (AObj.cells [(vI x1)] 3 false 1)), (Prod.mk 904 (AObj.cells [(vI x2)] 3 false 1)), (Prod.mk 905 (AObj.cells [(Sl 500 (n3) (c4)), (vI x5), (vI x6), (vI x7), (Sl 900 (n8) (c9)), (vI x10)] 78 false 1)), (Prod.mk 906 (AObj.cells [(vI x11)] 3 false 1)), (Prod.mk 907 (AObj.cells [(vI x12)] 3 false 1)), (Prod.mk 908 (AObj.cells [(Sl 500 (n13) (c14)), (vI x15), (vI x16), (vI x17), (Sl 900 (n18) (c19)), (vI x20)] 78 false 1)), (Prod.mk 500 (AObj.sym (l21) false 2))]) := by kernel_rfl
def gtH (C : Ct) (L : AtLoop) (mi : Int) (a : Int) (b : Int) (bo : Int) (n0 : Nat) (c0 : Nat) (l0 : List Value) (n1 : Nat) (c1 : Nat) (l1 : List Value) (st : Int) (ra : Int) (rb : Int) (K : Value → Blocks → Prop) : Prop := wpFn Try.prog (hH C) L 0 37 #[.agg #[.slice (some ⟨500, 0, none⟩) n0 c0, .int .i64 mi, .int .i64 a, .int .i64 b, .slice (some ⟨900, 0, none⟩) n1 c1, .int .i64 bo], .int .i64 st, .func (.func 81) #[] #[.pointer (some ⟨901, 0, none⟩), .pointer (some ⟨902, 0, none⟩)]] (heapOf [(500, .sym l0 false 2), (900, .sym l1 true 1), (901, .cells [.func (.func 58) #[] #[.pointer (some ⟨903, 0, none⟩), .pointer (some ⟨904, 0, none⟩), .pointer (some ⟨905, 0, none⟩)]] 84 false 1), (902, .cells [.func (.func 58) #[] #[.pointer (some ⟨906, 0, none⟩), .pointer (some ⟨907, 0, none⟩), .pointer (some ⟨908, 0, none⟩)]] 84 false 1), (903, .cells [.int .i64 a] 3 false 1), (904, .cells [.int .i64 ra] 3 false 1), (905, .cells [.slice (some ⟨500, 0, none⟩) n0 c0, .int .i64 mi, .int .i64 a, .int .i64 b, .slice (some ⟨900, 0, none⟩) n1 c1, .int .i64 bo] 78 false 1), (906, .cells [.int .i64 b] 3 false 1), (907, .cells [.int .i64 rb] 3 false 1), (908, .cells [.slice (some ⟨500, 0, none⟩) n0 c0, .int .i64 mi, .int .i64 a, .int .i64 b, .slice (some ⟨900, 0, none⟩) n1 c1, .int .i64 bo] 78 false 1)]) (stateK K)
theorem gtH_text (C : Ct) (L : AtLoop) (mi : Int) (a : Int) (b : Int) (bo : Int) (n0 : Nat) (c0 : Nat) (l0 : List Go.Value) (n1 : Nat) (c1 : Nat) (l1 : List Go.Value) (st : Int) (ra : Int) (rb : Int) (K : Go.Value → Blocks → Prop) : gtH C L mi a b bo n0 c0 l0 n1 c1 l1 st ra rb K =
 (((Qv (vI (IntKind.wrap .i64 ((↑n1 : Int) - 1)))) ∧
 ((Qv (vI ((↑n1 : Int)))) ∧
 ((Qv (Sl 900 (n1) (c1))) ∧
 ((Qv (Pt 1000 4)) ∧
 ((Qv (Pt 1000 4)) ∧
 True))))) ∧
 (((Qv (vI (IntKind.wrap .i64 ((↑n1 : Int) - 1)))) ∧
 ((Qv (vI ((↑n1 : Int)))) ∧
 ((Qv (Sl 900 (n1) (c1))) ∧
 ((Qv (Pt 1000 4)) ∧
 ((Qv (Pt 1000 4)) ∧
 True))))) ∧
 (True ∧
 (L 0 [(Prod.mk 2 (Value.func (Go.Fn.func 81) [].toArray [(Pt 901 0), (Pt 902 0)].toArray)), (Prod.mk 3 (Pt 1000 0)), (Prod.mk 6 (vI 0)), (Prod.mk 7 (vI (IntKind.wrap .i64 ((↑n1 : Int) - 1)))), (Prod.mk 13 (vI st)), (Prod.mk 14 (vI 0))] [(Prod.mk 901 (AObj.cells [(Value.func (Go.Fn.func 58) [].toArray [(Pt 903 0), (Pt 904 0), (Pt 905 0)].toArray)] 84 false 1)), (Prod.mk 902 (AObj.cells [(Value.func (Go.Fn.func 58) [].toArray [(Pt 906 0), (Pt 907 0), (Pt 908 0)].toArray)] 84 false 1)), (Prod.mk 1000 (AObj.cells [(Sl 500 (n0) (c0)), (vI mi), (vI a), (vI b), (Sl 900 (n1) (c1)), (vI bo)] 78 false 1)), (Prod.mk 900 (AObj.sym (l1) true 1)), (Prod.mk 903 (AObj.cells [(vI a)] 3 false 1)), (Prod.mk 904 (AObj.cells [(vI ra)] 3 false 1)), (Prod.mk 905 (AObj.cells [(Sl 500 (n0) (c0)), (vI mi), (vI a), (vI b), (Sl 900 (n1) (c1)), (vI bo)] 78 false 1)), (Prod.mk 906 (AObj.cells [(vI b)] 3 false 1)), (Prod.mk 907 (AObj.cells [(vI rb)] 3 false 1)), (Prod.mk 908 (AObj.cells [(Sl 500 (n0) (c0)), (vI mi), (vI a), (vI b), (Sl 900 (n1) (c1)), (vI bo)] 78 false 1)), (Prod.mk 500 (AObj.sym (l0) false 2))])))) := by kernel_rfl
abbrev ztH1 (x0 : Int) (x1 : Int) (x2 : Int) (x3 : Int) (n4 : Nat) (c5 : Nat) (x6 : Int) (x7 : Int) (x8 : Int) (n9 : Nat) (c10 : Nat) (x11 : Int) (l12 : List Value) (x13 : Int) (x14 : Int) (n15 : Nat) (c16 : Nat) (x17 : Int) (x18 : Int) (x19 : Int) (n20 : Nat) (c21 : Nat) (x22 : Int) (x23 : Int) (x24 : Int) (n25 : Nat) (c26 : Nat) (x27 : Int) (x28 : Int) (x29 : Int) (n30 : Nat) (c31 : Nat) (x32 : Int) (l33 : List Value) : Slots × Blocks := ([(2, (Value.func (.func 81) #[] #[(Value.pointer (some ⟨901, 0, none⟩)), (Value.pointer (some ⟨902, 0, none⟩))])), (3, (Value.pointer (some ⟨1000, 0, none⟩))), (6, (Value.int .i64 x0)), (7, (Value.int .i64 x1)), (13, (Value.int .i64 x2)), (14, (Value.int .i64 x3))], [(901, (AObj.cells [(Value.func (.func 58) #[] #[(Value.pointer (some ⟨903, 0, none⟩)), (Value.pointer (some ⟨904, 0, none⟩)), (Value.pointer (some ⟨905, 0, none⟩))])] 84 false 1)), (902, (AObj.cells [(Value.func (.func 58) #[] #[(Value.pointer (some ⟨906, 0, none⟩)), (Value.pointer (some ⟨907, 0, none⟩)), (Value.pointer (some ⟨908, 0, none⟩))])] 84 false 1)), (1000, (AObj.cells [(Value.slice (some ⟨500, 0, none⟩) n4 c5), (Value.int .i64 x6), (Value.int .i64 x7), (Value.int .i64 x8), (Value.slice (some ⟨900, 0, none⟩) n9 c10), (Value.int .i64 x11)] 78 false 1)), (900, (AObj.sym l12 true 1)), (903, (AObj.cells [(Value.int .i64 x13)] 3 false 1)), (904, (AObj.cells [(Value.int .i64 x14)] 3 false 1)), (905, (AObj.cells [(Value.slice (some ⟨500, 0, none⟩) n15 c16), (Value.int .i64 x17), (Value.int .i64 x18), (Value.int .i64 x19), (Value.slice (some ⟨900, 0, none⟩) n20 c21), (Value.int .i64 x22)] 78 false 1)), (906, (AObj.cells [(Value.int .i64 x23)] 3 false 1)), (907, (AObj.cells [(Value.int .i64 x24)] 3 false 1)), (908, (AObj.cells [(Value.slice (some ⟨500, 0, none⟩) n25 c26), (Value.int .i64 x27), (Value.int .i64 x28), (Value.int .i64 x29), (Value.slice (some ⟨900, 0, none⟩) n30 c31), (Value.int .i64 x32)] 78 false 1)), (500, (AObj.sym l33 false 2))])
def rtH1 (C : Ct) (L : AtLoop) (x0 : Int) (x1 : Int) (x2 : Int) (x3 : Int) (n4 : Nat) (c5 : Nat) (x6 : Int) (x7 : Int) (x8 : Int) (n9 : Nat) (c10 : Nat) (x11 : Int) (l12 : List Value) (x13 : Int) (x14 : Int) (n15 : Nat) (c16 : Nat) (x17 : Int) (x18 : Int) (x19 : Int) (n20 : Nat) (c21 : Nat) (x22 : Int) (x23 : Int) (x24 : Int) (n25 : Nat) (c26 : Nat) (x27 : Int) (x28 : Int) (x29 : Int) (n30 : Nat) (c31 : Nat) (x32 : Int) (l33 : List Value) (B : Bx) (X : Xx) (K : Value → Blocks → Prop) : Prop := wpRound Try.prog (hH C) L 37 0 [(2, (Value.func (.func 81) #[] #[(Value.pointer (some ⟨901, 0, none⟩)), (Value.pointer (some ⟨902, 0, none⟩))])), (3, (Value.pointer (some ⟨1000, 0, none⟩))), (6, (Value.int .i64 x0)), (7, (Value.int .i64 x1)), (13, (Value.int .i64 x2)), (14, (Value.int .i64 x3))] [(901, (AObj.cells [(Value.func (.func 58) #[] #[(Value.pointer (some ⟨903, 0, none⟩)), (Value.pointer (some ⟨904, 0, none⟩)), (Value.pointer (some ⟨905, 0, none⟩))])] 84 false 1)), (902, (AObj.cells [(Value.func (.func 58) #[] #[(Value.pointer (some ⟨906, 0, none⟩)), (Value.pointer (some ⟨907, 0, none⟩)), (Value.pointer (some ⟨908, 0, none⟩))])] 84 false 1)), (1000, (AObj.cells [(Value.slice (some ⟨500, 0, none⟩) n4 c5), (Value.int .i64 x6), (Value.int .i64 x7), (Value.int .i64 x8), (Value.slice (some ⟨900, 0, none⟩) n9 c10), (Value.int .i64 x11)] 78 false 1)), (900, (AObj.sym l12 true 1)), (903, (AObj.cells [(Value.int .i64 x13)] 3 false 1)), (904, (AObj.cells [(Value.int .i64 x14)] 3 false 1)), (905, (AObj.cells [(Value.slice (some ⟨500, 0, none⟩) n15 c16), (Value.int .i64 x17), (Value.int .i64 x18), (Value.int .i64 x19), (Value.slice (some ⟨900, 0, none⟩) n20 c21), (Value.int .i64 x22)] 78 false 1)), (906, (AObj.cells [(Value.int .i64 x23)] 3 false 1)), (907, (AObj.cells [(Value.int .i64 x24)] 3 false 1)), (908, (AObj.cells [(Value.slice (some ⟨500, 0, none⟩) n25 c26), (Value.int .i64 x27), (Value.int .i64 x28), (Value.int .i64 x29), (Value.slice (some ⟨900, 0, none⟩) n30 c31), (Value.int .i64 x32)] 78 false 1)), (500, (AObj.sym l33 false 2))] B X (stateK K)
theorem rtH1_text (C : Ct) (L : AtLoop) (x0 : Int) (x1 : Int) (x2 : Int) (x3 : Int) (n4 : Nat) (c5 : Nat) (x6 : Int) (x7 : Int) (x8 : Int) (n9 : Nat) (c10 : Nat) (x11 : Int) (l12 : List Go.Value) (x13 : Int) (x14 : Int) (n15 : Nat) (c16 : Nat) (x17 : Int) (x18 : Int) (x19 : Int) (n20 : Nat) (c21 : Nat) (x22 : Int) (x23 : Int) (x24 : Int) (n25 : Nat) (c26 : Nat) (x27 : Int) (x28 : Int) (x29 : Int) (n30 : Nat) (c31 : Nat) (x32 : Int) (l33 : List Go.Value) (B : Bx) (X : Xx) (K : Go.Value → Blocks → Prop) : rtH1 C L x0 x1 x2 x3 n4 c5 x6 x7 x8 n9 c10 x11 l12 x13 x14 n15 c16 x17 x18 x19 n20 c21 x22 x23 x24 n25 c26 x27 x28 x29 n30 c31 x32 l33 B X K =
 (bcase (decide (x3 < x2))
 (bcase (decide (0 ≤ x0))
 (bcase (decide (x0 < (↑n9 : Int)))
 (∃ n1 : Int,
 ((At (l12) (0 + Int.toNat x0 * 1) 1 [(vI n1)]) ∧
 (((Qv (vI x11)) ∧
 ((Qv (Pt 1000 5)) ∧
 ((Qv (Pt 1000 4)) ∧
 ((∃ n2 : Int,
 ((At (l12) (0 + Int.toNat x0 * 1) 1 [(vI n2)]) ∧
 ((vI n2) = (vI n1)))) ∧
 ((bcase (decide (0 ≤ x0))
 (bcase (decide (x0 < (↑n9 : Int)))
 (Qv (Pt 900 (0 + Int.toNat x0 * 1)))
 False)
 False) ∧
 ((Qv (vI x0)) ∧
 ((Qv (Sl 900 (n9) (c10))) ∧
 ((Qv (Pt 1000 4)) ∧
 ((Qv (Pt 1000 4)) ∧
 ((Qv (Value.func (Go.Fn.func 81) [].toArray [(Pt 901 0), (Pt 902 0)].toArray)) ∧
 ((Qv (vI x0)) ∧
 ((Qv (Sl 900 (n9) (c10))) ∧
 ((Qv (Pt 1000 4)) ∧
 ((Qv (Pt 1000 4)) ∧
 True)))))))))))))) ∧
 (((Qv (vI x11)) ∧
 ((Qv (vI n1)) ∧
 ((Qv (Value.func (Go.Fn.func 58) [].toArray [(Pt 906 0), (Pt 907 0), (Pt 908 0)].toArray)) ∧
 ((Qv (vI x11)) ∧
 ((Qv (vI n1)) ∧
 ((Qv (Value.func (Go.Fn.func 58) [].toArray [(Pt 903 0), (Pt 904 0), (Pt 905 0)].toArray)) ∧
 True)))))) ∧
 (((Qv (vI n1)) ∧
 ((Qv (Value.agg [(Sl 500 (n15) (c16))].toArray)) ∧
 ((Qv (Pt 905 0)) ∧
 ((Qv (Pt 905 0)) ∧
 ((Qv (vI x14)) ∧
 ((Qv (vI x13)) ∧
 True)))))) ∧
 (bcase (decide (0 + n15 * 2 ≤ List.length l33))
 (∃ n2 : Int,
 ((Says C 57 [(D.agg [(D.sl (n15) 2 (List.take (n15 * 2) (List.drop 0 l33)))]), (D.val (vI n1))] [(D.val (vI n2))]) ∧
 (((Qv (vI (IntKind.wrap .i64 (x13 * IntKind.wrap .i64 (x14 - n2))))) ∧
 ((Qv (vI (IntKind.wrap .i64 (x14 - n2)))) ∧
 ((Qv (Pt 905 0)) ∧
 ((Qv (Pt 905 0)) ∧
 ((Qv (vI x14)) ∧
 ((Qv (vI x13)) ∧
 True)))))) ∧
 (True ∧
 (∃ n3 : Int,
 ((Says C 59 [(D.val (vI (IntKind.wrap .i64 (IntKind.wrap .i64 (x13 * IntKind.wrap .i64 (x14 - n2)) * x11)))), (D.val (vI 1000000))] [(D.val (vI n3))]) ∧
 (((Qv (vI x11)) ∧
 ((Qv (vI n1)) ∧
 ((Qv (Value.func (Go.Fn.func 58) [].toArray [(Pt 906 0), (Pt 907 0), (Pt 908 0)].toArray)) ∧
 True))) ∧
 (((Qv (vI n1)) ∧
 ((Qv (Value.agg [(Sl 500 (n25) (c26))].toArray)) ∧
 ((Qv (Pt 908 0)) ∧
 ((Qv (Pt 908 0)) ∧
 ((Qv (vI x24)) ∧
 ((Qv (vI x23)) ∧
 True)))))) ∧
 (bcase (decide (0 + n25 * 2 ≤ List.length l33))
 (∃ n5 : Int,
 ((Says C 57 [(D.agg [(D.sl (n25) 2 (List.take (n25 * 2) (List.drop 0 l33)))]), (D.val (vI n1))] [(D.val (vI n5))]) ∧
 (((Qv (vI (IntKind.wrap .i64 (x23 * IntKind.wrap .i64 (x24 - n5))))) ∧
 ((Qv (vI (IntKind.wrap .i64 (x24 - n5)))) ∧
 ((Qv (Pt 908 0)) ∧
 ((Qv (Pt 908 0)) ∧
 ((Qv (vI x24)) ∧
 ((Qv (vI x23)) ∧
 True)))))) ∧
 (True ∧
 (∃ n6 : Int,
 ((Says C 59 [(D.val (vI (IntKind.wrap .i64 (IntKind.wrap .i64 (x23 * IntKind.wrap .i64 (x24 - n5)) * x11)))), (D.val (vI 1000000))] [(D.val (vI n6))]) ∧
 (((Qv (vI (if IntKind.wrap .i64 (n1 + n6) > IntKind.wrap .i64 (n1 + n3) then IntKind.wrap .i64 (n1 + n6) else IntKind.wrap .i64 (n1 + n3)))) ∧
 True) ∧
 (True ∧
 (bcase (decide (0 ≤ x0))
 (bcase (decide (x0 < (↑n9 : Int)))
 (((bcase (decide (0 ≤ x0))
 (bcase (decide (x0 < (↑n9 : Int)))
 (Qv (Pt 900 (0 + Int.toNat x0 * 1)))
 False)
 False) ∧
 ((Qv (Pt 1000 5)) ∧
 ((Qv (Pt 1000 4)) ∧
 ((bcase (decide (0 ≤ x0))
 (bcase (decide (x0 < (↑n9 : Int)))
 (Qv (Pt 900 (0 + Int.toNat x0 * 1)))
 False)
 False) ∧
 ((Qv (vI x0)) ∧
 ((Qv (Sl 900 (n9) (c10))) ∧
 ((Qv (Pt 1000 4)) ∧
 ((Qv (Pt 1000 4)) ∧
 ((Qv (vI x0)) ∧
 ((Qv (Sl 900 (n9) (c10))) ∧
 ((Qv (Pt 1000 4)) ∧
 ((Qv (Pt 1000 4)) ∧
 True)))))))))))) ∧
 (bcase (decide (0 + Int.toNat x0 * 1 + 1 ≤ List.length l12))
 (True ∧
 (bcase (decide (0 ≤ x1))
 (bcase (decide (x1 < (↑n9 : Int)))
 (∃ n7 : Int,
 ((At (listSet (l12) (0 + Int.toNat x0 * 1) [(vI (if IntKind.wrap .i64 (n1 + n6) > IntKind.wrap .i64 (n1 + n3) then IntKind.wrap .i64 (n1 + n6) else IntKind.wrap .i64 (n1 + n3)))]) (0 + Int.toNat x1 * 1) 1 [(vI n7)]) ∧
 (((∃ n8 : Int,
 ((At (listSet (l12) (0 + Int.toNat x0 * 1) [(vI (if IntKind.wrap .i64 (n1 + n6) > IntKind.wrap .i64 (n1 + n3) then IntKind.wrap .i64 (n1 + n6) else IntKind.wrap .i64 (n1 + n3)))]) (0 + Int.toNat x1 * 1) 1 [(vI n8)]) ∧
 ((vI n8) = (vI n7)))) ∧
 ((bcase (decide (0 ≤ x1))
 (bcase (decide (x1 < (↑n9 : Int)))
 (Qv (Pt 900 (0 + Int.toNat x1 * 1)))
 False)
 False) ∧
 ((Qv (vI x1)) ∧
 ((Qv (Sl 900 (n9) (c10))) ∧
 ((Qv (Pt 1000 4)) ∧
 ((Qv (Pt 1000 4)) ∧
 ((Qv (Value.func (Go.Fn.func 81) [].toArray [(Pt 901 0), (Pt 902 0)].toArray)) ∧
 ((Qv (vI x1)) ∧
 ((Qv (Sl 900 (n9) (c10))) ∧
 ((Qv (Pt 1000 4)) ∧
 ((Qv (Pt 1000 4)) ∧
 True))))))))))) ∧
 (((Qv (vI 1000)) ∧
 ((Qv (vI n7)) ∧
 ((Qv (Value.func (Go.Fn.func 58) [].toArray [(Pt 906 0), (Pt 907 0), (Pt 908 0)].toArray)) ∧
 ((Qv (vI 1000)) ∧
 ((Qv (vI n7)) ∧
 ((Qv (Value.func (Go.Fn.func 58) [].toArray [(Pt 903 0), (Pt 904 0), (Pt 905 0)].toArray)) ∧
 True)))))) ∧
 (((Qv (vI n7)) ∧
 ((Qv (Value.agg [(Sl 500 (n15) (c16))].toArray)) ∧
 ((Qv (Pt 905 0)) ∧
 ((Qv (Pt 905 0)) ∧
 ((Qv (vI x14)) ∧
 ((Qv (vI x13)) ∧
 True)))))) ∧
 (bcase (decide (0 + n15 * 2 ≤ List.length l33))
 (∃ n8 : Int,
 ((Says C 57 [(D.agg [(D.sl (n15) 2 (List.take (n15 * 2) (List.drop 0 l33)))]), (D.val (vI n7))] [(D.val (vI n8))]) ∧
 (((Qv (vI (IntKind.wrap .i64 (x13 * IntKind.wrap .i64 (x14 - n8))))) ∧
 ((Qv (vI (IntKind.wrap .i64 (x14 - n8)))) ∧
 ((Qv (Pt 905 0)) ∧
 ((Qv (Pt 905 0)) ∧
 ((Qv (vI x14)) ∧
 ((Qv (vI x13)) ∧
 True)))))) ∧
 (True ∧
 (∃ n10 : Int,
 ((Says C 59 [(D.val (vI (IntKind.wrap .i64 (IntKind.wrap .i64 (x13 * IntKind.wrap .i64 (x14 - n8)) * 1000)))), (D.val (vI 1000000))] [(D.val (vI n10))]) ∧
 (((Qv (vI 1000)) ∧
 ((Qv (vI n7)) ∧
 ((Qv (Value.func (Go.Fn.func 58) [].toArray [(Pt 906 0), (Pt 907 0), (Pt 908 0)].toArray)) ∧
 True))) ∧
 (((Qv (vI n7)) ∧
 ((Qv (Value.agg [(Sl 500 (n25) (c26))].toArray)) ∧
 ((Qv (Pt 908 0)) ∧
 ((Qv (Pt 908 0)) ∧
 ((Qv (vI x24)) ∧
 ((Qv (vI x23)) ∧
 True)))))) ∧
 (bcase (decide (0 + n25 * 2 ≤ List.length l33))
 (∃ n11 : Int,
 ((Says C 57 [(D.agg [(D.sl (n25) 2 (List.take (n25 * 2) (List.drop 0 l33)))]), (D.val (vI n7))] [(D.val (vI n11))]) ∧
 (((Qv (vI (IntKind.wrap .i64 (x23 * IntKind.wrap .i64 (x24 - n11))))) ∧
 ((Qv (vI (IntKind.wrap .i64 (x24 - n11)))) ∧
 ((Qv (Pt 908 0)) ∧
 ((Qv (Pt 908 0)) ∧
 ((Qv (vI x24)) ∧
 ((Qv (vI x23)) ∧
 True)))))) ∧
 (True ∧
 (∃ n12 : Int,
 ((Says C 59 [(D.val (vI (IntKind.wrap .i64 (IntKind.wrap .i64 (x23 * IntKind.wrap .i64 (x24 - n11)) * 1000)))), (D.val (vI 1000000))] [(D.val (vI n12))]) ∧
 (((Qv (vI (if IntKind.wrap .i64 (n7 + n12) > IntKind.wrap .i64 (n7 + n10) then IntKind.wrap .i64 (n7 + n12) else IntKind.wrap .i64 (n7 + n10)))) ∧
 True) ∧
 (True ∧
 (bcase (decide (0 ≤ x1))
 (bcase (decide (x1 < (↑n9 : Int)))
 (((bcase (decide (0 ≤ x1))
 (bcase (decide (x1 < (↑n9 : Int)))
 (Qv (Pt 900 (0 + Int.toNat x1 * 1)))
 False)
 False) ∧
 ((bcase (decide (0 ≤ x1))
 (bcase (decide (x1 < (↑n9 : Int)))
 (Qv (Pt 900 (0 + Int.toNat x1 * 1)))
 False)
 False) ∧
 ((Qv (vI x1)) ∧
 ((Qv (Sl 900 (n9) (c10))) ∧
 ((Qv (Pt 1000 4)) ∧
 ((Qv (Pt 1000 4)) ∧
 ((Qv (vI x1)) ∧
 ((Qv (Sl 900 (n9) (c10))) ∧
 ((Qv (Pt 1000 4)) ∧
 ((Qv (Pt 1000 4)) ∧
 True)))))))))) ∧
 (bcase (decide (0 + Int.toNat x1 * 1 + 1 ≤ List.length (listSet l12 (0 + Int.toNat x0 * 1) [vI (if IntKind.wrap .i64 (n1 + n6) > IntKind.wrap .i64 (n1 + n3) then IntKind.wrap .i64 (n1 + n6) else IntKind.wrap .i64 (n1 + n3))])))
 (True ∧
 (∃ l1 : List Int,
 (((listSet (listSet (l12) (0 + Int.toNat x0 * 1) [(vI (if IntKind.wrap .i64 (n1 + n6) > IntKind.wrap .i64 (n1 + n3) then IntKind.wrap .i64 (n1 + n6) else IntKind.wrap .i64 (n1 + n3)))]) (0 + Int.toNat x1 * 1) [(vI (if IntKind.wrap .i64 (n7 + n12) > IntKind.wrap .i64 (n7 + n10) then IntKind.wrap .i64 (n7 + n12) else IntKind.wrap .i64 (n7 + n10)))]) = (List.map (vI) l1)) ∧
 (((n9) = (List.length l1)) ∧
 ((2 ≤ (List.length l1)) ∧
 (((List.length l1) ≤ 1000) ∧
 (((0 : Int) ≤ (x6)) ∧
 (((x6) ≤ (50 : Int)) ∧
 ((GoodNums l1) ∧
 (B [(Prod.mk 2 (Value.func (Go.Fn.func 81) [].toArray [(Pt 901 0), (Pt 902 0)].toArray)), (Prod.mk 3 (Pt 1000 0)), (Prod.mk 6 (vI x0)), (Prod.mk 7 (vI x1)), (Prod.mk 13 (vI x2)), (Prod.mk 14 (vI (IntKind.wrap .i64 (x3 + 1))))] [(Prod.mk 901 (AObj.cells [(Value.func (Go.Fn.func 58) [].toArray [(Pt 903 0), (Pt 904 0), (Pt 905 0)].toArray)] 84 false 1)), (Prod.mk 902 (AObj.cells [(Value.func (Go.Fn.func 58) [].toArray [(Pt 906 0), (Pt 907 0), (Pt 908 0)].toArray)] 84 false 1)), (Prod.mk 1000 (AObj.cells [(Sl 500 (n4) (c5)), (vI x6), (vI x7), (vI x8), (Sl 900 (n9) (c10)), (vI x11)] 78 false 1)), (Prod.mk 900 (AObj.sym (List.map (vI) (mixL x6 l1)) true 1)), (Prod.mk 903 (AObj.cells [(vI x13)] 3 false 1)), (Prod.mk 904 (AObj.cells [(vI x14)] 3 false 1)), (Prod.mk 905 (AObj.cells [(Sl 500 (n15) (c16)), (vI x17), (vI x18), (vI x19), (Sl 900 (n20) (c21)), (vI x22)] 78 false 1)), (Prod.mk 906 (AObj.cells [(vI x23)] 3 false 1)), (Prod.mk 907 (AObj.cells [(vI x24)] 3 false 1)), (Prod.mk 908 (AObj.cells [(Sl 500 (n25) (c26)), (vI x27), (vI x28), (vI x29), (Sl 900 (n30) (c31)), (vI x32)] 78 false 1)), (Prod.mk 500 (AObj.sym (l33) false 2))]))))))))))
 False))
 False)
 False)))))))))
 False)))))))))
 False))))))
 False)
 False))
 False))
 False)
 False)))))))))
 False)))))))))
 False))))))
 False)
 False)
 (X 0 [] [(Prod.mk 900 (AObj.sym (l12) true 1)), (Prod.mk 901 (AObj.cells [(Value.func (Go.Fn.func 58) [].toArray [(Pt 903 0), (Pt 904 0), (Pt 905 0)].toArray)] 84 false 1)), (Prod.mk 902 (AObj.cells [(Value.func (Go.Fn.func 58) [].toArray [(Pt 906 0), (Pt 907 0), (Pt 908 0)].toArray)] 84 false 1)), (Prod.mk 903 (AObj.cells [(vI x13)] 3 false 1)), (Prod.mk 904 (AObj.cells [(vI x14)] 3 false 1)), (Prod.mk 905 (AObj.cells [(Sl 500 (n15) (c16)), (vI x17), (vI x18), (vI x19), (Sl 900 (n20) (c21)), (vI x22)] 78 false 1)), (Prod.mk 906 (AObj.cells [(vI x23)] 3 false 1)), (Prod.mk 907 (AObj.cells [(vI x24)] 3 false 1)), (Prod.mk 908 (AObj.cells [(Sl 500 (n25) (c26)), (vI x27), (vI x28), (vI x29), (Sl 900 (n30) (c31)), (vI x32)] 78 false 1)), (Prod.mk 500 (AObj.sym (l33) false 2))])) := by kernel_rfl
def ntH2 (C : Ct) (L : AtLoop) (l0 : List Value) (x1 : Int) (x2 : Int) (n3 : Nat) (c4 : Nat) (x5 : Int) (x6 : Int) (x7 : Int) (n8 : Nat) (c9 : Nat) (x10 : Int) (x11 : Int) (x12 : Int) (n13 : Nat) (c14 : Nat) (x15 : Int) (x16 : Int) (x17 : Int) (n18 : Nat) (c19 : Nat) (x20 : Int) (l21 : List Value) (K : Value → Blocks → Prop) : Prop := wpNext Try.prog (hH C) L 37 0 .normal [] [(900, (AObj.sym l0 true 1)), (901, (AObj.cells [(Value.func (.func 58) #[] #[(Value.pointer (some ⟨903, 0, none⟩)), (Value.pointer (some ⟨904, 0, none⟩)), (Value.pointer (some ⟨905, 0, none⟩))])] 84 false 1)), (902, (AObj.cells [(Value.func (.func 58) #[] #[(Value.pointer (some ⟨906, 0, none⟩)), (Value.pointer (some ⟨907, 0, none⟩)), (Value.pointer (some ⟨908, 0, none⟩))])] 84 false 1)), (903, (AObj.cells [(Value.int .i64 x1)] 3 false 1)), (904, (AObj.cells [(Value.int .i64 x2)] 3 false 1)), (905, (AObj.cells [(Value.slice (some ⟨500, 0, none⟩) n3 c4), (Value.int .i64 x5), (Value.int .i64 x6), (Value.int .i64 x7), (Value.slice (some ⟨900, 0, none⟩) n8 c9), (Value.int .i64 x10)] 78 false 1)), (906, (AObj.cells [(Value.int .i64 x11)] 3 false 1)), (907, (AObj.cells [(Value.int .i64 x12)] 3 false 1)), (908, (AObj.cells [(Value.slice (some ⟨500, 0, none⟩) n13 c14), (Value.int .i64 x15), (Value.int .i64 x16), (Value.int .i64 x17), (Value.slice (some ⟨900, 0, none⟩) n18 c19), (Value.int .i64 x20)] 78 false 1)), (500, (AObj.sym l21 false 2))] (stateK K)
theorem ntH2_text (C : Ct) (L : AtLoop) (l0 : List Go.Value) (x1 : Int) (x2 : Int) (n3 : Nat) (c4 : Nat) (x5 : Int) (x6 : Int) (x7 : Int) (n8 : Nat) (c9 : Nat) (x10 : Int) (x11 : Int) (x12 : Int) (n13 : Nat) (c14 : Nat) (x15 : Int) (x16 : Int) (x17 : Int) (n18 : Nat) (c19 : Nat) (x20 : Int) (l21 : List Go.Value) (K : Go.Value → Blocks → Prop) : ntH2 C L l0 x1 x2 n3 c4 x5 x6 x7 n8 c9 x10 x11 x12 n13 c14 x15 x16 x17 n18 c19 x20 l21 K =
 (K (Value.tuple [].toArray) [(Prod.mk 900 (AObj.sym (l0) true 1)), (Prod.mk 901 (AObj.cells [(Value.func (Go.Fn.func 58) [].toArray [(Pt 903 0), (Pt 904 0), (Pt 905 0)].toArray)] 84 false 1)), (Prod.mk 902 (AObj.cells [(Value.func (Go.Fn.func 58) [].toArray [(Pt 906 0), (Pt 907 0), (Pt 908 0)].toArray)] 84 false 1)), (Prod.mk 903 (AObj.cells [(vI x1)] 3 false 1)), (Prod.mk 904 (AObj.cells [(vI x2)] 3 false 1)), (Prod.mk 905 (AObj.cells [(Sl 500 (n3) (c4)), (vI x5), (vI x6), (vI x7), (Sl 900 (n8) (c9)), (vI x10)] 78 false 1)), (Prod.mk 906 (AObj.cells [(vI x11)] 3 false 1)), (Prod.mk 907 (AObj.cells [(vI x12)] 3 false 1)), (Prod.mk 908 (AObj.cells [(Sl 500 (n13) (c14)), (vI x15), (vI x16), (vI x17), (Sl 900 (n18) (c19)), (vI x20)] 78 false 1)), (Prod.mk 500 (AObj.sym (l21) false 2))]) := by kernel_rfl
def gzT (C : Ct) (L : AtLoop) (mi : Int) (a : Int) (b : Int) (bo : Int) (n0 : Nat) (c0 : Nat) (l0 : List Value) (n1 : Nat) (c1 : Nat) (l1 : List Value) (n2 : Nat) (c2 : Nat) (l2 : List Value) (set : Int) (st : Int) (K : Value → Blocks → Prop) : Prop := wpFn Try.prog (hT C) L 0 60 #[.agg #[.slice (some ⟨500, 0, none⟩) n0 c0, .int .i64 mi, .int .i64 a, .int .i64 b, .slice (some ⟨900, 0, none⟩) n1 c1, .int .i64 bo, .slice (some ⟨500, 0, none⟩) n0 c0, .int .i64 mi, .int .i64 a, .int .i64 b, .slice (some ⟨901, 0, none⟩) n2 c2, .int .i64 bo], .agg #[.int .i64 set, .int .i64 st]] (heapOf [(500, .sym l0 false 2), (900, .sym l1 true 1), (901, .sym l2 true 1)]) (stateK K)
theorem gzT_text (C : Ct) (L : AtLoop) (mi : Int) (a : Int) (b : Int) (bo : Int) (n0 : Nat) (c0 : Nat) (l0 : List Go.Value) (n1 : Nat) (c1 : Nat) (l1 : List Go.Value) (n2 : Nat) (c2 : Nat) (l2 : List Go.Value) (set : Int) (st : Int) (K : Go.Value → Blocks → Prop) : gzT C L mi a b bo n0 c0 l0 n1 c1 l1 n2 c2 l2 set st K =
 (((Qv (vI set)) ∧
 ((Qv (Pt 1001 0)) ∧
 ((Qv (Value.agg [(Sl 500 (n0) (c0)), (vI mi), (vI a), (vI b), (Sl 900 (n1) (c1)), (vI bo)].toArray)) ∧
 ((Qv (Pt 1000 0)) ∧
 ((Qv (vI st)) ∧
 ((Qv (Pt 1001 1)) ∧
 ((Qv (Value.agg [(Sl 500 (n0) (c0)), (vI mi), (vI a), (vI b), (Sl 900 (n1) (c1)), (vI bo)].toArray)) ∧
 ((Qv (Pt 1000 0)) ∧
 True)))))))) ∧
 ((((Qv (Pt 1004 0)) ∧
 (Qv (some (AObj.cells [Value.nilFunc] 84 false 1)))) ∧
 (((Qv (Pt 1003 0)) ∧
 (Qv (some (AObj.cells [Value.nilFunc] 84 false 1)))) ∧
 ((Qv (vI set)) ∧
 ((Qv (vI b)) ∧
 ((Qv (Pt 1002 3)) ∧
 ((Qv (Pt 1002 2)) ∧
 ((Qv (Pt 1002 0)) ∧
 ((Qv (Value.agg [(Sl 500 (n0) (c0)), (vI mi), (vI a), (vI b), (Sl 900 (n1) (c1)), (vI bo)].toArray)) ∧
 ((Qv (vI set)) ∧
 ((Qv (vI a)) ∧
 ((Qv (Pt 1002 2)) ∧
 ((Qv (Pt 1002 2)) ∧
 ((Qv (Pt 1002 0)) ∧
 ((Qv (Value.agg [(Sl 500 (n0) (c0)), (vI mi), (vI a), (vI b), (Sl 900 (n1) (c1)), (vI bo)].toArray)) ∧
 True)))))))))))))) ∧
 (bcase (decide (0 + n0 * 2 ≤ List.length l0))
 (∃ n3 : Int,
 ((Says C 57 [(D.agg [(D.sl (n0) 2 (List.take (n0 * 2) (List.drop 0 l0)))]), (D.val (vI set))] [(D.val (vI n3))]) ∧
 ((((Qv (Pt 1004 0)) ∧
 (Qv (some (AObj.cells [Value.nilFunc] 84 false 1)))) ∧
 (((Qv (Pt 1003 0)) ∧
 (Qv (some (AObj.cells [Value.nilFunc] 84 false 1)))) ∧
 ((Qv (vI set)) ∧
 ((Qv (vI b)) ∧
 ((Qv (Pt 1002 3)) ∧
 ((Qv (Pt 1002 2)) ∧
 ((Qv (Pt 1002 0)) ∧
 ((Qv (Value.agg [(Sl 500 (n0) (c0)), (vI mi), (vI a), (vI b), (Sl 900 (n1) (c1)), (vI bo)].toArray)) ∧
 ((Qv (Pt 1002 2)) ∧
 ((Qv (Pt 1002 2)) ∧
 ((Qv (Pt 1002 0)) ∧
 True))))))))))) ∧
 (bcase (decide (0 + n0 * 2 ≤ List.length l0))
 (∃ n4 : Int,
 ((Says C 57 [(D.agg [(D.sl (n0) 2 (List.take (n0 * 2) (List.drop 0 l0)))]), (D.val (vI set))] [(D.val (vI n4))]) ∧
 ((((Qv (Pt 1004 0)) ∧
 (Qv (some (AObj.cells [Value.nilFunc] 84 false 1)))) ∧
 (((Qv (Pt 1003 0)) ∧
 (Qv (some (AObj.cells [Value.nilFunc] 84 false 1)))) ∧
 ((Qv (Pt 1002 3)) ∧
 ((Qv (Pt 1002 2)) ∧
 ((Qv (Pt 1002 0)) ∧
 ((Qv (Pt 1002 2)) ∧
 ((Qv (Pt 1002 2)) ∧
 ((Qv (Pt 1002 0)) ∧
 True)))))))) ∧
 (((Qv (Pt 1002 3)) ∧
 ((Qv (Pt 1002 2)) ∧
 ((Qv (Pt 1002 0)) ∧
 True))) ∧
 (True ∧
 (((Qv (Pt 1001 0)) ∧
 ((Qv (Pt 1000 0)) ∧
 ((Qv (vI st)) ∧
 ((Qv (Pt 1001 1)) ∧
 ((Qv (Value.agg [(Sl 500 (n0) (c0)), (vI mi), (vI a), (vI b), (Sl 900 (n1) (c1)), (vI bo)].toArray)) ∧
 ((Qv (Pt 1000 0)) ∧
 True)))))) ∧
 (((Qv (Value.agg [(Sl 500 (n0) (c0)), (vI mi), (vI a), (vI b), (Sl 900 (n1) (c1)), (vI bo)].toArray)) ∧
 ((Qv (vI st)) ∧
 ((Qv (Value.func (Go.Fn.func 80) [].toArray [(Pt 901 0), (Pt 902 0)].toArray)) ∧
 True))) ∧
 ((((Qv (vI 500)) ∧
 (Qv (some (AObj.sym (l0) false 2)))) ∧
 (((Qv (vI 900)) ∧
 (Qv (some (AObj.sym (l1) true 1)))) ∧
 (((Qv (vI 901)) ∧
 (Qv (some (AObj.cells [(Value.func (Go.Fn.func 58) [].toArray [(Pt 903 0), (Pt 904 0), (Pt 905 0)].toArray)] 84 false 1)))) ∧
 (((Qv (vI 902)) ∧
 (Qv (some (AObj.cells [(Value.func (Go.Fn.func 58) [].toArray [(Pt 906 0), (Pt 907 0), (Pt 908 0)].toArray)] 84 false 1)))) ∧
 (((Qv (vI 903)) ∧
 (Qv (some (AObj.cells [(vI a)] 3 false 1)))) ∧
 (((Qv (vI 904)) ∧
 (Qv (some (AObj.cells [(vI n3)] 3 false 1)))) ∧
 (((Qv (vI 905)) ∧
 (Qv (some (AObj.cells [(Sl 500 (n0) (c0)), (vI mi), (vI a), (vI b), (Sl 900 (n1) (c1)), (vI bo)] 78 false 1)))) ∧
 (((Qv (vI 906)) ∧
 (Qv (some (AObj.cells [(vI b)] 3 false 1)))) ∧
 (((Qv (vI 907)) ∧
 (Qv (some (AObj.cells [(vI n4)] 3 false 1)))) ∧
 (((Qv (vI 908)) ∧
 (Qv (some (AObj.cells [(Sl 500 (n0) (c0)), (vI mi), (vI a), (vI b), (Sl 900 (n1) (c1)), (vI bo)] 78 false 1)))) ∧
 True)))))))))) ∧
 (∃ out1 : List Go.Value,
 ((GoodTake C 57 Bool.false l0 n0 mi a b n3 n4 bo l1 n1 st out1) ∧
 (((Qv (Pt 1001 0)) ∧
 ((Qv (Pt 1000 0)) ∧
 ((Qv (Pt 1001 1)) ∧
 ((Qv (Pt 1000 0)) ∧
 True)))) ∧
 (((Qv (vI set)) ∧
 ((Qv (Pt 1001 0)) ∧
 ((Qv (Value.agg [(Sl 500 (n0) (c0)), (vI mi), (vI a), (vI b), (Sl 901 (n2) (c2)), (vI bo)].toArray)) ∧
 ((Qv (Pt 1000 6)) ∧
 ((Qv (vI st)) ∧
 ((Qv (Pt 1001 1)) ∧
 ((Qv (Value.agg [(Sl 500 (n0) (c0)), (vI mi), (vI a), (vI b), (Sl 901 (n2) (c2)), (vI bo)].toArray)) ∧
 ((Qv (Pt 1000 6)) ∧
 True)))))))) ∧
 ((((Qv (Pt 1013 0)) ∧
 (Qv (some (AObj.cells [Value.nilFunc] 84 false 1)))) ∧
 (((Qv (Pt 1012 0)) ∧
 (Qv (some (AObj.cells [Value.nilFunc] 84 false 1)))) ∧
 ((Qv (vI set)) ∧
 ((Qv (vI b)) ∧
 ((Qv (Pt 1011 3)) ∧
 ((Qv (Pt 1011 2)) ∧
 ((Qv (Pt 1011 0)) ∧
 ((Qv (Value.agg [(Sl 500 (n0) (c0)), (vI mi), (vI a), (vI b), (Sl 901 (n2) (c2)), (vI bo)].toArray)) ∧
 ((Qv (vI set)) ∧
 ((Qv (vI a)) ∧
 ((Qv (Pt 1011 2)) ∧
 ((Qv (Pt 1011 2)) ∧
 ((Qv (Pt 1011 0)) ∧
 ((Qv (Value.agg [(Sl 500 (n0) (c0)), (vI mi), (vI a), (vI b), (Sl 901 (n2) (c2)), (vI bo)].toArray)) ∧
 True)))))))))))))) ∧
 (bcase (decide (0 + n0 * 2 ≤ List.length l0))
 (∃ n5 : Int,
 ((Says C 57 [(D.agg [(D.sl (n0) 2 (List.take (n0 * 2) (List.drop 0 l0)))]), (D.val (vI set))] [(D.val (vI n5))]) ∧
 ((((Qv (Pt 1013 0)) ∧
 (Qv (some (AObj.cells [Value.nilFunc] 84 false 1)))) ∧
 (((Qv (Pt 1012 0)) ∧
 (Qv (some (AObj.cells [Value.nilFunc] 84 false 1)))) ∧
 ((Qv (vI set)) ∧
 ((Qv (vI b)) ∧
 ((Qv (Pt 1011 3)) ∧
 ((Qv (Pt 1011 2)) ∧
 ((Qv (Pt 1011 0)) ∧
 ((Qv (Value.agg [(Sl 500 (n0) (c0)), (vI mi), (vI a), (vI b), (Sl 901 (n2) (c2)), (vI bo)].toArray)) ∧
 ((Qv (Pt 1011 2)) ∧
 ((Qv (Pt 1011 2)) ∧
 ((Qv (Pt 1011 0)) ∧
 True))))))))))) ∧
 (bcase (decide (0 + n0 * 2 ≤ List.length l0))
 (∃ n6 : Int,
 ((Says C 57 [(D.agg [(D.sl (n0) 2 (List.take (n0 * 2) (List.drop 0 l0)))]), (D.val (vI set))] [(D.val (vI n6))]) ∧
 ((((Qv (Pt 1013 0)) ∧
 (Qv (some (AObj.cells [Value.nilFunc] 84 false 1)))) ∧
 (((Qv (Pt 1012 0)) ∧
 (Qv (some (AObj.cells [Value.nilFunc] 84 false 1)))) ∧
 ((Qv (Pt 1011 3)) ∧
 ((Qv (Pt 1011 2)) ∧
 ((Qv (Pt 1011 0)) ∧
 ((Qv (Pt 1011 2)) ∧
 ((Qv (Pt 1011 2)) ∧
 ((Qv (Pt 1011 0)) ∧
 True)))))))) ∧
 (((Qv (Pt 1011 3)) ∧
 ((Qv (Pt 1011 2)) ∧
 ((Qv (Pt 1011 0)) ∧
 True))) ∧
 (True ∧
 (((Qv (Pt 1001 0)) ∧
 ((Qv (Pt 1000 6)) ∧
 ((Qv (vI st)) ∧
 ((Qv (Pt 1001 1)) ∧
 ((Qv (Value.agg [(Sl 500 (n0) (c0)), (vI mi), (vI a), (vI b), (Sl 901 (n2) (c2)), (vI bo)].toArray)) ∧
 ((Qv (Pt 1000 6)) ∧
 True)))))) ∧
 (((Qv (Value.agg [(Sl 500 (n0) (c0)), (vI mi), (vI a), (vI b), (Sl 900 (n2) (c2)), (vI bo)].toArray)) ∧
 ((Qv (vI st)) ∧
 ((Qv (Value.func (Go.Fn.func 81) [].toArray [(Pt 901 0), (Pt 902 0)].toArray)) ∧
 True))) ∧
 ((((Qv (vI 500)) ∧
 (Qv (some (AObj.sym (l0) false 2)))) ∧
 (((Qv (vI 900)) ∧
 (Qv (some (AObj.sym (l2) true 1)))) ∧
 (((Qv (vI 901)) ∧
 (Qv (some (AObj.cells [(Value.func (Go.Fn.func 58) [].toArray [(Pt 903 0), (Pt 904 0), (Pt 905 0)].toArray)] 84 false 1)))) ∧
 (((Qv (vI 902)) ∧
 (Qv (some (AObj.cells [(Value.func (Go.Fn.func 58) [].toArray [(Pt 906 0), (Pt 907 0), (Pt 908 0)].toArray)] 84 false 1)))) ∧
 (((Qv (vI 903)) ∧
 (Qv (some (AObj.cells [(vI a)] 3 false 1)))) ∧
 (((Qv (vI 904)) ∧
 (Qv (some (AObj.cells [(vI n5)] 3 false 1)))) ∧
 (((Qv (vI 905)) ∧
 (Qv (some (AObj.cells [(Sl 500 (n0) (c0)), (vI mi), (vI a), (vI b), (Sl 900 (n2) (c2)), (vI bo)] 78 false 1)))) ∧
 (((Qv (vI 906)) ∧
 (Qv (some (AObj.cells [(vI b)] 3 false 1)))) ∧
 (((Qv (vI 907)) ∧
 (Qv (some (AObj.cells [(vI n6)] 3 false 1)))) ∧
 (((Qv (vI 908)) ∧
 (Qv (some (AObj.cells [(Sl 500 (n0) (c0)), (vI mi), (vI a), (vI b), (Sl 900 (n2) (c2)), (vI bo)] 78 false 1)))) ∧
 True)))))))))) ∧
 (∃ out2 : List Go.Value,
 ((GoodTake C 57 Bool.true l0 n0 mi a b n5 n6 bo l2 n2 st out2) ∧
 (((Qv (Pt 1001 0)) ∧
 ((Qv (Pt 1000 6)) ∧
 ((Qv (Pt 1001 1)) ∧
 ((Qv (Pt 1000 6)) ∧
 True)))) ∧
 (K (Value.tuple [].toArray) [(Prod.mk 900 (AObj.sym (out1) true 1)), (Prod.mk 901 (AObj.sym (out2) true 1))]))))))))))))
 False))))
 False))))))))))))))
 False))))
 False))) := by kernel_rfl
end Go.Proofs.G5j

/- Chapter 2, heating: the steps of an enclosure, state contracts. -/
namespace Go.Proofs.G5j
open Go Go.Abs Go.Proofs Go.Proofs.G2
set_option maxRecDepth 100000
theorem lowL {rd : Int → Int} {a b r s x : Int} : (if halfR rd b r s x < halfR rd a r s x then halfR rd b r s x else halfR rd a r s x) = lowR rd false a b r r s x := by simp [lowR]
theorem lowH {rd : Int → Int} {a b r s x : Int} : (if halfR rd a r s x < halfR rd b r s x then halfR rd b r s x else halfR rd a r s x) = lowR rd true a b r r s x := by simp [lowR]
section
variable {C : FuncId → List D → List D → Prop} {fr : FuncId} {l0 : List Value} {n0 : Nat} {mi a b bo : Int} {rd : Int → Int}
theorem half_w (R : RadOK C fr l0 n0 mi a b bo rd) {set : Int} (_hs : 0 ≤ set ∧ set ≤ 20000) {s : Int} (h1 : 0 ≤ s ∧ s ≤ 1000) {x : Int} (hx : 0 ≤ x ∧ x ≤ 20000) {em : Int} (he : em = a ∨ em = b) :
    IntKind.wrap .i64 (IntKind.wrap .i64 (em * IntKind.wrap .i64 (rd set - rd x)) * s) = em * (rd set - rd x) * s ∧ (-4611686018427387904 ≤ em * (rd set - rd x) * s ∧ em * (rd set - rd x) * s ≤ 4611686018427387904) ∧ IntKind.wrap .i64 (x + em * (rd set - rd x) * s / 1000000) = halfR rd em (rd set) s x := by
  have hem : 0 ≤ em ∧ em ≤ 1000 := by rcases he with rfl | rfl <;> first | exact R.fa | exact R.fb
  have r1 := R.rdb set
  have r2 := R.rdb x
  have b1 := em_bd hem r1 r2
  have b2 := bo_bd b1 h1
  have b3 := div_in (x := em * (rd set - rd x) * s) (k := 1000000) (B := 20000) (by decide) (by omega)
  refine ⟨?_, by omega, ?_⟩
  · rw [w64 (z := rd set - rd x) (by omega) (by omega), w64 (z := em * (rd set - rd x)) (by omega) (by omega), w64 (by omega) (by omega)]
  · rw [w64 (by omega) (by omega)]; rfl
theorem low_in (R : RadOK C fr l0 n0 mi a b bo rd) {set : Int} (hs : 0 ≤ set ∧ set ≤ 20000) (up : Bool) {s : Int} (h1 : 0 ≤ s ∧ s ≤ 1000) {x : Int} (hx : 0 ≤ x ∧ x ≤ 20000) : 0 ≤ lowR rd up a b (rd set) (rd set) s x ∧ lowR rd up a b (rd set) (rd set) s x ≤ 20000 := by
  have e1 := R.half a set s x (.inl rfl) hs h1 hx
  have e2 := R.half b set s x (.inr rfl) hs h1 hx
  unfold lowR; repeat' split
  all_goals omega
theorem encF_in (R : RadOK C fr l0 n0 mi a b bo rd) {set : Int} (hs : 0 ≤ set ∧ set ≤ 20000) {up : Bool} {l : List Int} (N : NodOK l) : ∀ z ∈ (l.set 0 (lowR rd up a b (rd set) (rd set) bo (gd l 0))).set (l.length - 1) (lowR rd up a b (rd set) (rd set) 1000 (gd l (l.length - 1))), 0 ≤ z ∧ z ≤ 20000 := by
  intro z hz
  have h2 := N.two
  rcases List.mem_or_eq_of_mem_set hz with hz | rfl
  · rcases List.mem_or_eq_of_mem_set hz with hz | rfl
    · exact N.all z hz
    · exact low_in R hs up R.fbo (N.all _ (gd_mem (by omega)))
  · exact low_in R hs up (by decide) (N.all _ (gd_mem (by omega)))
@[simp] theorem encS_length (rd : Int → Int) (up : Bool) (mi a b ra rb bo : Int) (l : List Int) : (encS rd up mi a b ra rb bo l).length = l.length := by simp [encS]
theorem encN_length (rd : Int → Int) (up : Bool) (mi a b ra rb bo : Int) : ∀ (n : Nat) (l : List Int), (encN rd up mi a b ra rb bo n l).length = l.length
  | 0, l => rfl
  | n + 1, l => by rw [encN, encN_length, encS_length]
theorem encN_succ (rd : Int → Int) (up : Bool) (mi a b ra rb bo : Int) : ∀ (n : Nat) (l : List Int), encN rd up mi a b ra rb bo (n + 1) l = encS rd up mi a b ra rb bo (encN rd up mi a b ra rb bo n l)
  | 0, l => rfl
  | n + 1, l => by rw [encN, encN_succ rd up mi a b ra rb bo n]; rfl
theorem encS_ok (R : RadOK C fr l0 n0 mi a b bo rd) {set : Int} (hs : 0 ≤ set ∧ set ≤ 20000) {up : Bool} {l : List Int} (N : NodOK l) : NodOK (encS rd up mi a b (rd set) (rd set) bo l) := by
  have h2 := N.two
  have h8 := N.few
  refine ⟨by simpa using h2, by simpa using h8, fun z hz => ?_⟩
  obtain ⟨i, hi, rfl⟩ := List.getElem_of_mem hz
  have hi' : i < l.length := by simpa using hi
  rw [gd_at hi]
  unfold encS
  rw [gd_mix (by simpa using hi')]
  exact mixAt_in R.fmi (fun j hj => encF_in R hs N _ (gd_mem hj)) (by simpa using hi')
theorem encN_ok (R : RadOK C fr l0 n0 mi a b bo rd) {set : Int} (hs : 0 ≤ set ∧ set ≤ 20000) {up : Bool} : ∀ (n : Nat) {l : List Int}, NodOK l → NodOK (encN rd up mi a b (rd set) (rd set) bo n l)
  | 0, _, N => N
  | n + 1, _, N => encN_ok R hs n (encS_ok R hs N)
end
theorem eqL_eq : ∀ {l m : List Value}, eqL l m → l = m
  | [], [], _ => rfl
  | _ :: _, _ :: _, ⟨e, h⟩ => by rw [e, eqL_eq h]
  | [], _ :: _, h => h.elim
  | _ :: _, [], h => h.elim
theorem eqB_eq : ∀ {l m : Blocks}, eqB l m → l = m
  | [], [], _ => rfl
  | (i, o) :: _, (j, p) :: _, ⟨⟨e1, e2⟩, h⟩ => by
    have e1 : i = j := by injection e1 with _ e; omega
    rw [e1, Option.some.inj e2, eqB_eq h]
  | [], _ :: _, h => h.elim
  | _ :: _, [], h => h.elim

theorem takeL {l0 : List Value} {n0 : Nat} {mi a b bo : Int} {rd : Int → Int} (R : RadOK C5 57 l0 n0 mi a b bo rd) {l : List Int} (N : NodOK l) {set : Int} (hs : 0 ≤ set ∧ set ≤ 20000) {st : Int} (hst : 0 ≤ st ∧ st ≤ 1000) (c0 c1 : Nat) :
    CallS Try.prog 37 (takeArgs 80 n0 c0 l.length c1 mi a b bo st) (takeBs 58 84 78 3 n0 c0 l.length c1 mi a b bo (rd set) (rd set) l0 (vi l)) (fun v bs => v = .tuple #[] ∧ bs = takeEnd 58 84 78 3 n0 c0 l.length c1 mi a b bo (rd set) (rd set) l0 (vi (encN rd false mi a b (rd set) (rd set) bo st.toNat l))) := by
  let cur : Nat → List Int := fun i => encN rd false mi a b (rd set) (rd set) bo i l
  have hcur : ∀ i, cur i = encN rd false mi a b (rd set) (rd set) bo i l := fun _ => rfl
  let inv : Nat → Prop := fun i => i ≤ st.toNat
  let sta : Nat → Slots × Blocks := fun i => ztL1 ((0 : Nat) : Int) ((l.length - 1 : Nat) : Int) st i n0 c0 mi a b l.length c1 bo (vi (cur i)) a (rd set) n0 c0 mi a b l.length c1 bo b (rd set) n0 c0 mi a b l.length c1 bo l0
  have hT : List.take (n0 * 2) (List.drop 0 l0) = l0 := by rw [List.drop_zero, ← R.len, List.take_length]
  have hl0 : 0 + n0 * 2 ≤ l0.length := by have := R.len; omega
  have h2 := N.two
  have h8 := N.few
  refine callS_ofG (L := fun _ s b => ∃ x, inv x ∧ sta x = (s, b)) hokH mixed Try.func37 rfl rfl (ids := [0]) (by kernel_rfl) rfl ?_ (fun id hid => ?_)
  · show gtL _ _ mi a b bo n0 c0 l0 l.length c1 (vi l) st (rd set) (rd set) _
    rw [gtL_text]
    simp only [Qv, eq_self, true_and, w_last (show 0 < l.length by omega) (by omega)]
    exact ⟨0, Nat.zero_le _, rfl⟩
  · obtain rfl := List.mem_singleton.1 hid
    refine ⟨_, sta, inv, fun i => st.toNat - i, ⟨fun s b h => h, by kernel_rfl, ?_⟩⟩
    intro i hi
    have hi : i ≤ st.toNat := hi
    have hN : NodOK (cur i) := encN_ok R hs i N
    have hL : (cur i).length = l.length := encN_length ..
    show rtL1 _ _ ((0 : Nat) : Int) ((l.length - 1 : Nat) : Int) st (i : Int) n0 c0 mi a b l.length c1 bo (vi (cur i)) a (rd set) n0 c0 mi a b l.length c1 bo b (rd set) n0 c0 mi a b l.length c1 bo l0 _ _ _
    rw [rtL1_text]
    refine bc_dec (fun h => ?_) (fun h => ?_)
    · have p0 : (0 : Int) ≤ ((0 : Nat) : Int) := by omega
      have p1 : ((0 : Nat) : Int) < (l.length : Int) := by omega
      have z0 : (0 : Int) ≤ ((l.length - 1 : Nat) : Int) := by omega
      have z1 : ((l.length - 1 : Nat) : Int) < (l.length : Int) := by omega
      have g0 := hN.all _ (gd_mem (l := cur i) (i := 0) (by omega))
      have g1 := hN.all _ (gd_mem (l := cur i) (i := l.length - 1) (by omega))
      have a0 : At (vi (cur i)) (0 + 0 * 1) 1 [vI (gd (cur i) 0)] := at_gd (i := 0) (by omega)
      simp only [bc_t p0, bc_t p1, bc_t z0, bc_t z1, Int.toNat_natCast, at1 a0, hT, bc_t hl0, Qv, eq_self, true_and, and_true]
      have w1 := half_w R hs R.fbo g0 (.inl rfl)
      have w2 := half_w R hs R.fbo g0 (.inr rfl)
      refine ⟨_, R.says _, ?_⟩
      rw [w1.1]
      refine ⟨_, ⟨conQu _ 1000000 (by decide) w1.2.1⟩, ?_⟩
      refine ⟨_, R.says _, ?_⟩
      rw [w2.1]
      refine ⟨_, ⟨conQu _ 1000000 (by decide) w2.2.1⟩, ?_⟩
      rw [w1.2.2, w2.2.2, lowL]
      refine bc_yes (by simp; omega) ?_
      have s0 : ∀ v : Int, listSet (vi (cur i)) (0 + 0 * 1) [vI v] = vi ((cur i).set 0 v) := fun v => listSet_vi _ _ _ (by omega)
      simp only [s0]
      have a1 : At (vi ((cur i).set 0 (lowR rd false a b (rd set) (rd set) bo (gd (cur i) 0)))) (0 + (l.length - 1) * 1) 1 [vI (gd (cur i) (l.length - 1))] := by
        have := at_gd (l := (cur i).set 0 (lowR rd false a b (rd set) (rd set) bo (gd (cur i) 0))) (i := l.length - 1) (by simp; omega)
        rwa [gd_set (by omega), if_neg (by omega)] at this
      simp only [at1 a1, eq_self, true_and]
      have v1 := half_w R hs (s := 1000) (by decide) g1 (.inl rfl)
      have v2 := half_w R hs (s := 1000) (by decide) g1 (.inr rfl)
      refine ⟨_, R.says _, ?_⟩
      rw [v1.1]
      refine ⟨_, ⟨conQu _ 1000000 (by decide) v1.2.1⟩, ?_⟩
      refine ⟨_, R.says _, ?_⟩
      rw [v2.1]
      refine ⟨_, ⟨conQu _ 1000000 (by decide) v2.2.1⟩, ?_⟩
      rw [v1.2.2, v2.2.2, lowL]
      refine bc_yes (by simp; omega) ?_
      have s1 : ∀ v w : Int, listSet (vi ((cur i).set 0 v)) (0 + (l.length - 1) * 1) [vI w] = vi (((cur i).set 0 v).set (l.length - 1) w) := fun v w => listSet_vi _ _ _ (by simp; omega)
      simp only [s1]
      refine ⟨_, rfl, by simp; omega, by simp; omega, by simp; omega, R.fmi.1, R.fmi.2, ⟨?_⟩, ?_⟩
      · intro z hz
        have := encF_in (up := false) R hs hN z (by rw [hL]; exact hz); omega
      · refine ⟨i + 1, by show i + 1 ≤ st.toNat; omega, by show st.toNat - (i + 1) < st.toNat - i; omega, ?_⟩
        have e : encN rd false mi a b (rd set) (rd set) bo (i + 1) l = encS rd false mi a b (rd set) (rd set) bo (cur i) := encN_succ ..
        show ztL1 _ _ _ ((i + 1 : Nat) : Int) _ _ _ _ _ _ _ _ (vi (encN rd false mi a b (rd set) (rd set) bo (i + 1) l)) _ _ _ _ _ _ _ _ _ _ _ _ _ _ _ _ _ _ _ _ _ = _
        rw [e, encS, hL, w64 (z := (i : Int) + 1) (by omega) (by omega)]; rfl
    · show (if 0 = 0 then _ else _)
      rw [if_pos rfl]
      show ntL2 _ _ (vi (cur i)) a (rd set) n0 c0 mi a b l.length c1 bo b (rd set) n0 c0 mi a b l.length c1 bo l0 _
      rw [ntL2_text]
      have : i = st.toNat := by omega
      rw [this]
      exact ⟨rfl, rfl⟩

theorem takeH {l0 : List Value} {n0 : Nat} {mi a b bo : Int} {rd : Int → Int} (R : RadOK C5 57 l0 n0 mi a b bo rd) {l : List Int} (N : NodOK l) {set : Int} (hs : 0 ≤ set ∧ set ≤ 20000) {st : Int} (hst : 0 ≤ st ∧ st ≤ 1000) (c0 c1 : Nat) :
    CallS Try.prog 37 (takeArgs 81 n0 c0 l.length c1 mi a b bo st) (takeBs 58 84 78 3 n0 c0 l.length c1 mi a b bo (rd set) (rd set) l0 (vi l)) (fun v bs => v = .tuple #[] ∧ bs = takeEnd 58 84 78 3 n0 c0 l.length c1 mi a b bo (rd set) (rd set) l0 (vi (encN rd true mi a b (rd set) (rd set) bo st.toNat l))) := by
  let cur : Nat → List Int := fun i => encN rd true mi a b (rd set) (rd set) bo i l
  have hcur : ∀ i, cur i = encN rd true mi a b (rd set) (rd set) bo i l := fun _ => rfl
  let inv : Nat → Prop := fun i => i ≤ st.toNat
  let sta : Nat → Slots × Blocks := fun i => ztH1 ((0 : Nat) : Int) ((l.length - 1 : Nat) : Int) st i n0 c0 mi a b l.length c1 bo (vi (cur i)) a (rd set) n0 c0 mi a b l.length c1 bo b (rd set) n0 c0 mi a b l.length c1 bo l0
  have hT : List.take (n0 * 2) (List.drop 0 l0) = l0 := by rw [List.drop_zero, ← R.len, List.take_length]
  have hl0 : 0 + n0 * 2 ≤ l0.length := by have := R.len; omega
  have h2 := N.two
  have h8 := N.few
  refine callS_ofG (L := fun _ s b => ∃ x, inv x ∧ sta x = (s, b)) hokH mixed Try.func37 rfl rfl (ids := [0]) (by kernel_rfl) rfl ?_ (fun id hid => ?_)
  · show gtH _ _ mi a b bo n0 c0 l0 l.length c1 (vi l) st (rd set) (rd set) _
    rw [gtH_text]
    simp only [Qv, eq_self, true_and, w_last (show 0 < l.length by omega) (by omega)]
    exact ⟨0, Nat.zero_le _, rfl⟩
  · obtain rfl := List.mem_singleton.1 hid
    refine ⟨_, sta, inv, fun i => st.toNat - i, ⟨fun s b h => h, by kernel_rfl, ?_⟩⟩
    intro i hi
    have hi : i ≤ st.toNat := hi
    have hN : NodOK (cur i) := encN_ok R hs i N
    have hL : (cur i).length = l.length := encN_length ..
    show rtH1 _ _ ((0 : Nat) : Int) ((l.length - 1 : Nat) : Int) st (i : Int) n0 c0 mi a b l.length c1 bo (vi (cur i)) a (rd set) n0 c0 mi a b l.length c1 bo b (rd set) n0 c0 mi a b l.length c1 bo l0 _ _ _
    rw [rtH1_text]
    refine bc_dec (fun h => ?_) (fun h => ?_)
    · have p0 : (0 : Int) ≤ ((0 : Nat) : Int) := by omega
      have p1 : ((0 : Nat) : Int) < (l.length : Int) := by omega
      have z0 : (0 : Int) ≤ ((l.length - 1 : Nat) : Int) := by omega
      have z1 : ((l.length - 1 : Nat) : Int) < (l.length : Int) := by omega
      have g0 := hN.all _ (gd_mem (l := cur i) (i := 0) (by omega))
      have g1 := hN.all _ (gd_mem (l := cur i) (i := l.length - 1) (by omega))
      have a0 : At (vi (cur i)) (0 + 0 * 1) 1 [vI (gd (cur i) 0)] := at_gd (i := 0) (by omega)
      simp only [bc_t p0, bc_t p1, bc_t z0, bc_t z1, Int.toNat_natCast, at1 a0, hT, bc_t hl0, Qv, eq_self, true_and, and_true]
      have w1 := half_w R hs R.fbo g0 (.inl rfl)
      have w2 := half_w R hs R.fbo g0 (.inr rfl)
      refine ⟨_, R.says _, ?_⟩
      rw [w1.1]
      refine ⟨_, ⟨conQu _ 1000000 (by decide) w1.2.1⟩, ?_⟩
      refine ⟨_, R.says _, ?_⟩
      rw [w2.1]
      refine ⟨_, ⟨conQu _ 1000000 (by decide) w2.2.1⟩, ?_⟩
      rw [w1.2.2, w2.2.2, lowH]
      refine bc_yes (by simp; omega) ?_
      have s0 : ∀ v : Int, listSet (vi (cur i)) (0 + 0 * 1) [vI v] = vi ((cur i).set 0 v) := fun v => listSet_vi _ _ _ (by omega)
      simp only [s0]
      have a1 : At (vi ((cur i).set 0 (lowR rd true a b (rd set) (rd set) bo (gd (cur i) 0)))) (0 + (l.length - 1) * 1) 1 [vI (gd (cur i) (l.length - 1))] := by
        have := at_gd (l := (cur i).set 0 (lowR rd true a b (rd set) (rd set) bo (gd (cur i) 0))) (i := l.length - 1) (by simp; omega)
        rwa [gd_set (by omega), if_neg (by omega)] at this
      simp only [at1 a1, eq_self, true_and]
      have v1 := half_w R hs (s := 1000) (by decide) g1 (.inl rfl)
      have v2 := half_w R hs (s := 1000) (by decide) g1 (.inr rfl)
      refine ⟨_, R.says _, ?_⟩
      rw [v1.1]
      refine ⟨_, ⟨conQu _ 1000000 (by decide) v1.2.1⟩, ?_⟩
      refine ⟨_, R.says _, ?_⟩
      rw [v2.1]
      refine ⟨_, ⟨conQu _ 1000000 (by decide) v2.2.1⟩, ?_⟩
      rw [v1.2.2, v2.2.2, lowH]
      refine bc_yes (by simp; omega) ?_
      have s1 : ∀ v w : Int, listSet (vi ((cur i).set 0 v)) (0 + (l.length - 1) * 1) [vI w] = vi (((cur i).set 0 v).set (l.length - 1) w) := fun v w => listSet_vi _ _ _ (by simp; omega)
      simp only [s1]
      refine ⟨_, rfl, by simp; omega, by simp; omega, by simp; omega, R.fmi.1, R.fmi.2, ⟨?_⟩, ?_⟩
      · intro z hz
        have := encF_in (up := true) R hs hN z (by rw [hL]; exact hz); omega
      · refine ⟨i + 1, by show i + 1 ≤ st.toNat; omega, by show st.toNat - (i + 1) < st.toNat - i; omega, ?_⟩
        have e : encN rd true mi a b (rd set) (rd set) bo (i + 1) l = encS rd true mi a b (rd set) (rd set) bo (cur i) := encN_succ ..
        show ztH1 _ _ _ ((i + 1 : Nat) : Int) _ _ _ _ _ _ _ _ (vi (encN rd true mi a b (rd set) (rd set) bo (i + 1) l)) _ _ _ _ _ _ _ _ _ _ _ _ _ _ _ _ _ _ _ _ _ = _
        rw [e, encS, hL, w64 (z := (i : Int) + 1) (by omega) (by omega)]; rfl
    · show (if 0 = 0 then _ else _)
      rw [if_pos rfl]
      show ntH2 _ _ (vi (cur i)) a (rd set) n0 c0 mi a b l.length c1 bo b (rd set) n0 c0 mi a b l.length c1 bo l0 _
      rw [ntH2_text]
      have : i = st.toNat := by omega
      rw [this]
      exact ⟨rfl, rfl⟩

theorem takeP_ok {args : List Value} {bs : Blocks} {K : Value → Blocks → Prop} (hk : takeP C5 57 80 81 58 84 78 3 args bs K) : CallS Try.prog 37 args bs K := by
  unfold takeP at hk
  split at hk
  · split at hk
    · split at hk
      · rename_i hc
        rw [beq_iff_eq] at hc; subst hc
        obtain ⟨e1, e2, out, ⟨rd, set, l, R, N, rfl, rfl, hs, rfl, rfl, hst, rfl⟩, hK⟩ := hk
        rw [eqL_eq e1, eqB_eq e2]
        refine callS_mono (takeL R N hs hst _ _) ?_
        rintro v b ⟨rfl, rfl⟩
        exact hK
      · split at hk
        · rename_i hc
          rw [beq_iff_eq] at hc; subst hc
          obtain ⟨e1, e2, out, ⟨rd, set, l, R, N, rfl, rfl, hs, rfl, rfl, hst, rfl⟩, hK⟩ := hk
          rw [eqL_eq e1, eqB_eq e2]
          refine callS_mono (takeH R N hs hst _ _) ?_
          rintro v b ⟨rfl, rfl⟩
          exact hK
        · exact hk.elim
    · exact hk.elim
  · exact hk.elim
theorem preTOK : PreOK Try.prog (preT C5) := by
  intro g h he args ats H k hk
  unfold preT at he
  rcases ite_so he with ⟨e, rfl⟩ | he
  · rw [beq_iff_eq] at e; subst e
    exact wpState_call (fun args bs K hk => takeP_ok hk) hk
  rcases ite_so he with ⟨e, rfl⟩ | he
  · exact saidH_ok (fun _ _ _ h => h) _ _ _ _ _ hk
  · exact preHOK g h he args ats H k hk
theorem hokT : HandlerOK Try.prog (hT C5) := handlerX_ok mixed preTOK (by decide) 6
theorem zoneC {l0 : List Value} {n0 : Nat} {mi a b bo : Int} {rd : Int → Int} (R : RadOK C5 57 l0 n0 mi a b bo rd) {l m : List Int} (N : NodOK l) (M : NodOK m) {set : Int} (hs : 0 ≤ set ∧ set ≤ 20000) {st : Int} (hst : 0 ≤ st ∧ st ≤ 1000) (c0 c1 c2 : Nat) :
    CallS Try.prog 60 [.agg (encV n0 c0 l.length c1 m.length c2 mi a b bo).toArray, .agg #[.int .i64 set, .int .i64 st]] [(500, .sym l0 false 2), (900, .sym (vi l) true 1), (901, .sym (vi m) true 1)] (fun v bs => v = .tuple #[] ∧ bs = [(900, .sym (vi (encN rd false mi a b (rd set) (rd set) bo st.toNat l)) true 1), (901, .sym (vi (encN rd true mi a b (rd set) (rd set) bo st.toNat m)) true 1)]) := by
  have hT : List.take (n0 * 2) (List.drop 0 l0) = l0 := by rw [List.drop_zero, ← R.len, List.take_length]
  have hl0 : 0 + n0 * 2 ≤ l0.length := by have := R.len; omega
  refine callS_ofG (L := fun _ _ _ => False) hokT mixed Try.func60 rfl rfl (ids := []) (by kernel_rfl) rfl ?_ (fun id hid => by simp at hid)
  show gzT _ _ mi a b bo n0 c0 l0 l.length c1 (vi l) m.length c2 (vi m) set st _
  rw [gzT_text]
  simp only [hT, bc_t hl0, Qv, eq_self, true_and, and_true]
  refine ⟨_, R.says _, _, R.says _, ?_⟩
  refine ⟨_, ⟨rd, set, l, R, N, rfl, rfl, hs, rfl, rfl, hst, rfl⟩, ?_⟩
  refine ⟨_, R.says _, _, R.says _, ?_⟩
  exact ⟨_, ⟨rd, set, m, R, M, rfl, rfl, hs, rfl, rfl, hst, rfl⟩, by first | exact ⟨rfl, rfl⟩ | rfl⟩
theorem zoneP_ok {args : List Value} {bs : Blocks} {K : Value → Blocks → Prop} (hk : zoneP C5 57 args bs K) : CallS Try.prog 60 args bs K := by
  unfold zoneP at hk
  split at hk
  · split at hk
    · obtain ⟨e1, e2, o1, o2, ⟨rd, l, m, R, N, M, rfl, rfl, rfl, rfl, hs, hst, rfl, rfl⟩, hK⟩ := hk
      rw [eqL_eq e1, eqB_eq e2]
      refine callS_mono (zoneC R N M hs hst _ _ _) ?_
      rintro v b ⟨rfl, rfl⟩
      exact hK
    · exact hk.elim
  · exact hk.elim
end Go.Proofs.G5j

/- What is left to show of each function, written out; the kernel reckons it. -/
namespace Go.Proofs.G5j
open Go Go.Abs Go.Proofs
set_option maxRecDepth 100000
set_option linter.unusedVariables false
def gfo (C : Ct) (L : AtLoop) (mi : Int) (a : Int) (b : Int) (bo : Int) (n0 : Nat) (c0 : Nat) (l0 : List Value) (n1 : Nat) (c1 : Nat) (l1 : List Value) (n2 : Nat) (c2 : Nat) (l2 : List Value) (n3 : Nat) (c3 : Nat) (l3 : List Value) (K : Value → Blocks → Prop) : Prop := wpFn Try.prog (hY C) L 0 43 #[.agg #[.slice (some ⟨500, 0, none⟩) n0 c0, .int .i64 mi, .int .i64 a, .int .i64 b, .slice (some ⟨900, 0, none⟩) n1 c1, .int .i64 bo, .slice (some ⟨500, 0, none⟩) n0 c0, .int .i64 mi, .int .i64 a, .int .i64 b, .slice (some ⟨901, 0, none⟩) n2 c2, .int .i64 bo], .slice (some ⟨501, 0, none⟩) n3 c3] (heapOf [(500, .sym l0 false 2), (900, .sym l1 true 1), (901, .sym l2 true 1), (501, .sym l3 false 2)]) (stateK K)
theorem gfo_text (C : Ct) (L : AtLoop) (mi : Int) (a : Int) (b : Int) (bo : Int) (n0 : Nat) (c0 : Nat) (l0 : List Go.Value) (n1 : Nat) (c1 : Nat) (l1 : List Go.Value) (n2 : Nat) (c2 : Nat) (l2 : List Go.Value) (n3 : Nat) (c3 : Nat) (l3 : List Go.Value) (K : Go.Value → Blocks → Prop) : gfo C L mi a b bo n0 c0 l0 n1 c1 l1 n2 c2 l2 n3 c3 l3 K =
 (L 0 [(Prod.mk 2 (Pt 1000 0)), (Prod.mk 6 (Sl 501 (n3) (c3))), (Prod.mk 7 (vI ((↑n3 : Int)))), (Prod.mk 8 (vI 0))] [(Prod.mk 1000 (AObj.cells [(Sl 500 (n0) (c0)), (vI mi), (vI a), (vI b), (Sl 900 (n1) (c1)), (vI bo), (Sl 500 (n0) (c0)), (vI mi), (vI a), (vI b), (Sl 901 (n2) (c2)), (vI bo)] 90 false 1)), (Prod.mk 501 (AObj.sym (l3) false 2)), (Prod.mk 900 (AObj.sym (l1) true 1)), (Prod.mk 901 (AObj.sym (l2) true 1)), (Prod.mk 500 (AObj.sym (l0) false 2))]) := by kernel_rfl
abbrev zfo1 (n0 : Nat) (c1 : Nat) (x2 : Int) (x3 : Int) (n4 : Nat) (c5 : Nat) (x6 : Int) (x7 : Int) (x8 : Int) (n9 : Nat) (c10 : Nat) (x11 : Int) (n12 : Nat) (c13 : Nat) (x14 : Int) (x15 : Int) (x16 : Int) (n17 : Nat) (c18 : Nat) (x19 : Int) (l20 : List Value) (l21 : List Value) (l22 : List Value) (l23 : List Value) : Slots × Blocks := ([(2, (Value.pointer (some ⟨1000, 0, none⟩))), (6, (Value.slice (some ⟨501, 0, none⟩) n0 c1)), (7, (Value.int .i64 x2)), (8, (Value.int .i64 x3))], [(1000, (AObj.cells [(Value.slice (some ⟨500, 0, none⟩) n4 c5), (Value.int .i64 x6), (Value.int .i64 x7), (Value.int .i64 x8), (Value.slice (some ⟨900, 0, none⟩) n9 c10), (Value.int .i64 x11), (Value.slice (some ⟨500, 0, none⟩) n12 c13), (Value.int .i64 x14), (Value.int .i64 x15), (Value.int .i64 x16), (Value.slice (some ⟨901, 0, none⟩) n17 c18), (Value.int .i64 x19)] 90 false 1)), (501, (AObj.sym l20 false 2)), (900, (AObj.sym l21 true 1)), (901, (AObj.sym l22 true 1)), (500, (AObj.sym l23 false 2))])
def rfo1 (C : Ct) (L : AtLoop) (n0 : Nat) (c1 : Nat) (x2 : Int) (x3 : Int) (n4 : Nat) (c5 : Nat) (x6 : Int) (x7 : Int) (x8 : Int) (n9 : Nat) (c10 : Nat) (x11 : Int) (n12 : Nat) (c13 : Nat) (x14 : Int) (x15 : Int) (x16 : Int) (n17 : Nat) (c18 : Nat) (x19 : Int) (l20 : List Value) (l21 : List Value) (l22 : List Value) (l23 : List Value) (B : Bx) (X : Xx) (K : Value → Blocks → Prop) : Prop := wpRound Try.prog (hY C) L 43 0 [(2, (Value.pointer (some ⟨1000, 0, none⟩))), (6, (Value.slice (some ⟨501, 0, none⟩) n0 c1)), (7, (Value.int .i64 x2)), (8, (Value.int .i64 x3))] [(1000, (AObj.cells [(Value.slice (some ⟨500, 0, none⟩) n4 c5), (Value.int .i64 x6), (Value.int .i64 x7), (Value.int .i64 x8), (Value.slice (some ⟨900, 0, none⟩) n9 c10), (Value.int .i64 x11), (Value.slice (some ⟨500, 0, none⟩) n12 c13), (Value.int .i64 x14), (Value.int .i64 x15), (Value.int .i64 x16), (Value.slice (some ⟨901, 0, none⟩) n17 c18), (Value.int .i64 x19)] 90 false 1)), (501, (AObj.sym l20 false 2)), (900, (AObj.sym l21 true 1)), (901, (AObj.sym l22 true 1)), (500, (AObj.sym l23 false 2))] B X (stateK K)
theorem rfo1_text (C : Ct) (L : AtLoop) (n0 : Nat) (c1 : Nat) (x2 : Int) (x3 : Int) (n4 : Nat) (c5 : Nat) (x6 : Int) (x7 : Int) (x8 : Int) (n9 : Nat) (c10 : Nat) (x11 : Int) (n12 : Nat) (c13 : Nat) (x14 : Int) (x15 : Int) (x16 : Int) (n17 : Nat) (c18 : Nat) (x19 : Int) (l20 : List Go.Value) (l21 : List Go.Value) (l22 : List Go.Value) (l23 : List Go.Value) (B : Bx) (X : Xx) (K : Go.Value → Blocks → Prop) : rfo1 C L n0 c1 x2 x3 n4 c5 x6 x7 x8 n9 c10 x11 n12 c13 x14 x15 x16 n17 c18 x19 l20 l21 l22 l23 B X K =
 (bcase (decide (x3 < x2))
 (bcase (decide (0 ≤ x3))
 (bcase (decide (x3 < (↑n0 : Int)))
 (∃ n1 : Int,
 (∃ n2 : Int,
 ((At (l20) (0 + Int.toNat x3 * 2) 2 [(vI n1), (vI n2)]) ∧
 ((((Value.agg [(Sl 500 (n4) (c5)), (vI x6), (vI x7), (vI x8), (Sl 900 (n9) (c10)), (vI x11), (Sl 500 (n12) (c13)), (vI x14), (vI x15), (vI x16), (Sl 901 (n17) (c18)), (vI x19)].toArray) = (Value.agg [(Sl 500 (n4) (c5)), (vI x6), (vI x7), (vI x8), (Sl 900 (n9) (c10)), (vI x11), (Sl 500 (n4) (c5)), (vI x6), (vI x7), (vI x8), (Sl 901 (n17) (c18)), (vI x11)].toArray)) ∧
 ((Qv (Value.agg [(vI n1), (vI n2)].toArray)) ∧
 True)) ∧
 ((((Qv (vI 500)) ∧
 (Qv (some (AObj.sym (l23) false 2)))) ∧
 (((Qv (vI 900)) ∧
 (Qv (some (AObj.sym (l21) true 1)))) ∧
 (((Qv (vI 901)) ∧
 (Qv (some (AObj.sym (l22) true 1)))) ∧
 True))) ∧
 (∃ o11 : List Go.Value,
 (∃ o21 : List Go.Value,
 ((GoodZone C 57 l23 n4 x6 x7 x8 x11 l21 n9 l22 n17 n1 n2 o11 o21) ∧
 (B [(Prod.mk 2 (Pt 1000 0)), (Prod.mk 6 (Sl 501 (n0) (c1))), (Prod.mk 7 (vI x2)), (Prod.mk 8 (vI (IntKind.wrap .i64 (x3 + 1))))] [(Prod.mk 1000 (AObj.cells [(Sl 500 (n4) (c5)), (vI x6), (vI x7), (vI x8), (Sl 900 (n9) (c10)), (vI x11), (Sl 500 (n12) (c13)), (vI x14), (vI x15), (vI x16), (Sl 901 (n17) (c18)), (vI x19)] 90 false 1)), (Prod.mk 501 (AObj.sym (l20) false 2)), (Prod.mk 900 (AObj.sym (o11) true 1)), (Prod.mk 901 (AObj.sym (o21) true 1)), (Prod.mk 500 (AObj.sym (l23) false 2))])))))))))
 False)
 False)
 (X 0 [] [(Prod.mk 900 (AObj.sym (l21) true 1)), (Prod.mk 901 (AObj.sym (l22) true 1))])) := by kernel_rfl
def nfo2 (C : Ct) (L : AtLoop) (l0 : List Value) (l1 : List Value) (K : Value → Blocks → Prop) : Prop := wpNext Try.prog (hY C) L 43 0 .normal [] [(900, (AObj.sym l0 true 1)), (901, (AObj.sym l1 true 1))] (stateK K)
theorem nfo2_text (C : Ct) (L : AtLoop) (l0 : List Go.Value) (l1 : List Go.Value) (K : Go.Value → Blocks → Prop) : nfo2 C L l0 l1 K =
 (K (Value.tuple [].toArray) [(Prod.mk 900 (AObj.sym (l0) true 1)), (Prod.mk 901 (AObj.sym (l1) true 1))]) := by kernel_rfl
end Go.Proofs.G5j

/- Chapter 2, heating: a route's steps of an enclosure. -/
namespace Go.Proofs.G5j
open Go Go.Abs Go.Proofs Go.Proofs.G2
set_option maxRecDepth 100000
abbrev OkZ (z : List (Int × Int)) : Prop := ∀ p ∈ z, (0 ≤ p.1 ∧ p.1 ≤ 20000) ∧ 0 ≤ p.2 ∧ p.2 ≤ 1000
theorem vp_flat : ∀ z : List (Int × Int), (z.flatMap fun p => [Value.int .i64 p.1, .int .i64 p.2]) = vp z
  | [] => rfl
  | p :: r => by rw [List.flatMap_cons, vp_flat r]; rfl
theorem encZ_append (rd : Int → Int) (up : Bool) (mi a b bo : Int) : ∀ (x y : List (Int × Int)) (l : List Int), encZ rd up mi a b bo (x ++ y) l = encZ rd up mi a b bo y (encZ rd up mi a b bo x l)
  | [], _, _ => rfl
  | _ :: r, y, _ => encZ_append rd up mi a b bo r y _
theorem encZ_length (rd : Int → Int) (up : Bool) (mi a b bo : Int) : ∀ (z : List (Int × Int)) (l : List Int), (encZ rd up mi a b bo z l).length = l.length
  | [], _ => rfl
  | p :: r, l => by rw [encZ, encZ_length rd up mi a b bo r, encN_length]
theorem encZ_snoc (rd : Int → Int) (up : Bool) (mi a b bo : Int) {z : List (Int × Int)} {i : Nat} (h : i < z.length) (l : List Int) : encZ rd up mi a b bo (z.take (i + 1)) l = encN rd up mi a b (rd z[i].1) (rd z[i].1) bo z[i].2.toNat (encZ rd up mi a b bo (z.take i) l) := by
  rw [List.take_succ_eq_append_getElem h, encZ_append]; rfl
section
variable {C : FuncId → List D → List D → Prop} {fr : FuncId} {l0 : List Value} {n0 : Nat} {mi a b bo : Int} {rd : Int → Int}
theorem encZ_ok (R : RadOK C fr l0 n0 mi a b bo rd) (up : Bool) : ∀ (z : List (Int × Int)) {l : List Int}, OkZ z → NodOK l → NodOK (encZ rd up mi a b bo z l)
  | [], _, _, N => N
  | p :: r, _, h, N => encZ_ok R up r (fun q hq => h q (List.mem_cons_of_mem _ hq)) (encN_ok R (h p (List.mem_cons_self ..)).1 _ N)
end
theorem preYOK : PreOK Try.prog (preY C5) := by
  intro g h he args ats H k hk
  unfold preY at he
  rcases ite_so he with ⟨e, rfl⟩ | he
  · rw [beq_iff_eq] at e; subst e
    exact wpState_call (fun args bs K hk => zoneP_ok hk) hk
  · exact preTOK g h he args ats H k hk
theorem hokY : HandlerOK Try.prog (hY C5) := handlerX_ok mixed preYOK (by decide) 6
theorem routeC {l0 : List Value} {n0 : Nat} {mi a b bo : Int} {rd : Int → Int} (R : RadOK C5 57 l0 n0 mi a b bo rd) {l m : List Int} (N : NodOK l) (M : NodOK m) {z : List (Int × Int)} (hz : z.length ≤ 1000) (hzz : OkZ z) (c0 c1 c2 c3 : Nat) :
    CallS Try.prog 43 [.agg (encV n0 c0 l.length c1 m.length c2 mi a b bo).toArray, .slice (some ⟨501, 0, none⟩) z.length c3] [(500, .sym l0 false 2), (900, .sym (vi l) true 1), (901, .sym (vi m) true 1), (501, .sym (vp z) false 2)] (fun v bs => v = .tuple #[] ∧ bs = [(900, .sym (vi (encZ rd false mi a b bo z l)) true 1), (901, .sym (vi (encZ rd true mi a b bo z m)) true 1)]) := by
  let inv : Nat → Prop := fun i => i ≤ z.length
  let lo : Nat → List Int := fun i => encZ rd false mi a b bo (z.take i) l
  let hi : Nat → List Int := fun i => encZ rd true mi a b bo (z.take i) m
  let sta : Nat → Slots × Blocks := fun i => zfo1 z.length c3 z.length i n0 c0 mi a b l.length c1 bo n0 c0 mi a b m.length c2 bo (vp z) (vi (lo i)) (vi (hi i)) l0
  refine callS_ofG (L := fun _ s b => ∃ x, inv x ∧ sta x = (s, b)) hokY mixed Try.func43 rfl rfl (ids := [0]) (by kernel_rfl) rfl ?_ (fun id hid => ?_)
  · show gfo _ _ mi a b bo n0 c0 l0 l.length c1 (vi l) m.length c2 (vi m) z.length c3 (vp z) _
    rw [gfo_text]
    exact ⟨0, Nat.zero_le _, rfl⟩
  · obtain rfl := List.mem_singleton.1 hid
    refine ⟨_, sta, inv, fun i => z.length - i, ⟨fun s b h => h, by kernel_rfl, ?_⟩⟩
    intro i hi'
    have hi' : i ≤ z.length := hi'
    have hsub : OkZ (z.take i) := fun p hp => hzz p (List.mem_of_mem_take hp)
    have N' : NodOK (lo i) := encZ_ok R false _ hsub N
    have M' : NodOK (hi i) := encZ_ok R true _ hsub M
    have eL : (lo i).length = l.length := encZ_length ..
    have eM : (hi i).length = m.length := encZ_length ..
    show rfo1 _ _ z.length c3 z.length (i : Int) n0 c0 mi a b l.length c1 bo n0 c0 mi a b m.length c2 bo (vp z) (vi (lo i)) (vi (hi i)) l0 _ _ _
    rw [rfo1_text]
    refine bc_dec (fun h => ?_) (fun h => ?_)
    · have h2 : i < z.length := by omega
      have p0 : (0 : Int) ≤ (i : Int) := by omega
      obtain ⟨hs, ht⟩ := hzz z[i] (List.getElem_mem h2)
      simp only [bc_t p0, bc_t h, Int.toNat_natCast, Qv, eq_self, true_and, and_true]
      refine ⟨_, _, vp_two z i h2, _, _, ⟨rd, lo i, hi i, R, N', M', rfl, eL.symm, rfl, eM.symm, hs, ht, rfl, rfl⟩, ?_⟩
      refine ⟨i + 1, by show i + 1 ≤ z.length; omega, by show z.length - (i + 1) < z.length - i; omega, ?_⟩
      rw [w64 (z := (i : Int) + 1) (by omega) (by omega)]
      show zfo1 _ _ _ _ _ _ _ _ _ _ _ _ _ _ _ _ _ _ _ _ _ (vi (encZ rd false mi a b bo (z.take (i + 1)) l)) (vi (encZ rd true mi a b bo (z.take (i + 1)) m)) _ = _
      rw [encZ_snoc _ _ _ _ _ _ h2, encZ_snoc _ _ _ _ _ _ h2]; rfl
    · show (if 0 = 0 then _ else _)
      rw [if_pos rfl]
      show nfo2 _ _ (vi (lo i)) (vi (hi i)) _
      rw [nfo2_text]
      have e : i = z.length := by omega
      have e1 : lo i = encZ rd false mi a b bo z l := by show encZ _ _ _ _ _ _ (z.take i) l = _; rw [e, List.take_length]
      have e2 : hi i = encZ rd true mi a b bo z m := by show encZ _ _ _ _ _ _ (z.take i) m = _; rw [e, List.take_length]
      rw [e1, e2]
      exact ⟨rfl, rfl⟩
theorem routeP_ok {args : List Value} {bs : Blocks} {K : Value → Blocks → Prop} (hk : routeP C5 57 args bs K) : CallS Try.prog 43 args bs K := by
  unfold routeP at hk
  split at hk
  · split at hk
    · obtain ⟨e1, e2, o1, o2, ⟨rd, l, m, z, R, N, M, rfl, rfl, rfl, rfl, hz, rfl, h1, h2, rfl, rfl⟩, hK⟩ := hk
      rw [vp_flat] at hz; subst hz
      rw [eqL_eq e1, eqB_eq e2]
      refine callS_mono (routeC R N M h1 h2 _ _ _ _) ?_
      rintro v b ⟨rfl, rfl⟩
      exact hK
    · exact hk.elim
  · exact hk.elim
theorem preZOK : PreOK Try.prog (preZ C5) := by
  intro g h he args ats H k hk
  unfold preZ at he
  rcases ite_so he with ⟨e, rfl⟩ | he
  · rw [beq_iff_eq] at e; subst e
    exact wpState_call (fun args bs K hk => zoneP_ok hk) hk
  rcases ite_so he with ⟨e, rfl⟩ | he
  · rw [beq_iff_eq] at e; subst e
    exact wpState_call (fun args bs K hk => routeP_ok hk) hk
  · exact preTOK g h he args ats H k hk
theorem hokZ : HandlerOK Try.prog (hZ C5) := handlerX_ok mixed preZOK (by decide) 6
end Go.Proofs.G5j

/- A walk that is cut at loops and at the ends of named blocks: definitions. -/
namespace Go.Abs
/-- What is met where a walk is cut: what is read later, renumbered. -/
def cutAt (L : AtLoop) (id : Nat) (live : List Tmp) (A : AAct) (H : Heap) : Prop :=
  let keep := sortT live; let μ := gcMu keep A H; bcase (gcAll μ keep A (gcB H μ μ)) (L id (gcS μ keep A) (gcB H μ μ)) False
def cutK (L : AtLoop) (id : Nat) (live : List Tmp) (k : Exit → AAct → Heap → Prop) : Exit → AAct → Heap → Prop := fun e A H =>
  match e with
  | .normal => cutAt L id live A H
  | .exit i => if i = id then cutAt L id live A H else k (.exit i) A H
  | e => k e A H
/-- A region that is cut at its end. -/
def endK (L : AtLoop) (id : Nat) (live : List Tmp) (k : Exit → AAct → Heap → Prop) : Exit → AAct → Heap → Prop := fun e A H =>
  match e with
  | .normal => cutAt L id live A H
  | e => k e A H
/-- As wpT with u = 0; the blocks of J, and the regions of J (30000 and more), are cut at their ends. -/
def wpJ (P : Program) (h : Handler) (L : AtLoop) (J : List Nat) : Code → Lv → AAct → Heap → (Exit → AAct → Heap → Prop) → Prop
  | .seq x y, l, A, H, k => wpJ P h L J x { l with normal := liveIn y l } A H (seqK (fun A' H' => wpJ P h L J y l A' H' k) k)
  | .cond c x y, l, A, H, k =>
    match A.eval c with
    | .bool true => wpJ P h L J x l A H k
    | .bool false => wpJ P h L J y l A H k
    | _ => False
  | .block id body, l, A, H, k =>
    if isLoop body = true then wpT P h L 0 (.block id body) l A H k
    else if J.contains id = true then wpJ P h L J body { l with exits := (id, l.normal) :: l.exits } A H (cutK L id l.normal k)
    else wpJ P h L J body { l with exits := (id, l.normal) :: l.exits } A H (blockK id k)
  | .loop _, _, _, _, _ => False
  | .region id ops d, l, A, H, k =>
    if J.contains (30000 + id) = true then wpT P h L 0 (.region id ops d) l A H (endK L (30000 + id) l.normal k)
    else wpT P h L 0 (.region id ops d) l A H k
  | c, l, A, H, k => wpT P h L 0 c l A H k
/-- The points of a piece of code: its loops, and the blocks of J. -/
def ptIds (J : List Nat) : Code → List Nat
  | .seq x y => ptIds J x ++ ptIds J y
  | .cond _ x y => ptIds J x ++ ptIds J y
  | .block i b => if isLoop b then [i] else if J.contains i then i :: ptIds J b else ptIds J b
  | .rangeFunc _ _ a b => [rngId a b]
  | .region i _ _ => if J.contains (30000 + i) then [30000 + i] else []
  | _ => []
/-- What must be shown where the code goes on behind that point. -/
def aftJ (P : Program) (h : Handler) (L : AtLoop) (J : List Nat) : Code → Lv → Nat → Exit → AAct → Heap → (Exit → AAct → Heap → Prop) → Prop
  | .seq x y, l, id, e, A, H, k =>
    if (ptIds J x).contains id then aftJ P h L J x { l with normal := liveIn y l } id e A H (seqK (fun A' H' => wpJ P h L J y l A' H' k) k)
    else aftJ P h L J y l id e A H k
  | .cond _ x y, l, id, e, A, H, k => if (ptIds J x).contains id then aftJ P h L J x l id e A H k else aftJ P h L J y l id e A H k
  | .block i b, l, id, e, A, H, k =>
    if isLoop b then (if i = id then k e A H else False)
    else if J.contains i then (if i = id then k e A H else aftJ P h L J b { l with exits := (i, l.normal) :: l.exits } id e A H (cutK L i l.normal k))
    else aftJ P h L J b { l with exits := (i, l.normal) :: l.exits } id e A H (blockK i k)
  | .region _ _ _, _, _, e, A, H, k => k e A H
  | .rangeFunc _ _ a b, _, id, e, A, H, k => if rngId a b = id then k e A H else False
  | _, _, _, _, _, _, _ => False
/-- A call whose body is walked with cuts. -/
def jFn (P : Program) (h : Handler) (L : AtLoop) (J : List Nat) (f : FuncId) (args : Array Value) (H : Heap) (k : Value → Heap → Prop) : Prop :=
  match P.funcs[f]? with
  | some fn =>
    match fn.body with
    | some c => wpJ P h L J c (fnLv fn) (act0 fn args) H (fnK P fn k)
    | none => False
  | none => False
/-- What follows a point of the function. -/
def jNext (P : Program) (h : Handler) (L : AtLoop) (J : List Nat) (f : FuncId) (id : Nat) (e : Exit) (s : Slots) (b : Blocks) (k : Value → Heap → Prop) : Prop :=
  match P.funcs[f]? with
  | some fn => match fn.body with | some c => aftJ P h L J c (fnLv fn) id e (actOf (fnSize fn) s) (heapOf b) (fnK P fn k) | none => False
  | none => False
/-- The body of a loop of the function. -/
def jRound (P : Program) (h : Handler) (L : AtLoop) (J : List Nat) (f : FuncId) (id : Nat) (s : Slots) (b : Blocks) (B : Slots → Blocks → Prop) (X : Nat → Slots → Blocks → Prop) (k : Value → Heap → Prop) : Prop :=
  match P.funcs[f]? with
  | some fn =>
    match fn.body with
    | some c =>
      match findLoop c (fnLv fn) id with
      | some (body, l) => wpJ P h L J body l (actOf (fnSize fn) s) (heapOf b) (roundK body l B X (fnK P fn k))
      | none => False
    | none => False
  | none => False
/-- What follows a point within the body of a loop of the function. -/
def jIn (P : Program) (h : Handler) (L : AtLoop) (J : List Nat) (f : FuncId) (id id2 : Nat) (e : Exit) (s : Slots) (b : Blocks) (B : Slots → Blocks → Prop) (X : Nat → Slots → Blocks → Prop) (k : Value → Heap → Prop) : Prop :=
  match P.funcs[f]? with
  | some fn =>
    match fn.body with
    | some c =>
      match findLoop c (fnLv fn) id with
      | some (body, l) => aftJ P h L J body l id2 e (actOf (fnSize fn) s) (heapOf b) (roundK body l B X (fnK P fn k))
      | none => False
    | none => False
  | none => False
/-- The body of a loop within a loop of the function. -/
def jRound2 (P : Program) (h : Handler) (L : AtLoop) (J : List Nat) (f : FuncId) (id id2 : Nat) (s : Slots) (b : Blocks) (B : Slots → Blocks → Prop) (X : Nat → Slots → Blocks → Prop) (k : Value → Heap → Prop) : Prop :=
  match P.funcs[f]? with
  | some fn =>
    match fn.body with
    | some c =>
      match findLoop c (fnLv fn) id with
      | some (body, l) =>
        match findLoop body l id2 with
        | some (body2, l2) => wpJ P h L J body2 l2 (actOf (fnSize fn) s) (heapOf b) (roundK body2 l2 B X (fnK P fn k))
        | none => False
      | none => False
    | none => False
  | none => False
/-- What follows a cut within the body of a loop within a loop. -/
def jIn2 (P : Program) (h : Handler) (L : AtLoop) (J : List Nat) (f : FuncId) (id id2 id3 : Nat) (e : Exit) (s : Slots) (b : Blocks) (B : Slots → Blocks → Prop) (X : Nat → Slots → Blocks → Prop) (k : Value → Heap → Prop) : Prop :=
  match P.funcs[f]? with
  | some fn =>
    match fn.body with
    | some c =>
      match findLoop c (fnLv fn) id with
      | some (body, l) =>
        match findLoop body l id2 with
        | some (body2, l2) => aftJ P h L J body2 l2 id3 e (actOf (fnSize fn) s) (heapOf b) (roundK body2 l2 B X (fnK P fn k))
        | none => False
      | none => False
    | none => False
  | none => False
end Go.Abs

/- A walk that is cut at loops and at the ends of named blocks: it is enough. -/
namespace Go.Abs
open Go.RowKit
variable {P : Program} {ρ : Ren} {w0 : Start P} {w : World} {H : Heap} {h : Handler} {L : AtLoop} {J : List Nat} {sz : Nat}

/-- The points of a piece of code lead on. -/
def ptsOK (P : Program) (h : Handler) (L : AtLoop) (J : List Nat) (sz : Nat) : Code → Lv → Cont → Prop
  | .seq x y, l, k => ptsOK P h L J sz x { l with normal := liveIn y l } (seqK (fun A' H' => wpJ P h L J y l A' H' k) k) ∧ ptsOK P h L J sz y l k
  | .cond _ x y, l, k => ptsOK P h L J sz x l k ∧ ptsOK P h L J sz y l k
  | .block i b, l, k =>
    if isLoop b then i < rbase → ∀ s bl, L i s bl → Holds P false sz (.block i b) (actOf sz s) (heapOf bl) k
    else if J.contains i then (∀ s bl, L i s bl → k .normal (actOf sz s) (heapOf bl)) ∧ ptsOK P h L J sz b { l with exits := (i, l.normal) :: l.exits } (cutK L i l.normal k)
    else ptsOK P h L J sz b { l with exits := (i, l.normal) :: l.exits } (blockK i k)
  | .region i _ _, _, k => if J.contains (30000 + i) then ∀ s bl, L (30000 + i) s bl → k .normal (actOf sz s) (heapOf bl) else True
  | .rangeFunc f ps x y, _, k => ∀ s bl, L (rngId x y) s bl → Holds P false sz (.rangeFunc f ps x y) (actOf sz s) (heapOf bl) k
  | _, _, _ => True

theorem cutAt_out {id : Nat} {live : List Tmp} {A : AAct} {a : Act} (hk : cutAt L id live A H) (g : Gam w0 ρ H w) (ra : ActR ρ A a) : ∃ s bl ρ2, L id s bl ∧ Gam w0 ρ2 (heapOf bl) w ∧ ActR ρ2 (actOf A.size s) a := by
  unfold cutAt at hk
  obtain ⟨hgood, hk⟩ := bcase_out hk
  obtain ⟨g2, ra2⟩ := gc_sub g ra (keep := _) hgood
  exact ⟨_, _, _, hk, g2, ra2⟩

theorem wpJ_sound (hh : HandlerOK P h) (hmix : P.follows .mixedOrders = true) : ∀ (c : Code) {l : Lv} {A : AAct} {H : Heap} {K : Cont}, wpJ P h L J c l A H K → ptsOK P h L J sz c l K → Holds P false sz c A H K := by
  intro c
  induction c with
  | seq x y ihx ihy =>
    intro l A H K hk hl w0 ρ w a n g ra hs
    simp only [wpJ] at hk
    refine wpIn_seq (wpIn_mono (ihx hk hl.1 w0 ρ w a n g ra hs) ?_)
    rintro e a1 w1 ⟨A1, H1, ρ1, k1, s1, ra1, g1, ext1⟩
    cases e with
    | normal => exact wpIn_mono (ihy k1 hl.2 w0 ρ1 w1 a1 n g1 ra1 s1) (fun e a w p => p.back ext1)
    | _ => exact ⟨A1, H1, ρ1, k1, s1, ra1, g1, ext1⟩
  | cond c x y ihx ihy =>
    intro l A H K hk hl w0 ρ w a n g ra hs
    simp only [wpJ] at hk
    have hc := ra.eval c
    split at hk
    · rename_i ec
      rw [ec] at hc
      exact wpIn_cond_true hc.bool_inv (ihx hk hl.1 w0 ρ w a n g ra hs)
    · rename_i ec
      rw [ec] at hc
      exact wpIn_cond_false hc.bool_inv (ihy hk hl.2 w0 ρ w a n g ra hs)
    · cases hk
  | block id body ih =>
    intro l A H K hk hl w0 ρ w a n g ra hs
    simp only [wpJ] at hk
    simp only [ptsOK] at hl
    split at hk
    · rename_i hlp
      rw [if_pos hlp] at hl
      refine wpT_sound (L := L) (u := 0) (b := false) hh hmix (fun _ => rfl) _ hk (fun _ => ?_) w0 ρ w a n g ra hs
      simp only [loopsOK]
      rw [if_pos hlp]
      exact hl
    · rename_i hlp
      rw [if_neg hlp] at hl
      split at hk
      · rename_i hJ
        rw [if_pos hJ] at hl
        refine wpIn_block (wpIn_mono (ih hk hl.2 w0 ρ w a n g ra hs) ?_)
        rintro e a1 w1 ⟨A1, H1, ρ1, k1, s1, ra1, g1, _⟩
        have cut : cutAt L id l.normal A1 H1 → Post w0 ρ H false sz K .normal a1 w1 := by
          intro hc
          obtain ⟨s, bl, ρ2, h1, h2, h3⟩ := cutAt_out hc g1 ra1
          rw [s1] at h3
          exact ⟨_, _, ρ2, hl.1 s bl h1, rfl, h3, h2, fun hb => by cases hb⟩
        cases e with
        | normal => exact cut k1
        | exit id' =>
          simp only [cutK] at k1
          by_cases hid : id' = id
          · simp only [hid, if_true] at k1
            simp only [Exit.inBlock, hid, if_true]
            exact cut k1
          · simp only [hid, if_false] at k1
            simp only [Exit.inBlock, hid, if_false]
            exact ⟨A1, H1, ρ1, k1, s1, ra1, g1, fun hb => by cases hb⟩
        | _ => exact ⟨A1, H1, ρ1, k1, s1, ra1, g1, fun hb => by cases hb⟩
      · rename_i hJ
        rw [if_neg hJ] at hl
        refine wpIn_block (wpIn_mono (ih hk hl w0 ρ w a n g ra hs) ?_)
        rintro e a1 w1 ⟨A1, H1, ρ1, k1, s1, ra1, g1, ext1⟩
        cases e with
        | exit id' =>
          simp only [blockK] at k1
          by_cases hid : id' = id
          · simp only [hid, if_true] at k1
            simp only [Exit.inBlock, hid, if_true]
            exact ⟨A1, H1, ρ1, k1, s1, ra1, g1, ext1⟩
          · simp only [hid, if_false] at k1
            simp only [Exit.inBlock, hid, if_false]
            exact ⟨A1, H1, ρ1, k1, s1, ra1, g1, ext1⟩
        | _ => exact ⟨A1, H1, ρ1, k1, s1, ra1, g1, ext1⟩
  | loop body ih => intro l A H K hk; exact hk.elim
  | skip => intro l A H K hk _; exact wpT_sound (L := L) (u := 0) (b := false) hh hmix (fun _ => rfl) _ hk (fun _ => trivial)
  | region id ops draw =>
    intro l A H K hk hl
    simp only [wpJ] at hk
    simp only [ptsOK] at hl
    split at hk
    · rename_i hJ
      rw [if_pos hJ] at hl
      intro w0 ρ w a n g ra hs
      refine wpIn_mono (wpT_sound (L := L) (u := 0) (b := false) hh hmix (fun _ => rfl) _ hk (fun _ => trivial) w0 ρ w a n g ra hs) ?_
      rintro e a1 w1 ⟨A1, H1, ρ1, k1, s1, ra1, g1, _⟩
      cases e with
      | normal =>
        obtain ⟨s, bl, ρ2, h1, h2, h3⟩ := cutAt_out k1 g1 ra1
        rw [s1] at h3
        exact ⟨_, _, ρ2, hl s bl h1, rfl, h3, h2, fun hb => by cases hb⟩
      | _ => exact ⟨A1, H1, ρ1, k1, s1, ra1, g1, fun hb => by cases hb⟩
    · exact wpT_sound (L := L) (u := 0) (b := false) hh hmix (fun _ => rfl) _ hk (fun _ => trivial)
  | exit id => intro l A H K hk _; exact wpT_sound (L := L) (u := 0) (b := false) hh hmix (fun _ => rfl) _ hk (fun _ => trivial)
  | ret => intro l A H K hk _; exact wpT_sound (L := L) (u := 0) (b := false) hh hmix (fun _ => rfl) _ hk (fun _ => trivial)
  | rangeFunc f ps x y _ _ =>
    intro l A H K hk hl
    exact wpT_sound (L := L) (u := 0) (b := false) hh hmix (fun _ => rfl) _ hk (fun _ => hl)
  | label l => intro l A H K hk; exact hk.elim
  | goto l => intro l A H K hk; exact hk.elim
  | scope body _ => intro l A H K hk; exact hk.elim
  | refuse why => intro l A H K hk; exact hk.elim

theorem nodupB_of {l : List Nat} (hl : l.Nodup) : nodupB l = true := by
  induction l with
  | nil => rfl
  | cons a l ih => simp only [List.nodup_cons] at hl; simp only [nodupB, Bool.and_eq_true, Bool.not_eq_true']; exact ⟨by simpa using hl.1, ih hl.2⟩
theorem findLoop_pt : ∀ (c : Code) (l : Lv) (id : Nat) {r : Code × Lv}, findLoop c l id = some r → id ∈ ptIds J c := by
  intro c
  induction c with
  | seq x y ihx ihy =>
    intro l id r hr
    simp only [findLoop] at hr
    simp only [ptIds, List.mem_append]
    rcases Option.or_eq_some_iff.1 hr with h | ⟨_, h⟩
    · exact .inl (ihx _ _ h)
    · exact .inr (ihy _ _ h)
  | cond c x y ihx ihy =>
    intro l id r hr
    simp only [findLoop] at hr
    simp only [ptIds, List.mem_append]
    rcases Option.or_eq_some_iff.1 hr with h | ⟨_, h⟩
    · exact .inl (ihx _ _ h)
    · exact .inr (ihy _ _ h)
  | block i b ih =>
    intro l id r hr
    simp only [findLoop] at hr
    simp only [ptIds]
    split at hr
    · rename_i hlp
      split at hr
      · rename_i e; simp [hlp, e]
      · cases hr
    · rename_i hlp
      rw [if_neg hlp]
      split
      · exact List.mem_cons_of_mem _ (ih _ _ hr)
      · exact ih _ _ hr
  | rangeFunc f ps a b _ _ =>
    intro l id r hr
    simp only [findLoop] at hr
    split at hr
    · rename_i e; simp [ptIds, e]
    · cases hr
  | _ => intro l id r hr; simp [findLoop] at hr

/-- It is enough to look at each point by its number. -/
theorem ptsOK_of : ∀ (c : Code) {l : Lv} {K : Cont}, nodupB (ptIds J c) = true →
    (∀ id body l', findLoop c l id = some (body, l') → (id < rbase ∨ isRange body = true) → ∀ s bl, L id s bl → Holds P false sz (stmtOf id body) (actOf sz s) (heapOf bl) (fun e A H => aftJ P h L J c l id e A H K)) →
    (∀ id ∈ ptIds J c, findLoop c l id = none → ∀ s bl, L id s bl → aftJ P h L J c l id .normal (actOf sz s) (heapOf bl) K) → ptsOK P h L J sz c l K := by
  intro c
  induction c with
  | seq x y ihx ihy =>
    intro l K hn hl hc
    have hn' := nodupB_spec hn
    simp only [ptIds] at hn'
    obtain ⟨n1, n2, n3⟩ := List.nodup_append.1 hn'
    have inx : ∀ {id : Nat}, id ∈ ptIds J x → (ptIds J x).contains id = true := fun h => by simpa using h
    have iny : ∀ {id : Nat}, id ∈ ptIds J y → (ptIds J x).contains id = false := fun {id} hy => by
      cases hx : (ptIds J x).contains id with
      | false => rfl
      | true => exact absurd rfl (n3 id (by simpa using hx) id hy)
    have nox : ∀ {id : Nat} {l' : Lv}, id ∈ ptIds J y → findLoop x l' id = none := fun {id l'} hy => by
      cases hx : findLoop x l' id with
      | none => rfl
      | some r => exact absurd rfl (n3 id (findLoop_pt x _ id hx) id hy)
    have noy : ∀ {id : Nat} {l' : Lv}, id ∈ ptIds J x → findLoop y l' id = none := fun {id l'} hx => by
      cases hy : findLoop y l' id with
      | none => rfl
      | some r => exact absurd rfl (n3 id hx id (findLoop_pt y _ id hy))
    refine ⟨ihx (nodupB_of n1) (fun id body l' hf hrb s bl hs => ?_) (fun id hi hf s bl hs => ?_), ihy (nodupB_of n2) (fun id body l' hf hrb s bl hs => ?_) (fun id hi hf s bl hs => ?_)⟩
    · have := hl id body l' (by simp only [findLoop]; rw [hf]; rfl) hrb s bl hs
      simpa only [aftJ, inx (findLoop_pt x _ id hf), if_true] using this
    · have := hc id (by simp only [ptIds]; exact List.mem_append_left _ hi) (by simp only [findLoop]; rw [hf, noy hi]; rfl) s bl hs
      simpa only [aftJ, inx hi, if_true] using this
    · have hi := findLoop_pt (J := J) y _ id hf
      have := hl id body l' (by simp only [findLoop]; rw [nox hi]; exact hf) hrb s bl hs
      simpa only [aftJ, iny hi, Bool.false_eq_true, if_false] using this
    · have := hc id (by simp only [ptIds]; exact List.mem_append_right _ hi) (by simp only [findLoop]; rw [hf, nox hi]; rfl) s bl hs
      simpa only [aftJ, iny hi, Bool.false_eq_true, if_false] using this
  | cond c x y ihx ihy =>
    intro l K hn hl hc
    have hn' := nodupB_spec hn
    simp only [ptIds] at hn'
    obtain ⟨n1, n2, n3⟩ := List.nodup_append.1 hn'
    have inx : ∀ {id : Nat}, id ∈ ptIds J x → (ptIds J x).contains id = true := fun h => by simpa using h
    have iny : ∀ {id : Nat}, id ∈ ptIds J y → (ptIds J x).contains id = false := fun {id} hy => by
      cases hx : (ptIds J x).contains id with
      | false => rfl
      | true => exact absurd rfl (n3 id (by simpa using hx) id hy)
    have nox : ∀ {id : Nat} {l' : Lv}, id ∈ ptIds J y → findLoop x l' id = none := fun {id l'} hy => by
      cases hx : findLoop x l' id with
      | none => rfl
      | some r => exact absurd rfl (n3 id (findLoop_pt x _ id hx) id hy)
    have noy : ∀ {id : Nat} {l' : Lv}, id ∈ ptIds J x → findLoop y l' id = none := fun {id l'} hx => by
      cases hy : findLoop y l' id with
      | none => rfl
      | some r => exact absurd rfl (n3 id hx id (findLoop_pt y _ id hy))
    refine ⟨ihx (nodupB_of n1) (fun id body l' hf hrb s bl hs => ?_) (fun id hi hf s bl hs => ?_), ihy (nodupB_of n2) (fun id body l' hf hrb s bl hs => ?_) (fun id hi hf s bl hs => ?_)⟩
    · have := hl id body l' (by simp only [findLoop]; rw [hf]; rfl) hrb s bl hs
      simpa only [aftJ, inx (findLoop_pt x _ id hf), if_true] using this
    · have := hc id (by simp only [ptIds]; exact List.mem_append_left _ hi) (by simp only [findLoop]; rw [hf, noy hi]; rfl) s bl hs
      simpa only [aftJ, inx hi, if_true] using this
    · have hi := findLoop_pt (J := J) y _ id hf
      have := hl id body l' (by simp only [findLoop]; rw [nox hi]; exact hf) hrb s bl hs
      simpa only [aftJ, iny hi, Bool.false_eq_true, if_false] using this
    · have := hc id (by simp only [ptIds]; exact List.mem_append_right _ hi) (by simp only [findLoop]; rw [hf, nox hi]; rfl) s bl hs
      simpa only [aftJ, iny hi, Bool.false_eq_true, if_false] using this
  | block i b ih =>
    intro l K hn hl hc
    simp only [ptsOK]
    by_cases hlp : isLoop b = true
    · rw [if_pos hlp]
      intro hid s bl hs
      cases b with
      | loop body =>
        have := hl i body _ (by simp [findLoop, isLoop]; rfl) (.inl hid) s bl hs
        simpa only [aftJ, isLoop, if_true, stmtOf, hid] using this
      | _ => simp [isLoop] at hlp
    · rw [if_neg hlp]
      have hfl : ∀ id, findLoop (.block i b) l id = findLoop b { l with exits := (i, l.normal) :: l.exits } id := fun id => by simp only [findLoop]; rw [if_neg hlp]
      by_cases hJ : J.contains i = true
      · rw [if_pos hJ]
        have hn' : nodupB (i :: ptIds J b) = true := by simp only [ptIds] at hn; rw [if_neg hlp, if_pos hJ] at hn; exact hn
        have hnd := List.nodup_cons.1 (nodupB_spec hn')
        have hp : ptIds J (.block i b) = i :: ptIds J b := by simp only [ptIds]; rw [if_neg hlp, if_pos hJ]
        refine ⟨fun s bl hs => ?_, ih (nodupB_of hnd.2) (fun id body l' hf hrb s bl hs => ?_) (fun id hi hf s bl hs => ?_)⟩
        · have hno : findLoop (.block i b) l i = none := by
            rw [hfl]
            cases hx : findLoop b { l with exits := (i, l.normal) :: l.exits } i with
            | none => rfl
            | some r => exact absurd (findLoop_pt b _ i hx) hnd.1
          have := hc i (by rw [hp]; exact List.mem_cons_self ..) hno s bl hs
          simpa only [aftJ, hlp, hJ, if_true, if_false, Bool.false_eq_true] using this
        · have hne : i ≠ id := fun e => by subst e; exact hnd.1 (findLoop_pt b _ _ hf)
          have := hl id body l' (by rw [hfl]; exact hf) hrb s bl hs
          simpa only [aftJ, hlp, hJ, hne, if_true, if_false, Bool.false_eq_true] using this
        · have hne : i ≠ id := fun e => by subst e; exact hnd.1 hi
          have := hc id (by rw [hp]; exact List.mem_cons_of_mem _ hi) (by rw [hfl]; exact hf) s bl hs
          simpa only [aftJ, hlp, hJ, hne, if_true, if_false, Bool.false_eq_true] using this
      · rw [if_neg hJ]
        have hp : ptIds J (.block i b) = ptIds J b := by simp only [ptIds]; rw [if_neg hlp, if_neg hJ]
        refine ih (by rw [hp] at hn; exact hn) (fun id body l' hf hrb s bl hs => ?_) (fun id hi hf s bl hs => ?_)
        · have := hl id body l' (by rw [hfl]; exact hf) hrb s bl hs
          simpa only [aftJ, hlp, hJ, if_false, Bool.false_eq_true] using this
        · have := hc id (by rw [hp]; exact hi) (by rw [hfl]; exact hf) s bl hs
          simpa only [aftJ, hlp, hJ, if_false, Bool.false_eq_true] using this
  | region i ops d =>
    intro l K hn hl hc
    simp only [ptsOK]
    by_cases hJ : J.contains (30000 + i) = true
    · rw [if_pos hJ]
      intro s bl hs
      have := hc (30000 + i) (by simp only [ptIds]; rw [if_pos hJ]; exact List.mem_cons_self ..) (by simp [findLoop]) s bl hs
      simpa only [aftJ] using this
    · rw [if_neg hJ]; trivial
  | rangeFunc f ps a b _ _ =>
    intro l K hn hl hc s bl hs
    have := hl (rngId a b) (.rangeFunc f ps a b) l (by simp [findLoop]) (.inr rfl) s bl hs
    have hge : ¬ rngId a b < rbase := by unfold rngId; omega
    simpa only [aftJ, stmtOf, hge, if_false, if_true] using this
  | _ => intro l K _ _ _; trivial

/-- What returns from within goes on as a return. -/
theorem aftJ_ret : ∀ (c : Code) {l : Lv} {id : Nat} {A : AAct} {H : Heap} {K : Cont}, id ∈ ptIds J c → K .ret A H → aftJ P h L J c l id .ret A H K := by
  intro c
  induction c with
  | seq x y ihx ihy =>
    intro l id A H K hf hk
    simp only [aftJ]
    simp only [ptIds, List.mem_append] at hf
    split
    · rename_i hx; exact ihx (by simpa using hx) hk
    · rename_i hx
      exact ihy (hf.resolve_left (by simpa using hx)) hk
  | cond c x y ihx ihy =>
    intro l id A H K hf hk
    simp only [aftJ]
    simp only [ptIds, List.mem_append] at hf
    split
    · rename_i hx; exact ihx (by simpa using hx) hk
    · rename_i hx
      exact ihy (hf.resolve_left (by simpa using hx)) hk
  | block i b ih =>
    intro l id A H K hf hk
    simp only [aftJ]
    simp only [ptIds] at hf
    split
    · rename_i hlp
      simp only [hlp, if_true, List.mem_singleton] at hf
      rw [if_pos hf.symm]; exact hk
    · rename_i hlp
      rw [if_neg hlp] at hf
      split
      · rename_i hJ
        rw [if_pos hJ] at hf
        split
        · exact hk
        · rename_i hne
          exact ih ((List.mem_cons.1 hf).resolve_left (fun e => hne e.symm)) hk
      · rename_i hJ
        rw [if_neg hJ] at hf
        exact ih hf hk
  | region i ops d => intro l id A H K _ hk; exact hk
  | rangeFunc f ps a b _ _ =>
    intro l id A H K hf hk
    simp only [ptIds, List.mem_singleton] at hf
    simp only [aftJ]
    rw [if_pos hf.symm]; exact hk
  | _ => intro l id A H K hf; simp [ptIds] at hf

/-- THE RULE OF A LOOP, with points within its body. -/
theorem loop_ruleJ (hh : HandlerOK P h) (hmix : P.follows .mixedOrders = true) {X : Type} (st : X → Slots × Blocks) (inv : X → Prop) (m : X → Nat) {id : Nat} {body : Code} {l' : Lv} {k : Cont} {R : Cont}
    (hb : ∀ x, inv x → ∃ L : AtLoop, wpJ P h L J body l' (actOf sz (st x).1) (heapOf (st x).2) (roundK body l' (fun s b => ∃ y, inv y ∧ m y < m x ∧ st y = (s, b)) (fun i s b => if i = id then k .normal (actOf sz s) (heapOf b) else k (.exit i) (actOf sz s) (heapOf b)) R) ∧
      ptsOK P h L J sz body l' (roundK body l' (fun s b => ∃ y, inv y ∧ m y < m x ∧ st y = (s, b)) (fun i s b => if i = id then k .normal (actOf sz s) (heapOf b) else k (.exit i) (actOf sz s) (heapOf b)) R))
    (hR : ∀ e A H, (e = .ret) → R e A H → k e A H) (hR2 : ∀ e A H, e ≠ .ret → e ≠ .normal → ¬ R e A H) :
    ∀ x, inv x → Holds P false sz (.block id (.loop body)) (actOf sz (st x).1) (heapOf (st x).2) k := by
  have key : ∀ (N : Nat) (x : X), m x < N → inv x → ∀ (w0 : Start P) (ρ : Ren) (w : World) (a : Act) (n : Nat), Gam w0 ρ (heapOf (st x).2) w → ActR ρ (actOf sz (st x).1) a →
      body.wpIn (Fr none) n P (Exit.then (LoopIn body (Fr none) n P (fun e a w => ∀ (ρ0 : Ren) (H0 : Heap), Post w0 ρ0 H0 false sz (fun e A H => match e with | .exit i => if i = id then k .normal A H else k (.exit i) A H | e => k e A H) e a w)) (fun e a w => ∀ (ρ0 : Ren) (H0 : Heap), Post w0 ρ0 H0 false sz (fun e A H => match e with | .exit i => if i = id then k .normal A H else k (.exit i) A H | e => k e A H) e a w)) a w := by
    intro N
    induction N with
    | zero => intro x hx; omega
    | succ N ih =>
      intro x hx hinv w0 ρ w a n g ra
      obtain ⟨L, hb1, hb2⟩ := hb x hinv
      refine wpIn_mono (wpJ_sound hh hmix body hb1 hb2 w0 ρ w a n g ra rfl) ?_
      rintro e a1 w1 ⟨A1, H1, ρ1, k1, s1, ra1, g1, _⟩
      cases e with
      | normal =>
        simp only [roundK] at k1
        obtain ⟨hgood, y, hy, hlt, he⟩ := bcase_out k1
        obtain ⟨g2, ra2⟩ := gc_sub g1 ra1 (keep := _) hgood
        have e1 : (st y).1 = _ := congrArg Prod.fst he
        have e2 : (st y).2 = _ := congrArg Prod.snd he
        exact loopIn_once (ih y (by omega) hy w0 _ w1 a1 n (by rw [e2]; exact g2) (by rw [e1, ← s1]; exact ra2))
      | exit i =>
        simp only [roundK] at k1
        obtain ⟨hgood, k1⟩ := bcase_out k1
        obtain ⟨g2, ra2⟩ := gc_sub g1 ra1 (keep := _) hgood
        intro ρ0 H0
        refine ⟨_, _, _, k1, ?_, by rw [← s1]; exact ra2, g2, fun h => by cases h⟩
        rfl
      | ret =>
        intro ρ0 H0
        exact ⟨A1, H1, ρ1, hR _ _ _ rfl k1, s1, ra1, g1, fun h => by cases h⟩
      | goto t => exact absurd k1 (hR2 _ _ _ (by simp) (by simp))
      | panic ch => exact absurd k1 (hR2 _ _ _ (by simp) (by simp))
      | outgrown => exact absurd k1 (hR2 _ _ _ (by simp) (by simp))
  intro x hinv w0 ρ w a n g ra hs
  refine wpIn_block (wpIn_mono (wpIn_loop_once (key _ x (Nat.lt_succ_self _) hinv w0 ρ w a n g ra)) ?_)
  intro e a1 w1 hp
  obtain ⟨A1, H1, ρ1, k1, s1, ra1, g1, _⟩ := hp ρ (heapOf (st x).2)
  cases e with
  | exit i =>
    simp only at k1
    by_cases hi : i = id
    · simp only [hi, if_true] at k1
      simp only [Exit.inBlock, hi, if_true]
      exact ⟨A1, H1, ρ1, k1, s1, ra1, g1, fun h => by cases h⟩
    · simp only [hi, if_false] at k1
      simp only [Exit.inBlock, hi, if_false]
      exact ⟨A1, H1, ρ1, k1, s1, ra1, g1, fun h => by cases h⟩
  | _ => exact ⟨A1, H1, ρ1, k1, s1, ra1, g1, fun h => by cases h⟩
end Go.Abs

/- Functions with cuts, and loops within loops: by what is left to show of each part. -/
namespace Go.Abs
open Go.RowKit
variable {P : Program} {ρ : Ren} {w0 : Start P} {w : World} {H : Heap} {h : Handler} {L : AtLoop} {J : List Nat}

theorem jFn_run (hh : HandlerOK P h) (hmix : P.follows .mixedOrders = true) {f : FuncId} {fn : Func} {c : Code} (hf : P.funcs[f]? = some fn) (hc : fn.body = some c) {args : Array Value} {k : Value → Heap → Prop}
    (hk : jFn P h L J f args H k) (hl : ptsOK P h L J (max args.size fn.ntmps) c (fnLv fn) (fnK P fn k))
    (g : Gam w0 ρ H w) {args' : Array Value} (n : Nat) (ha : LR ρ args.toList args'.toList) :
    CallsIn Fence.wide n P f args' w fun e w' => ∃ v H' ρ' v', k v H' ∧ e = .returned v' ∧ VR ρ' v v' ∧ Gam w0 ρ' H' w' := by
  unfold jFn at hk
  simp only [hf, hc] at hk
  refine callsIn_of_wp_marks hf hc trivial ?_
  refine wpIn_mono (wpJ_sound hh hmix c hk hl w0 ρ w _ n g (initial_act ha fn.ntmps) rfl) ?_
  rintro e a1 w1 ⟨A1, H1, ρ1, k1, s1, ra1, g1, _⟩
  have fin : ∀ {v : Value} {H2 : Heap}, takeA A1.defers H1 = some H2 → resultsA P H2 fn A1 = some v → k v H2 → LeavesInM Fence.wide n P fn a1.tmps (fun e w' => ∃ v H' ρ' v', k v H' ∧ e = .returned v' ∧ VR ρ' v v' ∧ Gam w0 ρ' H' w') a1.defers .returning w1 := by
    intro v H2 hd hr hkv
    have hdd := ra1.defers
    refine leaves_R (P := P) (ρ := ρ1) (w0 := w0) A1.defers a1.defers hd g1 hdd (fun w2 g2 ext2 => ?_)
    obtain ⟨v', hv, hrun⟩ := resultsA_sound g2 ra1 hr
    exact ⟨v', hrun, v, H2, ρ1, v', hkv, rfl, hv, g2⟩
  cases e with
  | normal =>
    simp only [fnK] at k1
    split at k1
    · rename_i hd
      split at k1
      · rename_i v hr; exact fin hd hr k1
      · cases k1
    · cases k1
  | ret =>
    simp only [fnK] at k1
    split at k1
    · rename_i hd
      split at k1
      · rename_i v hr; exact fin hd hr k1
      · cases k1
    · cases k1
  | _ => exact k1.elim

abbrev Kx := Slots → Blocks → Prop
abbrev Xk := Nat → Slots → Blocks → Prop
/-- A loop within a round of a loop: its points are cuts. -/
structure LoopJ2 (P : Program) (h : Handler) (J : List Nat) (f : FuncId) (c : Code) (lv : Lv) (id id2 : Nat) (L : AtLoop) (B : Kx) (X : Xk) (F : Value → Heap → Prop) : Type 1 where
  Y : Type
  st : Y → Slots × Blocks
  inv : Y → Prop
  m : Y → Nat
  head : ∀ s b, L id2 s b → ∃ y, inv y ∧ st y = (s, b)
  pts : List Nat
  is : ((findLoop c lv id).bind fun r => (findLoop r.1 r.2 id2).map fun q => (ptIds J q.1, loopIds q.1)) = some (pts, [])
  nd : nodupB pts = true
  round : ∀ y, inv y → ∃ L2 : AtLoop,
    jRound2 P h L2 J f id id2 (st y).1 (st y).2 (fun s b => ∃ z, inv z ∧ m z < m y ∧ st z = (s, b)) (fun i s b => if i = id2 then jIn P h L J f id id2 .normal s b B X F else jIn P h L J f id id2 (.exit i) s b B X F) F ∧
    ∀ id3 ∈ pts, ∀ s b, L2 id3 s b → jIn2 P h L2 J f id id2 id3 .normal s b (fun s b => ∃ z, inv z ∧ m z < m y ∧ st z = (s, b)) (fun i s b => if i = id2 then jIn P h L J f id id2 .normal s b B X F else jIn P h L J f id id2 (.exit i) s b B X F) F
/-- A loop of a function. -/
structure LoopJ (P : Program) (h : Handler) (J : List Nat) (f : FuncId) (c : Code) (lv : Lv) (id : Nat) (L : AtLoop) (F : Value → Heap → Prop) : Type 1 where
  Y : Type
  st : Y → Slots × Blocks
  inv : Y → Prop
  m : Y → Nat
  head : ∀ s b, L id s b → ∃ y, inv y ∧ st y = (s, b)
  pts : List Nat
  loops : List Nat
  is : ((findLoop c lv id).map fun r => (ptIds J r.1, loopIds r.1)) = some (pts, loops)
  nd : nodupB pts = true
  round : ∀ y, inv y → ∃ L2 : AtLoop,
    jRound P h L2 J f id (st y).1 (st y).2 (fun s b => ∃ z, inv z ∧ m z < m y ∧ st z = (s, b)) (fun i s b => if i = id then jNext P h L J f id .normal s b F else jNext P h L J f id (.exit i) s b F) F ∧
    (∀ id2 ∈ pts, id2 ∉ loops → ∀ s b, L2 id2 s b → jIn P h L2 J f id id2 .normal s b (fun s b => ∃ z, inv z ∧ m z < m y ∧ st z = (s, b)) (fun i s b => if i = id then jNext P h L J f id .normal s b F else jNext P h L J f id (.exit i) s b F) F) ∧
    (∀ id2 ∈ loops, Nonempty (LoopJ2 P h J f c lv id id2 L2 (fun s b => ∃ z, inv z ∧ m z < m y ∧ st z = (s, b)) (fun i s b => if i = id then jNext P h L J f id .normal s b F else jNext P h L J f id (.exit i) s b F) F))

theorem loopJ2_holds (hh : HandlerOK P h) (hmix : P.follows .mixedOrders = true) {f : FuncId} {fn : Func} {c : Code} (hf : P.funcs[f]? = some fn) (hc : fn.body = some c) {id id2 : Nat} {F : Value → Heap → Prop} {B : Kx} {X : Xk} {body : Code} {l' : Lv} (hfl : findLoop c (fnLv fn) id = some (body, l')) {body2 : Code} {l2 : Lv} (hf2 : findLoop body l' id2 = some (body2, l2))
    (g : LoopJ2 P h J f c (fnLv fn) id id2 L B X F) (hr : id2 < rbase ∨ isRange body2 = true) {s : Slots} {b : Blocks} (hs : L id2 s b) :
    Holds P false (fnSize fn) (stmtOf id2 body2) (actOf (fnSize fn) s) (heapOf b) (fun e A H => aftJ P h L J body l' id2 e A H (roundK body l' B X (fnK P fn F))) := by
  obtain ⟨y, hy, he⟩ := g.head s b hs
  have e1 : (g.st y).1 = s := congrArg Prod.fst he
  have e2 : (g.st y).2 = b := congrArg Prod.snd he
  have his := g.is
  rw [hfl] at his
  simp only [Option.bind_some, hf2, Option.map_some, Option.some.injEq, Prod.mk.injEq] at his
  rw [stmt_loop hr his.2]
  have eqX : ∀ (B : Kx) (X : Xk) i s b, (if i = id2 then jIn P h L J f id id2 .normal s b B X F else jIn P h L J f id id2 (.exit i) s b B X F) = (if i = id2 then aftJ P h L J body l' id2 .normal (actOf (fnSize fn) s) (heapOf b) (roundK body l' B X (fnK P fn F)) else aftJ P h L J body l' id2 (.exit i) (actOf (fnSize fn) s) (heapOf b) (roundK body l' B X (fnK P fn F))) := by
    intro B X i s b
    simp only [jIn, hf, hc, hfl]
  have := loop_ruleJ (P := P) (h := h) (J := J) (sz := fnSize fn) hh hmix g.st g.inv g.m (id := id2) (body := body2) (l' := l2) (k := fun e A H => aftJ P h L J body l' id2 e A H (roundK body l' B X (fnK P fn F))) (R := fnK P fn F)
    (fun y hy => by
      obtain ⟨L2, h1, h2⟩ := g.round y hy
      refine ⟨L2, ?_, ptsOK_of body2 (by rw [his.1]; exact g.nd) (fun id3 b3 l3 hf3 _ => ?_) (fun id3 hi3 hf3 s b hs3 => ?_)⟩
      · unfold jRound2 at h1
        simp only [hf, hc, hfl, hf2, eqX] at h1
        exact h1
      · have := findLoop_ids _ _ _ hf3
        rw [his.2] at this
        cases this
      · have h3 := h2 id3 (by rw [his.1] at hi3; exact hi3) s b hs3
        unfold jIn2 at h3
        simp only [hf, hc, hfl, hf2, eqX] at h3
        exact h3)
    (fun e A H he hR => by subst he; exact aftJ_ret body (findLoop_pt body l' id2 hf2) hR)
    (fun e A H h1 h2 hR => by cases e <;> first | exact h1 rfl | exact h2 rfl | exact hR)
    y hy
  rw [e1, e2] at this
  exact this

theorem loopJ_holds (hh : HandlerOK P h) (hmix : P.follows .mixedOrders = true) {f : FuncId} {fn : Func} {c : Code} (hf : P.funcs[f]? = some fn) (hc : fn.body = some c) {id : Nat} {F : Value → Heap → Prop} {body : Code} {l' : Lv} (hfl : findLoop c (fnLv fn) id = some (body, l'))
    (g : LoopJ P h J f c (fnLv fn) id L F) (hr : id < rbase ∨ isRange body = true) {s : Slots} {b : Blocks} (hs : L id s b) :
    Holds P false (fnSize fn) (stmtOf id body) (actOf (fnSize fn) s) (heapOf b) (fun e A H => aftJ P h L J c (fnLv fn) id e A H (fnK P fn F)) := by
  obtain ⟨y, hy, he⟩ := g.head s b hs
  have e1 : (g.st y).1 = s := congrArg Prod.fst he
  have e2 : (g.st y).2 = b := congrArg Prod.snd he
  have his := g.is
  rw [hfl] at his
  simp only [Option.map_some, Option.some.injEq, Prod.mk.injEq] at his
  have hst : stmtOf id body = .block id (.loop body) := by
    rcases hr with hr | hr
    · simp [stmtOf, hr]
    · exfalso
      cases body <;> first
        | (cases hr; done)
        | skip
      rename_i rf rp ra rb
      obtain ⟨L2, _, _, h3⟩ := g.round y hy
      obtain ⟨g2⟩ := h3 (rngId ra rb) (by rw [← his.2]; simp [loopIds])
      have h4 := g2.is
      simp [hfl, findLoop, loopIds] at h4
  rw [hst]
  have eqX : ∀ i s b, (if i = id then jNext P h L J f id .normal s b F else jNext P h L J f id (.exit i) s b F) = (if i = id then aftJ P h L J c (fnLv fn) id .normal (actOf (fnSize fn) s) (heapOf b) (fnK P fn F) else aftJ P h L J c (fnLv fn) id (.exit i) (actOf (fnSize fn) s) (heapOf b) (fnK P fn F)) := by
    intro i s b
    simp only [jNext, hf, hc]
  have := loop_ruleJ (P := P) (h := h) (J := J) (sz := fnSize fn) hh hmix g.st g.inv g.m (id := id) (body := body) (l' := l') (k := fun e A H => aftJ P h L J c (fnLv fn) id e A H (fnK P fn F)) (R := fnK P fn F)
    (fun y hy => by
      obtain ⟨L2, h1, h2, h3⟩ := g.round y hy
      refine ⟨L2, ?_, ptsOK_of body (by rw [his.1]; exact g.nd) (fun id2 b2 l2 hf2 hr2 s b hs2 => ?_) (fun id2 hi2 hf2 s b hs2 => ?_)⟩
      · unfold jRound at h1
        simp only [hf, hc, hfl, eqX] at h1
        exact h1
      · have hm : id2 ∈ g.loops := by rw [← his.2]; exact findLoop_ids _ _ _ hf2
        obtain ⟨g2⟩ := h3 id2 hm
        have := loopJ2_holds hh hmix hf hc hfl hf2 g2 hr2 hs2
        simp only [eqX] at this
        exact this
      · have hnl : id2 ∉ g.loops := by
          intro hm
          rw [← his.2] at hm
          have := findLoop_some body l' id2 hm
          rw [hf2] at this
          cases this
        have h4 := h2 id2 (by rw [his.1] at hi2; exact hi2) hnl s b hs2
        unfold jIn at h4
        simp only [hf, hc, hfl, eqX] at h4
        exact h4)
    (fun e A H he hR => by subst he; exact aftJ_ret c (findLoop_pt c _ id hfl) hR)
    (fun e A H h1 h2 hR => by cases e <;> first | exact h1 rfl | exact h2 rfl | exact hR)
    y hy
  rw [e1, e2] at this
  exact this

theorem ptsOK_good (hh : HandlerOK P h) (hmix : P.follows .mixedOrders = true) {f : FuncId} {fn : Func} {c : Code} (hf : P.funcs[f]? = some fn) (hc : fn.body = some c) {F : Value → Heap → Prop} {pts loops : List Nat} (his : (ptIds J c, loopIds c) = (pts, loops)) (hn : nodupB pts = true)
    (hcut : ∀ id ∈ pts, id ∉ loops → ∀ s b, L id s b → jNext P h L J f id .normal s b F)
    (hl : ∀ id ∈ loops, Nonempty (LoopJ P h J f c (fnLv fn) id L F)) : ptsOK P h L J (fnSize fn) c (fnLv fn) (fnK P fn F) := by
  simp only [Prod.mk.injEq] at his
  refine ptsOK_of c (by rw [his.1]; exact hn) (fun id body l' hfl hr s b hs => ?_) (fun id hi hfl s b hs => ?_)
  · obtain ⟨g⟩ := hl id (by rw [← his.2]; exact findLoop_ids _ _ _ hfl)
    exact loopJ_holds hh hmix hf hc hfl g hr hs
  · have hnl : id ∉ loops := by
      intro hm
      rw [← his.2] at hm
      have := findLoop_some c (fnLv fn) id hm
      rw [hfl] at this
      cases this
    have h4 := hcut id (by rw [his.1] at hi; exact hi) hnl s b hs
    unfold jNext at h4
    simp only [hf, hc] at h4
    exact h4

/-- A FUNCTION IS PROVED, with cuts and loops within loops: a contract in data. -/
theorem con_J (hh : HandlerOK P h) (hmix : P.follows .mixedOrders = true) (J : List Nat) {L : AtLoop} {f : FuncId} {fn : Func} {c : Code} (hf : P.funcs[f]? = some fn) (hc : fn.body = some c) {ds rs : List D} (hcount : countV ds ≤ 400) (hsz : ds.length = fn.params.size) {pts loops : List Nat} (his : (ptIds J c, loopIds c) = (pts, loops)) (hn : nodupB pts = true)
    (hk : ∀ caps, capsL 40 (layVals caps 500 ds).1 → jFn P h L J f (layVals caps 500 ds).1.toArray (heapOf (layVals caps 500 ds).2) (dataK (· = rs)))
    (hcut : ∀ id ∈ pts, id ∉ loops → ∀ s b, L id s b → jNext P h L J f id .normal s b (dataK (· = rs)))
    (hl : ∀ id ∈ loops, Nonempty (LoopJ P h J f c (fnLv fn) id L (dataK (· = rs)))) : Con P f ds rs := by
  intro w args hgood hr
  obtain ⟨caps, ρ, hst, g, ha⟩ := lay_gam hgood hr hcount
  have hsz2 : max (layVals caps 500 ds).1.toArray.size fn.ntmps = fnSize fn := by simp [fnSize, layVals_len, hsz]
  refine callsIn_wide.1 ((jFn_run hh hmix hf hc (hk caps (capsL_of 40 ha)) (by rw [hsz2]; exact ptsOK_good hh hmix hf hc his hn hcut hl) g 0 (by simpa using ha)).mono ?_)
  rintro e w' ⟨v, H', ρ', v', hkv, rfl, hv, g'⟩
  obtain ⟨vs, ds', u, rfl, h1, rfl⟩ := dataK_out g' hst hv hkv
  exact ⟨⟨vs, u, rfl, h1⟩, g'.below.below hst⟩
end Go.Abs
