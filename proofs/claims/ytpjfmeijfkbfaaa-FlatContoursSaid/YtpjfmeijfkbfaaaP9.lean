/- Texts of the proof, put together: Gf7V, Gf7X, Gf7Y, Gf7KY, Gf70, Gf71, Gf7K1, Gf7T8, Gf72, Gf73, Gf7K3. -/
import Derived.Test.YtpjfmeijfkbfaaaP8
import Derived.Test.YtpjfmeijfkbfaaaGf7A
import Derived.Test.YtpjfmeijfkbfaaaP6
import Derived.Test.YtpjfmeijfkbfaaaP4
/- Chapter 7: how functions are met; laws, changes and answers, in data. -/
namespace Go.Proofs.G5f
open Go Go.Abs Go.Proofs Go.Proofs.G7
set_option maxRecDepth 100000
theorem firstP_ok {args : List Value} {bs : Blocks} {K : Value → Blocks → Prop} (hk : firstP 98 3 args bs K) : CallS Try.prog 97 args bs K := by
  unfold firstP at hk
  split at hk
  · split at hk
    · split at hk
      · rename_i ha hc' hc
        simp only [Bool.and_eq_true, beq_iff_eq] at hc
        obtain ⟨⟨⟨⟨⟨⟨⟨⟨⟨rfl, rfl⟩, rfl⟩, rfl⟩, rfl⟩, rfl⟩, rfl⟩, rfl⟩, rfl⟩, rfl⟩ := hc
        obtain ⟨⟨l, rfl, rfl, hl⟩, r1, r2, r3, ho, hK⟩ := hk
        have ho : (r1, r2, r3) = fpL _ 0 (prs l) := ho.out
        rw [prs_vp] at *
        obtain rfl := Array.ext' (ys := #[]) ha
        obtain rfl := Array.ext' (ys := #[Value.pointer (some ⟨900, 0, none⟩)]) hc'
        refine callS_mono (runFp _ _ l hl) ?_
        rintro v b ⟨rfl, rfl⟩
        rw [← ho]
        exact hK
      · exact hk.elim
    · exact hk.elim
  · exact hk.elim
theorem ite_so {c : Prop} [Decidable c] {α : Type} {x h : α} {r : Option α} (e : (if c then some x else r) = some h) : (c ∧ x = h) ∨ r = some h := by
  by_cases hc : c
  · rw [if_pos hc] at e; exact .inl ⟨hc, Option.some.inj e⟩
  · rw [if_neg hc] at e; exact .inr e
theorem preUOK : PreOK Try.prog (preU C5) := by
  intro g h he args ats H k hk
  unfold preU at he
  rcases ite_so he with ⟨e, rfl⟩ | he
  · rw [beq_iff_eq] at e
    subst e
    exact wpState_call (fun args bs K hk => wit_ok hk) hk
  rcases ite_so he with ⟨e, rfl⟩ | he
  · exact fixH_ok (fun _ _ _ h => h) _ _ _ _ _ hk
  rcases ite_so he with ⟨e, rfl⟩ | he
  · exact fixH_ok (fun _ _ _ h => h) _ _ _ _ _ hk
  rcases ite_so he with ⟨e, rfl⟩ | he
  · exact fixH_ok (fun _ _ _ h => h) _ _ _ _ _ hk
  rcases ite_so he with ⟨e, rfl⟩ | he
  · exact fixH_ok (fun _ _ _ h => h) _ _ _ _ _ hk
  rcases ite_so he with ⟨e, rfl⟩ | he
  · exact fixH_ok (fun _ _ _ h => h) _ _ _ _ _ hk
  rcases ite_so he with ⟨e, rfl⟩ | he
  · rw [beq_iff_eq] at e
    subst e
    exact wpState_call (fun args bs K hk => eachB_ok hk) hk
  rcases ite_so he with ⟨e, rfl⟩ | he
  · rw [beq_iff_eq] at e
    subst e
    exact wpState_call (fun args bs K hk => firstP_ok hk) hk
  rcases ite_so he with ⟨e, rfl⟩ | he
  · rw [beq_iff_eq] at e
    subst e
    exact wpState_call (fun args bs K hk => eachW_ok hk) hk
  rcases ite_so he with ⟨e, rfl⟩ | he
  · exact fixH_ok (fun _ _ _ h => h) _ _ _ _ _ hk
  rcases ite_so he with ⟨e, rfl⟩ | he
  · exact saidH_ok (fun _ _ _ h => h) _ _ _ _ _ hk
  · cases he
theorem hokU : HandlerOK Try.prog (hU C5) := handlerX_ok mixed preUOK (by decide) 6
/-! ### copies -/
theorem conCF (l : List (Int × Int)) (hl : l.length ≤ 1000000) : C5 33 [.sl l.length 2 (vp l)] [.sl l.length 2 (vp l)] := by
  refine con_flat hokE mixed Try.func33 rfl (by show 1 ≤ 400; omega) rfl (by kernel_rfl) (fun caps => ?_)
  show gCF _ _ l.length (caps 500) (vp l) _
  rw [gCF_text]
  refine bc_yes (by simp) (bc_beq (fun h0 => ⟨⟨rfl, rfl⟩, ?_⟩) (fun h0 => bc_yes (by omega) (bc_yes (by omega) (bc_yes (by omega) ⟨⟨rfl, by simp⟩, ?_⟩))))
  · obtain rfl : l = [] := List.length_eq_zero_iff.1 h0
    rfl
  · rw [vp_whole, Nat.zero_add, List.nil_append]
theorem conCFn : C5 33 [.nil] [.sl 0 2 []] := by
  refine con_flat hokE mixed Try.func33 rfl (by show 0 ≤ 400; omega) rfl (by kernel_rfl) (fun caps => ?_)
  show gCFn _ _ _
  rw [gCFn_text]
  exact ⟨⟨rfl, rfl⟩, rfl⟩
/-! ### changes -/
abbrev W64 (n : Int) : Prop := -9223372036854775808 ≤ n ∧ n ≤ 9223372036854775807
abbrev WF (f : Int × Int) : Prop := W64 f.1 ∧ W64 f.2
theorem conDv2 (a b : Int) (ha : W64 a) (hb : 0 < b ∧ b ≤ 9223372036854775807) : C5 118 [dI a, dI b] [dI (Int.gcd a b)] := by
  have hgb : ((Int.gcd a b : Nat) : Int) ≤ b := gcd_le2 hb.1
  let inv : Int × Int → Prop := fun x => W64 x.1 ∧ W64 x.2 ∧ Int.gcd x.1 x.2 = Int.gcd a b
  let st : Int × Int → Slots × Blocks := fun x => zDv1 x.1 x.2
  refine con_of (L := fun _ s b => ∃ x, inv x ∧ st x = (s, b)) hokE mixed Try.func118 rfl (by show 0 ≤ 400; omega) rfl (ids := [0]) (by kernel_rfl) rfl (fun caps => ?_) (fun id hid => ?_)
  · show gDv _ _ a b _
    rw [gDv_text]
    exact ⟨(a, b), ⟨ha, ⟨by omega, hb.2⟩, rfl⟩, rfl⟩
  · obtain rfl := List.mem_singleton.1 hid
    refine ⟨Int × Int, st, inv, fun x => x.1.natAbs, ⟨fun s b h => h, by kernel_rfl, ?_⟩⟩
    rintro ⟨x, y⟩ ⟨hx, hy, hg⟩
    simp only at hx hy hg
    show rDv1 _ _ x y _ _ _
    rw [rDv1_text]
    refine bc_bne (fun h => ?_) (fun h => ?_)
    · simp only [bc_n h, true_and, and_true]
      have hlt := gcd_step_lt (a := y) h
      have hst := gcd_step y x
      refine ⟨(y.tmod x, x), ⟨?_, hx, ?_⟩, hlt, rfl⟩
      · show W64 (y.tmod x)
        have : (y.tmod x).natAbs < x.natAbs := hlt
        unfold W64; omega
      · show Int.gcd (y.tmod x) x = _
        rw [gcd_sw (y.tmod x) x, ← hg, gcd_sw x y]; omega
    · show (if 0 = 0 then _ else _)
      rw [if_pos rfl]
      show nDv2 _ _ y _
      subst h
      have := gcd_end y
      have hgy : ((Int.gcd a b : Nat) : Int) = (Int.gcd y 0 : Nat) := by rw [← hg, gcd_sw 0 y]
      have hyl : -9223372036854775807 ≤ y := by
        rw [hgy, this] at hgb
        split at hgb <;> omega
      rw [nDv2_text, w64 (by omega) (by omega)]
      show [dI _] = [dI _]
      rw [hgy, this]
      have e : (if 0 - y > y then 0 - y else y) = (if y < 0 then -y else y) := by split <;> split <;> omega
      rw [e]
def loF (f : Int × Int) : Prop := 0 < f.2 ∧ ((Int.gcd f.1 f.2 : Nat) : Int) = 1
instance (f : Int × Int) : Decidable (loF f) := by unfold loF; infer_instance
def cgE (f : Int × Int) : Int := if loF f then (if sm f then 0 else 2) else 3
theorem conCk (f : Int × Int) (hf : WF f) : C5 83 [dF f] [dI (cgE f)] := by
  refine con_flat hokU mixed Try.func83 rfl (by show 0 ≤ 400; omega) rfl (by kernel_rfl) (fun caps => ?_)
  show gCk _ _ f.1 f.2 _
  rw [gCk_text, m9]
  refine bc_dec (fun h => ?_) (fun h => ?_)
  · show _ = _; rw [cgE, if_neg (fun hh => by have := hh.1; omega)]
  · try simp only [eq_self, true_and]
    refine ⟨_, ⟨conDv2 f.1 f.2 hf.1 ⟨by omega, hf.2.2⟩⟩, bc_bne (fun h2 => ?_) (fun h2 => ?_)⟩
    · rw [show cgE f = 3 from if_neg (fun hh => h2 hh.2)] <;> trivial
    · refine ⟨_, wit2_say, ?_⟩
      have e : cgE f = if (-1000000000 ≤ f.1 ∧ f.1 ≤ 1000000000) ∧ (-1000000000 ≤ f.2 ∧ f.2 ≤ 1000000000) then 0 else 2 := by
        rw [cgE, if_pos ⟨by omega, h2⟩]; rfl
      rw [e] <;> trivial
theorem conIL (f : Int × Int) (hf : WF f) : C5 26 [dF f] [.val (.bool (decide (loF f)))] := by
  refine con_flat hokU mixed Try.func26 rfl (by show 0 ≤ 400; omega) rfl (by kernel_rfl) (fun caps => ?_)
  show gIL _ _ f.1 f.2 _
  rw [gIL_text]
  refine bc_dec (fun h => ?_) (fun h => ?_)
  · refine ⟨_, ⟨conGc f.1 f.2 hf.1 ⟨by omega, hf.2.2⟩ (by omega)⟩, bc_beq (fun h2 => ?_) (fun h2 => ?_)⟩
    · show _ = _; rw [decide_eq_true (show loF f from ⟨by omega, h2⟩)]
    · show _ = _; rw [decide_eq_false (show ¬ loF f from fun hh => h2 hh.2)]
  · show _ = _; rw [decide_eq_false (show ¬ loF f from fun hh => h (by have := hh.1; omega))]
theorem sayL1 {f : Int × Int} (hf : WF f) (h : loF f) : Says C5 26 [dF f] [.val (.bool true)] := by
  have := conIL f hf
  rw [decide_eq_true h] at this
  exact ⟨this⟩
theorem sayL0 {f : Int × Int} (hf : WF f) (h : ¬ loF f) : Says C5 26 [dF f] [.val (.bool false)] := by
  have := conIL f hf
  rw [decide_eq_false h] at this
  exact ⟨this⟩
/-- the first wrong change -/
def fwG : Int → List (Int × Int) → Int × Int
  | _, [] => (0, 0)
  | i, f :: r => if cgE f = 0 then fwG (i + 1) r else (i, cgE f)
theorem fwG_zero : ∀ {l : List (Int × Int)} {i : Int}, (fwG i l).2 = 0 ↔ ∀ f ∈ l, cgE f = 0
  | [], i => by simp [fwG]
  | f :: r, i => by
    rw [fwG, List.forall_mem_cons (p := fun f => cgE f = 0)]
    split
    · rename_i h; rw [fwG_zero]; exact ⟨fun x => ⟨h, x⟩, fun x => x.2⟩
    · rename_i h; exact ⟨fun x => absurd x h, fun x => absurd x.1 h⟩
theorem fwG_at {l : List (Int × Int)} {i : Nat} (h : i < l.length) (k : Int) : fwG k (l.drop i) = if cgE (pt l i) = 0 then fwG (k + 1) (l.drop (i + 1)) else (k, cgE (pt l i)) := by
  rw [List.drop_eq_getElem_cons h, ← pt_at h]; rfl
theorem pt_mem {l : List (Int × Int)} {i : Nat} (h : i < l.length) : pt l i ∈ l := by rw [← pt_at h]; exact List.getElem_mem h
theorem conFw (l : List (Int × Int)) (hw : ∀ f ∈ l, WF f) (hl : l.length < 1000000000) : C5 82 [.sl l.length 2 (vp l), .val (.func (.func 83) #[] #[])] [dI (fwG 0 l).1, dI (fwG 0 l).2] := by
  let inv : Nat × Nat → Prop := fun x => x.1 ≤ l.length ∧ fwG 0 l = fwG x.1 (l.drop x.1)
  let st : Nat × Nat → Slots × Blocks := fun x => zFw1 l.length x.2 l.length x.1 (vp l)
  refine con_of (L := fun _ s b => ∃ x, inv x ∧ st x = (s, b)) hokU mixed Try.func82 rfl (by show 1 ≤ 400; omega) rfl (ids := [0]) (by kernel_rfl) rfl (fun caps => ?_) (fun id hid => ?_)
  · show gFw _ _ l.length (caps 500) (vp l) _
    rw [gFw_text]
    exact ⟨(0, caps 500), ⟨Nat.zero_le _, rfl⟩, rfl⟩
  · obtain rfl := List.mem_singleton.1 hid
    refine ⟨Nat × Nat, st, inv, fun x => l.length - x.1, ⟨fun s b h => h, by kernel_rfl, ?_⟩⟩
    rintro ⟨i, cap⟩ ⟨hi, hr⟩
    simp only at hi hr
    show rFw1 _ _ l.length cap l.length i (vp l) _ _ _
    rw [rFw1_text]
    refine bc_dec (fun h => ?_) (fun h => ?_)
    · have hi1 : i < l.length := by omega
      rw [fwG_at hi1] at hr
      simp only [bc_t h, bc_t (show (0 : Int) ≤ (i : Int) by omega), Int.toNat_natCast, at2 (at_pt hi1)]
      refine ⟨_, ⟨conCk _ (hw _ (pt_mem hi1))⟩, bc_bne (fun h1 => ?_) (fun h1 => ?_)⟩
      · rw [if_neg h1] at hr
        show [_, _] = [_, _]
        rw [hr]
      · rw [if_pos h1] at hr
        refine ⟨(i + 1, cap), ⟨hi1, by rw [hr]; rfl⟩, by show l.length - (i + 1) < l.length - i; omega, ?_⟩
        rw [w64 (by omega) (by omega)]; rfl
    · show (if 0 = 0 then _ else _)
      rw [if_pos rfl]
      show nFw2 _ _ _
      rw [nFw2_text]
      rw [List.drop_eq_nil_of_le (by omega)] at hr
      show [_, _] = [_, _]
      rw [hr]; rfl
def rkE (l : List (Int × Int)) : Int := fst0 [cntE l.length 3 9, (fwG 0 l).2]
theorem conRK (l : List (Int × Int)) (hw : ∀ f ∈ l, WF f) (hl : l.length < 1000000000) : C5 35 [.sl l.length 2 (vp l)] [dI (rkE l)] := by
  let inv : Nat × Nat → Prop := fun x => x.1 ≤ l.length ∧ cntE l.length 3 9 = 0 ∧ fwG 0 l = fwG x.1 (l.drop x.1)
  let st : Nat × Nat → Slots × Blocks := fun x => zRK1 l.length x.2 x.1 (vp l)
  refine con_of (L := fun _ s b => ∃ x, inv x ∧ st x = (s, b)) hokU mixed Try.func35 rfl (by show 1 ≤ 400; omega) rfl (ids := [0]) (by kernel_rfl) rfl (fun caps => ?_) (fun id hid => ?_)
  · show gRK _ _ l.length (caps 500) (vp l) _
    rw [gRK_text]
    refine bc_dec (fun h => ?_) (fun h => bc_dec (fun h2 => ?_) (fun h2 => ?_))
    · have : cntE l.length 3 9 = 10 := by rw [cntE, if_pos h]
      show _ = _; rw [rkE, this, fst0, if_neg (by decide)]
    · have : cntE l.length 3 9 = 8 := by rw [cntE, if_neg h, if_pos h2]
      show _ = _; rw [rkE, this, fst0, if_neg (by decide)]
    · exact ⟨(0, caps 500), ⟨Nat.zero_le _, by rw [cntE, if_neg h, if_neg h2], rfl⟩, rfl⟩
  · obtain rfl := List.mem_singleton.1 hid
    refine ⟨Nat × Nat, st, inv, fun x => l.length - x.1, ⟨fun s b h => h, by kernel_rfl, ?_⟩⟩
    rintro ⟨i, cap⟩ ⟨hi, hc, hr⟩
    simp only at hi hr
    have hk : rkE l = (fwG 0 l).2 := by rw [rkE, hc, fst0_two, if_pos rfl]
    show rRK1 _ _ l.length cap i (vp l) _ _ _
    rw [rRK1_text]
    refine bc_dec (fun h => ?_) (fun h => ?_)
    · have hi1 : i < l.length := by omega
      have hf := hw _ (pt_mem hi1)
      rw [fwG_at hi1] at hr
      simp only [bc_t h, bc_t (show (0 : Int) ≤ (i : Int) by omega), Int.toNat_natCast, at2 (at_pt hi1)]
      by_cases h1 : loF (pt l i)
      · refine .inl ⟨sayL1 hf h1, ?_⟩
        by_cases h2 : sm (pt l i)
        · refine .inl ⟨sayIS h1.1 h2, (i + 1, cap), ⟨hi1, hc, ?_⟩, by show l.length - (i + 1) < l.length - i; omega, ?_⟩
          · rw [if_pos (by rw [cgE, if_pos h1, if_pos h2])] at hr; rw [hr]; rfl
          · rw [w64 (by omega) (by omega)]; rfl
        · refine .inr ⟨sayIf h1.1 h2, ?_⟩
          have e : cgE (pt l i) = 2 := by rw [cgE, if_pos h1, if_neg h2]
          rw [e, if_neg (by decide)] at hr
          show _ = _; rw [hk, hr]
      · refine .inr ⟨sayL0 hf h1, ?_⟩
        have e : cgE (pt l i) = 3 := by rw [cgE, if_neg h1]
        rw [e, if_neg (by decide)] at hr
        show _ = _; rw [hk, hr]
    · show (if 0 = 0 then _ else _)
      rw [if_pos rfl]
      show nRK2 _ _ _
      rw [nRK2_text]
      rw [List.drop_eq_nil_of_le (by omega)] at hr
      show _ = _; rw [hk, hr]; rfl
theorem conRKn : C5 35 [.nil] [dI 10] := by
  refine con_of (L := fun _ _ _ => False) hokU mixed Try.func35 rfl (by show 0 ≤ 400; omega) rfl (ids := [0]) (by kernel_rfl) rfl (fun caps => ?_) (fun id hid => ?_)
  · show gRKn _ _ _
    rw [gRKn_text]
  · obtain rfl := List.mem_singleton.1 hid
    exact ⟨Nat, fun _ => ([], []), fun _ => False, fun _ => 0, ⟨fun s b h => h.elim, by kernel_rfl, fun j hj => hj.elim⟩⟩
/-! ### laws -/
def lwE (a b c d : Int) : Int := if (0 ≤ a ∧ a ≤ 10000) ∧ (0 ≤ b ∧ b ≤ 10000) ∧ (0 ≤ c ∧ c ≤ 10000) ∧ (0 ≤ d ∧ d ≤ 10000) then (if a > b ∨ c > d then 9 else 0) else 2
structure LV (a b c d : Int) : Prop where
  a1 : 0 ≤ a ∧ a ≤ 10000
  b1 : 0 ≤ b ∧ b ≤ 10000
  c1 : 0 ≤ c ∧ c ≤ 10000
  d1 : 0 ≤ d ∧ d ≤ 10000
  ab : a ≤ b
  cd : c ≤ d
theorem lwE_ok {a b c d : Int} : lwE a b c d = 0 ↔ LV a b c d := by
  unfold lwE
  constructor
  · intro h
    split at h
    · rename_i h1
      split at h
      · omega
      · exact ⟨h1.1, h1.2.1, h1.2.2.1, h1.2.2.2, by omega, by omega⟩
    · omega
  · intro h
    have h1 := h.a1; have h2 := h.b1; have h3 := h.c1; have h4 := h.d1; have h5 := h.ab; have h6 := h.cd
    rw [if_pos ⟨h1, h2, h3, h4⟩, if_neg (by omega)]
theorem wit4_say {lo hi e x y z u : Int} : Says witC 0 [dI lo, dI hi, dI e, .sl 4 1 [vI x, vI y, vI z, vI u]] [dI (if (lo ≤ x ∧ x ≤ hi) ∧ (lo ≤ y ∧ y ≤ hi) ∧ (lo ≤ z ∧ z ≤ hi) ∧ (lo ≤ u ∧ u ≤ hi) then 0 else e)] := ⟨by
  show (if (lo ≤ x ∧ x ≤ hi) ∧ (lo ≤ y ∧ y ≤ hi) ∧ (lo ≤ z ∧ z ≤ hi) ∧ (lo ≤ u ∧ u ≤ hi) then 0 else e) = witE lo hi e [.int .i64 x, .int .i64 y, .int .i64 z, .int .i64 u]
  simp only [witE]
  repeat' split
  all_goals first | rfl | omega⟩
theorem conKl (a b c d : Int) : C5 84 [.agg [dI a, dI b, dI c, dI d]] [dI (lwE a b c d)] := by
  refine con_flat hokU mixed Try.func84 rfl (by show 0 ≤ 400; omega) rfl (by kernel_rfl) (fun caps => ?_)
  show gKl _ _ a b c d _
  rw [gKl_text]
  try simp only [eq_self, true_and]
  refine ⟨_, wit4_say, ?_⟩
  by_cases h1 : (0 ≤ a ∧ a ≤ 10000) ∧ (0 ≤ b ∧ b ≤ 10000) ∧ (0 ≤ c ∧ c ≤ 10000) ∧ (0 ≤ d ∧ d ≤ 10000)
  · rw [if_pos h1, lwE, if_pos h1]
    refine bc_dec (fun h2 => ?_) (fun h2 => bc_dec (fun h3 => ?_) (fun h3 => ?_))
    · rw [if_pos (.inl h2)]
      exact ⟨_, ⟨conFE [0, 9] (by simp)⟩, by first | rfl | trivial⟩
    · rw [if_pos (.inr h3)]
      exact ⟨_, ⟨conFE [0, 9] (by simp)⟩, by first | rfl | trivial⟩
    · rw [if_neg (by omega)]
      exact ⟨_, ⟨conFE [0, 0] (by simp)⟩, by first | rfl | trivial⟩
  · rw [if_neg h1, lwE, if_neg h1]
    refine bc_dec (fun h2 => ?_) (fun h2 => bc_dec (fun h3 => ?_) (fun h3 => ?_))
    · exact ⟨_, ⟨conFE [2, 9] (by simp)⟩, by first | rfl | trivial⟩
    · exact ⟨_, ⟨conFE [2, 9] (by simp)⟩, by first | rfl | trivial⟩
    · exact ⟨_, ⟨conFE [2, 0] (by simp)⟩, by first | rfl | trivial⟩
theorem conRLw (a b c d : Int) : C5 34 [.agg [dI a, dI b, dI c, dI d]] [dI (lwE a b c d)] := by
  refine con_walk hokU mixed (u := 8) (by decide) Try.func34 rfl (by show 0 ≤ 400; omega) (fun caps => ?_)
  show gRLw _ a b c d _
  rw [gRLw_text]
  try simp only [eq_self, true_and]
  by_cases h1 : 0 ≤ a ∧ a ≤ 10000
  · refine .inl ⟨sayWt h1, ?_⟩
    by_cases h2 : 0 ≤ b ∧ b ≤ 10000
    · refine .inl ⟨sayWt h2, ?_⟩
      by_cases h3 : 0 ≤ c ∧ c ≤ 10000
      · refine .inl ⟨sayWt h3, ?_⟩
        by_cases h4 : 0 ≤ d ∧ d ≤ 10000
        · refine .inl ⟨sayWt h4, ?_⟩
          refine bc_dec (fun h5 => ?_) (fun h5 => bc_dec (fun h6 => ?_) (fun h6 => ?_))
          · have e : lwE a b c d = 9 := by rw [lwE, if_pos ⟨h1, h2, h3, h4⟩, if_pos (.inl h5)]
            rw [e] <;> trivial
          · have e : lwE a b c d = 9 := by rw [lwE, if_pos ⟨h1, h2, h3, h4⟩, if_pos (.inr h6)]
            rw [e] <;> trivial
          · have e : lwE a b c d = 0 := by rw [lwE, if_pos ⟨h1, h2, h3, h4⟩, if_neg (by omega)]
            rw [e] <;> trivial
        · have e : lwE a b c d = 2 := by rw [lwE, if_neg (fun h => h4 h.2.2.2)]
          exact .inr ⟨sayWf h4, by rw [e] <;> trivial⟩
      · have e : lwE a b c d = 2 := by rw [lwE, if_neg (fun h => h3 h.2.2.1)]
        exact .inr ⟨sayWf h3, by rw [e] <;> trivial⟩
    · have e : lwE a b c d = 2 := by rw [lwE, if_neg (fun h => h2 h.2.1)]
      exact .inr ⟨sayWf h2, by rw [e] <;> trivial⟩
  · have e : lwE a b c d = 2 := by rw [lwE, if_neg (fun h => h1 h.1)]
    exact .inr ⟨sayWf h1, by rw [e] <;> trivial⟩
end Go.Proofs.G5f

/- Chapter 7: FlatBuckles, in data. -/
namespace Go.Proofs.G5f
open Go Go.Abs Go.Proofs Go.Proofs.G7
set_option maxRecDepth 100000
/-- how n / d compares with a whole number -/
def cmp1 (n d m : Int) : Int := if n / d < m then -1 else if n / d > m then 1 else if n - n / d * d = 0 then 0 else 1
theorem cmp1_split {n d m : Int} (hd : 0 < d) : (n / d < m → n < m * d) ∧ (n / d > m → n > m * d) ∧ (n / d = m → n = m * d + n % d) ∧ 0 ≤ n % d ∧ n - n / d * d = n % d := by
  have h1 := Int.emod_add_mul_ediv n d
  have h2 := Int.emod_nonneg n (show d ≠ 0 by omega)
  have h3 := Int.emod_lt_of_pos n hd
  have h4 : d * (n / d) = n / d * d := Int.mul_comm ..
  refine ⟨fun h => ?_, fun h => ?_, fun h => ?_, h2, by omega⟩
  · have : (n / d + 1) * d ≤ m * d := Int.mul_le_mul_of_nonneg_right (by omega) (by omega)
    rw [Int.add_mul, Int.one_mul] at this
    omega
  · have : (m + 1) * d ≤ n / d * d := Int.mul_le_mul_of_nonneg_right (by omega) (by omega)
    rw [Int.add_mul, Int.one_mul] at this
    omega
  · rw [h] at h4 h1; omega
theorem cmp1_gt {n d m : Int} (hd : 0 < d) : cmp1 n d m > 0 ↔ n > m * d := by
  obtain ⟨a, b, c, e, g⟩ := cmp1_split (n := n) (m := m) hd
  unfold cmp1
  split
  · rename_i h; have := a h; omega
  · split
    · rename_i h; have := b h; omega
    · have := c (by omega)
      split <;> omega
theorem cmp1_le {n d m : Int} (hd : 0 < d) : cmp1 n d m ≤ 0 ↔ n ≤ m * d := by
  have := cmp1_gt (n := n) (m := m) hd
  omega
theorem m1 : (-(0 + 1) : Int) = -1 := by decide
theorem conCp {n d m : Int} (hn : -1152921504606846976 ≤ n ∧ n ≤ 1152921504606846976) (hd : 0 < d ∧ d ≤ 1152921504606846976) (hm : -1152921504606846976 ≤ m ∧ m ≤ 1152921504606846976) : C5 87 [dI n, dI d, dI m, dI 1] [dI (cmp1 n d m)] := by
  have g := (cmp1_split (n := n) (m := m) hd.1).2.2.2
  have hr := Int.emod_lt_of_pos n hd.1
  have hq : n / d * d = n - n % d := by omega
  refine con_of (L := fun _ s b => zCp1 n d m 1 = (s, b)) hokU mixed Try.func87 rfl (by show 0 ≤ 400; omega) rfl (ids := [0]) (by kernel_rfl) rfl (fun caps => ?_) (fun id hid => ?_)
  · show gCp _ _ n d m 1 _
    rw [gCp_text]

  · obtain rfl := List.mem_singleton.1 hid
    refine ⟨Unit, fun _ => zCp1 n d m 1, fun _ => True, fun _ => 0, ⟨fun s b h => ⟨(), trivial, h⟩, by kernel_rfl, ?_⟩⟩
    intro _ _
    show rCp1 _ _ n d m 1 _ _ _
    rw [rCp1_text, m1]
    have f1 := conFl n d hd.1 (by omega)
    have f2 := conFl m 1 (by omega) (by omega)
    rw [Int.ediv_one] at f2
    refine ⟨_, ⟨f1⟩, _, ⟨f2⟩, ?_⟩
    have e1 : IntKind.wrap .i64 (n - IntKind.wrap .i64 (n / d * d)) = n % d := by
      rw [w64 (z := n / d * d) (by omega) (by omega), w64 (by omega) (by omega)]; omega
    have e2 : IntKind.wrap .i64 (m - IntKind.wrap .i64 (m * 1)) = 0 := by
      rw [w64 (z := m * 1) (by omega) (by omega), w64 (by omega) (by omega)]; omega
    rw [e1, e2]
    refine bc_dec (fun h => ?_) (fun h => bc_dec (fun h2 => ?_) (fun h2 => ?_))
    · show _ = _; rw [cmp1, if_pos h]
    · show _ = _; rw [cmp1, if_neg h, if_pos h2]
    · refine bc_beq (fun h3 => bc_beq (fun _ => ?_) (fun h4 => absurd rfl h4)) (fun h3 => bc_beq (fun h4 => absurd h4 h3) (fun _ => bc_beq (fun _ => ?_) (fun h4 => absurd rfl h4)))
      · show _ = _; rw [cmp1, if_neg h, if_neg h2, if_pos (by omega)]
      · show _ = _; rw [cmp1, if_neg h, if_neg h2, if_neg (by omega)]
/-! ### answers -/
structure BV (a b c d : Int) (l : List (Int × Int)) : Prop where
  v : LV a b c d
  n : 3 ≤ l.length ∧ l.length ≤ 9
  f : ∀ f ∈ l, cgE f = 0
theorem cgE_ok {f : Int × Int} : cgE f = 0 ↔ loF f ∧ sm f := by
  unfold cgE
  split
  · rename_i h; split
    · rename_i h2; simp [h, h2]
    · rename_i h2; simp [h2]
  · rename_i h; simp [h]
theorem rkE_ok {l : List (Int × Int)} : rkE l = 0 ↔ (3 ≤ l.length ∧ l.length ≤ 9) ∧ ∀ f ∈ l, cgE f = 0 := by
  rw [rkE, fst0_zero]
  simp only [List.forall_mem_cons, List.not_mem_nil, false_imp_iff, implies_true, and_true]
  rw [cntE_ok, fwG_zero]
  constructor
  · rintro ⟨h1, h2⟩; exact ⟨by omega, h2⟩
  · rintro ⟨h1, h2⟩; exact ⟨by omega, h2⟩
def bkE (a b c d : Int) (l : List (Int × Int)) : Int := if lwE a b c d = 0 then rkE l else lwE a b c d
theorem bkE_ok {a b c d : Int} {l : List (Int × Int)} : bkE a b c d l = 0 ↔ BV a b c d l := by
  unfold bkE
  constructor
  · intro h
    split at h
    · rename_i h1
      have := rkE_ok.1 h
      exact ⟨lwE_ok.1 h1, this.1, this.2⟩
    · rename_i h1; exact absurd h h1
  · intro h
    rw [if_pos (lwE_ok.2 h.v)]
    exact rkE_ok.2 ⟨h.n, h.f⟩
theorem bkE_fst {a b c d : Int} {l : List (Int × Int)} : fst0 [lwE a b c d, cntE l.length 3 9, (fwG 0 l).2] = bkE a b c d l := by
  unfold bkE rkE
  rw [fst0]
/-- the answer without wraps -/
def bkW (lo up n d : Int) : Int := if 1000000 * n > up * d then 2 else if 1000000 * n ≤ lo * d then 0 else 1
theorem bk_bd {lo up : Int} {f : Int × Int} (h1 : 0 ≤ lo ∧ lo ≤ 10000) (h2 : 0 ≤ up ∧ up ≤ 10000) (hf : cgE f = 0) : (0 ≤ up * f.2 ∧ up * f.2 ≤ 10000000000000) ∧ (0 ≤ lo * f.2 ∧ lo * f.2 ≤ 10000000000000) ∧ bkV lo up f.1 f.2 = bkW lo up f.1 f.2 := by
  obtain ⟨h3, h4⟩ := cgE_ok.1 hf
  have h5 := h3.1; have h6 := h4.1; have h7 := h4.2
  have k : ∀ z : Int, 0 ≤ z ∧ z ≤ 10000 → 0 ≤ z * f.2 ∧ z * f.2 ≤ 10000000000000 := fun z hz => by
    have e1 : z * f.2 ≤ 10000 * f.2 := Int.mul_le_mul_of_nonneg_right hz.2 (by omega)
    have e2 := Int.mul_nonneg hz.1 (show 0 ≤ f.2 by omega)
    omega
  have k1 := k up h2
  have k2 := k lo h1
  refine ⟨k1, k2, ?_⟩
  unfold bkV bkW
  rw [w64 (z := 1000000 * f.1) (by omega) (by omega), w64 (z := up * f.2) (by omega) (by omega), w64 (z := lo * f.2) (by omega) (by omega)]
def ansV (a b c d : Int) (l : List (Int × Int)) (i : Nat) : Int := if i = 0 ∨ i + 1 = l.length then bkW a b (pt l i).1 (pt l i).2 else bkW c d (pt l i).1 (pt l i).2
def ansL (a b c d : Int) (l : List (Int × Int)) : List Int := (List.range l.length).map (ansV a b c d l)
@[simp] theorem ansL_length {a b c d : Int} {l : List (Int × Int)} : (ansL a b c d l).length = l.length := by simp [ansL]
abbrev rbS (a b c d : Int) (l : List (Int × Int)) (cap : Nat) : Nat → Slots × Blocks
  | 0 => zRB1 l.length cap 0 (vp l) a b c d
  | i + 1 => zRB2 l.length cap (i + 1) ((i + 1 : Nat) : Int) (vp l) a b c d (vi ((List.range (i + 1)).map (ansV a b c d l)))
theorem at_p1 {l : List (Int × Int)} {i : Nat} (h : i < l.length) : At (vp l) (0 + i * 2) 1 [vI (pt l i).1] := by rw [← pt_at h]; exact vp_one l i h
theorem at_p2 {l : List (Int × Int)} {i : Nat} (h : i < l.length) (b : Nat) : At (vp l) (Addr.off ⟨b, 0 + i * 2, none⟩ + 1) 1 [vI (pt l i).2] := by rw [← pt_at h]; exact vp_sndA l i h b
theorem conRB {a b c d : Int} {l : List (Int × Int)} (hv : BV a b c d l) : C5 37 [.agg [dI a, dI b, dI c, dI d], .sl l.length 2 (vp l)] [.sl l.length 1 (vi (ansL a b c d l))] := by
  have hn := hv.n
  let inv : Nat × Nat → Prop := fun x => x.1 ≤ l.length
  let st : Nat × Nat → Slots × Blocks := fun x => rbS a b c d l x.2 x.1
  refine con_of (L := fun _ s b => ∃ x, inv x ∧ st x = (s, b)) hokU mixed Try.func37 rfl (by show 1 ≤ 400; omega) rfl (ids := [0]) (by kernel_rfl) rfl (fun caps => ?_) (fun id hid => ?_)
  · show gRB _ _ a b c d l.length (caps 500) (vp l) _
    rw [gRB_text]
    exact ⟨(0, caps 500), Nat.zero_le _, rfl⟩
  · obtain rfl := List.mem_singleton.1 hid
    refine ⟨Nat × Nat, st, inv, fun x => l.length - x.1, ⟨fun s b h => h, by kernel_rfl, ?_⟩⟩
    rintro ⟨i, cap⟩ hi
    have hi : i ≤ l.length := hi
    have wi : i < l.length → IntKind.wrap .i64 ((i : Int) + 1) = ((i + 1 : Nat) : Int) := fun h => by rw [w64 (by omega) (by omega)]; rfl
    have wN : IntKind.wrap .i64 ((l.length : Int) - 1) = ((l.length - 1 : Nat) : Int) := by rw [w64 (by omega) (by omega)]; omega
    -- comparisons
    have cm : i < l.length → ∀ z : Int, 0 ≤ z ∧ z ≤ 10000 → C5 87 [dI (IntKind.wrap .i64 ((pt l i).1 * 1000000)), dI (pt l i).2, dI z, dI 1] [dI (cmp1 (1000000 * (pt l i).1) (pt l i).2 z)] := fun h z hz => by
      obtain ⟨h3, h4⟩ := cgE_ok.1 (hv.f _ (pt_mem h))
      have h5 := h3.1; have h6 := h4.1; have h7 := h4.2
      rw [w64 (by omega) (by omega), Int.mul_comm]
      exact conCp (by omega) (by omega) (by omega)
    have cg : i < l.length → ∀ z : Int, (cmp1 (1000000 * (pt l i).1) (pt l i).2 z > 0 ↔ 1000000 * (pt l i).1 > z * (pt l i).2) ∧ (cmp1 (1000000 * (pt l i).1) (pt l i).2 z ≤ 0 ↔ 1000000 * (pt l i).1 ≤ z * (pt l i).2) := fun h z => by
      have h5 := (cgE_ok.1 (hv.f _ (pt_mem h))).1.1
      exact ⟨cmp1_gt h5, cmp1_le h5⟩
    cases i with
    | zero =>
      have h0 : 0 < l.length := by omega
      show rRB1 _ _ l.length cap ((0 : Nat) : Int) (vp l) a b c d _ _ _
      rw [rRB1_text]
      simp only [bc_t (show ((0 : Nat) : Int) < (l.length : Int) by omega), bc_t (show (0 : Int) ≤ ((0 : Nat) : Int) by omega), Int.toNat_natCast, at1 (at_p1 h0), at1 (at_p2 h0 500), wi h0, eq_self, true_and, and_true]
      refine bc_beq (fun _ => ?_) (fun h => absurd rfl h)
      have fin : ∀ v : Int, v = bkW a b (pt l 0).1 (pt l 0).2 → rbS a b c d l cap 1 = (_, [(500, .sym (vp l) false 2), (1000, .cells [vI a, vI b, vI c, vI d] 58 false 1), (1001, .sym [vI v] true 1)]) := fun v h => by
        rw [h]
        have : ansV a b c d l 0 = bkW a b (pt l 0).1 (pt l 0).2 := if_pos (.inl rfl)
        rw [← this]; rfl
      refine ⟨_, ⟨cm h0 b hv.v.b1⟩, bc_dec (fun h1 => ?_) (fun h1 => ⟨_, ⟨cm h0 a hv.v.a1⟩, bc_dec (fun h2 => ?_) (fun h2 => ?_)⟩)⟩
      · exact ⟨(1, cap), h0, by show l.length - 1 < l.length - 0; omega, fin _ (by rw [bkW, if_pos ((cg h0 b).1.1 h1)])⟩
      · exact ⟨(1, cap), h0, by show l.length - 1 < l.length - 0; omega, fin _ (by rw [bkW, if_neg (fun h => h1 ((cg h0 b).1.2 h)), if_pos ((cg h0 a).2.1 h2)])⟩
      · exact ⟨(1, cap), h0, by show l.length - 1 < l.length - 0; omega, fin _ (by rw [bkW, if_neg (fun h => h1 ((cg h0 b).1.2 h)), if_neg (fun h => h2 ((cg h0 a).2.2 h))])⟩
    | succ i =>
      show rRB2 _ _ l.length cap (i + 1) ((i + 1 : Nat) : Int) (vp l) a b c d (vi ((List.range (i + 1)).map (ansV a b c d l))) _ _ _
      rw [rRB2_text]
      refine bc_dec (fun h => ?_) (fun h => ?_)
      · have h0 : i + 1 < l.length := by omega
        have fin : ∀ v : Int, v = ansV a b c d l (i + 1) → rbS a b c d l cap (i + 2) = (_, [(500, .sym (vp l) false 2), (1000, .cells [vI a, vI b, vI c, vI d] 58 false 1), (1001, .sym (vi ((List.range (i + 1)).map (ansV a b c d l)) ++ [vI v]) true 1)]) := fun v hh => by
          rw [hh, rg_snoc]
        simp only [bc_t h, bc_t (show (0 : Int) ≤ ((i + 1 : Nat) : Int) by omega), Int.toNat_natCast, at1 (at_p1 h0), at1 (at_p2 h0 500), wi h0, wN, eq_self, true_and, and_true, bc_t (show i + 1 < i + 1 + 1 by omega), bc_t (show (2 * (i + 1 + 1) + 768) * 8 ≤ 281474976710656 by omega), bc_t (show i + 1 + 1 ≤ 1099511627776 by omega), bc_t (show 0 + (i + 1) * 1 ≤ (vi ((List.range (i + 1)).map (ansV a b c d l))).length by simp), bc_t (show 0 + (i + 1) * 1 = (vi ((List.range (i + 1)).map (ansV a b c d l))).length by simp), rg_take]
        refine bc_beq (fun hz => absurd hz (by omega)) (fun _ => bc_beq (fun hl => ?_) (fun hl => ?_))
        · have e : ansV a b c d l (i + 1) = bkW a b (pt l (i + 1)).1 (pt l (i + 1)).2 := if_pos (.inr (by omega))
          refine ⟨_, ⟨cm h0 b hv.v.b1⟩, bc_dec (fun h1 => ?_) (fun h1 => ⟨_, ⟨cm h0 a hv.v.a1⟩, bc_dec (fun h2 => ?_) (fun h2 => ?_)⟩)⟩
          · exact ⟨(i + 2, cap), h0, by show l.length - (i + 2) < l.length - (i + 1); omega, fin _ (by rw [e, bkW, if_pos ((cg h0 b).1.1 h1)])⟩
          · exact ⟨(i + 2, cap), h0, by show l.length - (i + 2) < l.length - (i + 1); omega, fin _ (by rw [e, bkW, if_neg (fun h => h1 ((cg h0 b).1.2 h)), if_pos ((cg h0 a).2.1 h2)])⟩
          · exact ⟨(i + 2, cap), h0, by show l.length - (i + 2) < l.length - (i + 1); omega, fin _ (by rw [e, bkW, if_neg (fun h => h1 ((cg h0 b).1.2 h)), if_neg (fun h => h2 ((cg h0 a).2.2 h))])⟩
        · have e : ansV a b c d l (i + 1) = bkW c d (pt l (i + 1)).1 (pt l (i + 1)).2 := if_neg (by omega)
          refine ⟨_, ⟨cm h0 d hv.v.d1⟩, bc_dec (fun h1 => ?_) (fun h1 => ⟨_, ⟨cm h0 c hv.v.c1⟩, bc_dec (fun h2 => ?_) (fun h2 => ?_)⟩)⟩
          · exact ⟨(i + 2, cap), h0, by show l.length - (i + 2) < l.length - (i + 1); omega, fin _ (by rw [e, bkW, if_pos ((cg h0 d).1.1 h1)])⟩
          · exact ⟨(i + 2, cap), h0, by show l.length - (i + 2) < l.length - (i + 1); omega, fin _ (by rw [e, bkW, if_neg (fun h => h1 ((cg h0 d).1.2 h)), if_pos ((cg h0 c).2.1 h2)])⟩
          · exact ⟨(i + 2, cap), h0, by show l.length - (i + 2) < l.length - (i + 1); omega, fin _ (by rw [e, bkW, if_neg (fun h => h1 ((cg h0 d).1.2 h)), if_neg (fun h => h2 ((cg h0 c).2.2 h))])⟩
      · show (if 0 = 0 then _ else _)
        rw [if_pos rfl]
        show nRB4 _ _ (i + 1) (vi ((List.range (i + 1)).map (ansV a b c d l))) _
        rw [nRB4_text]
        have : i + 1 = l.length := by omega
        refine ⟨⟨rfl, by simp⟩, ?_⟩
        show _ = _
        rw [ansL, ← this]
end Go.Proofs.G5f

/- Chapter 7: FlatBuckles: the answers of the program, and the law, in data. -/
namespace Go.Proofs.G5f
open Go Go.Abs Go.Proofs Go.Proofs.G7
set_option maxRecDepth 100000
theorem listSet_vi (p : List Int) (k : Nat) (w : Int) (hk : k < p.length) : listSet (vi p) k [vI w] = vi (p.set k w) := by
  have e : p.set k w = p.take k ++ w :: p.drop (k + 1) := List.set_eq_take_append_cons_drop .. |>.trans (if_pos hk)
  rw [e]
  unfold listSet vi
  simp [List.map_take, List.map_drop]
theorem gt_set (p : List Int) (k : Nat) (w : Int) (i : Nat) (hk : k < p.length) : gt (p.set k w) i = if i = k then w else gt p i := by
  unfold gt
  rw [List.getD_eq_getElem?_getD, List.getElem?_set, List.getD_eq_getElem?_getD]
  by_cases h : k = i
  · subst h; simp [hk]
  · rw [if_neg h, if_neg (fun e => h e.symm)]
theorem ans_fin {a b c d : Int} {l : List (Int × Int)} (hv : BV a b c d l) {v w : Int} (h1 : v = bkV a b (pt l 0).1 (pt l 0).2) (h2 : w = bkV a b (pt l (l.length - 1)).1 (pt l (l.length - 1)).2) : listSet (vI v :: List.drop 1 (EbO c d l l.length)) (0 + (l.length - 1) * 1) [vI w] = vi (ansL a b c d l) := by
  have hn := hv.n
  let o : List Int := (List.range l.length).map fun i => bkV c d (pt l i).1 (pt l i).2
  have ho : o.length = l.length := by simp [o]
  have e1 : vI v :: List.drop 1 (EbO c d l l.length) = vi (o.set 0 v) := by
    show vI v :: List.drop 1 (vi o) = _
    have : o.set 0 v = v :: o.drop 1 := by
      cases h : o with
      | nil => rw [h] at ho; simp at ho; omega
      | cons x r => rfl
    rw [this]; simp [vi, List.map_drop]
  rw [e1, Nat.zero_add, Nat.mul_one, listSet_vi _ _ _ (by simp; omega)]
  refine congrArg vi (gt_ext (by simp [ho]) fun i hi => ?_)
  have hi : i < l.length := by simpa [ho] using hi
  rw [gt_set _ _ _ _ (by simp; omega), gt_set _ _ _ _ (by omega)]
  have eA : gt (ansL a b c d l) i = ansV a b c d l i := gt_range _ hi
  rw [eA]
  unfold ansV
  have f0 := hv.f _ (pt_mem hi)
  have k1 := (bk_bd hv.v.a1 hv.v.b1 f0).2.2
  have k2 := (bk_bd hv.v.c1 hv.v.d1 f0).2.2
  by_cases e2 : i = l.length - 1
  · rw [if_pos e2, if_pos (.inr (by omega)), h2, ← e2]; exact k1
  · rw [if_neg e2]
    by_cases e3 : i = 0
    · rw [if_pos e3, if_pos (.inl e3), h1, ← e3]; exact k1
    · rw [if_neg e3, if_neg (by omega), ← k2]
      exact gt_range _ hi
def buP (a b c d : Int) (l : List (Int × Int)) : List D := if bkE a b c d l = 0 then [.sl l.length 1 (vi (ansL a b c d l)), dI 0] else [.nil, dI (bkE a b c d l)]
theorem conBo {a b c d : Int} (l : List (Int × Int)) (hw : ∀ f ∈ l, WF f) (hl : l.length ≤ 1000000) : C5 32 [.agg [dI a, dI b, dI c, dI d], .sl l.length 2 (vp l)] (buP a b c d l) := by
  refine con_walk hokU mixed (u := 8) (by decide) Try.func32 rfl (by show 1 ≤ 400; omega) (fun caps => ?_)
  show gBo _ a b c d l.length (caps 500) (vp l) _
  rw [gBo_text]
  simp only [bc_t (v2le l), vp_whole, eq_self, true_and]
  refine ⟨_, _, ⟨conFw l hw (by omega)⟩, _, ⟨conKl a b c d⟩, _, ⟨conCC _ _ _⟩, _, ⟨conFE [lwE a b c d, cntE l.length 3 9, (fwG 0 l).2] (by simp)⟩, ?_⟩
  rw [bkE_fst]
  refine bc_bne (fun h => ?_) (fun h => ?_)
  · rw [buP, if_neg h] <;> trivial
  · have hv := bkE_ok.1 h
    have hn := hv.n
    refine ⟨by omega, ⟨l, (prs_vp l).symm, rfl, by omega⟩, EbO c d l l.length, ⟨?_⟩, ?_⟩
    · show EbO c d l l.length = bkL c d (vp l)
      rw [bkL_vp, ← map_range (fun p => bkV c d p.1 p.2) l (0, 0)]
    · have w1 : IntKind.wrap .i64 ((l.length : Int) - 1) = ((l.length - 1 : Nat) : Int) := by rw [w64 (by omega) (by omega)]; omega
      have a0 : At (vp l) 0 2 [vI (pt l 0).1, vI (pt l 0).2] := by
        have := at_pt (l := l) (i := 0) (by omega)
        rwa [Nat.zero_mul, Nat.add_zero] at this
      have a1 := at_pt (l := l) (i := l.length - 1) (by omega)
      have lo1 : 0 + 1 ≤ (EbO c d l l.length).length := by simp; omega
      have key : ∀ v w : Int, v = bkV a b (pt l 0).1 (pt l 0).2 → w = bkV a b (pt l (l.length - 1)).1 (pt l (l.length - 1)).2 → (listSet (vI v :: List.drop 1 (EbO c d l l.length)) (0 + (l.length - 1) * 1) [vI w]).length = l.length * 1 ∧ [D.sl l.length 1 (listSet (vI v :: List.drop 1 (EbO c d l l.length)) (0 + (l.length - 1) * 1) [vI w]), dI 0] = buP a b c d l := fun v w h1 h2 => by
        rw [ans_fin hv h1 h2, buP, if_pos h]
        exact ⟨by simp, rfl⟩
      have lo2 : ∀ v : Int, 0 + (l.length - 1) * 1 + 1 ≤ (vI v :: List.drop 1 (EbO c d l l.length)).length := fun v => by simp <;> omega
      simp only [w1, bc_t (show (0 : Int) < (l.length : Int) by omega), bc_t (show (0 : Int) ≤ ((l.length - 1 : Nat) : Int) by omega), bc_t (show ((l.length - 1 : Nat) : Int) < (l.length : Int) by omega), Int.toNat_natCast, at2 a0, at2 a1, eq_self, true_and]
      refine bc_dec (fun h1 => bc_yes lo1 ?_) (fun h1 => bc_dec (fun h2 => bc_yes lo1 ?_) (fun h2 => bc_yes lo1 ?_))
      · refine bc_dec (fun h3 => bc_yes (lo2 2) ?_) (fun h3 => bc_dec (fun h4 => bc_yes (lo2 2) ?_) (fun h4 => bc_yes (lo2 2) ?_))
        · exact key 2 2 (by rw [bkV, if_pos h1]) (by rw [bkV, if_pos h3])
        · exact key 2 0 (by rw [bkV, if_pos h1]) (by rw [bkV, if_neg h3, if_pos h4])
        · exact key 2 1 (by rw [bkV, if_pos h1]) (by rw [bkV, if_neg h3, if_neg h4])
      · refine bc_dec (fun h3 => bc_yes (lo2 0) ?_) (fun h3 => bc_dec (fun h4 => bc_yes (lo2 0) ?_) (fun h4 => bc_yes (lo2 0) ?_))
        · exact key 0 2 (by rw [bkV, if_neg h1, if_pos h2]) (by rw [bkV, if_pos h3])
        · exact key 0 0 (by rw [bkV, if_neg h1, if_pos h2]) (by rw [bkV, if_neg h3, if_pos h4])
        · exact key 0 1 (by rw [bkV, if_neg h1, if_pos h2]) (by rw [bkV, if_neg h3, if_neg h4])
      · refine bc_dec (fun h3 => bc_yes (lo2 1) ?_) (fun h3 => bc_dec (fun h4 => bc_yes (lo2 1) ?_) (fun h4 => bc_yes (lo2 1) ?_))
        · exact key 1 2 (by rw [bkV, if_neg h1, if_neg h2]) (by rw [bkV, if_pos h3])
        · exact key 1 0 (by rw [bkV, if_neg h1, if_neg h2]) (by rw [bkV, if_neg h3, if_pos h4])
        · exact key 1 1 (by rw [bkV, if_neg h1, if_neg h2]) (by rw [bkV, if_neg h3, if_neg h4])
/-- wider limits -/
theorem bkW_wide {lo up lo' up' n d : Int} (hd : 0 < d) (h1 : lo' ≤ lo) (h2 : up ≤ up') (h3 : lo ≤ up) : bkW lo' up' n d = bkW lo up n d ∨ bkW lo' up' n d = 1 := by
  have e1 : lo' * d ≤ lo * d := Int.mul_le_mul_of_nonneg_right h1 (by omega)
  have e2 : up * d ≤ up' * d := Int.mul_le_mul_of_nonneg_right h2 (by omega)
  have e3 : lo * d ≤ up * d := Int.mul_le_mul_of_nonneg_right h3 (by omega)
  unfold bkW
  by_cases k1 : 1000000 * n > up' * d
  · rw [if_pos k1, if_pos (by omega)]; exact .inl rfl
  · rw [if_neg k1]
    by_cases k2 : 1000000 * n ≤ lo' * d
    · rw [if_pos k2, if_neg (by omega), if_pos (by omega)]; exact .inl rfl
    · rw [if_neg k2]; exact .inr rfl
theorem ans_wide {a b c d : Int} {l : List (Int × Int)} (hv : BV a b c d l) {i : Nat} (hi : i < l.length) : gt (ansL (a / 2) 10000 0 d l) i = gt (ansL a b c d l) i ∨ gt (ansL (a / 2) 10000 0 d l) i = 1 := by
  have v := hv.v
  have h1 := v.a1; have h2 := v.b1; have h3 := v.c1; have h4 := v.d1; have h5 := v.ab; have h6 := v.cd
  have hd := (cgE_ok.1 (hv.f _ (pt_mem hi))).1.1
  have eA : gt (ansL a b c d l) i = ansV a b c d l i := gt_range _ hi
  have eW : gt (ansL (a / 2) 10000 0 d l) i = ansV (a / 2) 10000 0 d l i := gt_range _ hi
  rw [eA, eW]
  unfold ansV
  by_cases h : i = 0 ∨ i + 1 = l.length
  · rw [if_pos h, if_pos h]; exact bkW_wide hd (by omega) (by omega) (by omega)
  · rw [if_neg h, if_neg h]; exact bkW_wide hd (by omega) (by omega) (by omega)
theorem conLk {a b c d : Int} (l : List (Int × Int)) (hw : ∀ f ∈ l, WF f) : C5 6 [.agg [dI a, dI b, dI c, dI d], .sl l.length 2 (vp l)] [.val (.bool true)] := by
  let A : List Int := ansL a b c d l
  let B2 : List Int := ansL (a / 2) 10000 0 d l
  have hA : A.length = l.length := ansL_length
  have hB : B2.length = l.length := ansL_length
  let inv : Nat → Prop := fun i => BV a b c d l ∧ i ≤ l.length
  let st : Nat → Slots × Blocks := fun i => zLk4 l.length l.length i (vi A) (vi B2)
  refine con_of (L := fun _ s b => ∃ x, inv x ∧ st x = (s, b)) hokU mixed Try.func6 rfl (by show 1 ≤ 400; omega) rfl (ids := [0]) (by kernel_rfl) rfl (fun caps => ?_) (fun id hid => ?_)
  · show gLk _ _ a b c d l.length (caps 500) (vp l) _
    rw [gLk_text]
    refine .inl ⟨⟨conAw⟩, bc_dec (fun _ => by trivial) (fun h12 => ?_)⟩
    have h12 : l.length ≤ 12 := by omega
    simp only [bc_t (v2le l), vp_whole, eq_self, true_and]
    refine ⟨⟨conCF l (by omega)⟩, ?_⟩
    have hb := conBo (a := a) (b := b) (c := c) (d := d) l hw (by omega)
    have hl := conRLw a b c d
    have hk := conRK l hw (by omega)
    by_cases he : bkE a b c d l = 0
    · rw [buP, if_pos he] at hb
      have hv := bkE_ok.1 he
      have v := hv.v
      have h1 := v.a1; have h2 := v.b1; have h3 := v.c1; have h4 := v.d1; have h5 := v.ab; have h6 := v.cd
      rw [lwE_ok.2 hv.v] at hl
      rw [rkE_ok.2 ⟨hv.n, hv.f⟩] at hk
      have hr := conRB hv
      have hvw : BV (a / 2) 10000 0 d l := ⟨⟨by omega, by omega, by omega, by omega, by omega, by omega⟩, hv.n, hv.f⟩
      have hb2 := conBo (a := a / 2) (b := 10000) (c := 0) (d := d) l hw (by omega)
      rw [buP, if_pos (bkE_ok.2 hvw)] at hb2
      have w1 := vi_whole (ansL a b c d l)
      have l1 := v1le (ansL a b c d l)
      have e3 := sayIt (l := ansL a b c d l) rfl (by rw [ansL_length]; omega)
      rw [ansL_length] at w1 l1 e3
      have e4 : IntKind.wrap .i64 (a.tdiv 2) = a / 2 := by rw [Int.tdiv_eq_ediv_of_nonneg (by omega), w64 (by omega) (by omega)]
      refine .inr ⟨_, _, _, ⟨hb⟩, _, ⟨hl⟩, bc_beq (fun _ => ⟨_, ⟨hk⟩, bc_bne (fun h => absurd rfl h) (fun _ => bc_bne (fun h => absurd rfl h) (fun _ => ?_))⟩) (fun h => absurd rfl h)⟩
      refine .inr ⟨_, _, ⟨hr⟩, ?_⟩
      simp only [bc_t l1, w1, e4]
      refine .inl ⟨e3, ⟨conCF l (by omega)⟩, .inr ⟨_, _, _, ⟨hb2⟩, bc_bne (fun h => absurd rfl h) (fun _ => bc_bne (fun h => absurd rfl h) (fun _ => ?_))⟩⟩
      exact ⟨0, ⟨hv, Nat.zero_le _⟩, rfl⟩
    · rw [buP, if_neg he] at hb
      by_cases h1 : lwE a b c d = 0
      · have e : bkE a b c d l = rkE l := by rw [bkE, if_pos h1]
        rw [e] at hb he
        exact .inl ⟨_, ⟨hb⟩, _, ⟨hl⟩, bc_beq (fun _ => ⟨_, ⟨hk⟩, bc_bne (fun _ => bc_beq (fun _ => by trivial) (fun h => absurd rfl h)) (fun h => absurd h he)⟩) (fun h => absurd h1 h)⟩
      · have e : bkE a b c d l = lwE a b c d := by rw [bkE, if_neg h1]
        rw [e] at hb
        exact .inl ⟨_, ⟨hb⟩, _, ⟨hl⟩, bc_beq (fun h => absurd h h1) (fun _ => bc_bne (fun _ => bc_beq (fun _ => by trivial) (fun h => absurd rfl h)) (fun h => absurd h h1))⟩
  · obtain rfl := List.mem_singleton.1 hid
    refine ⟨Nat, st, inv, fun i => l.length - i, ⟨fun s b h => h, by kernel_rfl, ?_⟩⟩
    rintro i ⟨hv, hi⟩
    have hn := hv.n
    show rLk4 _ _ l.length l.length (i : Int) (vi A) (vi B2) _ _ _
    rw [rLk4_text]
    refine bc_dec (fun h => ?_) (fun h => ?_)
    · have h1 : i < l.length := by omega
      have ha := at_gt (u := A) (i := i) (by omega)
      have hb := at_gt (u := B2) (i := i) (by omega)
      have hor := ans_wide hv h1
      have wi : IntKind.wrap .i64 ((i : Int) + 1) = ((i + 1 : Nat) : Int) := by rw [w64 (by omega) (by omega)]; rfl
      have fin : ∃ y, inv y ∧ l.length - y < l.length - i ∧ st y = (zLk4 l.length l.length ((i + 1 : Nat) : Int) (vi A) (vi B2)) := ⟨i + 1, ⟨hv, h1⟩, by omega, rfl⟩
      simp only [bc_t h, bc_t (show (0 : Int) ≤ (i : Int) by omega), Int.toNat_natCast, at1 ha, at1 hb, wi, eq_self, true_and, and_true]
      by_cases hq : gt B2 i = gt A i
      · rw [hq]
        simp only [bne_self_eq_false]
        exact bc_false rfl ⟨bc_false rfl trivial, fin⟩
      · have hq1 : gt B2 i = 1 := hor.resolve_left hq
        rw [hq1] at hq ⊢
        have hb1 : ((1 : Int) != gt A i) = true := by simpa using hq
        simp only [hb1]
        exact bc_true rfl (bc_false (by decide) ⟨⟨bc_false (by decide) trivial, bc_true rfl trivial⟩, fin⟩)
    · show (if 0 = 0 then _ else _)
      rw [if_pos rfl]
      show nLk5 _ _ _
      rw [nLk5_text]
theorem conLkn {a b c d : Int} : C5 6 [.agg [dI a, dI b, dI c, dI d], .nil] [.val (.bool true)] := by
  refine con_of (L := fun _ _ _ => False) hokU mixed Try.func6 rfl (by show 0 ≤ 400; omega) rfl (ids := [0]) (by kernel_rfl) rfl (fun caps => ?_) (fun id hid => ?_)
  · show gLkn _ _ a b c d _
    rw [gLkn_text]
    try simp only [eq_self, true_and]
    have hb := conBo (a := a) (b := b) (c := c) (d := d) [] (by simp) (by simp)
    have hl := conRLw a b c d
    have hr : rkE [] = 10 := by rfl
    refine .inl ⟨⟨conAw⟩, ⟨conCFn⟩, ?_⟩
    by_cases h1 : lwE a b c d = 0
    · have e : bkE a b c d [] = 10 := by rw [bkE, if_pos h1, hr]
      rw [buP, e, if_neg (by decide)] at hb
      exact .inl ⟨_, ⟨hb⟩, _, ⟨hl⟩, bc_beq (fun _ => ⟨_, ⟨conRKn⟩, bc_bne (fun _ => bc_beq (fun _ => by trivial) (fun h => absurd rfl h)) (fun h => absurd h (by decide))⟩) (fun h => absurd h1 h)⟩
    · have e : bkE a b c d [] = lwE a b c d := by rw [bkE, if_neg h1]
      rw [buP, e, if_neg h1] at hb
      exact .inl ⟨_, ⟨hb⟩, _, ⟨hl⟩, bc_beq (fun h => absurd h h1) (fun _ => bc_bne (fun _ => bc_beq (fun _ => by trivial) (fun h => absurd rfl h)) (fun h => absurd h h1))⟩
  · obtain rfl := List.mem_singleton.1 hid
    exact ⟨Nat, fun _ => ([], []), fun _ => False, fun _ => 0, ⟨fun s b h => h.elim, by kernel_rfl, fun j hj => hj.elim⟩⟩
end Go.Proofs.G5f

/- FlatBuckles: whatever the input, it returns true, and the input reads as it did. No condition. -/
namespace Go.Proofs.Ytpjfmeijfkbfaaa.K
open Go Go.Abs Go.RowKit Go.ChangeShapes Go.WideShapes Go.ChangeAt Go.Proofs Go.Flat Go.Proofs.G5f
set_option maxRecDepth 100000
namespace FlatBuckles
abbrev shs : List Sh := [.agg [3, 3, 3, 3], .one 36]
theorem shapes : Try.f6.params.toList.mapM (argSh Try.prog) = some shs := by kernel_rfl
theorem all (ds : List D) (h : ShDs Try.prog shs ds) : Con Try.prog 6 ds [.val (.bool true)] := by
  cases h with | cons h1 t => cases t with | cons h2 t =>
  cases t
  obtain ⟨d1, rfl, h1⟩ := h1
  cases h1 with | cons p1 t => cases t with | cons p2 t => cases t with | cons p3 t => cases t with | cons p4 t =>
  cases t
  obtain ⟨x1, rfl, _⟩ := leaf_int Try.underlying3 p1
  obtain ⟨x2, rfl, _⟩ := leaf_int Try.underlying3 p2
  obtain ⟨x3, rfl, _⟩ := leaf_int Try.underlying3 p3
  obtain ⟨x4, rfl, _⟩ := leaf_int Try.underlying3 p4
  rcases leaf_prs Try.underlying36 (by kernel_rfl) h2 with rfl | ⟨l, rfl, hl⟩
  · exact conLkn
  · exact conLk l hl
theorem lifted (os : Os) (started : os.Started) (H : Type) (enc : TypeId × Value → H) :
    ReturnsInHanded {} Try.checked os 6 .any (Rows.flatBucklesSpec.pre6 enc Try.prog Try.f6 Rows.flatBucklesRow.domain false) (Rows.flatBucklesSpec.post enc Try.prog Try.f6 false true false false) := by
  refine returnsInHanded_of_change (C := Try.checked) own started (by kernel_rfl) Try.func6
    (ChangeSpec.witness6 (enc := enc) (C := Try.checked) false ⟨#[], #[.agg #[.int .i64 0, .int .i64 0, .int .i64 0, .int .i64 0], .slice none 0 0], []⟩ 8 (by kernel_rfl) (by kernel_rfl) (by kernel_rfl) (by kernel_rfl)) ?_
  intro W base args ds gs before hval hW _ _
  exact law_shapes (tb := 4) (s := Rows.flatBucklesSpec) shapes all laidP mapsP slicesP (tsP (by kernel_rfl)) rfl Try.underlying4 rfl (fun ds h => by
    match ds, h with
    | [_, _], _ => exact ⟨rfl, rfl, rfl⟩) hval hW
theorem holds : Rows.FlatBucklesSaid :=
  OpenClaim.holds_of_wide 6 Try.f6 rfl rfl rfl rfl rfl rfl rfl ⟨rfl, rfl, rfl, rfl, rfl⟩ rfl rfl rfl rfl rfl (by kernel_rfl) Try.func6 (by kernel_rfl)
    (of_decide_eq_true (by kernel_rfl)) (by unfold Func.isWrapper; first | (rw [if_pos (by decide +kernel)]; kernel_rfl) | (rw [if_neg (by decide +kernel)]; exact ⟨rfl, rfl⟩))
    (fun os started H enc _ => lifted os started H enc)
#print axioms holds
end FlatBuckles
end Go.Proofs.Ytpjfmeijfkbfaaa.K

/- Chapter 7: contours and heights, in data. -/
namespace Go.Proofs.G5f
open Go Go.Abs Go.Proofs Go.Proofs.G7
set_option maxRecDepth 100000
def ascL (bf : Int) : List (Int × Int) → Prop
  | [] => True
  | p :: r => bf < p.1 ∧ ascL p.1 r
theorem fpL_ok : ∀ {l : List (Int × Int)} {bf k : Int}, (fpL bf k (vp l)).2.1 = 0 ↔ (∀ p ∈ l, ptE p.1 p.2 = 0) ∧ ascL bf l
  | [], bf, k => by simp [vp, fpL, ascL]
  | p :: r, bf, k => by
    have e : fpL bf k (vp (p :: r)) = if ptE p.1 p.2 = 0 then (if p.1 ≤ bf then (k, 9, bf) else fpL p.1 (k + 1) (vp r)) else (k, ptE p.1 p.2, p.1) := rfl
    rw [e, List.forall_mem_cons (p := fun p : Int × Int => ptE p.1 p.2 = 0), ascL]
    by_cases h1 : ptE p.1 p.2 = 0
    · rw [if_pos h1]
      by_cases h2 : p.1 ≤ bf
      · rw [if_pos h2]
        exact ⟨fun h => by simp at h, fun h => by have := h.2.1; omega⟩
      · rw [if_neg h2, fpL_ok]
        exact ⟨fun h => ⟨⟨h1, h.1⟩, by omega, h.2⟩, fun h => ⟨h.1.2, h.2.2⟩⟩
    · rw [if_neg h1]
      exact ⟨fun h => absurd h h1, fun h => absurd h.1.1 h1⟩
theorem asc_at : ∀ {l : List (Int × Int)} {bf : Int} {i : Nat}, ascL bf l → i + 1 < l.length → (pt l i).1 < (pt l (i + 1)).1
  | [], _, _, _, h => by simp at h
  | [_], _, _, _, h => by simp at h
  | p :: q :: r, _, 0, h, _ => h.2.1
  | p :: q :: r, _, i + 1, h, hi => asc_at (l := q :: r) (i := i) h.2 (by simpa using hi)
structure CcV (l : List (Int × Int)) : Prop where
  n : 2 ≤ l.length ∧ l.length ≤ 10
  p : ∀ p ∈ l, ptE p.1 p.2 = 0
  a : ascL (-1) l
def ccI (l : List (Int × Int)) : Int := if cntE l.length 2 10 = 0 then (fpL (-1) 0 (vp l)).1 else 0
def ccE (l : List (Int × Int)) : Int := if cntE l.length 2 10 = 0 then (fpL (-1) 0 (vp l)).2.1 else cntE l.length 2 10
theorem ccE_ok {l : List (Int × Int)} : ccE l = 0 ↔ CcV l := by
  unfold ccE
  constructor
  · intro h
    split at h
    · rename_i h1
      have h2 := fpL_ok.1 h
      have h3 := cntE_ok.1 h1
      exact ⟨by omega, h2.1, h2.2⟩
    · rename_i h1; exact absurd h h1
  · intro h
    have h3 := h.n
    rw [if_pos (cntE_ok.2 (by omega))]
    exact fpL_ok.2 ⟨h.p, h.a⟩
theorem pt_bd {l : List (Int × Int)} (h : CcV l) {i : Nat} (hi : i < l.length) : (0 ≤ (pt l i).1 ∧ (pt l i).1 ≤ 10000) ∧ (-100000 ≤ (pt l i).2 ∧ (pt l i).2 ≤ 100000) := by
  have := h.p _ (pt_mem hi)
  unfold ptE at this
  split at this
  · assumption
  · omega
theorem conKC (l : List (Int × Int)) (hl : l.length ≤ 1000000) : C5 48 [.sl l.length 2 (vp l)] [dI (ccI l), dI (ccE l)] := by
  refine con_flat hokU mixed Try.func48 rfl (by show 1 ≤ 400; omega) rfl (by kernel_rfl) (fun caps => ?_)
  show gKC _ _ l.length (caps 500) (vp l) _
  rw [gKC_text]
  try simp only [eq_self, true_and]
  refine ⟨_, ⟨conCC _ _ _⟩, bc_bne (fun h => ?_) (fun h => ?_)⟩
  · rw [ccI, ccE, if_neg h, if_neg h] <;> trivial
  · refine ⟨⟨l, (prs_vp l).symm, rfl, by omega⟩, (fpL (-1) 0 (vp l)).1, (fpL (-1) 0 (vp l)).2.1, (fpL (-1) 0 (vp l)).2.2, ⟨rfl⟩, ?_⟩
    rw [ccI, ccE, if_pos h, if_pos h] <;> trivial
def bfA (l : List (Int × Int)) : Nat → Int
  | 0 => -1
  | i + 1 => (pt l i).1
theorem conRKC (l : List (Int × Int)) (hl : l.length ≤ 1000000) : C5 53 [.sl l.length 2 (vp l)] [dI (ccI l), dI (ccE l)] := by
  let inv : Nat × Nat → Prop := fun x => x.1 ≤ l.length ∧ cntE l.length 2 10 = 0 ∧ fpL (-1) 0 (vp l) = fpL (bfA l x.1) x.1 (vp (l.drop x.1))
  let st : Nat × Nat → Slots × Blocks := fun x => zRKC1 l.length x.2 x.1 (vp l)
  refine con_of (L := fun _ s b => ∃ x, inv x ∧ st x = (s, b)) hokU mixed Try.func53 rfl (by show 1 ≤ 400; omega) rfl (ids := [0]) (by kernel_rfl) rfl (fun caps => ?_) (fun id hid => ?_)
  · show gRKC _ _ l.length (caps 500) (vp l) _
    rw [gRKC_text]
    refine bc_dec (fun h => ?_) (fun h => bc_dec (fun h2 => ?_) (fun h2 => ?_))
    · have : cntE l.length 2 10 = 10 := by rw [cntE, if_pos h]
      show _ = _; rw [ccI, ccE, this, if_neg (by decide), if_neg (by decide)]
    · have : cntE l.length 2 10 = 8 := by rw [cntE, if_neg h, if_pos h2]
      show _ = _; rw [ccI, ccE, this, if_neg (by decide), if_neg (by decide)]
    · exact ⟨(0, caps 500), ⟨Nat.zero_le _, by rw [cntE, if_neg h, if_neg h2], rfl⟩, rfl⟩
  · obtain rfl := List.mem_singleton.1 hid
    refine ⟨Nat × Nat, st, inv, fun x => l.length - x.1, ⟨fun s b h => h, by kernel_rfl, ?_⟩⟩
    rintro ⟨i, cap⟩ ⟨hi, hc, hr⟩
    simp only at hi hr
    have hk1 : ccI l = (fpL (-1) 0 (vp l)).1 := by rw [ccI, if_pos hc]
    have hk2 : ccE l = (fpL (-1) 0 (vp l)).2.1 := by rw [ccE, if_pos hc]
    show rRKC1 _ _ l.length cap i (vp l) _ _ _
    rw [rRKC1_text, m5]
    refine bc_dec (fun h => ?_) (fun h => ?_)
    · have hi1 : i < l.length := by omega
      rw [fpL_at hi1] at hr
      have a1 : At (vp l) (0 + i * 2) 1 [vI (pt l i).1] := by rw [← pt_at hi1]; exact vp_one l i hi1
      have a2 : At (vp l) (Addr.off ⟨500, 0 + i * 2, none⟩ + 1) 1 [vI (pt l i).2] := by rw [← pt_at hi1]; exact vp_sndA l i hi1 500
      have wi : IntKind.wrap .i64 ((i : Int) + 1) = ((i + 1 : Nat) : Int) := by rw [w64 (by omega) (by omega)]; rfl
      simp only [bc_t h, bc_t (show (0 : Int) ≤ (i : Int) by omega), Int.toNat_natCast, at1 a1, at1 a2, wi]
      have bad : ptE (pt l i).1 (pt l i).2 = 2 → [dI (i : Int), dI 2] = [dI (ccI l), dI (ccE l)] := fun e => by
        rw [e, if_neg (by decide)] at hr
        rw [hk1, hk2, hr]
      by_cases h1 : 0 ≤ (pt l i).1 ∧ (pt l i).1 ≤ 10000
      · refine .inl ⟨sayWt h1, ?_⟩
        by_cases h2 : -100000 ≤ (pt l i).2 ∧ (pt l i).2 ≤ 100000
        · have e : ptE (pt l i).1 (pt l i).2 = 0 := by rw [ptE, if_pos ⟨h1, h2⟩]
          rw [if_pos e] at hr
          refine .inl ⟨sayWt h2, ?_⟩
          have fin : ¬ (pt l i).1 ≤ bfA l i → ∃ x, inv x ∧ l.length - x.1 < l.length - i ∧ st x = zRKC1 l.length cap ((i + 1 : Nat) : Int) (vp l) := fun hb => by
            rw [if_neg hb] at hr
            exact ⟨(i + 1, cap), ⟨hi1, hc, by rw [hr]; rfl⟩, by show l.length - (i + 1) < l.length - i; omega, rfl⟩
          cases i with
          | zero =>
            simp only [bc_f (show ¬ ((0 : Nat) : Int) > 0 by omega), eq_self, true_and]
            exact fin (by show ¬ _ ≤ (-1 : Int); omega)
          | succ i =>
            have wm : IntKind.wrap .i64 (((i + 1 : Nat) : Int) - 1) = (i : Int) := by rw [w64 (by omega) (by omega)]; omega
            have a3 : At (vp l) (0 + i * 2) 1 [vI (pt l i).1] := by rw [← pt_at (show i < l.length by omega)]; exact vp_one l i (by omega)
            simp only [bc_t (show ((i + 1 : Nat) : Int) > 0 by omega), wm, bc_t (show (0 : Int) ≤ (i : Int) by omega), bc_t (show (i : Int) < (l.length : Int) by omega), Int.toNat_natCast, at1 a3, eq_self, true_and]
            refine bc_dec (fun h3 => ?_) (fun h3 => ?_)
            · simp only [bc_t h3, true_and]
              rw [if_pos (show (pt l (i + 1)).1 ≤ bfA l (i + 1) from h3)] at hr
              first | (show [_, _] = [_, _]; rw [hk1, hk2, hr]) | (rw [hk1, hk2, hr]; trivial)
            · simp only [bc_f h3, true_and]
              exact fin h3
        · exact .inr ⟨sayWf h2, bad (by rw [ptE, if_neg (fun h => h2 h.2)])⟩
      · exact .inr ⟨sayWf h1, bad (by rw [ptE, if_neg (fun h => h1 h.1)])⟩
    · show (if 0 = 0 then _ else _)
      rw [if_pos rfl]
      show nRKC2 _ _ _
      rw [nRKC2_text]
      rw [List.drop_eq_nil_of_le (by omega)] at hr
      show [_, _] = [_, _]; rw [hk1, hk2, hr]; rfl
theorem conRKCn : C5 53 [.nil] [dI 0, dI 10] := by
  refine con_of (L := fun _ _ _ => False) hokU mixed Try.func53 rfl (by show 0 ≤ 400; omega) rfl (ids := [0]) (by kernel_rfl) rfl (fun caps => ?_) (fun id hid => ?_)
  · show gRKCn _ _ _
    rw [gRKCn_text]
  · obtain rfl := List.mem_singleton.1 hid
    exact ⟨Nat, fun _ => ([], []), fun _ => False, fun _ => 0, ⟨fun s b h => h.elim, by kernel_rfl, fun j hj => hj.elim⟩⟩
/-! ### heights -/
def htF (at' : Int) (p q : Int × Int) : Int × Int := low (p.2 * (q.1 - at') + q.2 * (at' - p.1)) (q.1 - p.1)
def hgL (at' : Int) : List (Int × Int) → Option (Int × Int)
  | p :: q :: r => if p.1 ≤ at' ∧ at' ≤ q.1 then some (htF at' p q) else hgL at' (q :: r)
  | _ => none
def hgP : Option (Int × Int) → List D
  | some f => [dF f, dI 0]
  | none => [dF (0, 0), dI 21]
theorem hgL_at {l : List (Int × Int)} {i : Nat} (h : i + 1 < l.length) (at' : Int) : hgL at' (l.drop i) = if (pt l i).1 ≤ at' ∧ at' ≤ (pt l (i + 1)).1 then some (htF at' (pt l i) (pt l (i + 1))) else hgL at' (l.drop (i + 1)) := by
  have h1 : i < l.length := by omega
  rw [List.drop_eq_getElem_cons h1, List.drop_eq_getElem_cons h, ← pt_at h1, ← pt_at h]; rfl
theorem hgL_end {l : List (Int × Int)} {i : Nat} (h : ¬ i + 1 < l.length) (at' : Int) : hgL at' (l.drop i) = none := by
  by_cases h1 : i < l.length
  · rw [List.drop_eq_getElem_cons h1, List.drop_eq_nil_of_le (by omega)]; rfl
  · rw [List.drop_eq_nil_of_le (by omega)]; rfl
theorem at_p4 {l : List (Int × Int)} {i : Nat} (h : i + 1 < l.length) : At (vp l) (0 + i * 2) 4 [vI (pt l i).1, vI (pt l i).2, vI (pt l (i + 1)).1, vI (pt l (i + 1)).2] := by
  have h1 : i < l.length := by omega
  refine ⟨by rw [vp_length]; omega, ?_⟩
  rw [Nat.zero_add, vp_drop, List.drop_eq_getElem_cons h1, List.drop_eq_getElem_cons h, ← pt_at h1, ← pt_at h]
  rfl
theorem at4 {l : List Value} {k : Nat} {a b c d : Int} (h : At l k 4 [.int .i64 a, .int .i64 b, .int .i64 c, .int .i64 d]) {Q : Int → Int → Int → Int → Prop} : (∃ n m o p : Int, At l k 4 [.int .i64 n, .int .i64 m, .int .i64 o, .int .i64 p] ∧ Q n m o p) = Q a b c d := by
  apply propext
  constructor
  · rintro ⟨n, m, o, p, hn, hq⟩
    have e := hn.eq.symm.trans h.eq
    simp only [List.cons.injEq, Value.int.injEq, true_and, and_true] at e
    obtain ⟨rfl, rfl, rfl, rfl⟩ := e; exact hq
  · intro hq; exact ⟨a, b, c, d, h, hq⟩
structure Hb (at' : Int) (p q : Int × Int) : Prop where
  a : 0 < q.1 - p.1 ∧ q.1 - p.1 ≤ 10000
  b : 0 ≤ q.1 - at' ∧ q.1 - at' ≤ 10000
  c : 0 ≤ at' - p.1 ∧ at' - p.1 ≤ 10000
  h : -100000 ≤ p.2 ∧ p.2 ≤ 100000
  k : -100000 ≤ q.2 ∧ q.2 ≤ 100000
theorem hb_bd {at' : Int} {p q : Int × Int} (h : Hb at' p q) : (-1000000000 ≤ p.2 * (q.1 - at') ∧ p.2 * (q.1 - at') ≤ 1000000000) ∧ (-1000000000 ≤ q.2 * (at' - p.1) ∧ q.2 * (at' - p.1) ≤ 1000000000) ∧ (-1000000000 ≤ p.2 * (q.1 - p.1) ∧ p.2 * (q.1 - p.1) ≤ 1000000000) ∧ (-2000000000 ≤ (q.2 - p.2) * (at' - p.1) ∧ (q.2 - p.2) * (at' - p.1) ≤ 2000000000) := by
  have h1 := h.h; have h2 := h.k
  have k1 := mul_le (a := p.2) (b := q.1 - at') (A := 100000) (B := 10000) (by omega) h.b
  have k2 := mul_le (a := q.2) (b := at' - p.1) (A := 100000) (B := 10000) (by omega) h.c
  have k3 := mul_le (a := p.2) (b := q.1 - p.1) (A := 100000) (B := 10000) (by omega) ⟨by have := h.a; omega, h.a.2⟩
  have k4 := mul_le (a := q.2 - p.2) (b := at' - p.1) (A := 200000) (B := 10000) (by omega) h.c
  omega
theorem conPh (p q : Int × Int) (at' : Int) : C5 99 [.agg [dI p.1, dI p.2, dI q.1, dI q.2], dI at'] [.val (.bool (decide (p.1 ≤ at' ∧ at' ≤ q.1)))] := by
  refine con_flat hokU mixed Try.func99 rfl (by show 0 ≤ 400; omega) rfl (by kernel_rfl) (fun caps => ?_)
  show gPh _ _ p.1 p.2 q.1 q.2 at' _
  rw [gPh_text]
  refine bc_dec (fun h => bc_dec (fun h2 => ?_) (fun h2 => ?_)) (fun h => ?_)
  · show _ = _; rw [decide_eq_true (show p.1 ≤ at' ∧ at' ≤ q.1 from ⟨h, h2⟩)]
  · show _ = _; rw [decide_eq_false (show ¬ (p.1 ≤ at' ∧ at' ≤ q.1) by omega)]
  · show _ = _; rw [decide_eq_false (show ¬ (p.1 ≤ at' ∧ at' ≤ q.1) by omega)]
theorem conPt {p q : Int × Int} {at' : Int} (h : Hb at' p q) : C5 100 [.agg [dI p.1, dI p.2, dI q.1, dI q.2], dI at'] [dF (htF at' p q)] := by
  refine con_flat hokU mixed Try.func100 rfl (by show 0 ≤ 400; omega) rfl (by kernel_rfl) (fun caps => ?_)
  show gPt _ _ p.1 p.2 q.1 q.2 at' _
  rw [gPt_text]
  have ha := h.a; have hc := h.c; have hh := h.h; have hk := h.k
  have hb := hb_bd h
  rw [w64 (z := q.1 - p.1) (by omega) (by omega), w64 (z := q.2 - p.2) (by omega) (by omega), w64 (z := at' - p.1) (by omega) (by omega), w64 (z := p.2 * (q.1 - p.1)) (by omega) (by omega), w64 (z := (q.2 - p.2) * (at' - p.1)) (by omega) (by omega), w64 (by omega) (by omega)]
  have e : p.2 * (q.1 - p.1) + (q.2 - p.2) * (at' - p.1) = p.2 * (q.1 - at') + q.2 * (at' - p.1) := by
    simp only [Int.mul_sub, Int.sub_mul]; omega
  rw [e]
  simp only [eq_self, true_and]
  exact ⟨_, _, ⟨conLT _ _ (by omega) (by omega) ha.1⟩, by first | rfl | trivial⟩
theorem hb_of {l : List (Int × Int)} (hv : CcV l) {i : Nat} (hi : i + 1 < l.length) {at' : Int} (h : (pt l i).1 ≤ at' ∧ at' ≤ (pt l (i + 1)).1) : Hb at' (pt l i) (pt l (i + 1)) := by
  have h1 := pt_bd hv (i := i) (by omega)
  have h2 := pt_bd hv hi
  have h3 := asc_at hv.a hi
  exact ⟨by omega, by omega, by omega, by omega, by omega⟩
def haP (l : List (Int × Int)) (at' : Int) : List D := if ccE l = 0 then hgP (hgL at' l) else [dF (0, 0), dI (ccE l)]
theorem conHA (l : List (Int × Int)) (at' : Int) (hl : l.length ≤ 1000000) : C5 50 [.sl l.length 2 (vp l), dI at'] (haP l at') := by
  let inv : Nat × Nat → Prop := fun x => x.1 + 1 ≤ l.length ∧ l.length ≤ x.2 ∧ CcV l ∧ hgL at' l = hgL at' (l.drop x.1)
  let st : Nat × Nat → Slots × Blocks := fun x => zHA1 l.length x.2 at' ((l.length - 1 : Nat) : Int) x.1 (vp l) 0 0
  refine con_ofC (L := fun _ s b => ∃ x, inv x ∧ st x = (s, b)) hokU mixed Try.func50 rfl (by show 1 ≤ 400; omega) rfl (ids := [0]) (by kernel_rfl) rfl (fun caps hcap => ?_) (fun id hid => ?_)
  · show gHA _ _ l.length (caps 500) (vp l) at' _
    rw [gHA_text]
    simp only [bc_t (v2le l), vp_whole]
    refine ⟨_, _, ⟨conKC l hl⟩, bc_bne (fun h => ?_) (fun h => ?_)⟩
    · rw [haP, if_neg h]
    · have hv := ccE_ok.1 h
      have hn := hv.n
      have hc : l.length ≤ caps 500 := by simp [capsL, layVals, layCells, countC] at hcap; exact hcap
      refine ⟨(0, caps 500), ⟨by omega, hc, hv, rfl⟩, ?_⟩
      rw [w64 (by omega) (by omega), show (l.length : Int) - 1 = ((l.length - 1 : Nat) : Int) by omega]; rfl
  · obtain rfl := List.mem_singleton.1 hid
    refine ⟨Nat × Nat, st, inv, fun x => l.length - x.1, ⟨fun s b h => h, by kernel_rfl, ?_⟩⟩
    rintro ⟨i, cap⟩ ⟨hi, hcap, hv, hr⟩
    simp only at hi hcap hr
    have hn := hv.n
    show rHA1 _ _ l.length cap at' ((l.length - 1 : Nat) : Int) i (vp l) 0 0 _ _ _
    rw [rHA1_text]
    refine bc_dec (fun h => ?_) (fun h => ?_)
    · have hi1 : i + 1 < l.length := by omega
      have w2 : IntKind.wrap .i64 ((i : Int) + 2) = ((i + 2 : Nat) : Int) := by rw [w64 (by omega) (by omega)]; rfl
      have w1 : IntKind.wrap .i64 ((i : Int) + 1) = ((i + 1 : Nat) : Int) := by rw [w64 (by omega) (by omega)]; rfl
      rw [hgL_at hi1] at hr
      simp only [w2, w1, bc_t (show (0 : Int) ≤ ((i + 2 : Nat) : Int) by omega), bc_t (show ((i + 2 : Nat) : Int) ≤ (cap : Int) by omega), bc_t (show (0 : Int) ≤ (i : Int) by omega), Int.toNat_natCast, bc_t (show (i : Int) ≤ ((i + 2 : Nat) : Int) by omega), bc_t (show 2 ≤ i + 2 - i by omega), at4 (at_p4 hi1)]
      refine bc_beq (fun hh => absurd hh (by omega)) (fun _ => ?_)
      have hp := conPh (pt l i) (pt l (i + 1)) at'
      by_cases hq : (pt l i).1 ≤ at' ∧ at' ≤ (pt l (i + 1)).1
      · rw [decide_eq_true hq] at hp
        rw [if_pos hq] at hr
        refine .inl ⟨⟨hp⟩, _, _, ⟨conPt (hb_of hv hi1 hq)⟩, ?_⟩
        show _ = _
        rw [haP, if_pos (ccE_ok.2 hv), hr]; rfl
      · rw [decide_eq_false hq] at hp
        rw [if_neg hq] at hr
        exact .inr ⟨⟨hp⟩, (i + 1, cap), ⟨hi1, hcap, hv, hr⟩, by show l.length - (i + 1) < l.length - i; omega, rfl⟩
    · show (if 0 = 0 then _ else _)
      rw [if_pos rfl]
      show nHA2 _ _ 0 0 _
      rw [nHA2_text]
      rw [hgL_end (by omega)] at hr
      show _ = _
      rw [haP, if_pos (ccE_ok.2 hv), hr]; rfl
theorem conRHt {l : List (Int × Int)} (hv : CcV l) (at' : Int) : C5 54 [.sl l.length 2 (vp l), dI at'] (hgP (hgL at' l)) := by
  have hn := hv.n
  let inv : Nat × Nat → Prop := fun x => x.1 + 1 ≤ l.length ∧ hgL at' l = hgL at' (l.drop x.1)
  let st : Nat × Nat → Slots × Blocks := fun x => zRHt1 l.length x.2 at' ((x.1 + 1 : Nat) : Int) (vp l) 0 0
  refine con_of (L := fun _ s b => ∃ x, inv x ∧ st x = (s, b)) hokU mixed Try.func54 rfl (by show 1 ≤ 400; omega) rfl (ids := [0]) (by kernel_rfl) rfl (fun caps => ?_) (fun id hid => ?_)
  · show gRHt _ _ l.length (caps 500) (vp l) at' _
    rw [gRHt_text]
    exact ⟨(0, caps 500), ⟨by omega, rfl⟩, rfl⟩
  · obtain rfl := List.mem_singleton.1 hid
    refine ⟨Nat × Nat, st, inv, fun x => l.length - x.1, ⟨fun s b h => h, by kernel_rfl, ?_⟩⟩
    rintro ⟨i, cap⟩ ⟨hi, hr⟩
    simp only at hi hr
    show rRHt1 _ _ l.length cap at' ((i + 1 : Nat) : Int) (vp l) 0 0 _ _ _
    rw [rRHt1_text]
    refine bc_dec (fun h => ?_) (fun h => ?_)
    · have hi1 : i + 1 < l.length := by omega
      have wm : IntKind.wrap .i64 (((i + 1 : Nat) : Int) - 1) = (i : Int) := by rw [w64 (by omega) (by omega)]; omega
      have w1 : IntKind.wrap .i64 (((i + 1 : Nat) : Int) + 1) = ((i + 1 + 1 : Nat) : Int) := by rw [w64 (by omega) (by omega)]; rfl
      rw [hgL_at hi1] at hr
      simp only [wm, w1, bc_t h, bc_t (show (0 : Int) ≤ (i : Int) by omega), bc_t (show (i : Int) < (l.length : Int) by omega), bc_t (show (0 : Int) ≤ ((i + 1 : Nat) : Int) by omega), Int.toNat_natCast, at2 (at_pt (show i < l.length by omega)), at2 (at_pt hi1), eq_self, true_and]
      by_cases hq : (pt l i).1 ≤ at' ∧ at' ≤ (pt l (i + 1)).1
      · rw [if_pos hq] at hr
        have hb := hb_of hv hi1 hq
        have ha := hb.a; have hb1 := hb.b; have hc := hb.c
        have hbd := hb_bd hb
        refine .inl ⟨sayWt hq, ?_⟩
        try simp only [eq_self, true_and]
        rw [w64 (z := (pt l (i + 1)).1 - at') (by omega) (by omega), w64 (z := at' - (pt l i).1) (by omega) (by omega), w64 (z := (pt l (i + 1)).1 - (pt l i).1) (by omega) (by omega), w64 (z := (pt l i).2 * ((pt l (i + 1)).1 - at')) (by omega) (by omega), w64 (z := (pt l (i + 1)).2 * (at' - (pt l i).1)) (by omega) (by omega), w64 (by omega) (by omega)]
        refine ⟨_, _, ⟨conLo _ _ (by omega) (by omega) (by omega)⟩, ?_⟩
        rw [hr] <;> trivial
      · rw [if_neg hq] at hr
        refine .inr ⟨sayWf hq, ?_⟩
        exact ⟨(i + 1, cap), ⟨hi1, hr⟩, by show l.length - (i + 1) < l.length - i; omega, rfl⟩
    · show (if 0 = 0 then _ else _)
      rw [if_pos rfl]
      show nRHt2 _ _ 0 0 _
      rw [nRHt2_text]
      rw [hgL_end (by omega)] at hr
      show _ = _
      rw [hr]; rfl
end Go.Proofs.G5f

/- Chapter 7: strips and worn contours, in data. -/
namespace Go.Proofs.G5f
open Go Go.Abs Go.Proofs Go.Proofs.G7
set_option maxRecDepth 100000
abbrev Tr := Int × Int × Int
def vt : List Tr → List Value
  | [] => []
  | s :: r => .int .i64 s.1 :: .int .i64 s.2.1 :: .int .i64 s.2.2 :: vt r
@[simp] theorem vt_length : ∀ l : List Tr, (vt l).length = l.length * 3
  | [] => rfl
  | p :: r => by simp only [vt, List.length_cons, vt_length r]; omega
theorem vt_drop : ∀ (l : List Tr) (i : Nat), (vt l).drop (i * 3) = vt (l.drop i)
  | l, 0 => by simp
  | [], i + 1 => by simp [vt]
  | p :: r, i + 1 => by
    rw [Nat.add_mul]
    simp only [vt, Nat.one_mul, List.drop_succ_cons]
    exact vt_drop r i
abbrev sp (l : List Tr) (i : Nat) : Tr := l.getD i (0, 0, 0)
theorem sp_at {l : List Tr} {i : Nat} (h : i < l.length) : l[i] = sp l i := by rw [sp, List.getD_eq_getElem?_getD, List.getElem?_eq_getElem h]; rfl
theorem at_sp {l : List Tr} {i : Nat} (h : i < l.length) : At (vt l) (0 + i * 3) 3 [vI (sp l i).1, vI (sp l i).2.1, vI (sp l i).2.2] := by
  refine ⟨by rw [vt_length]; omega, ?_⟩
  rw [Nat.zero_add, vt_drop, List.drop_eq_getElem_cons h, ← sp_at h]
  rfl
theorem vt_whole (l : List Tr) : List.take (l.length * 3) (List.drop 0 (vt l)) = vt l := by simp [List.take_of_length_le]
theorem v3le (l : List Tr) : 0 + l.length * 3 ≤ (vt l).length := by simp
theorem at3 {l : List Value} {k : Nat} {a b c : Int} (h : At l k 3 [.int .i64 a, .int .i64 b, .int .i64 c]) {Q : Int → Int → Int → Prop} : (∃ n m o : Int, At l k 3 [.int .i64 n, .int .i64 m, .int .i64 o] ∧ Q n m o) = Q a b c := by
  apply propext
  constructor
  · rintro ⟨n, m, o, hn, hq⟩
    have e := hn.eq.symm.trans h.eq
    simp only [List.cons.injEq, Value.int.injEq, true_and, and_true] at e
    obtain ⟨rfl, rfl, rfl⟩ := e; exact hq
  · intro hq; exact ⟨a, b, c, h, hq⟩
/-! ### copies and comparisons -/
theorem conCoC (l : List (Int × Int)) (hl : l.length ≤ 1000000) : C5 49 [.sl l.length 2 (vp l)] [.sl l.length 2 (vp l)] := by
  refine con_flat hokE mixed Try.func49 rfl (by show 1 ≤ 400; omega) rfl (by kernel_rfl) (fun caps => ?_)
  show gCoC _ _ l.length (caps 500) (vp l) _
  rw [gCoC_text]
  refine bc_yes (by simp) (bc_beq (fun h0 => ⟨⟨rfl, rfl⟩, ?_⟩) (fun h0 => bc_yes (by omega) (bc_yes (by omega) (bc_yes (by omega) ⟨⟨rfl, by simp⟩, ?_⟩))))
  · obtain rfl : l = [] := List.length_eq_zero_iff.1 h0
    rfl
  · rw [vp_whole, Nat.zero_add, List.nil_append]
theorem conCoCn : C5 49 [.nil] [.sl 0 2 []] := by
  refine con_flat hokE mixed Try.func49 rfl (by show 0 ≤ 400; omega) rfl (by kernel_rfl) (fun caps => ?_)
  show gCoCn _ _ _
  rw [gCoCn_text]
  exact ⟨⟨rfl, rfl⟩, rfl⟩
theorem conCoS (l : List Tr) (hl : l.length ≤ 1000000) : C5 52 [.sl l.length 3 (vt l)] [.sl l.length 3 (vt l)] := by
  refine con_flat hokE mixed Try.func52 rfl (by show 1 ≤ 400; omega) rfl (by kernel_rfl) (fun caps => ?_)
  show gCoS _ _ l.length (caps 500) (vt l) _
  rw [gCoS_text]
  refine bc_yes (by simp) (bc_beq (fun h0 => ⟨⟨rfl, rfl⟩, ?_⟩) (fun h0 => bc_yes (by omega) (bc_yes (by omega) (bc_yes (by omega) ⟨⟨rfl, by simp⟩, ?_⟩))))
  · obtain rfl : l = [] := List.length_eq_zero_iff.1 h0
    rfl
  · rw [vt_whole, Nat.zero_add, List.nil_append]
theorem conCoSn : C5 52 [.nil] [.sl 0 3 []] := by
  refine con_flat hokE mixed Try.func52 rfl (by show 0 ≤ 400; omega) rfl (by kernel_rfl) (fun caps => ?_)
  show gCoSn _ _ _
  rw [gCoSn_text]
  exact ⟨⟨rfl, rfl⟩, rfl⟩
theorem conCoP (l : List (Int × Int)) (hl : l.length ≤ 1000000) : C5 103 [.sl l.length 2 (vp l)] [.sl l.length 2 (vp l)] := by
  refine con_flat hokE mixed Try.func103 rfl (by show 1 ≤ 400; omega) rfl (by kernel_rfl) (fun caps => ?_)
  show gCoP _ _ l.length (caps 500) (vp l) _
  rw [gCoP_text]
  refine bc_yes (by simp) (bc_beq (fun h0 => ⟨⟨rfl, rfl⟩, ?_⟩) (fun h0 => bc_yes (by omega) (bc_yes (by omega) (bc_yes (by omega) ⟨⟨rfl, by simp⟩, ?_⟩))))
  · obtain rfl : l = [] := List.length_eq_zero_iff.1 h0
    rfl
  · rw [vp_whole, Nat.zero_add, List.nil_append]
theorem conSC (l m : List (Int × Int)) (hl : l.length < 1000000000) : C5 56 [.sl l.length 2 (vp l), .sl m.length 2 (vp m)] [.val (.bool (decide (l = m)))] := by
  let inv : Nat × Nat × Nat → Prop := fun x => x.1 ≤ l.length ∧ l.length = m.length ∧ (l = m ↔ l.drop x.1 = m.drop x.1)
  let st : Nat × Nat × Nat → Slots × Blocks := fun x => zSC1 l.length x.2.1 m.length x.2.2 x.1 (vp l) (vp m)
  refine con_of (L := fun _ s b => ∃ x, inv x ∧ st x = (s, b)) hokU mixed Try.func56 rfl (by show 2 ≤ 400; omega) rfl (ids := [0]) (by kernel_rfl) rfl (fun caps => ?_) (fun id hid => ?_)
  · show gSC _ _ l.length (caps 500) (vp l) m.length (caps 501) (vp m) _
    rw [gSC_text]
    refine bc_bne (fun h => ?_) (fun h => ?_)
    · show _ = _
      rw [decide_eq_false (fun e => h (by rw [e]))]
    · exact ⟨(0, caps 500, caps 501), ⟨Nat.zero_le _, by show l.length = m.length; omega, Iff.rfl⟩, rfl⟩
  · obtain rfl := List.mem_singleton.1 hid
    refine ⟨Nat × Nat × Nat, st, inv, fun x => l.length - x.1, ⟨fun s b h => h, by kernel_rfl, ?_⟩⟩
    rintro ⟨i, c1, c2⟩ ⟨hi, hlm, hr⟩
    simp only at hi hr
    show rSC1 _ _ l.length c1 m.length c2 (i : Int) (vp l) (vp m) _ _ _
    rw [rSC1_text]
    refine bc_dec (fun h => ?_) (fun h => ?_)
    · have h1 : i < l.length := by omega
      have h2 : i < m.length := by omega
      rw [List.drop_eq_getElem_cons h1, List.drop_eq_getElem_cons h2] at hr
      simp only [bc_t h, bc_t (show (i : Int) < (m.length : Int) by omega), bc_t (show (0 : Int) ≤ (i : Int) by omega), Int.toNat_natCast, at2 (vp_two l i h1), at2 (vp_two m i h2), if_true, eq_self, true_and, and_true]
      by_cases hc : l[i].1 = m[i].1 ∧ l[i].2 = m[i].2
      · rw [bp_eq hc, bp_eq hc]
        refine ⟨trivial, ⟨i + 1, c1, c2⟩, ⟨by show i + 1 ≤ l.length; omega, hlm, ?_⟩, by show l.length - (i + 1) < l.length - i; omega, ?_⟩
        · show l = m ↔ l.drop (i + 1) = m.drop (i + 1)
          refine hr.trans ?_
          have : l[i] = m[i] := Prod.ext hc.1 hc.2
          rw [this]
          exact ⟨fun e => (List.cons.inj e).2, fun e => by rw [e]⟩
        · rw [w64 (by omega) (by omega)]; rfl
      · rw [bp_ne hc, bp_ne hc]
        refine ⟨trivial, ?_⟩
        show _ = _
        rw [decide_eq_false (fun e => hc (by have := (List.cons.inj (hr.1 e)).1; rw [this]; exact ⟨rfl, rfl⟩))]
    · show (if 0 = 0 then _ else _)
      rw [if_pos rfl]
      show nSC2 _ _ _
      rw [nSC2_text]
      show _ = _
      have e1 : l.drop i = [] := List.drop_eq_nil_of_le (by omega)
      have e2 : m.drop i = [] := List.drop_eq_nil_of_le (by omega)
      rw [decide_eq_true (hr.2 (by rw [e1, e2]))]
theorem conSCn : C5 56 [.nil, .nil] [.val (.bool true)] := by
  refine con_of (L := fun _ s b => zSCn1 0 = (s, b)) hokU mixed Try.func56 rfl (by show 0 ≤ 400; omega) rfl (ids := [0]) (by kernel_rfl) rfl (fun caps => ?_) (fun id hid => ?_)
  · show gSCn _ _ _
    rw [gSCn_text]
  · obtain rfl := List.mem_singleton.1 hid
    refine ⟨Unit, fun _ => zSCn1 0, fun _ => True, fun _ => 0, ⟨fun s b h => ⟨(), trivial, h⟩, by kernel_rfl, ?_⟩⟩
    intro _ _
    show rSCn1 _ _ 0 _ _ _
    rw [rSCn1_text]
    refine bc_no (by omega) ?_
    show (if 0 = 0 then _ else _)
    rw [if_pos rfl]
    show nSCn2 _ _ _
    rw [nSCn2_text]
/-! ### strips -/
def stE (s : Tr) : Int := fst0 [if (0 ≤ s.1 ∧ s.1 ≤ 10000) ∧ (0 ≤ s.2.1 ∧ s.2.1 ≤ 10000) then 0 else 2, if s.1 > s.2.1 then 9 else 0, rngE 0 1000 2 s.2.2]
theorem conKS (s : Tr) : C5 102 [.agg [dI s.1, dI s.2.1, dI s.2.2]] [dI (stE s)] := by
  refine con_flat hokU mixed Try.func102 rfl (by show 0 ≤ 400; omega) rfl (by kernel_rfl) (fun caps => ?_)
  show gKS _ _ s.1 s.2.1 s.2.2 _
  rw [gKS_text]
  try simp only [eq_self, true_and]
  refine ⟨_, wit2_say, bc_dec (fun h => ⟨_, wit_rng, _, ⟨conFE [_, 9, rngE 0 1000 2 s.2.2] (by simp)⟩, ?_⟩) (fun h => ⟨_, wit_rng, _, ⟨conFE [_, 0, rngE 0 1000 2 s.2.2] (by simp)⟩, ?_⟩)⟩
  · rw [stE, if_pos h] <;> trivial
  · rw [stE, if_neg h] <;> trivial
def fsG : Int → List Tr → Int × Int
  | _, [] => (0, 0)
  | i, s :: r => if stE s = 0 then fsG (i + 1) r else (i, stE s)
theorem fsG_zero : ∀ {l : List Tr} {i : Int}, (fsG i l).2 = 0 ↔ ∀ s ∈ l, stE s = 0
  | [], i => by simp [fsG]
  | f :: r, i => by
    rw [fsG, List.forall_mem_cons (p := fun s : Tr => stE s = 0)]
    split
    · rename_i h; rw [fsG_zero]; exact ⟨fun x => ⟨h, x⟩, fun x => x.2⟩
    · rename_i h; exact ⟨fun x => absurd x h, fun x => absurd x.1 h⟩
theorem fsG_at {l : List Tr} {i : Nat} (h : i < l.length) (k : Int) : fsG k (l.drop i) = if stE (sp l i) = 0 then fsG (k + 1) (l.drop (i + 1)) else (k, stE (sp l i)) := by
  rw [List.drop_eq_getElem_cons h, ← sp_at h]; rfl
theorem conFs (l : List Tr) (hl : l.length < 1000000000) : C5 101 [.sl l.length 3 (vt l), .val (.func (.func 102) #[] #[])] [dI (fsG 0 l).1, dI (fsG 0 l).2] := by
  let inv : Nat × Nat → Prop := fun x => x.1 ≤ l.length ∧ fsG 0 l = fsG x.1 (l.drop x.1)
  let st : Nat × Nat → Slots × Blocks := fun x => zFs1 l.length x.2 l.length x.1 (vt l)
  refine con_of (L := fun _ s b => ∃ x, inv x ∧ st x = (s, b)) hokU mixed Try.func101 rfl (by show 1 ≤ 400; omega) rfl (ids := [0]) (by kernel_rfl) rfl (fun caps => ?_) (fun id hid => ?_)
  · show gFs _ _ l.length (caps 500) (vt l) _
    rw [gFs_text]
    exact ⟨(0, caps 500), ⟨Nat.zero_le _, rfl⟩, rfl⟩
  · obtain rfl := List.mem_singleton.1 hid
    refine ⟨Nat × Nat, st, inv, fun x => l.length - x.1, ⟨fun s b h => h, by kernel_rfl, ?_⟩⟩
    rintro ⟨i, cap⟩ ⟨hi, hr⟩
    simp only at hi hr
    show rFs1 _ _ l.length cap l.length i (vt l) _ _ _
    rw [rFs1_text]
    refine bc_dec (fun h => ?_) (fun h => ?_)
    · have hi1 : i < l.length := by omega
      rw [fsG_at hi1] at hr
      simp only [bc_t h, bc_t (show (0 : Int) ≤ (i : Int) by omega), Int.toNat_natCast, at3 (at_sp hi1)]
      refine ⟨_, ⟨conKS _⟩, bc_bne (fun h1 => ?_) (fun h1 => ?_)⟩
      · rw [if_neg h1] at hr
        show [_, _] = [_, _]
        rw [hr]
      · rw [if_pos h1] at hr
        refine ⟨(i + 1, cap), ⟨hi1, by rw [hr]; rfl⟩, by show l.length - (i + 1) < l.length - i; omega, ?_⟩
        rw [w64 (by omega) (by omega)]; rfl
    · show (if 0 = 0 then _ else _)
      rw [if_pos rfl]
      show nFs2 _ _ _
      rw [nFs2_text]
      rw [List.drop_eq_nil_of_le (by omega)] at hr
      show [_, _] = [_, _]
      rw [hr]; rfl
/-! ### worn contours -/
abbrev wr1 (s : Tr) (c : List (Int × Int)) : List (Int × Int) := c.map (wrP s.1 s.2.1 s.2.2)
def wrnL : List Tr → List (Int × Int) → List (Int × Int)
  | [], c => c
  | s :: r, c => wrnL r (wr1 s c)
@[simp] theorem wrnL_length : ∀ {l : List Tr} {c : List (Int × Int)}, (wrnL l c).length = c.length
  | [], _ => rfl
  | s :: r, c => by rw [wrnL, wrnL_length, List.length_map]
theorem wrnL_app : ∀ (a b : List Tr) (c : List (Int × Int)), wrnL (a ++ b) c = wrnL b (wrnL a c)
  | [], _, _ => rfl
  | s :: r, b, c => by rw [List.cons_append, wrnL, wrnL, wrnL_app]
theorem wrnL_take {l : List Tr} {i : Nat} (h : i < l.length) (c : List (Int × Int)) : wrnL (l.take (i + 1)) c = wr1 (sp l i) (wrnL (l.take i) c) := by
  rw [List.take_succ_eq_append_getElem h, wrnL_app, ← sp_at h]; rfl
def woE (c : List (Int × Int)) (l : List Tr) : Int := fst0 [ccE c, cntE l.length 0 20, (fsG 0 l).2]
def woP (c : List (Int × Int)) (l : List Tr) : List D := if woE c l = 0 then [.sl c.length 2 (vp (wrnL l c)), dI 0] else [.nil, dI (woE c l)]
structure WV (c : List (Int × Int)) (l : List Tr) : Prop where
  c : CcV c
  n : l.length ≤ 20
  s : ∀ s ∈ l, stE s = 0
theorem woE_ok {c : List (Int × Int)} {l : List Tr} : woE c l = 0 ↔ WV c l := by
  unfold woE
  rw [fst0_zero]
  simp only [List.forall_mem_cons, List.not_mem_nil, false_imp_iff, implies_true, and_true]
  rw [ccE_ok, cntE_ok, fsG_zero]
  constructor
  · rintro ⟨h1, h2, h3⟩; exact ⟨h1, by omega, h3⟩
  · intro h; exact ⟨h.c, by have := h.n; omega, h.s⟩
theorem conWo (c : List (Int × Int)) (l : List Tr) (hc : c.length ≤ 1000000) (hl : l.length ≤ 1000000) : C5 51 [.sl c.length 2 (vp c), .sl l.length 3 (vt l)] (woP c l) := by
  let inv : Nat × Nat → Prop := fun x => x.1 ≤ l.length ∧ WV c l
  let st : Nat × Nat → Slots × Blocks := fun x => zWo1 c.length l.length x.2 l.length x.1 (vp (wrnL (l.take x.1) c)) (vt l)
  refine con_of (L := fun _ s b => ∃ x, inv x ∧ st x = (s, b)) hokU mixed Try.func51 rfl (by show 2 ≤ 400; omega) rfl (ids := [0]) (by kernel_rfl) rfl (fun caps => ?_) (fun id hid => ?_)
  · show gWo _ _ c.length (caps 500) (vp c) l.length (caps 501) (vt l) _
    rw [gWo_text]
    simp only [bc_t (v2le c), bc_t (v3le l), vp_whole, vt_whole, eq_self, true_and]
    refine ⟨_, _, ⟨conKC c hc⟩, _, _, ⟨conFs l (by omega)⟩, _, ⟨conCC _ _ _⟩, _, ⟨conFE [ccE c, cntE l.length 0 20, (fsG 0 l).2] (by simp)⟩, ?_⟩
    show bcase (woE c l != 0) _ _
    refine bc_bne (fun h => ?_) (fun h => ?_)
    · rw [woP, if_neg h]; first | rfl | trivial
    · exact ⟨⟨conCoP c hc⟩, (0, caps 501), ⟨Nat.zero_le _, woE_ok.1 h⟩, rfl⟩
  · obtain rfl := List.mem_singleton.1 hid
    refine ⟨Nat × Nat, st, inv, fun x => l.length - x.1, ⟨fun s b h => h, by kernel_rfl, ?_⟩⟩
    rintro ⟨i, cap⟩ ⟨hi, hv⟩
    simp only at hi
    have hn := hv.c.n
    show rWo1 _ _ c.length l.length cap l.length i (vp (wrnL (l.take i) c)) (vt l) _ _ _
    rw [rWo1_text]
    refine bc_dec (fun h => ?_) (fun h => ?_)
    · have hi1 : i < l.length := by omega
      simp only [bc_t h, bc_t (show (0 : Int) ≤ (i : Int) by omega), Int.toNat_natCast, at3 (at_sp hi1), eq_self, true_and]
      refine ⟨by omega, ⟨wrnL (l.take i) c, (prs_vp _).symm, by simp, by simp; omega⟩, vp (wr1 (sp l i) (wrnL (l.take i) c)), ⟨?_⟩, (i + 1, cap), ⟨hi1, hv⟩, by show l.length - (i + 1) < l.length - i; omega, ?_⟩
      · show vp (wr1 (sp l i) (wrnL (l.take i) c)) = wrL _ _ _ (vp (wrnL (l.take i) c))
        rw [wrL_vp]
      · rw [w64 (by omega) (by omega), ← wrnL_take hi1]; rfl
    · show (if 0 = 0 then _ else _)
      rw [if_pos rfl]
      show nWo2 _ _ c.length (vp (wrnL (l.take i) c)) _
      rw [nWo2_text, List.take_of_length_le (by omega)]
      refine ⟨⟨rfl, by simp⟩, ?_⟩
      show _ = _
      rw [woP, if_pos (woE_ok.2 hv)]
end Go.Proofs.G5f

/- Chapter 7: lists of strips as arguments. -/
namespace Go.Proofs.Ytpjfmeijfkbfaaa.K
open Go Go.Abs Go.RowKit Go.ChangeShapes Go.WideShapes Go.ChangeAt Go.Proofs Go.Flat Go.Proofs.G5f
set_option maxRecDepth 100000
theorem flat_vt : ∀ l : List Tr, (l.flatMap fun p => [Value.int .i64 p.1, Value.int .i64 p.2.1, Value.int .i64 p.2.2]) = vt l
  | [] => rfl
  | a :: r => by rw [List.flatMap_cons, flat_vt r]; rfl
theorem leaf_trs {t e : TypeId} {d : D} (ht : Try.prog.underlying t = some (.slice e)) (he : leaves Try.prog 10 e = some [.int .i64, .int .i64, .int .i64]) (h : LeafD Try.prog t d) : d = .nil ∨ ∃ l : List Tr, d = .sl l.length 3 (vt l) := by
  unfold LeafD at h
  rw [ht] at h
  simp only at h
  rcases h with h | ⟨n, cs, L, rfl, hL, hn, hl, hc⟩
  · exact .inl h
  · rw [he] at hL
    obtain rfl := Option.some.inj hL
    simp only [List.length_cons, List.length_nil, Nat.zero_add] at hl hc ⊢
    obtain ⟨ps, hp, rfl⟩ := chunks_of (f := fun p : Tr => [Value.int .i64 p.1, Value.int .i64 p.2.1, Value.int .i64 p.2.2]) (k := 3) (fun _ => rfl) n cs hl (fun i hi => by
      have := hc i hi
      generalize (cs.drop (i * 3)).take 3 = x at this ⊢
      cases this with | cons h1 t => cases t with | cons h2 t => cases t with | cons h3 t =>
      cases t
      obtain ⟨a, rfl, _⟩ := h1
      obtain ⟨b, rfl, _⟩ := h2
      obtain ⟨c, rfl, _⟩ := h3
      exact ⟨(a, b, c), rfl⟩)
    exact .inr ⟨ps, by rw [hp, flat_vt]⟩
end Go.Proofs.Ytpjfmeijfkbfaaa.K

/- What is left to show of each function, written out; the kernel reckons it. -/
namespace Go.Proofs.G5f
open Go Go.Abs Go.Proofs
set_option maxRecDepth 100000
set_option linter.unusedVariables false
def gLt (C : Ct) (L : AtLoop) (n0 : Nat) (c0 : Nat) (l0 : List Value) (x1 : Int) (n2 : Nat) (c2 : Nat) (l2 : List Value) (k : List D → Prop) : Prop := wpFn Try.prog (hU C) L 0 8 #[.slice (some ⟨500, 0, none⟩) n0 c0, .int .i64 x1, .slice (some ⟨501, 0, none⟩) n2 c2] (heapOf [(500, .sym l0 false 2), (501, .sym l2 false 3)]) (dataK k)
theorem gLt_text (C : Ct) (L : AtLoop) (n0 : Nat) (c0 : Nat) (l0 : List Go.Value) (x1 : Int) (n2 : Nat) (c2 : Nat) (l2 : List Go.Value) (k : List D → Prop) : gLt C L n0 c0 l0 x1 n2 c2 l2 k =
 (((Says C 12 [] [(D.val (Value.bool true))]) ∧
 (bcase (decide ((↑n0 : Int) ≤ 12))
 (bcase (decide ((↑n2 : Int) > 22))
 (k [(D.val (Value.bool true))])
 (bcase (decide (0 + n0 * 2 ≤ List.length l0))
 ((Says C 49 [(D.sl (n0) 2 (List.take (n0 * 2) (List.drop 0 l0)))] [(D.sl (n0) 2 (List.take (n0 * 2) (List.drop 0 l0)))]) ∧
 (bcase (decide (0 + n0 * 2 ≤ List.length (List.take (n0 * 2) (List.drop 0 l0))))
 (∃ n1 : Int,
 (∃ n3 : Int,
 ((Says C 48 [(D.sl (n0) 2 (List.take (n0 * 2) (List.drop 0 (List.take (n0 * 2) (List.drop 0 l0)))))] [(D.val (vI n1)), (D.val (vI n3))]) ∧
 (bcase (decide (0 + n0 * 2 ≤ List.length l0))
 ((Says C 49 [(D.sl (n0) 2 (List.take (n0 * 2) (List.drop 0 l0)))] [(D.sl (n0) 2 (List.take (n0 * 2) (List.drop 0 l0)))]) ∧
 (bcase (decide (0 + n0 * 2 ≤ List.length (List.take (n0 * 2) (List.drop 0 l0))))
 (∃ n4 : Int,
 (∃ n5 : Int,
 (∃ n6 : Int,
 ((Says C 50 [(D.sl (n0) 2 (List.take (n0 * 2) (List.drop 0 (List.take (n0 * 2) (List.drop 0 l0))))), (D.val (vI x1))] [(D.agg [(D.val (vI n4)), (D.val (vI n5))]), (D.val (vI n6))]) ∧
 (bcase (decide (0 + n0 * 2 ≤ List.length l0))
 ((Says C 49 [(D.sl (n0) 2 (List.take (n0 * 2) (List.drop 0 l0)))] [(D.sl (n0) 2 (List.take (n0 * 2) (List.drop 0 l0)))]) ∧
 (bcase (decide (0 + n2 * 3 ≤ List.length l2))
 ((Says C 52 [(D.sl (n2) 3 (List.take (n2 * 3) (List.drop 0 l2)))] [(D.sl (n2) 3 (List.take (n2 * 3) (List.drop 0 l2)))]) ∧
 (bcase (decide (0 + n0 * 2 ≤ List.length (List.take (n0 * 2) (List.drop 0 l0))))
 (bcase (decide (0 + n2 * 3 ≤ List.length (List.take (n2 * 3) (List.drop 0 l2))))
 ((∃ n7 : Int,
 ((Says C 51 [(D.sl (n0) 2 (List.take (n0 * 2) (List.drop 0 (List.take (n0 * 2) (List.drop 0 l0))))), (D.sl (n2) 3 (List.take (n2 * 3) (List.drop 0 (List.take (n2 * 3) (List.drop 0 l2)))))] [D.nil, (D.val (vI n7))]) ∧
 (bcase (decide (0 + n0 * 2 ≤ List.length l0))
 (∃ n8 : Int,
 (∃ n9 : Int,
 ((Says C 53 [(D.sl (n0) 2 (List.take (n0 * 2) (List.drop 0 l0)))] [(D.val (vI n8)), (D.val (vI n9))]) ∧
 (bcase (n3 != n9)
 (k [(D.val (Value.bool false))])
 (bcase (n1 != n8)
 (k [(D.val (Value.bool false))])
 (bcase (n9 != 0)
 (bcase (n6 == n9)
 (bcase (n7 == n9)
 (bcase (if Bool.false = Bool.true then !(n4 == 0 && (n5 == 0 && Bool.true)) else n4 == 0 && (n5 == 0 && Bool.true))
 (k [(D.val (Value.bool true))])
 (k [(D.val (Value.bool false))]))
 (k [(D.val (Value.bool false))]))
 (k [(D.val (Value.bool false))]))
 (bcase (decide (0 + n0 * 2 ≤ List.length l0))
 (∃ n10 : Int,
 (∃ n11 : Int,
 (∃ n12 : Int,
 ((Says C 54 [(D.sl (n0) 2 (List.take (n0 * 2) (List.drop 0 l0))), (D.val (vI x1))] [(D.agg [(D.val (vI n10)), (D.val (vI n11))]), (D.val (vI n12))]) ∧
 (bcase (decide (0 + n0 * 2 ≤ List.length l0))
 (bcase (decide (0 + n2 * 3 ≤ List.length l2))
 ((∃ n13 : Int,
 ((Says C 55 [(D.sl (n0) 2 (List.take (n0 * 2) (List.drop 0 l0))), (D.sl (n2) 3 (List.take (n2 * 3) (List.drop 0 l2)))] [D.nil, (D.val (vI n13))]) ∧
 (bcase (n6 == n12)
 (bcase (if Bool.false = Bool.true then !(n4 == n10 && (n5 == n11 && Bool.true)) else n4 == n10 && (n5 == n11 && Bool.true))
 (bcase (n7 == n13)
 (((Says C 56 [D.nil, D.nil] [(D.val (Value.bool true))]) ∧
 (k [(D.val (Value.bool true))])) ∨
 ((Says C 56 [D.nil, D.nil] [(D.val (Value.bool false))]) ∧
 (k [(D.val (Value.bool false))])))
 (k [(D.val (Value.bool false))]))
 (k [(D.val (Value.bool false))]))
 (k [(D.val (Value.bool false))])))) ∨
 (∃ n13 : Nat,
 (∃ cs1 : List Go.Value,
 (∃ n14 : Int,
 ((Says C 55 [(D.sl (n0) 2 (List.take (n0 * 2) (List.drop 0 l0))), (D.sl (n2) 3 (List.take (n2 * 3) (List.drop 0 l2)))] [(D.sl (n13) 2 (cs1)), (D.val (vI n14))]) ∧
 (bcase (n6 == n12)
 (bcase (if Bool.false = Bool.true then !(n4 == n10 && (n5 == n11 && Bool.true)) else n4 == n10 && (n5 == n11 && Bool.true))
 (bcase (n7 == n14)
 (bcase (decide (0 + n13 * 2 ≤ List.length cs1))
 (((Says C 56 [D.nil, (D.sl (n13) 2 (List.take (n13 * 2) (List.drop 0 cs1)))] [(D.val (Value.bool true))]) ∧
 (k [(D.val (Value.bool true))])) ∨
 ((Says C 56 [D.nil, (D.sl (n13) 2 (List.take (n13 * 2) (List.drop 0 cs1)))] [(D.val (Value.bool false))]) ∧
 (k [(D.val (Value.bool false))])))
 False)
 (k [(D.val (Value.bool false))]))
 (k [(D.val (Value.bool false))]))
 (k [(D.val (Value.bool false))])))))))
 False)
 False)))))
 False)))))))
 False))) ∨
 (∃ n7 : Nat,
 (∃ cs1 : List Go.Value,
 (∃ n8 : Int,
 ((Says C 51 [(D.sl (n0) 2 (List.take (n0 * 2) (List.drop 0 (List.take (n0 * 2) (List.drop 0 l0))))), (D.sl (n2) 3 (List.take (n2 * 3) (List.drop 0 (List.take (n2 * 3) (List.drop 0 l2)))))] [(D.sl (n7) 2 (cs1)), (D.val (vI n8))]) ∧
 (bcase (decide (0 + n0 * 2 ≤ List.length l0))
 (∃ n9 : Int,
 (∃ n10 : Int,
 ((Says C 53 [(D.sl (n0) 2 (List.take (n0 * 2) (List.drop 0 l0)))] [(D.val (vI n9)), (D.val (vI n10))]) ∧
 (bcase (n3 != n10)
 (k [(D.val (Value.bool false))])
 (bcase (n1 != n9)
 (k [(D.val (Value.bool false))])
 (bcase (n10 != 0)
 (bcase (n6 == n10)
 (bcase (n8 == n10)
 (bcase (if Bool.false = Bool.true then !(n4 == 0 && (n5 == 0 && Bool.true)) else n4 == 0 && (n5 == 0 && Bool.true))
 (bcase ((↑n7 : Int) == 0)
 (k [(D.val (Value.bool true))])
 (k [(D.val (Value.bool false))]))
 (k [(D.val (Value.bool false))]))
 (k [(D.val (Value.bool false))]))
 (k [(D.val (Value.bool false))]))
 (bcase (decide (0 + n0 * 2 ≤ List.length l0))
 (∃ n11 : Int,
 (∃ n12 : Int,
 (∃ n13 : Int,
 ((Says C 54 [(D.sl (n0) 2 (List.take (n0 * 2) (List.drop 0 l0))), (D.val (vI x1))] [(D.agg [(D.val (vI n11)), (D.val (vI n12))]), (D.val (vI n13))]) ∧
 (bcase (decide (0 + n0 * 2 ≤ List.length l0))
 (bcase (decide (0 + n2 * 3 ≤ List.length l2))
 ((∃ n14 : Int,
 ((Says C 55 [(D.sl (n0) 2 (List.take (n0 * 2) (List.drop 0 l0))), (D.sl (n2) 3 (List.take (n2 * 3) (List.drop 0 l2)))] [D.nil, (D.val (vI n14))]) ∧
 (bcase (n6 == n13)
 (bcase (if Bool.false = Bool.true then !(n4 == n11 && (n5 == n12 && Bool.true)) else n4 == n11 && (n5 == n12 && Bool.true))
 (bcase (n8 == n14)
 (bcase (decide (0 + n7 * 2 ≤ List.length cs1))
 (((Says C 56 [(D.sl (n7) 2 (List.take (n7 * 2) (List.drop 0 cs1))), D.nil] [(D.val (Value.bool true))]) ∧
 (k [(D.val (Value.bool true))])) ∨
 ((Says C 56 [(D.sl (n7) 2 (List.take (n7 * 2) (List.drop 0 cs1))), D.nil] [(D.val (Value.bool false))]) ∧
 (k [(D.val (Value.bool false))])))
 False)
 (k [(D.val (Value.bool false))]))
 (k [(D.val (Value.bool false))]))
 (k [(D.val (Value.bool false))])))) ∨
 (∃ n14 : Nat,
 (∃ cs2 : List Go.Value,
 (∃ n15 : Int,
 ((Says C 55 [(D.sl (n0) 2 (List.take (n0 * 2) (List.drop 0 l0))), (D.sl (n2) 3 (List.take (n2 * 3) (List.drop 0 l2)))] [(D.sl (n14) 2 (cs2)), (D.val (vI n15))]) ∧
 (bcase (n6 == n13)
 (bcase (if Bool.false = Bool.true then !(n4 == n11 && (n5 == n12 && Bool.true)) else n4 == n11 && (n5 == n12 && Bool.true))
 (bcase (n8 == n15)
 (bcase (decide (0 + n7 * 2 ≤ List.length cs1))
 (bcase (decide (0 + n14 * 2 ≤ List.length cs2))
 (((Says C 56 [(D.sl (n7) 2 (List.take (n7 * 2) (List.drop 0 cs1))), (D.sl (n14) 2 (List.take (n14 * 2) (List.drop 0 cs2)))] [(D.val (Value.bool true))]) ∧
 (k [(D.val (Value.bool true))])) ∨
 ((Says C 56 [(D.sl (n7) 2 (List.take (n7 * 2) (List.drop 0 cs1))), (D.sl (n14) 2 (List.take (n14 * 2) (List.drop 0 cs2)))] [(D.val (Value.bool false))]) ∧
 (k [(D.val (Value.bool false))])))
 False)
 False)
 (k [(D.val (Value.bool false))]))
 (k [(D.val (Value.bool false))]))
 (k [(D.val (Value.bool false))])))))))
 False)
 False)))))
 False)))))))
 False))))))
 False)
 False))
 False))
 False)))))
 False))
 False))))
 False))
 False))
 (k [(D.val (Value.bool true))]))) ∨
 ((Says C 12 [] [(D.val (Value.bool false))]) ∧
 (k [(D.val (Value.bool false))]))) := by kernel_rfl
def gLtn (C : Ct) (L : AtLoop) (x1 : Int) (n2 : Nat) (c2 : Nat) (l2 : List Value) (k : List D → Prop) : Prop := wpFn Try.prog (hU C) L 0 8 #[.slice none 0 0, .int .i64 x1, .slice (some ⟨500, 0, none⟩) n2 c2] (heapOf [(500, .sym l2 false 3)]) (dataK k)
theorem gLtn_text (C : Ct) (L : AtLoop) (x1 : Int) (n2 : Nat) (c2 : Nat) (l2 : List Go.Value) (k : List D → Prop) : gLtn C L x1 n2 c2 l2 k =
 (((Says C 12 [] [(D.val (Value.bool true))]) ∧
 (bcase (decide ((↑n2 : Int) > 22))
 (k [(D.val (Value.bool true))])
 ((Says C 49 [D.nil] [(D.sl 0 2 [])]) ∧
 (∃ n1 : Int,
 (∃ n3 : Int,
 ((Says C 48 [(D.sl 0 2 [])] [(D.val (vI n1)), (D.val (vI n3))]) ∧
 ((Says C 49 [D.nil] [(D.sl 0 2 [])]) ∧
 (∃ n4 : Int,
 (∃ n5 : Int,
 (∃ n6 : Int,
 ((Says C 50 [(D.sl 0 2 []), (D.val (vI x1))] [(D.agg [(D.val (vI n4)), (D.val (vI n5))]), (D.val (vI n6))]) ∧
 ((Says C 49 [D.nil] [(D.sl 0 2 [])]) ∧
 (bcase (decide (0 + n2 * 3 ≤ List.length l2))
 ((Says C 52 [(D.sl (n2) 3 (List.take (n2 * 3) (List.drop 0 l2)))] [(D.sl (n2) 3 (List.take (n2 * 3) (List.drop 0 l2)))]) ∧
 (bcase (decide (0 + n2 * 3 ≤ List.length (List.take (n2 * 3) (List.drop 0 l2))))
 ((∃ n7 : Int,
 ((Says C 51 [(D.sl 0 2 []), (D.sl (n2) 3 (List.take (n2 * 3) (List.drop 0 (List.take (n2 * 3) (List.drop 0 l2)))))] [D.nil, (D.val (vI n7))]) ∧
 (∃ n8 : Int,
 (∃ n9 : Int,
 ((Says C 53 [D.nil] [(D.val (vI n8)), (D.val (vI n9))]) ∧
 (bcase (n3 != n9)
 (k [(D.val (Value.bool false))])
 (bcase (n1 != n8)
 (k [(D.val (Value.bool false))])
 (bcase (n9 != 0)
 (bcase (n6 == n9)
 (bcase (n7 == n9)
 (bcase (if Bool.false = Bool.true then !(n4 == 0 && (n5 == 0 && Bool.true)) else n4 == 0 && (n5 == 0 && Bool.true))
 (k [(D.val (Value.bool true))])
 (k [(D.val (Value.bool false))]))
 (k [(D.val (Value.bool false))]))
 (k [(D.val (Value.bool false))]))
 (∃ n10 : Int,
 (∃ n11 : Int,
 (∃ n12 : Int,
 ((Says C 54 [D.nil, (D.val (vI x1))] [(D.agg [(D.val (vI n10)), (D.val (vI n11))]), (D.val (vI n12))]) ∧
 (bcase (decide (0 + n2 * 3 ≤ List.length l2))
 ((∃ n13 : Int,
 ((Says C 55 [D.nil, (D.sl (n2) 3 (List.take (n2 * 3) (List.drop 0 l2)))] [D.nil, (D.val (vI n13))]) ∧
 (bcase (n6 == n12)
 (bcase (if Bool.false = Bool.true then !(n4 == n10 && (n5 == n11 && Bool.true)) else n4 == n10 && (n5 == n11 && Bool.true))
 (bcase (n7 == n13)
 (((Says C 56 [D.nil, D.nil] [(D.val (Value.bool true))]) ∧
 (k [(D.val (Value.bool true))])) ∨
 ((Says C 56 [D.nil, D.nil] [(D.val (Value.bool false))]) ∧
 (k [(D.val (Value.bool false))])))
 (k [(D.val (Value.bool false))]))
 (k [(D.val (Value.bool false))]))
 (k [(D.val (Value.bool false))])))) ∨
 (∃ n13 : Nat,
 (∃ cs1 : List Go.Value,
 (∃ n14 : Int,
 ((Says C 55 [D.nil, (D.sl (n2) 3 (List.take (n2 * 3) (List.drop 0 l2)))] [(D.sl (n13) 2 (cs1)), (D.val (vI n14))]) ∧
 (bcase (n6 == n12)
 (bcase (if Bool.false = Bool.true then !(n4 == n10 && (n5 == n11 && Bool.true)) else n4 == n10 && (n5 == n11 && Bool.true))
 (bcase (n7 == n14)
 (bcase (decide (0 + n13 * 2 ≤ List.length cs1))
 (((Says C 56 [D.nil, (D.sl (n13) 2 (List.take (n13 * 2) (List.drop 0 cs1)))] [(D.val (Value.bool true))]) ∧
 (k [(D.val (Value.bool true))])) ∨
 ((Says C 56 [D.nil, (D.sl (n13) 2 (List.take (n13 * 2) (List.drop 0 cs1)))] [(D.val (Value.bool false))]) ∧
 (k [(D.val (Value.bool false))])))
 False)
 (k [(D.val (Value.bool false))]))
 (k [(D.val (Value.bool false))]))
 (k [(D.val (Value.bool false))])))))))
 False))))))))))))) ∨
 (∃ n7 : Nat,
 (∃ cs1 : List Go.Value,
 (∃ n8 : Int,
 ((Says C 51 [(D.sl 0 2 []), (D.sl (n2) 3 (List.take (n2 * 3) (List.drop 0 (List.take (n2 * 3) (List.drop 0 l2)))))] [(D.sl (n7) 2 (cs1)), (D.val (vI n8))]) ∧
 (∃ n9 : Int,
 (∃ n10 : Int,
 ((Says C 53 [D.nil] [(D.val (vI n9)), (D.val (vI n10))]) ∧
 (bcase (n3 != n10)
 (k [(D.val (Value.bool false))])
 (bcase (n1 != n9)
 (k [(D.val (Value.bool false))])
 (bcase (n10 != 0)
 (bcase (n6 == n10)
 (bcase (n8 == n10)
 (bcase (if Bool.false = Bool.true then !(n4 == 0 && (n5 == 0 && Bool.true)) else n4 == 0 && (n5 == 0 && Bool.true))
 (bcase ((↑n7 : Int) == 0)
 (k [(D.val (Value.bool true))])
 (k [(D.val (Value.bool false))]))
 (k [(D.val (Value.bool false))]))
 (k [(D.val (Value.bool false))]))
 (k [(D.val (Value.bool false))]))
 (∃ n11 : Int,
 (∃ n12 : Int,
 (∃ n13 : Int,
 ((Says C 54 [D.nil, (D.val (vI x1))] [(D.agg [(D.val (vI n11)), (D.val (vI n12))]), (D.val (vI n13))]) ∧
 (bcase (decide (0 + n2 * 3 ≤ List.length l2))
 ((∃ n14 : Int,
 ((Says C 55 [D.nil, (D.sl (n2) 3 (List.take (n2 * 3) (List.drop 0 l2)))] [D.nil, (D.val (vI n14))]) ∧
 (bcase (n6 == n13)
 (bcase (if Bool.false = Bool.true then !(n4 == n11 && (n5 == n12 && Bool.true)) else n4 == n11 && (n5 == n12 && Bool.true))
 (bcase (n8 == n14)
 (bcase (decide (0 + n7 * 2 ≤ List.length cs1))
 (((Says C 56 [(D.sl (n7) 2 (List.take (n7 * 2) (List.drop 0 cs1))), D.nil] [(D.val (Value.bool true))]) ∧
 (k [(D.val (Value.bool true))])) ∨
 ((Says C 56 [(D.sl (n7) 2 (List.take (n7 * 2) (List.drop 0 cs1))), D.nil] [(D.val (Value.bool false))]) ∧
 (k [(D.val (Value.bool false))])))
 False)
 (k [(D.val (Value.bool false))]))
 (k [(D.val (Value.bool false))]))
 (k [(D.val (Value.bool false))])))) ∨
 (∃ n14 : Nat,
 (∃ cs2 : List Go.Value,
 (∃ n15 : Int,
 ((Says C 55 [D.nil, (D.sl (n2) 3 (List.take (n2 * 3) (List.drop 0 l2)))] [(D.sl (n14) 2 (cs2)), (D.val (vI n15))]) ∧
 (bcase (n6 == n13)
 (bcase (if Bool.false = Bool.true then !(n4 == n11 && (n5 == n12 && Bool.true)) else n4 == n11 && (n5 == n12 && Bool.true))
 (bcase (n8 == n15)
 (bcase (decide (0 + n7 * 2 ≤ List.length cs1))
 (bcase (decide (0 + n14 * 2 ≤ List.length cs2))
 (((Says C 56 [(D.sl (n7) 2 (List.take (n7 * 2) (List.drop 0 cs1))), (D.sl (n14) 2 (List.take (n14 * 2) (List.drop 0 cs2)))] [(D.val (Value.bool true))]) ∧
 (k [(D.val (Value.bool true))])) ∨
 ((Says C 56 [(D.sl (n7) 2 (List.take (n7 * 2) (List.drop 0 cs1))), (D.sl (n14) 2 (List.take (n14 * 2) (List.drop 0 cs2)))] [(D.val (Value.bool false))]) ∧
 (k [(D.val (Value.bool false))])))
 False)
 False)
 (k [(D.val (Value.bool false))]))
 (k [(D.val (Value.bool false))]))
 (k [(D.val (Value.bool false))])))))))
 False))))))))))))))))
 False))
 False))))))))))))) ∨
 ((Says C 12 [] [(D.val (Value.bool false))]) ∧
 (k [(D.val (Value.bool false))]))) := by kernel_rfl
def gLta (C : Ct) (L : AtLoop) (n0 : Nat) (c0 : Nat) (l0 : List Value) (x1 : Int) (k : List D → Prop) : Prop := wpFn Try.prog (hU C) L 0 8 #[.slice (some ⟨500, 0, none⟩) n0 c0, .int .i64 x1, .slice none 0 0] (heapOf [(500, .sym l0 false 2)]) (dataK k)
theorem gLta_text (C : Ct) (L : AtLoop) (n0 : Nat) (c0 : Nat) (l0 : List Go.Value) (x1 : Int) (k : List D → Prop) : gLta C L n0 c0 l0 x1 k =
 (((Says C 12 [] [(D.val (Value.bool true))]) ∧
 (bcase (decide ((↑n0 : Int) ≤ 12))
 (bcase (decide (0 + n0 * 2 ≤ List.length l0))
 ((Says C 49 [(D.sl (n0) 2 (List.take (n0 * 2) (List.drop 0 l0)))] [(D.sl (n0) 2 (List.take (n0 * 2) (List.drop 0 l0)))]) ∧
 (bcase (decide (0 + n0 * 2 ≤ List.length (List.take (n0 * 2) (List.drop 0 l0))))
 (∃ n1 : Int,
 (∃ n2 : Int,
 ((Says C 48 [(D.sl (n0) 2 (List.take (n0 * 2) (List.drop 0 (List.take (n0 * 2) (List.drop 0 l0)))))] [(D.val (vI n1)), (D.val (vI n2))]) ∧
 (bcase (decide (0 + n0 * 2 ≤ List.length l0))
 ((Says C 49 [(D.sl (n0) 2 (List.take (n0 * 2) (List.drop 0 l0)))] [(D.sl (n0) 2 (List.take (n0 * 2) (List.drop 0 l0)))]) ∧
 (bcase (decide (0 + n0 * 2 ≤ List.length (List.take (n0 * 2) (List.drop 0 l0))))
 (∃ n3 : Int,
 (∃ n4 : Int,
 (∃ n5 : Int,
 ((Says C 50 [(D.sl (n0) 2 (List.take (n0 * 2) (List.drop 0 (List.take (n0 * 2) (List.drop 0 l0))))), (D.val (vI x1))] [(D.agg [(D.val (vI n3)), (D.val (vI n4))]), (D.val (vI n5))]) ∧
 (bcase (decide (0 + n0 * 2 ≤ List.length l0))
 ((Says C 49 [(D.sl (n0) 2 (List.take (n0 * 2) (List.drop 0 l0)))] [(D.sl (n0) 2 (List.take (n0 * 2) (List.drop 0 l0)))]) ∧
 ((Says C 52 [D.nil] [(D.sl 0 3 [])]) ∧
 (bcase (decide (0 + n0 * 2 ≤ List.length (List.take (n0 * 2) (List.drop 0 l0))))
 ((∃ n6 : Int,
 ((Says C 51 [(D.sl (n0) 2 (List.take (n0 * 2) (List.drop 0 (List.take (n0 * 2) (List.drop 0 l0))))), (D.sl 0 3 [])] [D.nil, (D.val (vI n6))]) ∧
 (bcase (decide (0 + n0 * 2 ≤ List.length l0))
 (∃ n7 : Int,
 (∃ n8 : Int,
 ((Says C 53 [(D.sl (n0) 2 (List.take (n0 * 2) (List.drop 0 l0)))] [(D.val (vI n7)), (D.val (vI n8))]) ∧
 (bcase (n2 != n8)
 (k [(D.val (Value.bool false))])
 (bcase (n1 != n7)
 (k [(D.val (Value.bool false))])
 (bcase (n8 != 0)
 (bcase (n5 == n8)
 (bcase (n6 == n8)
 (bcase (if Bool.false = Bool.true then !(n3 == 0 && (n4 == 0 && Bool.true)) else n3 == 0 && (n4 == 0 && Bool.true))
 (k [(D.val (Value.bool true))])
 (k [(D.val (Value.bool false))]))
 (k [(D.val (Value.bool false))]))
 (k [(D.val (Value.bool false))]))
 (bcase (decide (0 + n0 * 2 ≤ List.length l0))
 (∃ n9 : Int,
 (∃ n10 : Int,
 (∃ n11 : Int,
 ((Says C 54 [(D.sl (n0) 2 (List.take (n0 * 2) (List.drop 0 l0))), (D.val (vI x1))] [(D.agg [(D.val (vI n9)), (D.val (vI n10))]), (D.val (vI n11))]) ∧
 (bcase (decide (0 + n0 * 2 ≤ List.length l0))
 ((∃ n12 : Int,
 ((Says C 55 [(D.sl (n0) 2 (List.take (n0 * 2) (List.drop 0 l0))), D.nil] [D.nil, (D.val (vI n12))]) ∧
 (bcase (n5 == n11)
 (bcase (if Bool.false = Bool.true then !(n3 == n9 && (n4 == n10 && Bool.true)) else n3 == n9 && (n4 == n10 && Bool.true))
 (bcase (n6 == n12)
 (((Says C 56 [D.nil, D.nil] [(D.val (Value.bool true))]) ∧
 (k [(D.val (Value.bool true))])) ∨
 ((Says C 56 [D.nil, D.nil] [(D.val (Value.bool false))]) ∧
 (k [(D.val (Value.bool false))])))
 (k [(D.val (Value.bool false))]))
 (k [(D.val (Value.bool false))]))
 (k [(D.val (Value.bool false))])))) ∨
 (∃ n12 : Nat,
 (∃ cs1 : List Go.Value,
 (∃ n13 : Int,
 ((Says C 55 [(D.sl (n0) 2 (List.take (n0 * 2) (List.drop 0 l0))), D.nil] [(D.sl (n12) 2 (cs1)), (D.val (vI n13))]) ∧
 (bcase (n5 == n11)
 (bcase (if Bool.false = Bool.true then !(n3 == n9 && (n4 == n10 && Bool.true)) else n3 == n9 && (n4 == n10 && Bool.true))
 (bcase (n6 == n13)
 (bcase (decide (0 + n12 * 2 ≤ List.length cs1))
 (((Says C 56 [D.nil, (D.sl (n12) 2 (List.take (n12 * 2) (List.drop 0 cs1)))] [(D.val (Value.bool true))]) ∧
 (k [(D.val (Value.bool true))])) ∨
 ((Says C 56 [D.nil, (D.sl (n12) 2 (List.take (n12 * 2) (List.drop 0 cs1)))] [(D.val (Value.bool false))]) ∧
 (k [(D.val (Value.bool false))])))
 False)
 (k [(D.val (Value.bool false))]))
 (k [(D.val (Value.bool false))]))
 (k [(D.val (Value.bool false))])))))))
 False)))))
 False)))))))
 False))) ∨
 (∃ n6 : Nat,
 (∃ cs1 : List Go.Value,
 (∃ n7 : Int,
 ((Says C 51 [(D.sl (n0) 2 (List.take (n0 * 2) (List.drop 0 (List.take (n0 * 2) (List.drop 0 l0))))), (D.sl 0 3 [])] [(D.sl (n6) 2 (cs1)), (D.val (vI n7))]) ∧
 (bcase (decide (0 + n0 * 2 ≤ List.length l0))
 (∃ n8 : Int,
 (∃ n9 : Int,
 ((Says C 53 [(D.sl (n0) 2 (List.take (n0 * 2) (List.drop 0 l0)))] [(D.val (vI n8)), (D.val (vI n9))]) ∧
 (bcase (n2 != n9)
 (k [(D.val (Value.bool false))])
 (bcase (n1 != n8)
 (k [(D.val (Value.bool false))])
 (bcase (n9 != 0)
 (bcase (n5 == n9)
 (bcase (n7 == n9)
 (bcase (if Bool.false = Bool.true then !(n3 == 0 && (n4 == 0 && Bool.true)) else n3 == 0 && (n4 == 0 && Bool.true))
 (bcase ((↑n6 : Int) == 0)
 (k [(D.val (Value.bool true))])
 (k [(D.val (Value.bool false))]))
 (k [(D.val (Value.bool false))]))
 (k [(D.val (Value.bool false))]))
 (k [(D.val (Value.bool false))]))
 (bcase (decide (0 + n0 * 2 ≤ List.length l0))
 (∃ n10 : Int,
 (∃ n11 : Int,
 (∃ n12 : Int,
 ((Says C 54 [(D.sl (n0) 2 (List.take (n0 * 2) (List.drop 0 l0))), (D.val (vI x1))] [(D.agg [(D.val (vI n10)), (D.val (vI n11))]), (D.val (vI n12))]) ∧
 (bcase (decide (0 + n0 * 2 ≤ List.length l0))
 ((∃ n13 : Int,
 ((Says C 55 [(D.sl (n0) 2 (List.take (n0 * 2) (List.drop 0 l0))), D.nil] [D.nil, (D.val (vI n13))]) ∧
 (bcase (n5 == n12)
 (bcase (if Bool.false = Bool.true then !(n3 == n10 && (n4 == n11 && Bool.true)) else n3 == n10 && (n4 == n11 && Bool.true))
 (bcase (n7 == n13)
 (bcase (decide (0 + n6 * 2 ≤ List.length cs1))
 (((Says C 56 [(D.sl (n6) 2 (List.take (n6 * 2) (List.drop 0 cs1))), D.nil] [(D.val (Value.bool true))]) ∧
 (k [(D.val (Value.bool true))])) ∨
 ((Says C 56 [(D.sl (n6) 2 (List.take (n6 * 2) (List.drop 0 cs1))), D.nil] [(D.val (Value.bool false))]) ∧
 (k [(D.val (Value.bool false))])))
 False)
 (k [(D.val (Value.bool false))]))
 (k [(D.val (Value.bool false))]))
 (k [(D.val (Value.bool false))])))) ∨
 (∃ n13 : Nat,
 (∃ cs2 : List Go.Value,
 (∃ n14 : Int,
 ((Says C 55 [(D.sl (n0) 2 (List.take (n0 * 2) (List.drop 0 l0))), D.nil] [(D.sl (n13) 2 (cs2)), (D.val (vI n14))]) ∧
 (bcase (n5 == n12)
 (bcase (if Bool.false = Bool.true then !(n3 == n10 && (n4 == n11 && Bool.true)) else n3 == n10 && (n4 == n11 && Bool.true))
 (bcase (n7 == n14)
 (bcase (decide (0 + n6 * 2 ≤ List.length cs1))
 (bcase (decide (0 + n13 * 2 ≤ List.length cs2))
 (((Says C 56 [(D.sl (n6) 2 (List.take (n6 * 2) (List.drop 0 cs1))), (D.sl (n13) 2 (List.take (n13 * 2) (List.drop 0 cs2)))] [(D.val (Value.bool true))]) ∧
 (k [(D.val (Value.bool true))])) ∨
 ((Says C 56 [(D.sl (n6) 2 (List.take (n6 * 2) (List.drop 0 cs1))), (D.sl (n13) 2 (List.take (n13 * 2) (List.drop 0 cs2)))] [(D.val (Value.bool false))]) ∧
 (k [(D.val (Value.bool false))])))
 False)
 False)
 (k [(D.val (Value.bool false))]))
 (k [(D.val (Value.bool false))]))
 (k [(D.val (Value.bool false))])))))))
 False)))))
 False)))))))
 False))))))
 False)))
 False)))))
 False))
 False))))
 False))
 False)
 (k [(D.val (Value.bool true))]))) ∨
 ((Says C 12 [] [(D.val (Value.bool false))]) ∧
 (k [(D.val (Value.bool false))]))) := by kernel_rfl
def gLtz (C : Ct) (L : AtLoop) (x1 : Int) (k : List D → Prop) : Prop := wpFn Try.prog (hU C) L 0 8 #[.slice none 0 0, .int .i64 x1, .slice none 0 0] (heapOf []) (dataK k)
theorem gLtz_text (C : Ct) (L : AtLoop) (x1 : Int) (k : List D → Prop) : gLtz C L x1 k =
 (((Says C 12 [] [(D.val (Value.bool true))]) ∧
 ((Says C 49 [D.nil] [(D.sl 0 2 [])]) ∧
 (∃ n1 : Int,
 (∃ n2 : Int,
 ((Says C 48 [(D.sl 0 2 [])] [(D.val (vI n1)), (D.val (vI n2))]) ∧
 ((Says C 49 [D.nil] [(D.sl 0 2 [])]) ∧
 (∃ n3 : Int,
 (∃ n4 : Int,
 (∃ n5 : Int,
 ((Says C 50 [(D.sl 0 2 []), (D.val (vI x1))] [(D.agg [(D.val (vI n3)), (D.val (vI n4))]), (D.val (vI n5))]) ∧
 ((Says C 49 [D.nil] [(D.sl 0 2 [])]) ∧
 ((Says C 52 [D.nil] [(D.sl 0 3 [])]) ∧
 ((∃ n6 : Int,
 ((Says C 51 [(D.sl 0 2 []), (D.sl 0 3 [])] [D.nil, (D.val (vI n6))]) ∧
 (∃ n7 : Int,
 (∃ n8 : Int,
 ((Says C 53 [D.nil] [(D.val (vI n7)), (D.val (vI n8))]) ∧
 (bcase (n2 != n8)
 (k [(D.val (Value.bool false))])
 (bcase (n1 != n7)
 (k [(D.val (Value.bool false))])
 (bcase (n8 != 0)
 (bcase (n5 == n8)
 (bcase (n6 == n8)
 (bcase (if Bool.false = Bool.true then !(n3 == 0 && (n4 == 0 && Bool.true)) else n3 == 0 && (n4 == 0 && Bool.true))
 (k [(D.val (Value.bool true))])
 (k [(D.val (Value.bool false))]))
 (k [(D.val (Value.bool false))]))
 (k [(D.val (Value.bool false))]))
 (∃ n9 : Int,
 (∃ n10 : Int,
 (∃ n11 : Int,
 ((Says C 54 [D.nil, (D.val (vI x1))] [(D.agg [(D.val (vI n9)), (D.val (vI n10))]), (D.val (vI n11))]) ∧
 ((∃ n12 : Int,
 ((Says C 55 [D.nil, D.nil] [D.nil, (D.val (vI n12))]) ∧
 (bcase (n5 == n11)
 (bcase (if Bool.false = Bool.true then !(n3 == n9 && (n4 == n10 && Bool.true)) else n3 == n9 && (n4 == n10 && Bool.true))
 (bcase (n6 == n12)
 (((Says C 56 [D.nil, D.nil] [(D.val (Value.bool true))]) ∧
 (k [(D.val (Value.bool true))])) ∨
 ((Says C 56 [D.nil, D.nil] [(D.val (Value.bool false))]) ∧
 (k [(D.val (Value.bool false))])))
 (k [(D.val (Value.bool false))]))
 (k [(D.val (Value.bool false))]))
 (k [(D.val (Value.bool false))])))) ∨
 (∃ n12 : Nat,
 (∃ cs1 : List Go.Value,
 (∃ n13 : Int,
 ((Says C 55 [D.nil, D.nil] [(D.sl (n12) 2 (cs1)), (D.val (vI n13))]) ∧
 (bcase (n5 == n11)
 (bcase (if Bool.false = Bool.true then !(n3 == n9 && (n4 == n10 && Bool.true)) else n3 == n9 && (n4 == n10 && Bool.true))
 (bcase (n6 == n13)
 (bcase (decide (0 + n12 * 2 ≤ List.length cs1))
 (((Says C 56 [D.nil, (D.sl (n12) 2 (List.take (n12 * 2) (List.drop 0 cs1)))] [(D.val (Value.bool true))]) ∧
 (k [(D.val (Value.bool true))])) ∨
 ((Says C 56 [D.nil, (D.sl (n12) 2 (List.take (n12 * 2) (List.drop 0 cs1)))] [(D.val (Value.bool false))]) ∧
 (k [(D.val (Value.bool false))])))
 False)
 (k [(D.val (Value.bool false))]))
 (k [(D.val (Value.bool false))]))
 (k [(D.val (Value.bool false))]))))))))))))))))))) ∨
 (∃ n6 : Nat,
 (∃ cs1 : List Go.Value,
 (∃ n7 : Int,
 ((Says C 51 [(D.sl 0 2 []), (D.sl 0 3 [])] [(D.sl (n6) 2 (cs1)), (D.val (vI n7))]) ∧
 (∃ n8 : Int,
 (∃ n9 : Int,
 ((Says C 53 [D.nil] [(D.val (vI n8)), (D.val (vI n9))]) ∧
 (bcase (n2 != n9)
 (k [(D.val (Value.bool false))])
 (bcase (n1 != n8)
 (k [(D.val (Value.bool false))])
 (bcase (n9 != 0)
 (bcase (n5 == n9)
 (bcase (n7 == n9)
 (bcase (if Bool.false = Bool.true then !(n3 == 0 && (n4 == 0 && Bool.true)) else n3 == 0 && (n4 == 0 && Bool.true))
 (bcase ((↑n6 : Int) == 0)
 (k [(D.val (Value.bool true))])
 (k [(D.val (Value.bool false))]))
 (k [(D.val (Value.bool false))]))
 (k [(D.val (Value.bool false))]))
 (k [(D.val (Value.bool false))]))
 (∃ n10 : Int,
 (∃ n11 : Int,
 (∃ n12 : Int,
 ((Says C 54 [D.nil, (D.val (vI x1))] [(D.agg [(D.val (vI n10)), (D.val (vI n11))]), (D.val (vI n12))]) ∧
 ((∃ n13 : Int,
 ((Says C 55 [D.nil, D.nil] [D.nil, (D.val (vI n13))]) ∧
 (bcase (n5 == n12)
 (bcase (if Bool.false = Bool.true then !(n3 == n10 && (n4 == n11 && Bool.true)) else n3 == n10 && (n4 == n11 && Bool.true))
 (bcase (n7 == n13)
 (bcase (decide (0 + n6 * 2 ≤ List.length cs1))
 (((Says C 56 [(D.sl (n6) 2 (List.take (n6 * 2) (List.drop 0 cs1))), D.nil] [(D.val (Value.bool true))]) ∧
 (k [(D.val (Value.bool true))])) ∨
 ((Says C 56 [(D.sl (n6) 2 (List.take (n6 * 2) (List.drop 0 cs1))), D.nil] [(D.val (Value.bool false))]) ∧
 (k [(D.val (Value.bool false))])))
 False)
 (k [(D.val (Value.bool false))]))
 (k [(D.val (Value.bool false))]))
 (k [(D.val (Value.bool false))])))) ∨
 (∃ n13 : Nat,
 (∃ cs2 : List Go.Value,
 (∃ n14 : Int,
 ((Says C 55 [D.nil, D.nil] [(D.sl (n13) 2 (cs2)), (D.val (vI n14))]) ∧
 (bcase (n5 == n12)
 (bcase (if Bool.false = Bool.true then !(n3 == n10 && (n4 == n11 && Bool.true)) else n3 == n10 && (n4 == n11 && Bool.true))
 (bcase (n7 == n14)
 (bcase (decide (0 + n6 * 2 ≤ List.length cs1))
 (bcase (decide (0 + n13 * 2 ≤ List.length cs2))
 (((Says C 56 [(D.sl (n6) 2 (List.take (n6 * 2) (List.drop 0 cs1))), (D.sl (n13) 2 (List.take (n13 * 2) (List.drop 0 cs2)))] [(D.val (Value.bool true))]) ∧
 (k [(D.val (Value.bool true))])) ∨
 ((Says C 56 [(D.sl (n6) 2 (List.take (n6 * 2) (List.drop 0 cs1))), (D.sl (n13) 2 (List.take (n13 * 2) (List.drop 0 cs2)))] [(D.val (Value.bool false))]) ∧
 (k [(D.val (Value.bool false))])))
 False)
 False)
 (k [(D.val (Value.bool false))]))
 (k [(D.val (Value.bool false))]))
 (k [(D.val (Value.bool false))])))))))))))))))))))))))))))))))))) ∨
 ((Says C 12 [] [(D.val (Value.bool false))]) ∧
 (k [(D.val (Value.bool false))]))) := by kernel_rfl
end Go.Proofs.G5f

/- Chapter 7: worn contours by the definition, and FlatContours, in data. -/
namespace Go.Proofs.G5f
open Go Go.Abs Go.Proofs Go.Proofs.G7
set_option maxRecDepth 100000
theorem pt_range (f : Nat → Int × Int) {n i : Nat} (h : i < n) : pt ((List.range n).map f) i = f i := by
  rw [← pt_at (by simpa using h)]; simp
theorem pt_ext {l m : List (Int × Int)} (hl : l.length = m.length) (h : ∀ i, i < l.length → pt l i = pt m i) : l = m := by
  apply List.ext_getElem hl
  intro i h1 h2
  rw [pt_at h1, pt_at h2]; exact h i h1
theorem pt_set (p : List (Int × Int)) (k : Nat) (w : Int × Int) (i : Nat) (hk : k < p.length) : pt (p.set k w) i = if i = k then w else pt p i := by
  unfold pt
  rw [List.getD_eq_getElem?_getD, List.getElem?_set, List.getD_eq_getElem?_getD]
  by_cases h : k = i
  · subst h; simp [hk]
  · rw [if_neg h, if_neg (fun e => h e.symm)]
theorem pt_map (f : Int × Int → Int × Int) {l : List (Int × Int)} {i : Nat} (h : i < l.length) : pt (l.map f) i = f (pt l i) := by
  rw [← pt_at (by simpa using h), ← pt_at h]; simp
/-- a height is changed in place -/
theorem listSet_vp : ∀ (l : List (Int × Int)) (k : Nat) (w : Int), k < l.length → listSet (vp l) (0 + k * 2 + 1) [vI w] = vp (l.set k ((pt l k).1, w))
  | [], k, w, h => by simp at h
  | p :: r, 0, w, h => rfl
  | p :: r, k + 1, w, h => by
    have ih := listSet_vp r k w (by simpa using h)
    have e : 0 + (k + 1) * 2 + 1 = (0 + k * 2 + 1) + 2 := by omega
    have e2 : pt (p :: r) (k + 1) = pt r k := rfl
    rw [e, e2]
    show _ = Value.int .i64 p.1 :: Value.int .i64 p.2 :: vp (r.set k ((pt r k).1, w))
    rw [← ih]
    unfold listSet
    simp [vp, List.take_succ_cons, List.drop_succ_cons]
def partL (s : Tr) (c : List (Int × Int)) (k : Nat) : List (Int × Int) := (List.range c.length).map fun j => if j < k then wrP s.1 s.2.1 s.2.2 (pt c j) else pt c j
@[simp] theorem partL_length {s : Tr} {c : List (Int × Int)} {k : Nat} : (partL s c k).length = c.length := by simp [partL]
theorem partL_pt {s : Tr} {c : List (Int × Int)} {k j : Nat} (h : j < c.length) : pt (partL s c k) j = if j < k then wrP s.1 s.2.1 s.2.2 (pt c j) else pt c j := pt_range _ h
theorem partL_zero {s : Tr} {c : List (Int × Int)} : partL s c 0 = c := pt_ext (by simp) fun i hi => by
  rw [partL_length] at hi
  rw [partL_pt hi, if_neg (Nat.not_lt_zero i)]
theorem partL_end {s : Tr} {c : List (Int × Int)} : partL s c c.length = wr1 s c := pt_ext (by simp) fun i hi => by
  rw [partL_length] at hi
  rw [partL_pt hi, if_pos hi]
  exact (pt_map _ hi).symm
theorem partL_succ {s : Tr} {c : List (Int × Int)} {k : Nat} (h : k < c.length) : partL s c (k + 1) = (partL s c k).set k (wrP s.1 s.2.1 s.2.2 (pt c k)) := pt_ext (by simp) fun i hi => by
  rw [partL_length] at hi
  rw [partL_pt hi, pt_set _ _ _ _ (by simpa using h), partL_pt hi]
  by_cases e : i = k
  · rw [if_pos e, if_pos (by omega), e]
  · rw [if_neg e]
    by_cases e2 : i < k
    · rw [if_pos e2, if_pos (by omega)]
    · rw [if_neg e2, if_neg (by omega)]
theorem partL_at {s : Tr} {c : List (Int × Int)} {k : Nat} (h : k < c.length) : pt (partL s c k) k = pt c k := by rw [partL_pt h, if_neg (by omega)]
/-! ### strips by the definition -/
theorem stE_1 {s : Tr} (h : ¬ ((0 ≤ s.1 ∧ s.1 ≤ 10000) ∧ (0 ≤ s.2.1 ∧ s.2.1 ≤ 10000))) : stE s = 2 := by rw [stE, if_neg h, fst0, if_neg (by decide)]
theorem stE_2 {s : Tr} (h : (0 ≤ s.1 ∧ s.1 ≤ 10000) ∧ (0 ≤ s.2.1 ∧ s.2.1 ≤ 10000)) (h2 : s.1 > s.2.1) : stE s = 9 := by rw [stE, if_pos h, if_pos h2, fst0, if_pos rfl, fst0, if_neg (by decide)]
theorem stE_3 {s : Tr} (h : (0 ≤ s.1 ∧ s.1 ≤ 10000) ∧ (0 ≤ s.2.1 ∧ s.2.1 ≤ 10000)) (h2 : ¬ s.1 > s.2.1) : stE s = rngE 0 1000 2 s.2.2 := by rw [stE, if_pos h, if_neg h2, fst0, if_pos rfl, fst0_two, if_pos rfl]
def rwE (l : List Tr) : Int := fst0 [cntE l.length 0 20, (fsG 0 l).2]
def rwP (c : List (Int × Int)) (l : List Tr) : List D := if rwE l = 0 then [.sl c.length 2 (vp (wrnL l c)), dI 0] else [.nil, dI (rwE l)]
theorem woE_v {c : List (Int × Int)} {l : List Tr} (h : ccE c = 0) : woE c l = rwE l := by rw [woE, fst0, if_pos h]; rfl
theorem conRWo (c : List (Int × Int)) (l : List Tr) (hc : c.length ≤ 1000000) (hl : l.length ≤ 1000000) : C5 55 [.sl c.length 2 (vp c), .sl l.length 3 (vt l)] (rwP c l) := by
  let inv : Nat × Nat → Prop := fun y => y.1 ≤ l.length ∧ cntE l.length 0 20 = 0 ∧ fsG 0 l = fsG y.1 (l.drop y.1)
  let st : Nat × Nat → Slots × Blocks := fun y => zRWo1 l.length y.2 c.length y.1 (vt l) (vp (wrnL (l.take y.1) c))
  refine con_J hokU mixed [] (L := fun _ s' bl => ∃ y, inv y ∧ st y = (s', bl)) Try.func55 rfl (by show 2 ≤ 400; omega) rfl (pts := [0]) (loops := [0]) (by kernel_rfl) (by kernel_rfl) (fun caps _ => ?_) (fun id q1 q2 => absurd q1 q2) (fun id hid => ?_)
  · show gRWo _ _ c.length (caps 500) (vp c) l.length (caps 501) (vt l) _
    rw [gRWo_text]
    refine bc_dec (fun h => ?_) (fun h => ?_)
    · have e : cntE l.length 0 20 = 8 := by rw [cntE, if_neg (by omega), if_pos h]
      have e2 : rwE l = 8 := by rw [rwE, e, fst0, if_neg (by decide)]
      show _ = _; rw [rwP, e2, if_neg (by decide)]
    · simp only [bc_t (v2le c), vp_whole]
      exact ⟨⟨conCoC c hc⟩, (0, caps 501), ⟨Nat.zero_le _, by rw [cntE, if_neg (by omega), if_neg h], rfl⟩, rfl⟩
  · obtain rfl := List.mem_singleton.1 hid
    refine ⟨⟨Nat × Nat, st, inv, fun y => l.length - y.1, fun s' bl h => h, [2], [2], by kernel_rfl, by kernel_rfl, ?_⟩⟩
    rintro ⟨i, cap⟩ ⟨hi, hcn, hr⟩
    simp only at hi hr
    have hk : rwE l = (fsG 0 l).2 := by rw [rwE, fst0_two, if_pos hcn]
    have wi : i < l.length → IntKind.wrap .i64 ((i : Int) + 1) = ((i + 1 : Nat) : Int) := fun h => by rw [w64 (by omega) (by omega)]; rfl
    let cur : List (Int × Int) := wrnL (l.take i) c
    have hcl : cur.length = c.length := wrnL_length
    refine ⟨fun _ s' bl => ∃ k, (i < l.length ∧ stE (sp l i) = 0 ∧ k ≤ c.length) ∧ zRWo2 l.length cap c.length i (k : Int) (vt l) (vp (partL (sp l i) cur k)) (sp l i).1 (sp l i).2.1 (sp l i).2.2 = (s', bl), ?_, fun id2 q1 q2 => absurd q1 q2, fun id2 hid2 => ?_⟩
    · show rRWo1 _ _ l.length cap c.length i (vt l) (vp cur) _ _ _
      rw [rRWo1_text]
      refine bc_dec (fun h => ?_) (fun h => ?_)
      · have hi1 : i < l.length := by omega
        rw [fsG_at hi1] at hr
        simp only [bc_t h, bc_t (show (0 : Int) ≤ (i : Int) by omega), Int.toNat_natCast, at3 (at_sp hi1)]
        have bad : ∀ e : Int, e ≠ 0 → stE (sp l i) = e → [D.nil, dI e] = rwP c l := fun e he h1 => by
          rw [h1, if_neg he] at hr
          rw [rwP, hk, hr, if_neg he]
        by_cases h1 : 0 ≤ (sp l i).1 ∧ (sp l i).1 ≤ 10000
        · refine .inl ⟨sayWt h1, ?_⟩
          by_cases h2 : 0 ≤ (sp l i).2.1 ∧ (sp l i).2.1 ≤ 10000
          · refine .inl ⟨sayWt h2, bc_dec (fun h3 => bad 9 (by decide) (stE_2 ⟨h1, h2⟩ h3)) (fun h3 => ?_)⟩
            by_cases h4 : 0 ≤ (sp l i).2.2 ∧ (sp l i).2.2 ≤ 1000
            · refine .inl ⟨sayWt h4, 0, ⟨hi1, ?_, Nat.zero_le _⟩, ?_⟩
              · rw [stE_3 ⟨h1, h2⟩ h3, rngE_yes h4]
              · rw [partL_zero]; rfl
            · exact .inr ⟨sayWf h4, bad 2 (by decide) (by rw [stE_3 ⟨h1, h2⟩ h3, rngE_no h4])⟩
          · exact .inr ⟨sayWf h2, bad 2 (by decide) (stE_1 fun h => h2 h.2)⟩
        · exact .inr ⟨sayWf h1, bad 2 (by decide) (stE_1 fun h => h1 h.1)⟩
      · show (if 0 = 0 then _ else _)
        rw [if_pos rfl]
        show nRWo3 _ _ c.length (vp cur) _
        rw [nRWo3_text]
        have ei : i = l.length := by omega
        rw [List.drop_eq_nil_of_le (by omega)] at hr
        have e0 : rwE l = 0 := by rw [hk, hr]; rfl
        refine ⟨⟨rfl, by simp [hcl]⟩, ?_⟩
        show _ = _
        rw [rwP, if_pos e0, ← List.take_of_length_le (show l.length ≤ i by omega)]
    · obtain rfl := List.mem_singleton.1 hid2
      refine ⟨⟨Nat, fun k => zRWo2 l.length cap c.length i (k : Int) (vt l) (vp (partL (sp l i) cur k)) (sp l i).1 (sp l i).2.1 (sp l i).2.2, fun k => i < l.length ∧ stE (sp l i) = 0 ∧ k ≤ c.length, fun k => c.length - k, fun s' bl h => h, [], by kernel_rfl, by kernel_rfl, fun k hk' => ⟨fun _ _ _ => False, ?_, fun id3 h3 => by cases h3⟩⟩⟩
      obtain ⟨hi1, hs, hkc⟩ := hk'
      have hpl : (partL (sp l i) cur k).length = c.length := by rw [partL_length, hcl]
      show rRWo2 _ _ l.length cap c.length i (k : Int) (vt l) (vp (partL (sp l i) cur k)) (sp l i).1 (sp l i).2.1 (sp l i).2.2 _ _ _
      rw [rRWo2_text]
      refine bc_dec (fun h => ?_) (fun h => ?_)
      · have hk1 : k < c.length := by omega
        have hk2 : k < (partL (sp l i) cur k).length := by omega
        have wk : IntKind.wrap .i64 ((k : Int) + 1) = ((k + 1 : Nat) : Int) := by rw [w64 (by omega) (by omega)]; rfl
        have a1 : At (vp (partL (sp l i) cur k)) (0 + k * 2) 1 [vI (pt (partL (sp l i) cur k) k).1] := by rw [← pt_at hk2]; exact vp_one _ k hk2
        have a2 : At (vp (partL (sp l i) cur k)) (Addr.off ⟨1000, 0 + k * 2, none⟩ + 1) 1 [vI (pt (partL (sp l i) cur k) k).2] := by rw [← pt_at hk2]; exact vp_sndA _ k hk2 1000
        have lo1 : Addr.off ⟨1000, 0 + k * 2, none⟩ + 1 + 1 ≤ (vp (partL (sp l i) cur k)).length := by rw [vp_length]; show 0 + k * 2 + 1 + 1 ≤ _; omega
        rw [partL_at (by omega)] at a1 a2
        simp only [bc_t h, bc_t (show (0 : Int) ≤ (k : Int) by omega), Int.toNat_natCast, at1 a1, at1 a2, wk, bc_t lo1, eq_self, true_and, and_true]
        have nx : ∀ v : Int, v = wrV (sp l i).1 (sp l i).2.1 (sp l i).2.2 (pt cur k).1 (pt cur k).2 → listSet (vp (partL (sp l i) cur k)) (0 + k * 2 + 1) [vI v] = vp (partL (sp l i) cur (k + 1)) := fun v hv => by
          rw [listSet_vp _ _ _ hk2, partL_at (by omega), partL_succ (by omega), hv]
        by_cases hw : (sp l i).1 ≤ (pt cur k).1 ∧ (pt cur k).1 ≤ (sp l i).2.1
        · refine .inl ⟨sayWt hw, k + 1, ⟨hi1, hs, hk1⟩, by omega, ?_⟩
          have := nx _ (wr_in hw.1 hw.2).symm
          show zRWo2 l.length cap c.length i ((k + 1 : Nat) : Int) (vt l) (vp (partL (sp l i) cur (k + 1))) _ _ _ = (_, [(501, AObj.sym (vt l) false 3), (1000, AObj.sym (listSet (vp (partL (sp l i) cur k)) (0 + k * 2 + 1) [vI (IntKind.wrap .i64 ((pt cur k).2 - (sp l i).2.2))]) true 2), _])
          rw [this]
        · refine .inr ⟨sayWf hw, k + 1, ⟨hi1, hs, hk1⟩, by omega, ?_⟩
          have e : partL (sp l i) cur (k + 1) = partL (sp l i) cur k := by
            rw [partL_succ (by omega)]
            refine pt_ext (by simp) fun j hj => ?_
            rw [pt_set _ _ _ _ hk2]
            by_cases ej : j = k
            · rw [if_pos ej, ej, partL_at (by omega)]
              show ((pt cur k).1, wrV _ _ _ _ _) = _
              rw [wr_out hw]
            · rw [if_neg ej]
          rw [e]
      · show (if 2 = 2 then _ else _)
        rw [if_pos rfl]
        show iRWo4 _ _ l.length cap c.length i (vt l) (vp (partL (sp l i) cur k)) _ _ _
        rw [iRWo4_text, wi hi1]
        have ek : k = cur.length := by omega
        refine ⟨(i + 1, cap), ⟨hi1, hcn, ?_⟩, by show l.length - (i + 1) < l.length - i; omega, ?_⟩
        · rw [hr, fsG_at hi1, if_pos hs]; rfl
        · rw [ek, partL_end]
          show zRWo1 l.length cap c.length ((i + 1 : Nat) : Int) (vt l) (vp (wrnL (l.take (i + 1)) c)) = _
          rw [wrnL_take hi1]
theorem conRWon (c : List (Int × Int)) (hc : c.length ≤ 1000000) : C5 55 [.sl c.length 2 (vp c), .nil] [.sl c.length 2 (vp c), dI 0] := by
  refine con_J hokU mixed [] (L := fun _ s' bl => zRWon1 c.length 0 (vp c) = (s', bl)) Try.func55 rfl (by show 1 ≤ 400; omega) rfl (pts := [0]) (loops := [0]) (by kernel_rfl) (by kernel_rfl) (fun caps _ => ?_) (fun id q1 q2 => absurd q1 q2) (fun id hid => ?_)
  · show gRWon _ _ c.length (caps 500) (vp c) _
    rw [gRWon_text]
    simp only [bc_t (v2le c), vp_whole]
    exact ⟨⟨conCoC c hc⟩, by trivial⟩
  · obtain rfl := List.mem_singleton.1 hid
    refine ⟨⟨Unit, fun _ => zRWon1 c.length 0 (vp c), fun _ => True, fun _ => 0, fun s' bl h => ⟨(), trivial, h⟩, [2], [2], by kernel_rfl, by kernel_rfl, ?_⟩⟩
    intro _ _
    refine ⟨fun _ _ _ => False, ?_, fun id2 q1 q2 => absurd q1 q2, fun id2 hid2 => ?_⟩
    · show rRWon1 _ _ c.length 0 (vp c) _ _ _
      rw [rRWon1_text]
      refine bc_no (by omega) ?_
      show (if 0 = 0 then _ else _)
      rw [if_pos rfl]
      show nRWon2 _ _ c.length (vp c) _
      rw [nRWon2_text]
      exact ⟨⟨rfl, by simp⟩, rfl⟩
    · obtain rfl := List.mem_singleton.1 hid2
      exact ⟨⟨Nat, fun _ => ([], []), fun _ => False, fun _ => 0, fun s bl h => h.elim, [], by kernel_rfl, by kernel_rfl, fun j hj => hj.elim⟩⟩
end Go.Proofs.G5f

/- Chapter 7: FlatContours, in data. -/
namespace Go.Proofs.G5f
open Go Go.Abs Go.Proofs Go.Proofs.G7
set_option maxRecDepth 100000
theorem woE_f {c : List (Int × Int)} {l : List Tr} (h : ccE c ≠ 0) : woE c l = ccE c := by rw [woE, fst0, if_neg h]
theorem conLt (c : List (Int × Int)) (at' : Int) (l : List Tr) : C5 8 [.sl c.length 2 (vp c), dI at', .sl l.length 3 (vt l)] [.val (.bool true)] := by
  refine con_flat hokU mixed Try.func8 rfl (by show 2 ≤ 400; omega) rfl (by kernel_rfl) (fun caps => ?_)
  show gLt _ _ c.length (caps 500) (vp c) at' l.length (caps 501) (vt l) _
  rw [gLt_text]
  refine .inl ⟨⟨conAw⟩, bc_dec (fun h12 => bc_dec (fun h22 => by trivial) (fun h22 => ?_)) (fun _ => by trivial)⟩
  simp only [bc_t (v2le c), bc_t (v3le l), vp_whole, vt_whole, eq_self, true_and]
  have hc := conCoC c (by omega)
  have hs := conCoS l (by omega)
  have hk := conKC c (by omega)
  have ha := conHA c at' (by omega)
  have hw := conWo c l (by omega) (by omega)
  have hr := conRKC c (by omega)
  by_cases hv : ccE c = 0
  · have hcv := ccE_ok.1 hv
    have hht := conRHt hcv at'
    have hrw := conRWo c l (by omega) (by omega)
    rw [haP, if_pos hv] at ha
    rw [woP, woE_v hv] at hw
    rw [rwP] at hrw
    rw [hv] at hk hr
    by_cases he : rwE l = 0
    · rw [if_pos he] at hw hrw
      have e1 := vp_whole (wrnL l c)
      have e2 := v2le (wrnL l c)
      have e3 := conSC (wrnL l c) (wrnL l c) (by simp; omega)
      rw [decide_eq_true rfl] at e3
      rw [wrnL_length] at e1 e2 e3
      cases hq : hgL at' c with
      | some f =>
        rw [hq] at ha hht
        refine ⟨⟨hc⟩, _, _, ⟨hk⟩, ⟨hc⟩, _, _, _, ⟨ha⟩, ⟨hc⟩, ⟨hs⟩, .inr ⟨_, _, _, ⟨hw⟩, _, _, ⟨hr⟩, bc_bne (fun h => absurd rfl h) (fun _ => bc_bne (fun h => absurd rfl h) (fun _ => bc_bne (fun h => absurd rfl h) (fun _ => ⟨_, _, _, ⟨hht⟩, .inr ⟨_, _, _, ⟨hrw⟩, bc_beq (fun _ => bc_true (by simp) (bc_beq (fun _ => ?_) (fun h => absurd rfl h))) (fun h => absurd rfl h)⟩⟩)))⟩⟩
        simp only [bc_t e2, e1]
        exact .inl ⟨⟨e3⟩, by trivial⟩
      | none =>
        rw [hq] at ha hht
        refine ⟨⟨hc⟩, _, _, ⟨hk⟩, ⟨hc⟩, _, _, _, ⟨ha⟩, ⟨hc⟩, ⟨hs⟩, .inr ⟨_, _, _, ⟨hw⟩, _, _, ⟨hr⟩, bc_bne (fun h => absurd rfl h) (fun _ => bc_bne (fun h => absurd rfl h) (fun _ => bc_bne (fun h => absurd rfl h) (fun _ => ⟨_, _, _, ⟨hht⟩, .inr ⟨_, _, _, ⟨hrw⟩, bc_beq (fun _ => bc_true (by simp) (bc_beq (fun _ => ?_) (fun h => absurd rfl h))) (fun h => absurd rfl h)⟩⟩)))⟩⟩
        simp only [bc_t e2, e1]
        exact .inl ⟨⟨e3⟩, by trivial⟩
    · rw [if_neg he] at hw hrw
      cases hq : hgL at' c with
      | some f =>
        rw [hq] at ha hht
        exact ⟨⟨hc⟩, _, _, ⟨hk⟩, ⟨hc⟩, _, _, _, ⟨ha⟩, ⟨hc⟩, ⟨hs⟩, .inl ⟨_, ⟨hw⟩, _, _, ⟨hr⟩, bc_bne (fun h => absurd rfl h) (fun _ => bc_bne (fun h => absurd rfl h) (fun _ => bc_bne (fun h => absurd rfl h) (fun _ => ⟨_, _, _, ⟨hht⟩, .inl ⟨_, ⟨hrw⟩, bc_beq (fun _ => bc_true (by simp) (bc_beq (fun _ => .inl ⟨⟨conSCn⟩, by trivial⟩) (fun h => absurd rfl h))) (fun h => absurd rfl h)⟩⟩)))⟩⟩
      | none =>
        rw [hq] at ha hht
        exact ⟨⟨hc⟩, _, _, ⟨hk⟩, ⟨hc⟩, _, _, _, ⟨ha⟩, ⟨hc⟩, ⟨hs⟩, .inl ⟨_, ⟨hw⟩, _, _, ⟨hr⟩, bc_bne (fun h => absurd rfl h) (fun _ => bc_bne (fun h => absurd rfl h) (fun _ => bc_bne (fun h => absurd rfl h) (fun _ => ⟨_, _, _, ⟨hht⟩, .inl ⟨_, ⟨hrw⟩, bc_beq (fun _ => bc_true (by simp) (bc_beq (fun _ => .inl ⟨⟨conSCn⟩, by trivial⟩) (fun h => absurd rfl h))) (fun h => absurd rfl h)⟩⟩)))⟩⟩
  · rw [haP, if_neg hv] at ha
    rw [woP, woE_f hv, if_neg hv] at hw
    exact ⟨⟨hc⟩, _, _, ⟨hk⟩, ⟨hc⟩, _, _, _, ⟨ha⟩, ⟨hc⟩, ⟨hs⟩, .inl ⟨_, ⟨hw⟩, _, _, ⟨hr⟩, bc_bne (fun h => absurd rfl h) (fun _ => bc_bne (fun h => absurd rfl h) (fun _ => bc_bne (fun _ => bc_beq (fun _ => bc_beq (fun _ => bc_true (by simp) (by trivial)) (fun h => absurd rfl h)) (fun h => absurd rfl h)) (fun h => absurd h hv)))⟩⟩
theorem conLta (c : List (Int × Int)) (at' : Int) : C5 8 [.sl c.length 2 (vp c), dI at', .nil] [.val (.bool true)] := by
  refine con_flat hokU mixed Try.func8 rfl (by show 1 ≤ 400; omega) rfl (by kernel_rfl) (fun caps => ?_)
  show gLta _ _ c.length (caps 500) (vp c) at' _
  rw [gLta_text]
  refine .inl ⟨⟨conAw⟩, bc_dec (fun h12 => ?_) (fun _ => by trivial)⟩
  simp only [bc_t (v2le c), vp_whole, eq_self, true_and]
  have hc := conCoC c (by omega)
  have hk := conKC c (by omega)
  have ha := conHA c at' (by omega)
  have hw := conWo c [] (by omega) (by simp)
  have hr := conRKC c (by omega)
  by_cases hv : ccE c = 0
  · have hcv := ccE_ok.1 hv
    have hht := conRHt hcv at'
    have hrw := conRWon c (by omega)
    rw [haP, if_pos hv] at ha
    have e0 : woE c [] = 0 := woE_ok.2 ⟨hcv, by simp, by simp⟩
    rw [woP, if_pos e0] at hw
    rw [hv] at hk hr
    have e1 := vp_whole c
    have e2 := v2le c
    have e3 := conSC c c (by omega)
    rw [decide_eq_true rfl] at e3
    cases hq : hgL at' c with
    | some f =>
      rw [hq] at ha hht
      refine ⟨⟨hc⟩, _, _, ⟨hk⟩, ⟨hc⟩, _, _, _, ⟨ha⟩, ⟨hc⟩, ⟨conCoSn⟩, .inr ⟨_, _, _, ⟨hw⟩, _, _, ⟨hr⟩, bc_bne (fun h => absurd rfl h) (fun _ => bc_bne (fun h => absurd rfl h) (fun _ => bc_bne (fun h => absurd rfl h) (fun _ => ⟨_, _, _, ⟨hht⟩, .inr ⟨_, _, _, ⟨hrw⟩, bc_beq (fun _ => bc_true (by simp) (bc_beq (fun _ => ?_) (fun h => absurd rfl h))) (fun h => absurd rfl h)⟩⟩)))⟩⟩
      refine bc_yes e2 (bc_yes e2 ?_)
      show (Says C5 _ [D.sl c.length 2 (List.take (c.length * 2) (List.drop 0 (vp c))), D.sl c.length 2 (List.take (c.length * 2) (List.drop 0 (vp c)))] _ ∧ _) ∨ _
      rw [e1]
      exact .inl ⟨⟨e3⟩, by trivial⟩
    | none =>
      rw [hq] at ha hht
      refine ⟨⟨hc⟩, _, _, ⟨hk⟩, ⟨hc⟩, _, _, _, ⟨ha⟩, ⟨hc⟩, ⟨conCoSn⟩, .inr ⟨_, _, _, ⟨hw⟩, _, _, ⟨hr⟩, bc_bne (fun h => absurd rfl h) (fun _ => bc_bne (fun h => absurd rfl h) (fun _ => bc_bne (fun h => absurd rfl h) (fun _ => ⟨_, _, _, ⟨hht⟩, .inr ⟨_, _, _, ⟨hrw⟩, bc_beq (fun _ => bc_true (by simp) (bc_beq (fun _ => ?_) (fun h => absurd rfl h))) (fun h => absurd rfl h)⟩⟩)))⟩⟩
      refine bc_yes e2 (bc_yes e2 ?_)
      show (Says C5 _ [D.sl c.length 2 (List.take (c.length * 2) (List.drop 0 (vp c))), D.sl c.length 2 (List.take (c.length * 2) (List.drop 0 (vp c)))] _ ∧ _) ∨ _
      rw [e1]
      exact .inl ⟨⟨e3⟩, by trivial⟩
  · rw [haP, if_neg hv] at ha
    rw [woP, woE_f hv, if_neg hv] at hw
    exact ⟨⟨hc⟩, _, _, ⟨hk⟩, ⟨hc⟩, _, _, _, ⟨ha⟩, ⟨hc⟩, ⟨conCoSn⟩, .inl ⟨_, ⟨hw⟩, _, _, ⟨hr⟩, bc_bne (fun h => absurd rfl h) (fun _ => bc_bne (fun h => absurd rfl h) (fun _ => bc_bne (fun _ => bc_beq (fun _ => bc_beq (fun _ => bc_true (by simp) (by trivial)) (fun h => absurd rfl h)) (fun h => absurd rfl h)) (fun h => absurd h hv)))⟩⟩
theorem ccE_nil : ccE [] = 10 := by rfl
theorem ccI_nil : ccI [] = 0 := by rfl
theorem conLtn (at' : Int) (l : List Tr) : C5 8 [.nil, dI at', .sl l.length 3 (vt l)] [.val (.bool true)] := by
  refine con_flat hokU mixed Try.func8 rfl (by show 1 ≤ 400; omega) rfl (by kernel_rfl) (fun caps => ?_)
  show gLtn _ _ at' l.length (caps 500) (vt l) _
  rw [gLtn_text]
  refine .inl ⟨⟨conAw⟩, bc_dec (fun _ => by trivial) (fun h22 => ?_)⟩
  simp only [bc_t (v3le l), vt_whole, eq_self, true_and]
  have hk := conKC [] (by simp)
  have ha := conHA [] at' (by simp)
  have hw := conWo [] l (by simp) (by omega)
  rw [ccE_nil, ccI_nil] at hk
  rw [haP, ccE_nil, if_neg (by decide)] at ha
  rw [woP, woE_f (by rw [ccE_nil]; decide), ccE_nil, if_neg (by decide)] at hw
  exact ⟨⟨conCoCn⟩, _, _, ⟨hk⟩, ⟨conCoCn⟩, _, _, _, ⟨ha⟩, ⟨conCoCn⟩, ⟨conCoS l (by omega)⟩, .inl ⟨_, ⟨hw⟩, _, _, ⟨conRKCn⟩, bc_bne (fun h => absurd rfl h) (fun _ => bc_bne (fun h => absurd rfl h) (fun _ => bc_bne (fun _ => bc_beq (fun _ => bc_beq (fun _ => bc_true (by simp) (by trivial)) (fun h => absurd rfl h)) (fun h => absurd rfl h)) (fun h => absurd h (by decide))))⟩⟩
theorem conLtz (at' : Int) : C5 8 [.nil, dI at', .nil] [.val (.bool true)] := by
  refine con_flat hokU mixed Try.func8 rfl (by show 0 ≤ 400; omega) rfl (by kernel_rfl) (fun caps => ?_)
  show gLtz _ _ at' _
  rw [gLtz_text]
  refine .inl ⟨⟨conAw⟩, ?_⟩
  try simp only [eq_self, true_and]
  have hk := conKC [] (by simp)
  have ha := conHA [] at' (by simp)
  have hw := conWo [] [] (by simp) (by simp)
  rw [ccE_nil, ccI_nil] at hk
  rw [haP, ccE_nil, if_neg (by decide)] at ha
  rw [woP, woE_f (by rw [ccE_nil]; decide), ccE_nil, if_neg (by decide)] at hw
  exact ⟨⟨conCoCn⟩, _, _, ⟨hk⟩, ⟨conCoCn⟩, _, _, _, ⟨ha⟩, ⟨conCoCn⟩, ⟨conCoSn⟩, .inl ⟨_, ⟨hw⟩, _, _, ⟨conRKCn⟩, bc_bne (fun h => absurd rfl h) (fun _ => bc_bne (fun h => absurd rfl h) (fun _ => bc_bne (fun _ => bc_beq (fun _ => bc_beq (fun _ => bc_true (by simp) (by trivial)) (fun h => absurd rfl h)) (fun h => absurd rfl h)) (fun h => absurd h (by decide))))⟩⟩
end Go.Proofs.G5f

/- FlatContours: whatever the input, it returns true, and the input reads as it did. No condition. -/
namespace Go.Proofs.Ytpjfmeijfkbfaaa.K
open Go Go.Abs Go.RowKit Go.ChangeShapes Go.WideShapes Go.ChangeAt Go.Proofs Go.Flat Go.Proofs.G5f
set_option maxRecDepth 100000
namespace FlatContours
abbrev shs : List Sh := [.one 79, .one 3, .one 80]
theorem shapes : Try.f8.params.toList.mapM (argSh Try.prog) = some shs := by kernel_rfl
theorem all (ds : List D) (h : ShDs Try.prog shs ds) : Con Try.prog 8 ds [.val (.bool true)] := by
  cases h with | cons h1 t => cases t with | cons h2 t => cases t with | cons h3 t =>
  cases t
  obtain ⟨x1, rfl, _⟩ := leaf_int Try.underlying3 h2
  rcases leaf_prs Try.underlying79 (by kernel_rfl) h1 with rfl | ⟨c, rfl, _⟩ <;> rcases leaf_trs Try.underlying80 (by kernel_rfl) h3 with rfl | ⟨l, rfl⟩
  · exact conLtz x1
  · exact conLtn x1 l
  · exact conLta c x1
  · exact conLt c x1 l
theorem lifted (os : Os) (started : os.Started) (H : Type) (enc : TypeId × Value → H) :
    ReturnsInHanded {} Try.checked os 8 .any (Rows.flatContoursSpec.pre6 enc Try.prog Try.f8 Rows.flatContoursRow.domain false) (Rows.flatContoursSpec.post enc Try.prog Try.f8 false true false false) := by
  refine returnsInHanded_of_change (C := Try.checked) own started (by kernel_rfl) Try.func8
    (ChangeSpec.witness6 (enc := enc) (C := Try.checked) false ⟨#[], #[.slice none 0 0, .int .i64 0, .slice none 0 0], []⟩ 8 (by kernel_rfl) (by kernel_rfl) (by kernel_rfl) (by kernel_rfl)) ?_
  intro W base args ds gs before hval hW _ _
  exact law_shapes (tb := 4) (s := Rows.flatContoursSpec) shapes all laidP mapsP slicesP (tsP (by kernel_rfl)) rfl Try.underlying4 rfl (fun ds h => by
    match ds, h with
    | [_, _, _], _ => exact ⟨rfl, rfl, rfl⟩) hval hW
theorem holds : Rows.FlatContoursSaid :=
  OpenClaim.holds_of_wide 8 Try.f8 rfl rfl rfl rfl rfl rfl rfl ⟨rfl, rfl, rfl, rfl, rfl⟩ rfl rfl rfl rfl rfl (by kernel_rfl) Try.func8 (by kernel_rfl)
    (of_decide_eq_true (by kernel_rfl)) (by unfold Func.isWrapper; first | (rw [if_pos (by decide +kernel)]; kernel_rfl) | (rw [if_neg (by decide +kernel)]; exact ⟨rfl, rfl⟩))
    (fun os started H enc _ => lifted os started H enc)
#print axioms holds
end FlatContours
end Go.Proofs.Ytpjfmeijfkbfaaa.K
