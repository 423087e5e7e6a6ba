/- Texts of the proof, put together: G7H, Gf7C, Gf7K0, Gf7H, Gf7I, Gf7J. -/
import Derived.Test.YtpjfmeijfkbfaaaP5
import Derived.Test.YtpjfmeijfkbfaaaP4
import Derived.Test.YtpjfmeijfkbfaaaP3
import Derived.Test.YtpjfmeijfkbfaaaRows
import Derived.Handed
import Derived.JoinedCond
/- Chapter 7: temperatures along a roll, without any program. -/
namespace Go.Proofs.G7
open Go Go.Abs
abbrev gt (l : List Int) (j : Nat) : Int := l.getD j 0
theorem gt_at {l : List Int} {i : Nat} (h : i < l.length) : l[i] = gt l i := by rw [gt, List.getD_eq_getElem?_getD, List.getElem?_eq_getElem h]; rfl
theorem gt_out {l : List Int} {i : Nat} (h : l.length ≤ i) : gt l i = 0 := by rw [gt, List.getD_eq_getElem?_getD, List.getElem?_eq_none h]; rfl
theorem gt_mem {l : List Int} {p : Int → Prop} (h : ∀ z ∈ l, p z) {i : Nat} (hi : i < l.length) : p (gt l i) := by
  rw [← gt_at hi]; exact h _ (List.getElem_mem hi)
theorem mem_gt {l : List Int} {p : Int → Prop} (h : ∀ i, i < l.length → p (gt l i)) : ∀ z ∈ l, p z := by
  intro z hz
  obtain ⟨i, hi, rfl⟩ := List.mem_iff_getElem.1 hz
  rw [gt_at hi]; exact h i hi
theorem gt_range (f : Nat → Int) {n i : Nat} (h : i < n) : gt ((List.range n).map f) i = f i := by
  rw [← gt_at (by simpa using h)]; simp
/-- what the neighbours give -/
def nbr (b : Int) (t : List Int) (i : Nat) : Int := (if 0 < i then (gt t (i - 1) - gt t i) * b else 0) + (if i + 1 < t.length then (gt t (i + 1) - gt t i) * b else 0)
def gain (ar c b : Int) (t : List Int) (i : Nat) : Int := (ar - gt t i) * c + nbr b t i
def hv (ar c b : Int) (t : List Int) (i : Nat) : Int := gt t i + gain ar c b t i / 1000
def heatT (ar c b : Int) (t : List Int) : List Int := (List.range t.length).map (hv ar c b t)
def heatsT (ar c b : Int) : Nat → List Int → List Int
  | 0, t => t
  | n + 1, t => heatsT ar c b n (heatT ar c b t)
@[simp] theorem heatT_length {ar c b : Int} {t : List Int} : (heatT ar c b t).length = t.length := by simp [heatT]
@[simp] theorem heatsT_length {ar c b : Int} : ∀ {n : Nat} {t : List Int}, (heatsT ar c b n t).length = t.length
  | 0, t => rfl
  | n + 1, t => by rw [heatsT, heatsT_length, heatT_length]
theorem heatT_gt {ar c b : Int} {t : List Int} {i : Nat} (h : i < t.length) : gt (heatT ar c b t) i = hv ar c b t i := gt_range _ h
theorem heatsT_add {ar c b : Int} : ∀ {m n : Nat} {t : List Int}, heatsT ar c b (m + n) t = heatsT ar c b n (heatsT ar c b m t)
  | 0, n, t => by rw [Nat.zero_add]; rfl
  | m + 1, n, t => by rw [show m + 1 + n = (m + n) + 1 by omega, heatsT, heatsT, heatsT_add]
theorem heatsT_succ {ar c b : Int} {n : Nat} {t : List Int} : heatsT ar c b (n + 1) t = heatT ar c b (heatsT ar c b n t) := heatsT_add
/-- rates -/
structure Rt (c b : Int) : Prop where
  c0 : 0 ≤ c
  b0 : 0 ≤ b
  s : c + 2 * b ≤ 1000
theorem ge_lo {c b ar lo : Int} (h : Rt c b) {t : List Int} (ha : lo ≤ ar) (ht : ∀ z ∈ t, lo ≤ z) {i : Nat} (hi : i < t.length) : lo ≤ hv ar c b t i := by
  have h1 := gt_mem ht hi
  have hc := h.c0; have hb := h.b0; have hs := h.s
  have e1 : (lo - gt t i) * c ≤ (ar - gt t i) * c := Int.mul_le_mul_of_nonneg_right (by omega) hc
  have e0 : (lo - gt t i) * b ≤ 0 := Int.mul_nonpos_of_nonpos_of_nonneg (by omega) hb
  have e2 : (lo - gt t i) * b ≤ (if 0 < i then (gt t (i - 1) - gt t i) * b else 0) := by
    split
    · have := gt_mem ht (i := i - 1) (by omega)
      exact Int.mul_le_mul_of_nonneg_right (by omega) hb
    · exact e0
  have e3 : (lo - gt t i) * b ≤ (if i + 1 < t.length then (gt t (i + 1) - gt t i) * b else 0) := by
    split
    · rename_i hh
      have := gt_mem ht hh
      exact Int.mul_le_mul_of_nonneg_right (by omega) hb
    · exact e0
  have e4 : (lo - gt t i) * 1000 ≤ (lo - gt t i) * (c + 2 * b) := Int.mul_le_mul_of_nonpos_left (by omega) hs
  have e5 : (lo - gt t i) * (c + 2 * b) = (lo - gt t i) * c + (lo - gt t i) * b + (lo - gt t i) * b := by rw [Int.mul_add, Int.two_mul, Int.mul_add]; omega
  unfold hv gain nbr
  generalize (if 0 < i then (gt t (i - 1) - gt t i) * b else 0) = x at *
  generalize (if i + 1 < t.length then (gt t (i + 1) - gt t i) * b else 0) = y at *
  generalize (ar - gt t i) * c = z at *
  omega
theorem le_hi {c b ar hi' : Int} (h : Rt c b) {t : List Int} (ha : ar ≤ hi') (ht : ∀ z ∈ t, z ≤ hi') {i : Nat} (hi : i < t.length) : hv ar c b t i ≤ hi' := by
  have h1 := gt_mem ht hi
  have hc := h.c0; have hb := h.b0; have hs := h.s
  have e1 : (ar - gt t i) * c ≤ (hi' - gt t i) * c := Int.mul_le_mul_of_nonneg_right (by omega) hc
  have e0 : 0 ≤ (hi' - gt t i) * b := Int.mul_nonneg (by omega) hb
  have e2 : (if 0 < i then (gt t (i - 1) - gt t i) * b else 0) ≤ (hi' - gt t i) * b := by
    split
    · have := gt_mem ht (i := i - 1) (by omega)
      exact Int.mul_le_mul_of_nonneg_right (by omega) hb
    · exact e0
  have e3 : (if i + 1 < t.length then (gt t (i + 1) - gt t i) * b else 0) ≤ (hi' - gt t i) * b := by
    split
    · rename_i hh
      have := gt_mem ht hh
      exact Int.mul_le_mul_of_nonneg_right (by omega) hb
    · exact e0
  have e4 : (hi' - gt t i) * (c + 2 * b) ≤ (hi' - gt t i) * 1000 := Int.mul_le_mul_of_nonneg_left hs (by omega)
  have e5 : (hi' - gt t i) * (c + 2 * b) = (hi' - gt t i) * c + (hi' - gt t i) * b + (hi' - gt t i) * b := by rw [Int.mul_add, Int.two_mul, Int.mul_add]; omega
  unfold hv gain nbr
  generalize (if 0 < i then (gt t (i - 1) - gt t i) * b else 0) = x at *
  generalize (if i + 1 < t.length then (gt t (i + 1) - gt t i) * b else 0) = y at *
  generalize (ar - gt t i) * c = z at *
  omega
theorem heatsT_lo {c b ar lo : Int} (h : Rt c b) (ha : lo ≤ ar) : ∀ {n : Nat} {t : List Int}, (∀ z ∈ t, lo ≤ z) → ∀ z ∈ heatsT ar c b n t, lo ≤ z
  | 0, t, ht => ht
  | n + 1, t, ht => heatsT_lo (n := n) (t := heatT ar c b t) h ha (mem_gt (p := fun z => lo ≤ z) fun i hi => by rw [heatT_length] at hi; show lo ≤ _; rw [heatT_gt hi]; exact ge_lo h ha ht hi)
theorem heatsT_hi {c b ar hi : Int} (h : Rt c b) (ha : ar ≤ hi) : ∀ {n : Nat} {t : List Int}, (∀ z ∈ t, z ≤ hi) → ∀ z ∈ heatsT ar c b n t, z ≤ hi
  | 0, t, ht => ht
  | n + 1, t, ht => heatsT_hi (n := n) (t := heatT ar c b t) h ha (mem_gt (p := fun z => z ≤ hi) fun i hi' => by rw [heatT_length] at hi'; show _ ≤ hi; rw [heatT_gt hi']; exact le_hi h ha ht hi')
/-- hotter stays at least as hot -/
theorem hv_mono {c b ar : Int} (h : Rt c b) {t u : List Int} (hl : t.length = u.length) (hle : ∀ j, gt t j ≤ gt u j) (i : Nat) : hv ar c b t i ≤ hv ar c b u i := by
  have hc := h.c0; have hb := h.b0; have hs := h.s
  -- x, y: what is gained by the neighbours
  have key : ∀ p q r p' q' r' : Int, (p ≤ p' ∧ q ≤ q' ∧ r ≤ r') → ∀ k1 k2 : Bool,
      q * 1000 + ((ar - q) * c + ((if k1 then (p - q) * b else 0) + (if k2 then (r - q) * b else 0))) ≤ q' * 1000 + ((ar - q') * c + ((if k1 then (p' - q') * b else 0) + (if k2 then (r' - q') * b else 0))) := by
    intro p q r p' q' r' ⟨hp, hq, hr⟩ k1 k2
    have f1 : (q' - q) * (c + 2 * b) ≤ (q' - q) * 1000 := Int.mul_le_mul_of_nonneg_left hs (by omega)
    have f2 : (q' - q) * (c + 2 * b) = q' * c - q * c + 2 * (q' * b) - 2 * (q * b) := by rw [Int.sub_mul, Int.mul_add, Int.mul_add]; simp only [Int.two_mul, Int.mul_add]; omega
    have f3 : p * b ≤ p' * b := Int.mul_le_mul_of_nonneg_right hp hb
    have f4 : r * b ≤ r' * b := Int.mul_le_mul_of_nonneg_right hr hb
    have f5 : q * b ≤ q' * b := Int.mul_le_mul_of_nonneg_right hq hb
    have f6 : (q' - q) * 1000 = q' * 1000 - q * 1000 := Int.sub_mul ..
    simp only [Int.sub_mul]
    cases k1 <;> cases k2 <;> simp only [if_true, Bool.false_eq_true, if_false] <;> omega
  have := key (gt t (i - 1)) (gt t i) (gt t (i + 1)) (gt u (i - 1)) (gt u i) (gt u (i + 1)) ⟨hle _, hle _, hle _⟩ (decide (0 < i)) (decide (i + 1 < t.length))
  simp only [decide_eq_true_eq] at this
  unfold hv gain nbr
  rw [← hl]
  generalize ((ar - gt t i) * c + ((if 0 < i then (gt t (i - 1) - gt t i) * b else 0) + (if i + 1 < t.length then (gt t (i + 1) - gt t i) * b else 0))) = x at *
  generalize ((ar - gt u i) * c + ((if 0 < i then (gt u (i - 1) - gt u i) * b else 0) + (if i + 1 < t.length then (gt u (i + 1) - gt u i) * b else 0))) = y at *
  omega
theorem heatsT_mono {c b ar : Int} (h : Rt c b) : ∀ {n : Nat} {t u : List Int}, t.length = u.length → (∀ j, gt t j ≤ gt u j) → ∀ j, gt (heatsT ar c b n t) j ≤ gt (heatsT ar c b n u) j
  | 0, _, _, _, hle => hle
  | n + 1, t, u, hl, hle => by
    refine heatsT_mono (n := n) (t := heatT ar c b t) (u := heatT ar c b u) h (by simp [hl]) fun j => ?_
    by_cases hj : j < t.length
    · rw [heatT_gt hj, heatT_gt (by omega)]; exact hv_mono h hl hle j
    · rw [gt_out (by simp; omega), gt_out (by simp; omega)]; omega
/-- the neighbours' part, added up over a window -/
def psum (b : Int) (t : List Int) (i lo : Nat) : Nat → Int
  | 0 => 0
  | j + 1 => psum b t i lo j + (gt t (lo + j) - gt t i) * b
def wlo (i : Nat) : Nat := i - 1
def whi (i n : Nat) : Nat := if i + 2 ≤ n then i + 2 else n
theorem psum_all {b : Int} {t : List Int} {i : Nat} (hi : i < t.length) : psum b t i (wlo i) (whi i t.length - wlo i) = nbr b t i := by
  have z : (gt t i - gt t i) * b = 0 := by rw [Int.sub_self, Int.zero_mul]
  cases i with
  | zero =>
    have a1 : nbr b t 0 = if 0 + 1 < t.length then (gt t (0 + 1) - gt t 0) * b else 0 := by
      unfold nbr; rw [if_neg (show ¬ (0 < 0) by omega), Int.zero_add]
    rw [a1]
    by_cases h2 : 2 ≤ t.length
    · have a2 : whi 0 t.length - wlo 0 = 2 := by unfold whi wlo; rw [if_pos (show 0 + 2 ≤ t.length by omega)]
      rw [a2, if_pos (show 0 + 1 < t.length by omega)]
      show 0 + (gt t 0 - gt t 0) * b + (gt t (0 + 1) - gt t 0) * b = _
      rw [z]; omega
    · have a2 : whi 0 t.length - wlo 0 = 1 := by unfold whi wlo; rw [if_neg (show ¬ (0 + 2 ≤ t.length) by omega)]; omega
      rw [a2, if_neg (show ¬ (0 + 1 < t.length) by omega)]
      show 0 + (gt t 0 - gt t 0) * b = _
      rw [z]; rfl
  | succ i =>
    have a1 : nbr b t (i + 1) = (gt t i - gt t (i + 1)) * b + if i + 2 < t.length then (gt t (i + 2) - gt t (i + 1)) * b else 0 := by
      unfold nbr; rw [if_pos (show 0 < i + 1 by omega)]; rfl
    have a0 : wlo (i + 1) = i := rfl
    rw [a1, a0]
    by_cases h2 : i + 3 ≤ t.length
    · have a2 : whi (i + 1) t.length - i = 3 := by unfold whi; rw [if_pos (show i + 1 + 2 ≤ t.length by omega)]; omega
      rw [a2, if_pos (show i + 2 < t.length by omega)]
      show 0 + (gt t i - gt t (i + 1)) * b + (gt t (i + 1) - gt t (i + 1)) * b + (gt t (i + 2) - gt t (i + 1)) * b = _
      rw [z]; omega
    · have a2 : whi (i + 1) t.length - i = 2 := by unfold whi; rw [if_neg (show ¬ (i + 1 + 2 ≤ t.length) by omega)]; omega
      rw [a2, if_neg (show ¬ (i + 2 < t.length) by omega)]
      show 0 + (gt t i - gt t (i + 1)) * b + (gt t (i + 1) - gt t (i + 1)) * b = _
      rw [z]; omega
end Go.Proofs.G7

/- Chapter 7: what small functions do, in data. -/
namespace Go.Proofs.G5f
open Go Go.Abs Go.Proofs Go.Proofs.G7
set_option maxRecDepth 100000
abbrev C5 : FuncId → List D → List D → Prop := Con Try.prog
theorem preOK : PreOK Try.prog (preF C5) := by
  intro g h he args ats H k hk
  unfold preF at he
  split at he
  · rename_i e
    obtain rfl := Option.some.inj he
    rw [beq_iff_eq] at e
    subst e
    exact wpState_call (fun args bs K hk => wit_ok hk) hk
  · split at he
    · obtain rfl := Option.some.inj he
      exact fixH_ok (fun _ _ _ h => h) _ _ _ _ _ hk
    · split at he
      · obtain rfl := Option.some.inj he
        exact fixH_ok (fun _ _ _ h => h) _ _ _ _ _ hk
      · split at he
        · obtain rfl := Option.some.inj he
          exact saidH_ok (fun _ _ _ h => h) _ _ _ _ _ hk
        · cases he
theorem hok : HandlerOK Try.prog (hF7 C5) := handlerX_ok mixed preOK (by decide) 6
theorem hokE : HandlerOK Try.prog (hE C5) := handlerX_ok mixed (fun g h he => by cases he) (by decide) 6
def rngE (lo hi e x : Int) : Int := if lo ≤ x ∧ x ≤ hi then 0 else e
theorem wit_rng {lo hi e x : Int} : Says witC 0 [dI lo, dI hi, dI e, .sl 1 1 [vI x]] [dI (rngE lo hi e x)] := ⟨by
  show rngE lo hi e x = witE lo hi e [.int .i64 x]
  simp only [witE, rngE]
  split <;> split <;> first | rfl | omega⟩
theorem rngE0 {lo hi e x : Int} (he : e ≠ 0) : rngE lo hi e x = 0 ↔ lo ≤ x ∧ x ≤ hi := by
  unfold rngE; split <;> omega
theorem rngE_no {lo hi e x : Int} (h : ¬ (lo ≤ x ∧ x ≤ hi)) : rngE lo hi e x = e := if_neg h
theorem rngE_yes {lo hi e x : Int} (h : lo ≤ x ∧ x ≤ hi) : rngE lo hi e x = 0 := if_pos h
/-- all numbers lie in a range -/
theorem witE_all {lo hi e : Int} : ∀ l : List Int, witE lo hi e (vi l) = if ∀ z ∈ l, lo ≤ z ∧ z ≤ hi then 0 else e
  | [] => by simp [vi, witE]
  | x :: r => by
    have ih := witE_all (lo := lo) (hi := hi) (e := e) r
    show (if x < lo ∨ x > hi then e else witE lo hi e (vi r)) = _
    by_cases h : lo ≤ x ∧ x ≤ hi
    · rw [if_neg (by omega), ih]
      by_cases h2 : ∀ z ∈ r, lo ≤ z ∧ z ≤ hi
      · rw [if_pos h2, if_pos ((List.forall_mem_cons (p := fun z => lo ≤ z ∧ z ≤ hi)).2 ⟨h, h2⟩)]
      · rw [if_neg h2, if_neg (fun hh => h2 fun z hz => hh z (List.mem_cons_of_mem _ hz))]
    · rw [if_pos (by omega), if_neg (fun hh => h (hh x (List.mem_cons_self ..)))]
/-- the first error of a list of errors -/
theorem conFE (l : List Int) (hlen : l.length < 1000000000) : C5 67 [.sl l.length 1 (vi l)] [dI (fst0 l)] := by
  let inv : Nat × Nat → Prop := fun x => x.1 ≤ l.length ∧ fst0 l = fst0 (l.drop x.1)
  let st : Nat × Nat → Slots × Blocks := fun x => zFE1 l.length x.2 l.length x.1 (vi l)
  refine con_of (L := fun _ s b => ∃ x, inv x ∧ st x = (s, b)) hok mixed Try.func67 rfl (by show 1 ≤ 400; omega) rfl (ids := [0]) (by kernel_rfl) rfl (fun caps => ?_) (fun id hid => ?_)
  · show gFE _ _ l.length (caps 500) (vi l) _
    rw [gFE_text]
    exact ⟨(0, caps 500), ⟨by simp, rfl⟩, rfl⟩
  · obtain rfl := List.mem_singleton.1 hid
    refine ⟨Nat × Nat, st, inv, fun x => l.length - x.1, ⟨fun s b h => h, by kernel_rfl, ?_⟩⟩
    rintro ⟨i, cap⟩ ⟨hi, hr⟩
    simp only at hi hr
    show rFE1 _ _ l.length cap l.length i (vi l) _ _ _
    rw [rFE1_text]
    refine bc_dec (fun h => ?_) (fun h => ?_)
    · have hi' : i < l.length := by omega
      rw [List.drop_eq_getElem_cons hi', fst0] at hr
      simp only [bc_t h, bc_t (show (0 : Int) ≤ (i : Int) by omega), Int.toNat_natCast, at1 (vi_at l i hi')]
      refine bc_bne (fun hc => ?_) (fun hc => ?_)
      · rw [if_neg hc] at hr
        show [dI l[i]] = [dI (fst0 l)]
        rw [hr]
      · rw [if_pos hc] at hr
        refine ⟨(i + 1, cap), ⟨by show i + 1 ≤ l.length; omega, hr⟩, by show l.length - (i + 1) < l.length - i; omega, ?_⟩
        rw [w64 (by omega) (by omega)]; rfl
    · show (if 0 = 0 then _ else _)
      rw [if_pos rfl]
      show nFE2 _ _ _
      rw [nFE2_text]
      have : i = l.length := by omega
      rw [this, List.drop_length] at hr
      show [dI 0] = [dI (fst0 l)]
      rw [hr]; rfl
def cntE (n a b : Int) : Int := if n < a then 10 else if n > b then 8 else 0
theorem conCC (n a b : Int) : C5 68 [dI n, dI a, dI b] [dI (cntE n a b)] := by
  refine con_flat hok mixed Try.func68 rfl (by show 0 ≤ 400; omega) rfl (by kernel_rfl) (fun caps => ?_)
  show gCC _ _ n a b _
  rw [gCC_text]; unfold cntE
  refine bc_dec (fun h => ?_) (fun h => bc_dec (fun h2 => ?_) (fun h2 => ?_))
  · show _ = _; rw [if_pos h]
  · show _ = _; rw [if_neg h, if_pos h2]
  · show _ = _; rw [if_neg h, if_neg h2]
theorem conWi (a b c : Int) : C5 23 [dI a, dI b, dI c] [.val (.bool (decide (b ≤ a ∧ a ≤ c)))] := by
  refine con_flat hok mixed Try.func23 rfl (by show 0 ≤ 400; omega) rfl (by kernel_rfl) (fun caps => ?_)
  show gWi _ _ a b c _
  rw [gWi_text]
  refine bc_dec (fun h => bc_dec (fun h2 => ?_) (fun h2 => ?_)) (fun h => ?_)
  · show _ = _; rw [decide_eq_true (show b ≤ a ∧ a ≤ c from ⟨h, h2⟩)]
  · show _ = _; rw [decide_eq_false (show ¬ (b ≤ a ∧ a ≤ c) by omega)]
  · show _ = _; rw [decide_eq_false (show ¬ (b ≤ a ∧ a ≤ c) by omega)]
theorem sayWt {a b c : Int} (h : b ≤ a ∧ a ≤ c) : Says C5 23 [dI a, dI b, dI c] [.val (.bool true)] := by
  have := conWi a b c
  rw [decide_eq_true h] at this
  exact ⟨this⟩
theorem sayWf {a b c : Int} (h : ¬ (b ≤ a ∧ a ≤ c)) : Says C5 23 [dI a, dI b, dI c] [.val (.bool false)] := by
  have := conWi a b c
  rw [decide_eq_false h] at this
  exact ⟨this⟩
def szI (a : Int) : Int := if -a > a then -a else a
theorem conSi (a : Int) (h : -9223372036854775807 ≤ a ∧ a ≤ 9223372036854775807) : C5 96 [dI a] [dI (szI a)] := by
  refine con_flat hok mixed Try.func96 rfl (by show 0 ≤ 400; omega) rfl (by kernel_rfl) (fun caps => ?_)
  show gSi _ _ a _
  rw [gSi_text, w64 (by omega) (by omega)]
  show [dI _] = [dI _]
  rw [show (0 : Int) - a = -a by omega]; rfl
theorem div_bd {n b : Int} (hb : 0 < b) (hn : -4611686018427387904 ≤ n ∧ n ≤ 4611686018427387904) : (-4611686018427387905 ≤ n.tdiv b ∧ n.tdiv b ≤ 4611686018427387904) := by
  have h := Int.natAbs_tdiv_le_natAbs n b
  omega
theorem conFl (n b : Int) (hb : 0 < b) (hn : -4611686018427387904 ≤ n ∧ n ≤ 4611686018427387904) : C5 109 [dI n, dI b] [dI (n / b)] := by
  refine con_flat hok mixed Try.func109 rfl (by show 0 ≤ 400; omega) rfl (by kernel_rfl) (fun caps => ?_)
  show gFl _ _ n b _
  have hd := div_bd hb hn
  rw [gFl_text, bc_n (show b ≠ 0 by omega), bc_n (show b ≠ 0 by omega), w64 (z := n.tdiv b) (by omega) (by omega), w64 (by omega) (by omega), ← floor_eq hb]
  refine bc_dec (fun h => ?_) (fun h => ?_)
  · show _ = _; rw [if_pos h]
  · show _ = _; rw [if_neg h]
theorem conPa (n : Int) (hn : -4611686018427387904 ≤ n ∧ n ≤ 4611686018427387904) : C5 130 [dI n] [dI (n / 1000)] := by
  refine con_flat hok mixed Try.func130 rfl (by show 0 ≤ 400; omega) rfl (by kernel_rfl) (fun caps => ?_)
  show gPa _ _ n _
  have hd := div_bd (b := 1000) (by omega) hn
  rw [gPa_text, w64 (z := n.tdiv 1000) (by omega) (by omega), w64 (by omega) (by omega), ← floor_eq (show (0 : Int) < 1000 by omega)]
  refine bc_dec (fun h => ?_) (fun h => ?_)
  · show _ = _; rw [if_pos h]
  · show _ = _; rw [if_neg h]
/-- are two lists equal -/
theorem conIn (l m : List Int) (hl : l.length < 1000000000) : C5 36 [.sl l.length 1 (vi l), .sl m.length 1 (vi m)] [.val (.bool (decide (l = m)))] := by
  let inv : Nat × Nat × Nat → Prop := fun x => x.1 ≤ l.length ∧ l.length = m.length ∧ (l = m ↔ l.drop x.1 = m.drop x.1)
  let st : Nat × Nat × Nat → Slots × Blocks := fun x => zIn1 l.length x.2.1 m.length x.2.2 x.1 (vi l) (vi m)
  refine con_of (L := fun _ s b => ∃ x, inv x ∧ st x = (s, b)) hok mixed Try.func36 rfl (by show 2 ≤ 400; omega) rfl (ids := [0]) (by kernel_rfl) rfl (fun caps => ?_) (fun id hid => ?_)
  · show gIn _ _ l.length (caps 500) (vi l) m.length (caps 501) (vi m) _
    rw [gIn_text]
    refine bc_bne (fun h => ?_) (fun h => ?_)
    · show _ = _
      rw [decide_eq_false (fun e => h (by rw [e]))]
    · exact ⟨(0, caps 500, caps 501), ⟨Nat.zero_le _, by show l.length = m.length; omega, Iff.rfl⟩, rfl⟩
  · obtain rfl := List.mem_singleton.1 hid
    refine ⟨Nat × Nat × Nat, st, inv, fun x => l.length - x.1, ⟨fun s b h => h, by kernel_rfl, ?_⟩⟩
    rintro ⟨i, c1, c2⟩ ⟨hi, hlm, hr⟩
    simp only at hi hr
    show rIn1 _ _ l.length c1 m.length c2 (i : Int) (vi l) (vi m) _ _ _
    rw [rIn1_text]
    refine bc_dec (fun h => ?_) (fun h => ?_)
    · have h1 : i < l.length := by omega
      have h2 : i < m.length := by omega
      rw [List.drop_eq_getElem_cons h1, List.drop_eq_getElem_cons h2] at hr
      simp only [bc_t h, bc_t (show (i : Int) < (m.length : Int) by omega), bc_t (show (0 : Int) ≤ (i : Int) by omega), Int.toNat_natCast, at1 (vi_at l i h1), at1 (vi_at m i h2), eq_self, true_and, and_true]
      refine bc_bne (fun hc => ?_) (fun hc => ?_)
      · rw [bc_n hc]
        refine ⟨trivial, ?_⟩
        show _ = _
        rw [decide_eq_false (fun e => hc (List.cons.inj (hr.1 e)).1)]
      · refine ⟨bc_bne (fun h' => absurd hc h') (fun _ => trivial), ⟨i + 1, c1, c2⟩, ⟨by show i + 1 ≤ l.length; omega, hlm, ?_⟩, by show l.length - (i + 1) < l.length - i; omega, ?_⟩
        · show l = m ↔ l.drop (i + 1) = m.drop (i + 1)
          refine hr.trans ?_
          rw [hc]
          exact ⟨fun e => (List.cons.inj e).2, fun e => by rw [e]⟩
        · rw [w64 (by omega) (by omega)]; rfl
    · show (if 0 = 0 then _ else _)
      rw [if_pos rfl]
      show nIn2 _ _ _
      rw [nIn2_text]
      show _ = _
      have e1 : l.drop i = [] := List.drop_eq_nil_of_le (by omega)
      have e2 : m.drop i = [] := List.drop_eq_nil_of_le (by omega)
      rw [decide_eq_true (hr.2 (by rw [e1, e2]))]
theorem conCI (l : List Int) (hl : l.length ≤ 1000000) : C5 15 [.sl l.length 1 (vi l)] [.sl l.length 1 (vi l)] := by
  refine con_flat hokE mixed Try.func15 rfl (by show 1 ≤ 400; omega) rfl (by kernel_rfl) (fun caps => ?_)
  show gCI _ _ l.length (caps 500) (vi l) _
  rw [gCI_text]
  refine bc_yes (by simp) (bc_beq (fun h0 => ⟨⟨rfl, rfl⟩, ?_⟩) (fun h0 => bc_yes (by omega) (bc_yes (by omega) (bc_yes (by omega) ⟨⟨rfl, by simp⟩, ?_⟩))))
  · obtain rfl : l = [] := List.length_eq_zero_iff.1 h0
    rfl
  · rw [vi_whole, Nat.zero_add, List.nil_append]
theorem conCIn : C5 15 [.nil] [.sl 0 1 []] := by
  refine con_flat hokE mixed Try.func15 rfl (by show 0 ≤ 400; omega) rfl (by kernel_rfl) (fun caps => ?_)
  show gCIn _ _ _
  rw [gCIn_text]
  exact ⟨⟨rfl, rfl⟩, rfl⟩
theorem conCl (l : List Int) (hl : l.length ≤ 1000000) : C5 107 [.sl l.length 1 (vi l)] [.sl l.length 1 (vi l)] := by
  refine con_flat hokE mixed Try.func107 rfl (by show 1 ≤ 400; omega) rfl (by kernel_rfl) (fun caps => ?_)
  show gCl _ _ l.length (caps 500) (vi l) _
  rw [gCl_text]
  refine bc_yes (by simp) (bc_beq (fun h0 => ⟨⟨rfl, rfl⟩, ?_⟩) (fun h0 => bc_yes (by omega) (bc_yes (by omega) (bc_yes (by omega) ⟨⟨rfl, by simp⟩, ?_⟩))))
  · obtain rfl : l = [] := List.length_eq_zero_iff.1 h0
    rfl
  · rw [vi_whole, Nat.zero_add, List.nil_append]
/-! ### fractions -/
theorem conGc (a b : Int) (ha : -9223372036854775808 ≤ a ∧ a ≤ 9223372036854775807) (hb : -9223372036854775807 ≤ b ∧ b ≤ 9223372036854775807) (h0 : b = 0 → -9223372036854775807 ≤ a) : C5 76 [dI a, dI b] [dI (Int.gcd a b)] := by
  let inv : Int × Int → Prop := fun x => (-9223372036854775808 ≤ x.1 ∧ x.1 ≤ 9223372036854775807) ∧ (-9223372036854775807 ≤ x.2 ∧ x.2 ≤ 9223372036854775807) ∧ (x.2 = 0 → -9223372036854775807 ≤ x.1) ∧ Int.gcd x.1 x.2 = Int.gcd a b
  let st : Int × Int → Slots × Blocks := fun x => zGc1 x.1 x.2
  refine con_of (L := fun _ s b => ∃ x, inv x ∧ st x = (s, b)) hok mixed Try.func76 rfl (by show 0 ≤ 400; omega) rfl (ids := [0]) (by kernel_rfl) rfl (fun caps => ?_) (fun id hid => ?_)
  · show gGc _ _ a b _
    rw [gGc_text]
    exact ⟨(a, b), ⟨ha, hb, h0, rfl⟩, rfl⟩
  · obtain rfl := List.mem_singleton.1 hid
    refine ⟨Int × Int, st, inv, fun x => x.2.natAbs, ⟨fun s b h => h, by kernel_rfl, ?_⟩⟩
    rintro ⟨x, y⟩ ⟨hx, hy, hxy, hg⟩
    simp only at hx hy hxy hg
    show rGc1 _ _ x y _ _ _
    rw [rGc1_text]
    refine bc_bne (fun h => ?_) (fun h => ?_)
    · simp only [bc_n h, true_and, and_true]
      have hlt := gcd_step_lt (a := x) h
      have hst := gcd_step x y
      refine ⟨(y, x.tmod y), ⟨⟨by show -9223372036854775808 ≤ y; omega, hy.2⟩, ?_, fun _ => hy.1, by show Int.gcd y (x.tmod y) = _; omega⟩, hlt, rfl⟩
      show -9223372036854775807 ≤ x.tmod y ∧ x.tmod y ≤ 9223372036854775807
      have : (x.tmod y).natAbs < y.natAbs := hlt
      omega
    · show (if 0 = 0 then _ else _)
      rw [if_pos rfl]
      show nGc2 _ _ x _
      have hxl := hxy h
      rw [nGc2_text]
      refine ⟨_, ⟨conSi x (by omega)⟩, ?_⟩
      subst h
      have := gcd_end x
      show [dI _] = [dI _]
      rw [show ((Int.gcd a b : Nat) : Int) = (Int.gcd x 0 : Nat) by rw [hg], this]
      have e : szI x = (if x < 0 then -x else x) := by unfold szI; split <;> split <;> omega
      rw [e]
theorem conLo (n d : Int) (hn : -4611686018427387904 ≤ n ∧ n ≤ 4611686018427387904) (hd : -4611686018427387904 ≤ d ∧ d ≤ 4611686018427387904) (h0 : d ≠ 0) : C5 70 [dI n, dI d] [.agg [dI (low n d).1, dI (low n d).2]] := by
  refine con_flat hok mixed Try.func70 rfl (by show 0 ≤ 400; omega) rfl (by kernel_rfl) (fun caps => ?_)
  show gLo _ _ n d _
  rw [gLo_text]
  have hg := gcd_pos (a := n) (b := d) (.inr h0)
  have hg' : ((Int.gcd n d : Nat) : Int) ≠ 0 := by omega
  have hgl : ((Int.gcd n d : Nat) : Int) ≤ 4611686018427387904 := by
    have : Int.gcd n d ≤ d.natAbs := Nat.le_of_dvd (by omega) (Nat.gcd_dvd_right ..)
    omega
  refine ⟨_, ⟨conGc n d (by omega) (by omega) (by omega)⟩, bc_dec (fun h => ?_) (fun h => ?_)⟩
  · rw [w64 (z := 0 - ((Int.gcd n d : Nat) : Int)) (by omega) (by omega)]
    have hg2 : 0 - ((Int.gcd n d : Nat) : Int) ≠ 0 := by omega
    have b1 := tdiv_small (n := 0 - n) (g := Int.gcd n d) (by omega) hg
    have b2 := tdiv_small (n := 0 - d) (g := Int.gcd n d) (by omega) hg
    simp only [bc_n hg2, true_and, and_true, tdiv_neg']
    rw [w64 (by omega) (by omega), w64 (by omega) (by omega)]
    show _ = _
    rw [low, if_pos h]
  · have b1 := tdiv_small (n := n) (g := Int.gcd n d) hn hg
    have b2 := tdiv_small (n := d) (g := Int.gcd n d) hd hg
    simp only [bc_n hg', true_and, and_true]
    rw [w64 (by omega) (by omega), w64 (by omega) (by omega)]
    show _ = _
    rw [low, if_neg h]
theorem gcd_sw (a b : Int) : Int.gcd a b = Int.gcd b a := Int.gcd_comm a b
theorem conDv (a b : Int) (ha : -4611686018427387904 ≤ a ∧ a ≤ 4611686018427387904) (hb : -4611686018427387904 ≤ b ∧ b ≤ 4611686018427387904) : C5 118 [dI a, dI b] [dI (Int.gcd a b)] := by
  let inv : Int × Int → Prop := fun x => (-4611686018427387904 ≤ x.1 ∧ x.1 ≤ 4611686018427387904) ∧ (-4611686018427387904 ≤ x.2 ∧ x.2 ≤ 4611686018427387904) ∧ Int.gcd x.1 x.2 = Int.gcd a b
  let st : Int × Int → Slots × Blocks := fun x => zDv1 x.1 x.2
  refine con_of (L := fun _ s b => ∃ x, inv x ∧ st x = (s, b)) hokE mixed Try.func118 rfl (by show 0 ≤ 400; omega) rfl (ids := [0]) (by kernel_rfl) rfl (fun caps => ?_) (fun id hid => ?_)
  · show gDv _ _ a b _
    rw [gDv_text]
    exact ⟨(a, b), ⟨ha, hb, rfl⟩, rfl⟩
  · obtain rfl := List.mem_singleton.1 hid
    refine ⟨Int × Int, st, inv, fun x => x.1.natAbs, ⟨fun s b h => h, by kernel_rfl, ?_⟩⟩
    rintro ⟨x, y⟩ ⟨hx, hy, hg⟩
    simp only at hx hy hg
    show rDv1 _ _ x y _ _ _
    rw [rDv1_text]
    refine bc_bne (fun h => ?_) (fun h => ?_)
    · simp only [bc_n h, true_and, and_true]
      have hlt := gcd_step_lt (a := y) h
      have hst := gcd_step y x
      refine ⟨(y.tmod x, x), ⟨?_, hx, ?_⟩, hlt, rfl⟩
      · show -4611686018427387904 ≤ y.tmod x ∧ y.tmod x ≤ 4611686018427387904
        have : (y.tmod x).natAbs < x.natAbs := hlt
        omega
      · show Int.gcd (y.tmod x) x = _
        rw [gcd_sw (y.tmod x) x, ← hg, gcd_sw x y]; omega
    · show (if 0 = 0 then _ else _)
      rw [if_pos rfl]
      show nDv2 _ _ y _
      rw [nDv2_text, w64 (by omega) (by omega)]
      subst h
      have := gcd_end y
      show [dI _] = [dI _]
      rw [show ((Int.gcd a b : Nat) : Int) = (Int.gcd y 0 : Nat) by rw [← hg, gcd_sw 0 y], this]
      have e : (if 0 - y > y then 0 - y else y) = (if y < 0 then -y else y) := by split <;> split <;> omega
      rw [e]
theorem conLT (n d : Int) (hn : -4611686018427387904 ≤ n ∧ n ≤ 4611686018427387904) (hd : -4611686018427387904 ≤ d ∧ d ≤ 4611686018427387904) (h0 : 0 < d) : C5 66 [dI n, dI d] [.agg [dI (low n d).1, dI (low n d).2]] := by
  refine con_flat hok mixed Try.func66 rfl (by show 0 ≤ 400; omega) rfl (by kernel_rfl) (fun caps => ?_)
  show gLT _ _ n d _
  rw [gLT_text]
  have hg := gcd_pos (a := n) (b := d) (.inr (by omega))
  have hg' : ((Int.gcd n d : Nat) : Int) ≠ 0 := by omega
  have b1 := tdiv_small (n := n) (g := Int.gcd n d) hn hg
  have b2 := tdiv_small (n := d) (g := Int.gcd n d) hd hg
  refine ⟨_, ⟨conDv n d hn hd⟩, ?_⟩
  simp only [bc_n hg', true_and, and_true]
  rw [w64 (by omega) (by omega), w64 (by omega) (by omega)]
  show _ = _
  rw [low, if_neg (by omega)]
/-! ### sums -/
end Go.Proofs.G5f

/- Chapter 7: what the frames of the laws share. -/
namespace Go.Proofs.Ytpjfmeijfkbfaaa.K
open Go Go.Abs Go.RowKit Go.ChangeShapes Go.WideShapes Go.ChangeAt Go.Proofs Go.Flat
set_option maxRecDepth 100000
theorem own : ownKnob Try.prog.godebug = none := by kernel_rfl
theorem laidP : laidOutB Try.prog = true := by kernel_rfl
theorem mapsP : mapsRowed Try.prog = true := by kernel_rfl
theorem slicesP : ∀ t e, t < Try.prog.types.size → Try.prog.underlying t = some (.slice e) → 0 < Try.prog.cellsOf e := slices_full_of Try.prog (by kernel_rfl)
theorem tsP {l : List TypeId} (h : l.all (fun t => decide (t < Try.prog.types.size)) = true) : ∀ t ∈ l, t < Try.prog.types.size := fun t ht => of_decide_eq_true (List.all_eq_true.1 h t ht)
theorem flat_vi : ∀ l : List Int, (l.flatMap fun a => [Value.int .i64 a]) = vi l
  | [] => rfl
  | a :: r => by rw [List.flatMap_cons, flat_vi r]; rfl
/-- lists of whole numbers -/
theorem leaf_ints {t e : TypeId} {d : D} (ht : Try.prog.underlying t = some (.slice e)) (he : leaves Try.prog 10 e = some [.int .i64]) (h : LeafD Try.prog t d) : d = .nil ∨ ∃ l : List Int, d = .sl l.length 1 (vi l) := by
  unfold LeafD at h
  rw [ht] at h
  simp only at h
  rcases h with h | ⟨n, cs, L, rfl, hL, hn, hl, hc⟩
  · exact .inl h
  · rw [he] at hL
    obtain rfl := Option.some.inj hL
    simp only [List.length_cons, List.length_nil, Nat.zero_add] at hl hc ⊢
    obtain ⟨ps, hp, rfl⟩ := chunks_of (f := fun a : Int => [Value.int .i64 a]) (k := 1) (fun _ => rfl) n cs hl (fun i hi => by
      have := hc i hi
      generalize (cs.drop (i * 1)).take 1 = x at this ⊢
      cases this with
      | cons h t => cases t; obtain ⟨a, rfl, _⟩ := h; exact ⟨a, rfl⟩)
    refine .inr ⟨ps, ?_⟩
    rw [hp]
    rw [flat_vi]
theorem leaf_int {t : TypeId} {d : D} (ht : Try.prog.underlying t = some (.int .i64)) (h : LeafD Try.prog t d) : ∃ n : Int, d = dI n ∧ (-9223372036854775808 ≤ n ∧ n ≤ 9223372036854775807) := by
  unfold LeafD at h
  rw [ht] at h
  obtain ⟨n, rfl, hw⟩ := h
  exact ⟨n, rfl, wf64 hw⟩
end Go.Proofs.Ytpjfmeijfkbfaaa.K

/- Chapter 7: a step of heat, in data. -/
namespace Go.Proofs.G5f
open Go Go.Abs Go.Proofs Go.Proofs.G7
set_option maxRecDepth 100000
abbrev Hot (t : List Int) : Prop := ∀ z ∈ t, -100000 ≤ z ∧ z ≤ 100000
theorem hot_gt {t : List Int} (h : Hot t) (i : Nat) : -100000 ≤ gt t i ∧ gt t i ≤ 100000 := by
  by_cases hi : i < t.length
  · exact gt_mem (p := fun z => -100000 ≤ z ∧ z ≤ 100000) h hi
  · rw [gt_out (by omega)]; omega
theorem mul_le {a b A B : Int} (ha : -A ≤ a ∧ a ≤ A) (hb : 0 ≤ b ∧ b ≤ B) : -(A * B) ≤ a * b ∧ a * b ≤ A * B := by
  have hA : 0 ≤ A := by omega
  have e1 : a * b ≤ A * b := Int.mul_le_mul_of_nonneg_right ha.2 hb.1
  have e2 : A * b ≤ A * B := Int.mul_le_mul_of_nonneg_left hb.2 hA
  have e3 : -A * b ≤ a * b := Int.mul_le_mul_of_nonneg_right ha.1 hb.1
  have e4 : -A * b = -(A * b) := Int.neg_mul ..
  omega
/-- rates and surroundings -/
structure Hr (ar c b : Int) : Prop where
  a : -100000 ≤ ar ∧ ar ≤ 100000
  c : 0 ≤ c ∧ c ≤ 1000
  b : 0 ≤ b ∧ b ≤ 1000
theorem term_bd {t : List Int} (ht : Hot t) {ar c b : Int} (h : Hr ar c b) (i j : Nat) : -200000000 ≤ (gt t j - gt t i) * b ∧ (gt t j - gt t i) * b ≤ 200000000 := by
  have h1 := hot_gt ht i
  have h2 := hot_gt ht j
  have := mul_le (a := gt t j - gt t i) (A := 200000) (by omega) h.b
  omega
theorem first_bd {t : List Int} (ht : Hot t) {ar c b : Int} (h : Hr ar c b) (i : Nat) : -200000000 ≤ (ar - gt t i) * c ∧ (ar - gt t i) * c ≤ 200000000 := by
  have h1 := hot_gt ht i
  have h2 := h.a
  have := mul_le (a := ar - gt t i) (A := 200000) (by omega) h.c
  omega
theorem nbr_bd {t : List Int} (ht : Hot t) {ar c b : Int} (h : Hr ar c b) (i : Nat) : -400000000 ≤ nbr b t i ∧ nbr b t i ≤ 400000000 := by
  have h1 := term_bd ht h i (i - 1)
  have h2 := term_bd ht h i (i + 1)
  unfold nbr
  split <;> split <;> omega
theorem gain_bd {t : List Int} (ht : Hot t) {ar c b : Int} (h : Hr ar c b) (i : Nat) : -600000000 ≤ gain ar c b t i ∧ gain ar c b t i ≤ 600000000 := by
  have h1 := first_bd ht h i
  have h2 := nbr_bd ht h i
  unfold gain; omega
theorem psum_bd {t : List Int} (ht : Hot t) {ar c b : Int} (h : Hr ar c b) (i lo : Nat) : ∀ j : Nat, -(200000000 * (j : Int)) ≤ psum b t i lo j ∧ psum b t i lo j ≤ 200000000 * (j : Int)
  | 0 => by simp [psum]
  | j + 1 => by
    have h1 := psum_bd ht h i lo j
    have h2 := term_bd ht h i (lo + j)
    rw [psum]; push_cast; omega
theorem wlo_int {i : Nat} : (if (0 : Int) > (i : Int) - 1 then 0 else (i : Int) - 1) = (wlo i : Int) := by
  unfold wlo; split <;> omega
theorem whi_int {i n : Nat} : (if (n : Int) < (i : Int) + 2 then (n : Int) else (i : Int) + 2) = (whi i n : Int) := by
  unfold whi; split <;> split <;> omega
theorem whi_le {i n : Nat} : whi i n ≤ n := by unfold whi; split <;> omega
theorem wlo_le {i n : Nat} (h : i < n) : wlo i < whi i n ∧ wlo i ≤ i ∧ whi i n - wlo i ≤ 3 := by unfold whi wlo; split <;> omega
/-- the temperatures that are found so far -/
abbrev hvs (ar c b : Int) (t : List Int) (n : Nat) : List Int := (List.range n).map (hv ar c b t)
theorem rg_snoc (f : Nat → Int) (n : Nat) : vi ((List.range n).map f) ++ [vI (f n)] = vi ((List.range (n + 1)).map f) := by
  rw [List.range_succ, List.map_append, vi, vi, List.map_append]; rfl
theorem rg_take (f : Nat → Int) (n : Nat) : List.take (n * 1) (List.drop 0 (vi ((List.range n).map f))) = vi ((List.range n).map f) := by
  rw [List.drop_zero, List.take_of_length_le (by simp)]
abbrev heO (ar c b : Int) (t : List Int) (c1 c2 : Nat) : Nat → Slots × Blocks
  | 0 => zHe1 t.length c1 t.length c2 t.length 0 (vi t) ar c b
  | i + 1 => zHe6 t.length c1 (i + 1) t.length c2 t.length ((i + 1 : Nat) : Int) (vi t) ar c b (vi (hvs ar c b t (i + 1)))
abbrev heI (ar c b : Int) (t : List Int) (c1 c2 : Nat) : Nat → Nat → Slots × Blocks
  | 0, j => zHe3 t.length c1 (gt t 0) ((ar - gt t 0) * c + psum b t 0 (wlo 0) j) t.length c2 t.length 0 (wlo 0) (whi 0 t.length - wlo 0) (c1 - wlo 0) ((whi 0 t.length - wlo 0 : Nat) : Int) j (vi t) ar c b
  | i + 1, j => zHe8 t.length c1 (i + 1) (gt t (i + 1)) ((ar - gt t (i + 1)) * c + psum b t (i + 1) (wlo (i + 1)) j) t.length c2 t.length ((i + 1 : Nat) : Int) (wlo (i + 1)) (whi (i + 1) t.length - wlo (i + 1)) (c1 - wlo (i + 1)) ((whi (i + 1) t.length - wlo (i + 1) : Nat) : Int) j (vi t) ar c b (vi (hvs ar c b t (i + 1)))
theorem conHe {t : List Int} (ht : Hot t) {ar c b : Int} (h : Hr ar c b) (h0 : 0 < t.length) (hn : t.length ≤ 1000) :
    C5 108 [.sl t.length 1 (vi t), .agg [dI ar, dI c, dI b]] [.sl t.length 1 (vi (heatT ar c b t))] := by
  refine con_J hok mixed [] (L := fun _ s bl => ∃ y : Nat × Nat × Nat, (y.1 ≤ t.length ∧ t.length ≤ y.2.1) ∧ heO ar c b t y.2.1 y.2.2 y.1 = (s, bl)) Try.func108 rfl (by show 1 ≤ 400; omega) rfl (pts := [0]) (loops := [0]) (by kernel_rfl) (by kernel_rfl) (fun caps hcap => ?_) (fun id q1 q2 => absurd q1 q2) (fun id hid => ?_)
  · show gHe _ _ t.length (caps 500) (vi t) ar c b _
    rw [gHe_text]
    have hc : t.length ≤ caps 500 := by simp [capsL, layVals, layCells, countC] at hcap; exact hcap
    exact ⟨(0, caps 500, caps 500), ⟨Nat.zero_le _, hc⟩, rfl⟩
  · obtain rfl := List.mem_singleton.1 hid
    refine ⟨⟨Nat × Nat × Nat, fun y => heO ar c b t y.2.1 y.2.2 y.1, fun y => y.1 ≤ t.length ∧ t.length ≤ y.2.1, fun y => t.length - y.1, fun s bl h => h, [2], [2], by kernel_rfl, by kernel_rfl, ?_⟩⟩
    rintro ⟨i, c1, c2⟩ ⟨hi, hc1⟩
    have hi : i ≤ t.length := hi
    have hc1 : t.length ≤ c1 := hc1
    by_cases hlt : i < t.length
    · -- a temperature
      have hw := wlo_le hlt
      have hw2 := whi_le (i := i) (n := t.length)
      have g1 := hot_gt ht i
      have hf := first_bd ht h i
      have hra := h.a
      have e1 : IntKind.wrap .i64 ((i : Int) + 2) = (i : Int) + 2 := w64 (by omega) (by omega)
      have e2 : IntKind.wrap .i64 ((i : Int) - 1) = (i : Int) - 1 := w64 (by omega) (by omega)
      have e3 : IntKind.wrap .i64 (IntKind.wrap .i64 (ar - gt t i) * c) = (ar - gt t i) * c := by rw [w64 (z := ar - gt t i) (by omega) (by omega), w64 (by omega) (by omega)]
      have hat : At (vi t) (0 + i * 1) 1 [vI (gt t i)] := by rw [← gt_at hlt]; exact vi_at t i hlt
      have hcw : ¬ c1 = wlo i := by omega
      refine ⟨fun _ s bl => ∃ j, j ≤ whi i t.length - wlo i ∧ heI ar c b t c1 c2 i j = (s, bl), ?_, fun id2 q1 q2 => absurd q1 q2, fun id2 hid2 => ?_⟩
      · cases i with
        | zero =>
          show rHe1 _ _ t.length c1 t.length c2 t.length ((0 : Nat) : Int) (vi t) ar c b _ _ _
          rw [rHe1_text]
          simp only [e1, e2, e3, wlo_int, whi_int, Int.toNat_natCast, bc_t (show ((0 : Nat) : Int) < (t.length : Int) by omega), bc_t (show (0 : Int) ≤ ((0 : Nat) : Int) by omega), at1 hat, bc_t (show (0 : Int) ≤ (whi 0 t.length : Int) by omega), bc_t (show (whi 0 t.length : Int) ≤ (c1 : Int) by omega), bc_t (show (0 : Int) ≤ (wlo 0 : Int) by omega), bc_t (show (wlo 0 : Int) ≤ (whi 0 t.length : Int) by omega)]
          refine bc_beq (fun hh => absurd hh hcw) (fun _ => ⟨0, Nat.zero_le _, ?_⟩)
          show zHe3 _ _ _ ((ar - gt t 0) * c + 0) _ _ _ _ _ _ _ _ _ _ _ _ _ = _
          rw [Int.add_zero]; rfl
        | succ i =>
          show rHe6 _ _ t.length c1 (i + 1) t.length c2 t.length ((i + 1 : Nat) : Int) (vi t) ar c b (vi (hvs ar c b t (i + 1))) _ _ _
          rw [rHe6_text]
          simp only [e1, e2, e3, wlo_int, whi_int, Int.toNat_natCast, bc_t (show ((i + 1 : Nat) : Int) < (t.length : Int) by omega), bc_t (show (0 : Int) ≤ ((i + 1 : Nat) : Int) by omega), at1 hat, bc_t (show (0 : Int) ≤ (whi (i + 1) t.length : Int) by omega), bc_t (show (whi (i + 1) t.length : Int) ≤ (c1 : Int) by omega), bc_t (show (0 : Int) ≤ (wlo (i + 1) : Int) by omega), bc_t (show (wlo (i + 1) : Int) ≤ (whi (i + 1) t.length : Int) by omega)]
          refine bc_beq (fun hh => absurd hh hcw) (fun _ => ⟨0, Nat.zero_le _, ?_⟩)
          show zHe8 _ _ _ _ ((ar - gt t (i + 1)) * c + 0) _ _ _ _ _ _ _ _ _ _ _ _ _ _ = _
          rw [Int.add_zero, Nat.zero_add, Nat.mul_one]; rfl
      · obtain rfl := List.mem_singleton.1 hid2
        refine ⟨⟨Nat, heI ar c b t c1 c2 i, fun j => j ≤ whi i t.length - wlo i, fun j => whi i t.length - wlo i - j, fun s bl h => h, [], by kernel_rfl, by kernel_rfl, fun j hj => ⟨fun _ _ _ => False, ?_, fun id3 h3 => by cases h3⟩⟩⟩
        have hp := psum_bd ht h i (wlo i) j
        have hp2 := psum_bd ht h i (wlo i) (j + 1)
        have ht2 := term_bd ht h i (wlo i + j)
        have g2 := hot_gt ht (wlo i + j)
        have wj : j < whi i t.length - wlo i → IntKind.wrap .i64 ((j : Int) + 1) = ((j + 1 : Nat) : Int) := fun _ => by rw [w64 (by omega) (by omega)]; rfl
        have step : j < whi i t.length - wlo i → IntKind.wrap .i64 ((ar - gt t i) * c + psum b t i (wlo i) j + IntKind.wrap .i64 (IntKind.wrap .i64 (gt t (wlo i + j) - gt t i) * b)) = (ar - gt t i) * c + psum b t i (wlo i) (j + 1) := fun hj' => by
          rw [w64 (z := gt t (wlo i + j) - gt t i) (by omega) (by omega), w64 (z := (gt t (wlo i + j) - gt t i) * b) (by omega) (by omega), psum]
          rw [psum] at hp2
          rw [w64 (by omega) (by omega)]; omega
        have hatj : j < whi i t.length - wlo i → At (vi t) (wlo i + j * 1) 1 [vI (gt t (wlo i + j))] := fun hj' => by
          have h3 : wlo i + j < t.length := by omega
          have := vi_at t (wlo i + j) h3
          rw [← gt_at h3]
          rw [Nat.zero_add, Nat.mul_one] at this
          rw [Nat.mul_one]; exact this
        have fin : j = whi i t.length - wlo i → (ar - gt t i) * c + psum b t i (wlo i) j = gain ar c b t i := fun hj' => by rw [hj', psum_all hlt]; rfl
        have hg := gain_bd ht h i
        have hwv : IntKind.wrap .i64 (gt t i + gain ar c b t i / 1000) = hv ar c b t i := by rw [w64 (by omega) (by omega)]; rfl
        have wi : IntKind.wrap .i64 ((i : Int) + 1) = ((i + 1 : Nat) : Int) := by rw [w64 (by omega) (by omega)]; rfl
        cases i with
        | zero =>
          show rHe3 _ _ t.length c1 (gt t 0) ((ar - gt t 0) * c + psum b t 0 (wlo 0) j) t.length c2 t.length ((0 : Nat) : Int) (wlo 0) (whi 0 t.length - wlo 0) (c1 - wlo 0) ((whi 0 t.length - wlo 0 : Nat) : Int) j (vi t) ar c b _ _ _
          rw [rHe3_text]
          refine bc_dec (fun hj1 => ?_) (fun hj1 => ?_)
          · have hj2 : j < whi 0 t.length - wlo 0 := by omega
            simp only [bc_t hj1, bc_t (show (0 : Int) ≤ (j : Int) by omega), Int.toNat_natCast, at1 (hatj hj2), step hj2, wj hj2]
            exact ⟨j + 1, hj2, by omega, rfl⟩
          · show (if 2 = 2 then _ else _)
            rw [if_pos rfl]
            show iHe5 _ _ t.length c1 (gt t 0) ((ar - gt t 0) * c + psum b t 0 (wlo 0) j) t.length c2 t.length ((0 : Nat) : Int) (vi t) ar c b _ _ _
            rw [iHe5_text, fin (by omega)]
            refine ⟨_, ⟨conPa _ (by omega)⟩, ?_⟩
            rw [hwv, wi]
            exact ⟨(1, c1, c2), ⟨hlt, hc1⟩, by show t.length - 1 < t.length - 0; omega, rfl⟩
        | succ i =>
          show rHe8 _ _ t.length c1 (i + 1) (gt t (i + 1)) ((ar - gt t (i + 1)) * c + psum b t (i + 1) (wlo (i + 1)) j) t.length c2 t.length ((i + 1 : Nat) : Int) (wlo (i + 1)) (whi (i + 1) t.length - wlo (i + 1)) (c1 - wlo (i + 1)) ((whi (i + 1) t.length - wlo (i + 1) : Nat) : Int) j (vi t) ar c b (vi (hvs ar c b t (i + 1))) _ _ _
          rw [rHe8_text]
          refine bc_dec (fun hj1 => ?_) (fun hj1 => ?_)
          · have hj2 : j < whi (i + 1) t.length - wlo (i + 1) := by omega
            simp only [bc_t hj1, bc_t (show (0 : Int) ≤ (j : Int) by omega), Int.toNat_natCast, at1 (hatj hj2), step hj2, wj hj2]
            exact ⟨j + 1, hj2, by omega, rfl⟩
          · show (if 2 = 2 then _ else _)
            rw [if_pos rfl]
            show iHe10 _ _ t.length c1 (i + 1) (gt t (i + 1)) ((ar - gt t (i + 1)) * c + psum b t (i + 1) (wlo (i + 1)) j) t.length c2 t.length ((i + 1 : Nat) : Int) (vi t) ar c b (vi (hvs ar c b t (i + 1))) _ _ _
            rw [iHe10_text, fin (by omega)]
            refine ⟨_, ⟨conPa _ (by omega)⟩, ?_⟩
            refine bc_yes (by omega) (bc_yes (by omega) (bc_yes (by omega) (bc_yes (by simp) (bc_yes (by simp) ?_))))
            rw [hwv, wi, rg_take, rg_snoc]
            exact ⟨(i + 2, c1, c2), ⟨hlt, hc1⟩, by show t.length - (i + 2) < t.length - (i + 1); omega, rfl⟩
    · -- all are done
      have hil : i = t.length := by omega
      refine ⟨fun _ _ _ => False, ?_, fun id2 q1 q2 => absurd q1 q2, fun id2 hid2 => ?_⟩
      · cases i with
        | zero => omega
        | succ i =>
          show rHe6 _ _ t.length c1 (i + 1) t.length c2 t.length ((i + 1 : Nat) : Int) (vi t) ar c b (vi (hvs ar c b t (i + 1))) _ _ _
          rw [rHe6_text]
          refine bc_no (by omega) ?_
          show (if 0 = 0 then _ else _)
          rw [if_pos rfl]
          show nHe9 _ _ (i + 1) (vi (hvs ar c b t (i + 1))) _
          rw [nHe9_text]
          refine ⟨⟨rfl, by simp⟩, ?_⟩
          show _ = _
          rw [heatT, ← hil]
      · obtain rfl := List.mem_singleton.1 hid2
        exact ⟨⟨Nat, fun _ => ([], []), fun _ => False, fun _ => 0, fun s bl h => h.elim, [], by kernel_rfl, by kernel_rfl, fun j hj => hj.elim⟩⟩
end Go.Proofs.G5f

/- Chapter 7: temperatures after steps, in data. -/
namespace Go.Proofs.G5f
open Go Go.Abs Go.Proofs Go.Proofs.G7
set_option maxRecDepth 100000
theorem m5 : (-(99999 + 1) : Int) = -100000 := by decide
def heatE (ar c b : Int) : Int := if (-100000 ≤ ar ∧ ar ≤ 100000) ∧ (0 ≤ c ∧ c ≤ 1000) ∧ (0 ≤ b ∧ b ≤ 1000) then (if c + 2 * b > 1000 then 22 else 0) else 2
theorem heatE_ok {ar c b : Int} : heatE ar c b = 0 ↔ Hr ar c b ∧ Rt c b := by
  unfold heatE
  constructor
  · intro h
    split at h
    · rename_i hc
      split at h
      · omega
      · exact ⟨⟨hc.1, hc.2.1, hc.2.2⟩, ⟨by omega, by omega, by omega⟩⟩
    · omega
  · rintro ⟨h1, h2⟩
    have := h2.s
    rw [if_pos ⟨h1.a, h1.c, h1.b⟩, if_neg (by omega)]
theorem wit2_say {lo hi e x y : Int} : Says witC 0 [dI lo, dI hi, dI e, .sl 2 1 [vI x, vI y]] [dI (if (lo ≤ x ∧ x ≤ hi) ∧ (lo ≤ y ∧ y ≤ hi) then 0 else e)] := ⟨by
  show (if (lo ≤ x ∧ x ≤ hi) ∧ (lo ≤ y ∧ y ≤ hi) then 0 else e) = witE lo hi e [.int .i64 x, .int .i64 y]
  simp only [witE]
  repeat' split
  all_goals first | rfl | omega⟩
theorem conCH (ar c b : Int) : C5 106 [.agg [dI ar, dI c, dI b]] [dI (heatE ar c b)] := by
  refine con_flat hok mixed Try.func106 rfl (by show 0 ≤ 400; omega) rfl (by kernel_rfl) (fun caps => ?_)
  show gCH _ _ ar c b _
  rw [gCH_text]
  simp only [eq_self, true_and, m5]
  refine ⟨_, wit_rng, _, wit2_say, _, ⟨conFE [rngE (-100000) 100000 2 ar, if (0 ≤ c ∧ c ≤ 1000) ∧ (0 ≤ b ∧ b ≤ 1000) then 0 else 2] (by simp)⟩, ?_⟩
  rw [fst0_two]
  by_cases h1 : -100000 ≤ ar ∧ ar ≤ 100000
  · by_cases h2 : (0 ≤ c ∧ c ≤ 1000) ∧ (0 ≤ b ∧ b ≤ 1000)
    · rw [rngE_yes h1, if_pos rfl, if_pos h2]
      refine bc_beq (fun _ => ?_) (fun h => absurd rfl h)
      rw [w64 (z := 2 * b) (by omega) (by omega), w64 (by omega) (by omega)]
      refine bc_dec (fun h3 => ?_) (fun h3 => ?_)
      · show _ = _; rw [heatE, if_pos ⟨h1, h2⟩, if_pos h3]
      · show _ = _; rw [heatE, if_pos ⟨h1, h2⟩, if_neg h3]
    · rw [rngE_yes h1, if_pos rfl, if_neg h2]
      refine bc_beq (fun h => absurd h (by decide)) (fun h => ?_)
      show _ = _; rw [heatE, if_neg (fun h => h2 h.2)]
  · rw [rngE_no h1, if_neg (by decide)]
    refine bc_beq (fun h => absurd h (by decide)) (fun h => ?_)
    show _ = _; rw [heatE, if_neg (fun h => h1 h.1)]
instance hotD (t : List Int) : Decidable (Hot t) := inferInstanceAs (Decidable (∀ z ∈ t, -100000 ≤ z ∧ z ≤ 100000))
/-- the error of temperatures, of heat and of a number of steps -/
def hotE (t : List Int) : Int := if Hot t then 0 else 2
theorem hotE_yes {t : List Int} (h : Hot t) : hotE t = 0 := if_pos h
theorem hotE_no {t : List Int} (h : ¬ Hot t) : hotE t = 2 := if_neg h
theorem hotE_ok {t : List Int} : hotE t = 0 ↔ Hot t := ⟨fun h => by by_cases hh : Hot t; exact hh; rw [hotE_no hh] at h; omega, hotE_yes⟩
def htE (t : List Int) (ar c b s : Int) : Int := fst0 [cntE t.length 2 9, hotE t, heatE ar c b, rngE 0 200 2 s]
theorem htE_fst {t : List Int} {ar c b s e : Int} (h : cntE t.length 2 9 = e) (he : e ≠ 0) : htE t ar c b s = e := by unfold htE; rw [h, fst0, if_neg he]
theorem htE_snd {t : List Int} {ar c b s : Int} (h : cntE t.length 2 9 = 0) (h2 : ¬ Hot t) : htE t ar c b s = 2 := by unfold htE; rw [h, hotE_no h2, fst0, if_pos rfl, fst0, if_neg (by decide)]
theorem htE_rest {t : List Int} {ar c b s : Int} (h : cntE t.length 2 9 = 0) (h2 : Hot t) : htE t ar c b s = if heatE ar c b = 0 then rngE 0 200 2 s else heatE ar c b := by unfold htE; rw [h, hotE_yes h2, fst0, if_pos rfl, fst0, if_pos rfl, fst0_two]
structure HV (t : List Int) (ar c b s : Int) : Prop where
  n : 2 ≤ t.length ∧ t.length ≤ 9
  t : Hot t
  h : Hr ar c b
  r : Rt c b
  s : 0 ≤ s ∧ s ≤ 200
theorem fst0_zero : ∀ {l : List Int}, fst0 l = 0 ↔ ∀ z ∈ l, z = 0
  | [] => by simp [fst0]
  | x :: r => by
    rw [fst0, List.forall_mem_cons (p := fun z => z = 0), ← fst0_zero (l := r)]
    split
    · rename_i h; simp [h]
    · rename_i h; simp [h]
theorem cntE_ok {n a b : Int} : cntE n a b = 0 ↔ a ≤ n ∧ n ≤ b := by
  unfold cntE; split
  · omega
  · split <;> omega
theorem ite0 {p : Prop} [Decidable p] {e : Int} (he : e ≠ 0) : (if p then 0 else e) = 0 ↔ p := by
  split
  · rename_i h; simp [h]
  · rename_i h; simp [h, he]
theorem htE_ok {t : List Int} {ar c b s : Int} : htE t ar c b s = 0 ↔ HV t ar c b s := by
  unfold htE
  rw [fst0_zero]
  simp only [List.forall_mem_cons, List.not_mem_nil, false_imp_iff, implies_true, and_true]
  rw [cntE_ok, hotE_ok, heatE_ok, rngE0 (by decide)]
  constructor
  · rintro ⟨h1, h2, h3, h4⟩
    exact ⟨by omega, h2, h3.1, h3.2, h4⟩
  · intro h
    exact ⟨by have := h.n; omega, h.t, ⟨h.h, h.r⟩, h.s⟩
def htP (t : List Int) (ar c b s : Int) : List D := if htE t ar c b s = 0 then [.sl t.length 1 (vi (heatsT ar c b s.toNat t)), dI 0] else [.nil, dI (htE t ar c b s)]
theorem heats_hot {t : List Int} {ar c b : Int} (h : Hr ar c b) (r : Rt c b) (ht : Hot t) (n : Nat) : Hot (heatsT ar c b n t) := fun z hz => ⟨heatsT_lo r h.a.1 (fun z hz => (ht z hz).1) z hz, heatsT_hi r h.a.2 (fun z hz => (ht z hz).2) z hz⟩
theorem conHB (t : List Int) (ar c b s : Int) (hn : t.length ≤ 1000) : C5 59 [.sl t.length 1 (vi t), .agg [dI ar, dI c, dI b], dI s] (htP t ar c b s) := by
  let inv : Nat → Prop := fun i => HV t ar c b s ∧ (i : Int) ≤ s
  let st : Nat → Slots × Blocks := fun i => zHB1 t.length s i ar c b (vi (heatsT ar c b i t))
  refine con_of (L := fun _ s b => ∃ x, inv x ∧ st x = (s, b)) hok mixed Try.func59 rfl (by show 1 ≤ 400; omega) rfl (ids := [0]) (by kernel_rfl) rfl (fun caps => ?_) (fun id hid => ?_)
  · show gHB _ _ t.length (caps 500) (vi t) ar c b s _
    rw [gHB_text]
    simp only [eq_self, true_and, m5]
    refine ⟨_, ⟨conCC _ _ _⟩, t, rfl, rfl, by omega, _, ⟨rfl⟩, _, ⟨conCH ar c b⟩, _, wit_rng, _, ⟨conFE [cntE t.length 2 9, witE (-100000) 100000 2 (vi t), heatE ar c b, rngE 0 200 2 s] (by simp)⟩, ?_⟩
    have he : fst0 [cntE t.length 2 9, witE (-100000) 100000 2 (vi t), heatE ar c b, rngE 0 200 2 s] = htE t ar c b s := by rw [witE_all]; rfl
    rw [he]
    refine bc_bne (fun h => ?_) (fun h => ?_)
    · show _ = _; rw [htP, if_neg h]
    · have hv := htE_ok.1 h
      refine bc_yes (by simp) ⟨?_, 0, ⟨hv, hv.s.1⟩, ?_⟩
      · rw [vi_whole]; exact ⟨conCl t (by omega)⟩
      · rw [vi_whole]; rfl
  · obtain rfl := List.mem_singleton.1 hid
    refine ⟨Nat, st, inv, fun i => s.toNat - i, ⟨fun s b h => h, by kernel_rfl, ?_⟩⟩
    rintro i ⟨hv, hi⟩
    have hs := hv.s
    show rHB1 _ _ t.length s i ar c b (vi (heatsT ar c b i t)) _ _ _
    rw [rHB1_text]
    refine bc_dec (fun h => ?_) (fun h => ?_)
    · have hh := heats_hot hv.h hv.r hv.t i
      have := conHe hh hv.h (by rw [heatsT_length]; have := hv.n; omega) (by rw [heatsT_length]; omega)
      have e1 := vi_whole (heatsT ar c b i t)
      rw [heatsT_length] at this e1
      refine bc_yes (by simp) (.inr ⟨t.length, vi (heatT ar c b (heatsT ar c b i t)), ?_, i + 1, ⟨hv, by push_cast; omega⟩, by omega, ?_⟩)
      · rw [e1]; exact ⟨this⟩
      · rw [w64 (by omega) (by omega), ← heatsT_succ]; rfl
    · show (if 0 = 0 then _ else _)
      rw [if_pos rfl]
      show nHB3 _ _ t.length (vi (heatsT ar c b i t)) _
      rw [nHB3_text]
      refine ⟨⟨rfl, by simp⟩, ?_⟩
      have : s.toNat = i := by omega
      show _ = _
      rw [htP, if_pos (htE_ok.2 hv), this]
theorem conRHn (ar c b s : Int) : C5 60 [.nil, .agg [dI ar, dI c, dI b], dI s] [dI 10] := by
  refine con_of (L := fun _ _ _ => False) hok mixed Try.func60 rfl (by show 0 ≤ 400; omega) rfl (ids := [0]) (by kernel_rfl) rfl (fun caps => ?_) (fun id hid => ?_)
  · show gRHn _ _ ar c b s _
    rw [gRHn_text]
  · obtain rfl := List.mem_singleton.1 hid
    exact ⟨Nat, fun _ => ([], []), fun _ => False, fun _ => 0, ⟨fun s b h => h.elim, by kernel_rfl, fun j hj => hj.elim⟩⟩
theorem conRH (t : List Int) (ar c b s : Int) (hn : t.length ≤ 1000) : C5 60 [.sl t.length 1 (vi t), .agg [dI ar, dI c, dI b], dI s] [dI (htE t ar c b s)] := by
  let inv : Nat × Nat → Prop := fun x => x.1 ≤ t.length ∧ cntE t.length 2 9 = 0 ∧ (Hot t ↔ ∀ z ∈ t.drop x.1, -100000 ≤ z ∧ z ≤ 100000)
  let st : Nat × Nat → Slots × Blocks := fun x => zRH1 t.length x.2 s x.1 (vi t) ar c b
  refine con_of (L := fun _ s b => ∃ x, inv x ∧ st x = (s, b)) hok mixed Try.func60 rfl (by show 1 ≤ 400; omega) rfl (ids := [0]) (by kernel_rfl) rfl (fun caps => ?_) (fun id hid => ?_)
  · show gRH _ _ t.length (caps 500) (vi t) ar c b s _
    rw [gRH_text]
    refine bc_dec (fun h => ?_) (fun h => bc_dec (fun h2 => ?_) (fun h2 => ?_))
    · show [dI 10] = [dI _]
      have : cntE t.length 2 9 = 10 := by rw [cntE, if_pos h]
      rw [htE_fst this (by decide)]
    · show [dI 8] = [dI _]
      have : cntE t.length 2 9 = 8 := by rw [cntE, if_neg h, if_pos h2]
      rw [htE_fst this (by decide)]
    · have : cntE t.length 2 9 = 0 := by rw [cntE, if_neg h, if_neg h2]
      exact ⟨(0, caps 500), ⟨Nat.zero_le _, this, Iff.rfl⟩, rfl⟩
  · obtain rfl := List.mem_singleton.1 hid
    refine ⟨Nat × Nat, st, inv, fun x => t.length - x.1, ⟨fun s b h => h, by kernel_rfl, ?_⟩⟩
    rintro ⟨i, cap⟩ ⟨hi, hc, hr⟩
    simp only at hi hr
    show rRH1 _ _ t.length cap s i (vi t) ar c b _ _ _
    rw [rRH1_text, m5]
    refine bc_dec (fun h => ?_) (fun h => ?_)
    · have hi' : i < t.length := by omega
      simp only [bc_t h, bc_t (show (0 : Int) ≤ (i : Int) by omega), Int.toNat_natCast, at1 (vi_at t i hi')]
      rw [List.drop_eq_getElem_cons hi', List.forall_mem_cons (p := fun z => -100000 ≤ z ∧ z ≤ 100000)] at hr
      by_cases hx : -100000 ≤ t[i] ∧ t[i] ≤ 100000
      · refine .inl ⟨sayWt hx, (i + 1, cap), ⟨hi', hc, hr.trans ⟨fun h => h.2, fun h => ⟨hx, h⟩⟩⟩, by show t.length - (i + 1) < t.length - i; omega, ?_⟩
        rw [w64 (by omega) (by omega)]; rfl
      · refine .inr ⟨sayWf hx, ?_⟩
        show [dI 2] = [dI _]
        have : ¬ Hot t := fun hh => hx (hr.1 hh).1
        rw [htE_snd hc this]
    · show (if 0 = 0 then _ else _)
      rw [if_pos rfl]
      show nRH2 _ _ s ar c b _
      have hot : Hot t := hr.2 (by rw [List.drop_eq_nil_of_le (by omega)]; intro z hz; cases hz)
      rw [nRH2_text, m5]
      rw [htE_rest hc hot]
      by_cases h1 : -100000 ≤ ar ∧ ar ≤ 100000
      · refine .inl ⟨sayWt h1, ?_⟩
        by_cases h2 : 0 ≤ c ∧ c ≤ 1000
        · refine .inl ⟨sayWt h2, ?_⟩
          by_cases h3 : 0 ≤ b ∧ b ≤ 1000
          · refine .inl ⟨sayWt h3, ?_⟩
            rw [w64 (z := 2 * b) (by omega) (by omega), w64 (by omega) (by omega)]
            refine bc_dec (fun h4 => ?_) (fun h4 => ?_)
            · have e0 : heatE ar c b = 22 := by rw [heatE, if_pos ⟨h1, h2, h3⟩, if_pos h4]
              show _ = _; rw [e0, if_neg (by decide)]
            · have e0 : heatE ar c b = 0 := by rw [heatE, if_pos ⟨h1, h2, h3⟩, if_neg h4]
              rw [e0, if_pos rfl]
              by_cases h5 : 0 ≤ s ∧ s ≤ 200
              · exact .inl ⟨sayWt h5, by show _ = _; rw [rngE_yes h5]⟩
              · exact .inr ⟨sayWf h5, by show _ = _; rw [rngE_no h5]⟩
          · exact .inr ⟨sayWf h3, by have e0 : heatE ar c b = 2 := (by rw [heatE, if_neg (fun h => h3 h.2.2)]); show _ = _; rw [e0, if_neg (by decide)]⟩
        · exact .inr ⟨sayWf h2, by have e0 : heatE ar c b = 2 := (by rw [heatE, if_neg (fun h => h2 h.2.1)]); show _ = _; rw [e0, if_neg (by decide)]⟩
      · exact .inr ⟨sayWf h1, by have e0 : heatE ar c b = 2 := (by rw [heatE, if_neg (fun h => h1 h.1)]); show _ = _; rw [e0, if_neg (by decide)]⟩
/-- a long list is answered at once -/
theorem conRHl (t : List Int) (ar c b s : Int) (hn : 9 < t.length) : C5 60 [.sl t.length 1 (vi t), .agg [dI ar, dI c, dI b], dI s] [dI (htE t ar c b s)] := by
  refine con_of (L := fun _ _ _ => False) hok mixed Try.func60 rfl (by show 1 ≤ 400; omega) rfl (ids := [0]) (by kernel_rfl) rfl (fun caps => ?_) (fun id hid => ?_)
  · show gRH _ _ t.length (caps 500) (vi t) ar c b s _
    rw [gRH_text]
    refine bc_no (by omega) (bc_yes (by omega) ?_)
    show [dI 8] = [dI _]
    have : cntE t.length 2 9 = 8 := by rw [cntE, if_neg (by omega), if_pos (by omega)]
    rw [htE_fst this (by decide)]
  · obtain rfl := List.mem_singleton.1 hid
    exact ⟨Nat, fun _ => ([], []), fun _ => False, fun _ => 0, ⟨fun s b h => h.elim, by kernel_rfl, fun j hj => hj.elim⟩⟩
end Go.Proofs.G5f

/- Chapter 7: temperatures after steps by the definition, in data. -/
namespace Go.Proofs.G5f
open Go Go.Abs Go.Proofs Go.Proofs.G7
set_option maxRecDepth 100000
abbrev hdO (ar c b s : Int) (t : List Int) (c1 : Nat) : Nat → Slots × Blocks
  | 0 => zHd1 t.length c1 s 0 (vi t) ar c b
  | n + 1 => zHd8 t.length s ((n + 1 : Nat) : Int) (vi (heatsT ar c b (n + 1) t)) ar c b
abbrev hdI (ar c b s : Int) (t : List Int) (c1 : Nat) : Nat → Nat → Slots × Blocks
  | 0, 0 => zHd2 t.length c1 s 0 0 (vi t) ar c b
  | 0, i + 1 => zHd4 t.length c1 s 0 (i + 1) ((i + 1 : Nat) : Int) (vi t) ar c b (vi (hvs ar c b t (i + 1)))
  | n + 1, 0 => zHd11 t.length s ((n + 1 : Nat) : Int) 0 (vi (heatsT ar c b (n + 1) t)) ar c b
  | n + 1, i + 1 => zHd13 t.length s ((n + 1 : Nat) : Int) (i + 1) ((i + 1 : Nat) : Int) (vi (heatsT ar c b (n + 1) t)) ar c b (vi (hvs ar c b (heatsT ar c b (n + 1) t) (i + 1)))
/-- what a round needs of the temperatures -/
structure Rd (u : List Int) (ar c b : Int) (i : Nat) : Prop where
  e0 : IntKind.wrap .i64 (IntKind.wrap .i64 (ar - gt u i) * c) = (ar - gt u i) * c
  e1 : ∀ p, IntKind.wrap .i64 (IntKind.wrap .i64 (gt u p - gt u i) * b) = (gt u p - gt u i) * b
  s1 : ∀ p, IntKind.wrap .i64 ((ar - gt u i) * c + (gt u p - gt u i) * b) = (ar - gt u i) * c + (gt u p - gt u i) * b
  s2 : ∀ p q, IntKind.wrap .i64 ((ar - gt u i) * c + (gt u p - gt u i) * b + (gt u q - gt u i) * b) = (ar - gt u i) * c + (gt u p - gt u i) * b + (gt u q - gt u i) * b
  g : -600000000 ≤ gain ar c b u i ∧ gain ar c b u i ≤ 600000000
  wv : IntKind.wrap .i64 (gt u i + gain ar c b u i / 1000) = hv ar c b u i
  f : C5 109 [dI (gain ar c b u i), dI 1000] [dI (gain ar c b u i / 1000)]
theorem rd_of {u : List Int} {ar c b : Int} (hu : Hot u) (h : Hr ar c b) (i : Nat) : Rd u ar c b i := by
  have g0 := hot_gt hu i
  have ha := h.a
  have h1 := first_bd hu h i
  have hg := gain_bd hu h i
  refine ⟨?_, fun p => ?_, fun p => ?_, fun p q => ?_, hg, ?_, conFl _ _ (by omega) (by omega)⟩
  · rw [w64 (z := ar - gt u i) (by omega) (by omega), w64 (by omega) (by omega)]
  · have g1 := hot_gt hu p
    have h2 := term_bd hu h i p
    rw [w64 (z := gt u p - gt u i) (by omega) (by omega), w64 (by omega) (by omega)]
  · have h2 := term_bd hu h i p
    rw [w64 (by omega) (by omega)]
  · have h2 := term_bd hu h i p
    have h3 := term_bd hu h i q
    rw [w64 (by omega) (by omega)]
  · rw [w64 (by omega) (by omega)]; rfl
theorem at_gt {u : List Int} {i : Nat} (h : i < u.length) : At (vi u) (0 + i * 1) 1 [vI (gt u i)] := by rw [← gt_at h]; exact vi_at u i h
theorem gain_first {u : List Int} {ar c b : Int} (h : 2 ≤ u.length) : gain ar c b u 0 = (ar - gt u 0) * c + (gt u 1 - gt u 0) * b := by
  unfold gain nbr; rw [if_neg (by omega), if_pos (by omega)]; show _ + (0 + (gt u 1 - gt u 0) * b) = _; omega
theorem gain_mid {u : List Int} {ar c b : Int} {i : Nat} (h : i + 2 < u.length) : gain ar c b u (i + 1) = (ar - gt u (i + 1)) * c + (gt u i - gt u (i + 1)) * b + (gt u (i + 2) - gt u (i + 1)) * b := by
  unfold gain nbr; rw [if_pos (by omega), if_pos (by omega), Nat.add_sub_cancel]; show _ + (_ + (gt u (i + 2) - gt u (i + 1)) * b) = _; omega
theorem gain_last {u : List Int} {ar c b : Int} {i : Nat} (h : i + 2 = u.length) : gain ar c b u (i + 1) = (ar - gt u (i + 1)) * c + (gt u i - gt u (i + 1)) * b := by
  unfold gain nbr; rw [if_pos (by omega), if_neg (by omega), Nat.add_sub_cancel]; omega
theorem conHd {t : List Int} {ar c b s : Int} (hv0 : HV t ar c b s) : C5 61 [.sl t.length 1 (vi t), .agg [dI ar, dI c, dI b], dI s] [.sl t.length 1 (vi (heatsT ar c b s.toNat t))] := by
  have hs := hv0.s
  have hn := hv0.n
  refine con_J hok mixed [] (L := fun _ s' bl => ∃ y : Nat × Nat, (y.1 : Int) ≤ s ∧ hdO ar c b s t y.2 y.1 = (s', bl)) Try.func61 rfl (by show 1 ≤ 400; omega) rfl (pts := [0]) (loops := [0]) (by kernel_rfl) (by kernel_rfl) (fun caps _ => ?_) (fun id q1 q2 => absurd q1 q2) (fun id hid => ?_)
  · show gHd _ _ t.length (caps 500) (vi t) ar c b s _
    rw [gHd_text]
    exact ⟨(0, caps 500), hs.1, rfl⟩
  · obtain rfl := List.mem_singleton.1 hid
    refine ⟨⟨Nat × Nat, fun y => hdO ar c b s t y.2 y.1, fun y => (y.1 : Int) ≤ s, fun y => s.toNat - y.1, fun s' bl h => h, [2], [2], by kernel_rfl, by kernel_rfl, ?_⟩⟩
    rintro ⟨n, c1⟩ hns
    have hns : (n : Int) ≤ s := hns
    have hu := heats_hot hv0.h hv0.r hv0.t n
    have hul : (heatsT ar c b n t).length = t.length := heatsT_length
    have wN : IntKind.wrap .i64 ((t.length : Int) - 1) = (t.length : Int) - 1 := w64 (by omega) (by omega)
    by_cases hlt : (n : Int) < s
    · -- one more step
      refine ⟨fun _ s' bl => ∃ i, i ≤ t.length ∧ hdI ar c b s t c1 n i = (s', bl), ?_, fun id2 q1 q2 => absurd q1 q2, fun id2 hid2 => ?_⟩
      · cases n with
        | zero =>
          show rHd1 _ _ t.length c1 s ((0 : Nat) : Int) (vi t) ar c b _ _ _
          rw [rHd1_text, bc_t hlt]
          exact ⟨0, Nat.zero_le _, rfl⟩
        | succ n =>
          show rHd8 _ _ t.length s ((n + 1 : Nat) : Int) (vi (heatsT ar c b (n + 1) t)) ar c b _ _ _
          rw [rHd8_text, bc_t hlt]
          exact ⟨0, Nat.zero_le _, rfl⟩
      · obtain rfl := List.mem_singleton.1 hid2
        refine ⟨⟨Nat, hdI ar c b s t c1 n, fun i => i ≤ t.length, fun i => t.length - i, fun s' bl h => h, [], by kernel_rfl, by kernel_rfl, fun i hi => ⟨fun _ _ _ => False, ?_, fun id3 h3 => by cases h3⟩⟩⟩
        have rd := rd_of hu hv0.h i
        have wi : i < t.length → IntKind.wrap .i64 ((i : Int) + 1) = ((i + 1 : Nat) : Int) := fun h => by rw [w64 (by omega) (by omega)]; rfl
        have fin : i = t.length → ∀ l : List Value, l = vi (hvs ar c b (heatsT ar c b n t) i) → ∀ (B : Bx) (X : Xx) (k : List D → Prop) (L : AtLoop), (∀ s' bl, (∃ z : Nat × Nat, (z.1 : Int) ≤ s ∧ s.toNat - z.1 < s.toNat - n ∧ hdO ar c b s t z.2 z.1 = (s', bl)) → B s' bl) → iHd6 C5 L s n i ar c b l B X k := by
          intro hil l hl B X k L hB
          rw [iHd6_text]
          have e : IntKind.wrap .i64 ((n : Int) + 1) = ((n + 1 : Nat) : Int) := by rw [w64 (by omega) (by omega)]; rfl
          rw [e]
          refine hB _ _ ⟨(n + 1, c1), by push_cast; omega, by omega, ?_⟩
          rw [hl, hil]
          show zHd8 t.length s ((n + 1 : Nat) : Int) (vi (heatsT ar c b (n + 1) t)) ar c b = _
          rw [heatsT_succ, heatT, hul]
        cases n with
        | zero =>
          have at0 := fun (p : Nat) (h : p < t.length) => at_gt (u := t) h
          cases i with
          | zero =>
            show rHd2 _ _ t.length c1 s ((0 : Nat) : Int) ((0 : Nat) : Int) (vi t) ar c b _ _ _
            rw [rHd2_text]
            have rd : Rd t ar c b 0 := rd
            have g1 := gain_first (u := t) (ar := ar) (c := c) (b := b) hn.1
            have f1 := rd.f
            have w1 := rd.wv
            rw [g1] at f1 w1
            have wi := wi (by omega)
            simp only [bc_t (show ((0 : Nat) : Int) < (t.length : Int) by omega), bc_t (show (0 : Int) ≤ ((0 : Nat) : Int) by omega), bc_f (show ¬ ((0 : Nat) : Int) > 0 by omega), bc_t (show ((0 : Nat) : Int) < (t.length : Int) - 1 by omega), bc_t (show (0 : Int) ≤ ((0 + 1 : Nat) : Int) by omega), bc_t (show ((0 + 1 : Nat) : Int) < (t.length : Int) by omega), wN, wi, Int.toNat_natCast, at1 (at0 0 (by omega)), at1 (at0 (0 + 1) (by omega)), rd.e0, rd.e1, rd.s1, rd.s2, eq_self, true_and, and_true]
            refine ⟨_, ⟨f1⟩, 1, by omega, by omega, ?_⟩
            rw [w1]; rfl
          | succ i =>
            show rHd4 _ _ t.length c1 s ((0 : Nat) : Int) (i + 1) ((i + 1 : Nat) : Int) (vi t) ar c b (vi (hvs ar c b t (i + 1))) _ _ _
            rw [rHd4_text]
            have rd : Rd t ar c b (i + 1) := rd
            have wm : IntKind.wrap .i64 (((i + 1 : Nat) : Int) - 1) = (i : Int) := by rw [w64 (by omega) (by omega)]; omega
            refine bc_dec (fun hi1 => ?_) (fun hi1 => ?_)
            · have hi2 : i + 1 < t.length := by omega
              have wi := wi hi2
              simp only [bc_t hi1, bc_t (show (0 : Int) ≤ ((i + 1 : Nat) : Int) by omega), bc_t (show ((i + 1 : Nat) : Int) > 0 by omega), bc_t (show (0 : Int) ≤ (i : Int) by omega), bc_t (show (i : Int) < (t.length : Int) by omega), wm, wN, wi, Int.toNat_natCast, at1 (at0 (i + 1) hi2), at1 (at0 i (by omega)), rd.e0, rd.e1, rd.s1, rd.s2, eq_self, true_and, and_true, bc_t (show i + 1 < i + 1 + 1 by omega), bc_t (show (2 * (i + 1 + 1) + 768) * 8 ≤ 281474976710656 by omega), bc_t (show i + 1 + 1 ≤ 1099511627776 by omega), bc_t (show 0 + (i + 1) * 1 ≤ (vi (hvs ar c b t (i + 1))).length by simp), bc_t (show 0 + (i + 1) * 1 = (vi (hvs ar c b t (i + 1))).length by simp), rg_take]
              have w1 := rd.wv
              have f1 := rd.f
              refine bc_dec (fun hl => ?_) (fun hl => ?_)
              · have g1 := gain_mid (u := t) (ar := ar) (c := c) (b := b) (i := i) (by omega)
                rw [g1] at f1 w1
                simp only [bc_t (show (0 : Int) ≤ ((i + 1 + 1 : Nat) : Int) by omega), bc_t (show ((i + 1 + 1 : Nat) : Int) < (t.length : Int) by omega), Int.toNat_natCast, at1 (at0 (i + 1 + 1) (by omega)), rd.e1, rd.s2, eq_self, true_and, and_true]
                refine ⟨_, ⟨f1⟩, i + 2, by omega, by omega, ?_⟩
                rw [w1, rg_snoc]; rfl
              · have g1 := gain_last (u := t) (ar := ar) (c := c) (b := b) (i := i) (by omega)
                rw [g1] at f1 w1
                refine ⟨_, ⟨f1⟩, i + 2, by omega, by omega, ?_⟩
                rw [w1, rg_snoc]; rfl
            · show (if 2 = 2 then _ else _)
              rw [if_pos rfl]
              exact fin (by omega) _ rfl _ _ _ _ (fun _ _ h => h)
        | succ n =>
          have at0 := fun (p : Nat) (h : p < t.length) => at_gt (u := heatsT ar c b (n + 1) t) (i := p) (by omega)
          cases i with
          | zero =>
            show rHd11 _ _ t.length s ((n + 1 : Nat) : Int) ((0 : Nat) : Int) (vi (heatsT ar c b (n + 1) t)) ar c b _ _ _
            rw [rHd11_text]
            have g1 := gain_first (u := heatsT ar c b (n + 1) t) (ar := ar) (c := c) (b := b) (by omega)
            have f1 := rd.f
            have w1 := rd.wv
            rw [g1] at f1 w1
            have wi := wi (by omega)
            simp only [bc_t (show ((0 : Nat) : Int) < (t.length : Int) by omega), bc_t (show (0 : Int) ≤ ((0 : Nat) : Int) by omega), bc_f (show ¬ ((0 : Nat) : Int) > 0 by omega), bc_t (show ((0 : Nat) : Int) < (t.length : Int) - 1 by omega), bc_t (show (0 : Int) ≤ ((0 + 1 : Nat) : Int) by omega), bc_t (show ((0 + 1 : Nat) : Int) < (t.length : Int) by omega), wN, wi, Int.toNat_natCast, at1 (at0 0 (by omega)), at1 (at0 (0 + 1) (by omega)), rd.e0, rd.e1, rd.s1, rd.s2, eq_self, true_and, and_true]
            refine ⟨_, ⟨f1⟩, 1, by omega, by omega, ?_⟩
            rw [w1]; rfl
          | succ i =>
            show rHd13 _ _ t.length s ((n + 1 : Nat) : Int) (i + 1) ((i + 1 : Nat) : Int) (vi (heatsT ar c b (n + 1) t)) ar c b (vi (hvs ar c b (heatsT ar c b (n + 1) t) (i + 1))) _ _ _
            rw [rHd13_text]
            have wm : IntKind.wrap .i64 (((i + 1 : Nat) : Int) - 1) = (i : Int) := by rw [w64 (by omega) (by omega)]; omega
            refine bc_dec (fun hi1 => ?_) (fun hi1 => ?_)
            · have hi2 : i + 1 < t.length := by omega
              have wi := wi hi2
              simp only [bc_t hi1, bc_t (show (0 : Int) ≤ ((i + 1 : Nat) : Int) by omega), bc_t (show ((i + 1 : Nat) : Int) > 0 by omega), bc_t (show (0 : Int) ≤ (i : Int) by omega), bc_t (show (i : Int) < (t.length : Int) by omega), wm, wN, wi, Int.toNat_natCast, at1 (at0 (i + 1) hi2), at1 (at0 i (by omega)), rd.e0, rd.e1, rd.s1, rd.s2, eq_self, true_and, and_true, bc_t (show i + 1 < i + 1 + 1 by omega), bc_t (show (2 * (i + 1 + 1) + 768) * 8 ≤ 281474976710656 by omega), bc_t (show i + 1 + 1 ≤ 1099511627776 by omega), bc_t (show 0 + (i + 1) * 1 ≤ (vi (hvs ar c b (heatsT ar c b (n + 1) t) (i + 1))).length by simp), bc_t (show 0 + (i + 1) * 1 = (vi (hvs ar c b (heatsT ar c b (n + 1) t) (i + 1))).length by simp), rg_take]
              have w1 := rd.wv
              have f1 := rd.f
              refine bc_dec (fun hl => ?_) (fun hl => ?_)
              · have g1 := gain_mid (u := heatsT ar c b (n + 1) t) (ar := ar) (c := c) (b := b) (i := i) (by omega)
                rw [g1] at f1 w1
                simp only [bc_t (show (0 : Int) ≤ ((i + 1 + 1 : Nat) : Int) by omega), bc_t (show ((i + 1 + 1 : Nat) : Int) < (t.length : Int) by omega), Int.toNat_natCast, at1 (at0 (i + 1 + 1) (by omega)), rd.e1, rd.s2, eq_self, true_and, and_true]
                refine ⟨_, ⟨f1⟩, i + 2, by omega, by omega, ?_⟩
                rw [w1, rg_snoc]
              · have g1 := gain_last (u := heatsT ar c b (n + 1) t) (ar := ar) (c := c) (b := b) (i := i) (by omega)
                rw [g1] at f1 w1
                refine ⟨_, ⟨f1⟩, i + 2, by omega, by omega, ?_⟩
                rw [w1, rg_snoc]
            · show (if 2 = 2 then _ else _)
              rw [if_pos rfl]
              exact fin (by omega) _ rfl _ _ _ _ (fun _ _ h => h)
    · -- all steps are done
      have hsn : s.toNat = n := by omega
      refine ⟨fun _ _ _ => False, ?_, fun id2 q1 q2 => absurd q1 q2, fun id2 hid2 => ?_⟩
      · cases n with
        | zero =>
          show rHd1 _ _ t.length c1 s ((0 : Nat) : Int) (vi t) ar c b _ _ _
          rw [rHd1_text, bc_f hlt]
          show (if 0 = 0 then _ else _)
          rw [if_pos rfl]
          show nHd3 _ _ t.length c1 (vi t) _
          rw [nHd3_text]
          rw [vi_whole, hsn]
          refine bc_yes (by simp) ⟨⟨conCI t (by omega)⟩, ⟨rfl, by simp⟩, rfl⟩
        | succ n =>
          show rHd8 _ _ t.length s ((n + 1 : Nat) : Int) (vi (heatsT ar c b (n + 1) t)) ar c b _ _ _
          rw [rHd8_text, bc_f hlt]
          show (if 0 = 0 then _ else _)
          rw [if_pos rfl]
          show nHd12 _ _ t.length (vi (heatsT ar c b (n + 1) t)) _
          rw [nHd12_text, hsn]
          have e1 := vi_whole (heatsT ar c b (n + 1) t)
          have e2 := conCI (heatsT ar c b (n + 1) t) (by omega)
          rw [hul] at e1 e2
          rw [e1]
          refine bc_yes (by simp) ⟨⟨e2⟩, ⟨rfl, by simp⟩, rfl⟩
      · obtain rfl := List.mem_singleton.1 hid2
        exact ⟨⟨Nat, fun _ => ([], []), fun _ => False, fun _ => 0, fun s bl h => h.elim, [], by kernel_rfl, by kernel_rfl, fun j hj => hj.elim⟩⟩
end Go.Proofs.G5f
