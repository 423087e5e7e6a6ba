/- Texts of the proof, put together: GrYR6, GrYR7, GrYR8. -/
import Derived.Test.YtchgncpfaclccaaP5
import Derived.Test.YtchgncpfaclccaaGrRT2
/- Chapter 6, marks: what is missing, collected, in data. -/
namespace Go.Proofs.G5r
open Go Go.Abs Go.Proofs
set_option maxRecDepth 100000
theorem misF_len {near : Int → Bool} {r last : Int} : ∀ (n : Nat) (a : Int), (misF near r last n a).length ≤ n
  | 0, _ => Nat.le_refl _
  | n + 1, a => by
    rw [misF]
    have := misF_len (near := near) (r := r) (last := last) n (a + r)
    split
    · split
      · omega
      · simp; omega
    · simp
theorem mis_len {l : List Int} {t r ph : Int} (v : VM l t r) : (misM l t r ph).length ≤ 1000001 := by
  have h1 := misF_len (near := nearB l t) (r := r) (last := lastI l) (lastI l + 1 - strt l r ph).toNat (strt l r ph)
  have := last_rng v
  have := strt_rng (ph := ph) v
  unfold misM misA
  omega
abbrev asA (l : List Int) (t r ph : Int) (c : Nat) : List Value := [.slice none 0 0, .func (.func 66) #[] #[.pointer (some ⟨500, 0, none⟩), .pointer (some ⟨501, 0, none⟩)]]
abbrev asB (l : List Int) (t r ph : Int) (c : Nat) : Blocks := [(500, .cells [.slice (some ⟨502, 0, none⟩) l.length c, .int .i64 t, .int .i64 r] 78 false 1), (501, .cells [.int .i64 ph] 3 false 1), (502, .sym (vi l) false 1)]
theorem callAS (l : List Int) (t r ph : Int) (c : Nat) (v : VM l t r) (hp : 0 ≤ ph ∧ ph ≤ 10000) {End : Value → Blocks → Prop}
    (h0 : misM l t r ph = [] → End (.slice none 0 0) []) (h1 : misM l t r ph ≠ [] → End (.slice (some ⟨1000, 0, none⟩) (misM l t r ph).length (misM l t r ph).length) [(1000, .sym (vi (misM l t r ph)) true 1)]) :
    CallS Try.prog 65 (asA l t r ph c) (asB l t r ph c) End := by
  have hn := mis_len (ph := ph) v
  let m : List Int := misM l t r ph
  have hm : m.length ≤ 1000001 := hn
  let st : Nat → Slots × Blocks := fun i => match i with
    | 0 => zAS2
    | i + 1 => zAS4 (i + 1) (vi (m.take (i + 1)))
  refine callS_JR hokM mixed [] (L := fun _ s b => zAS1 l.length c t r ph (vi l) = (s, b)) Try.func65 rfl (.inl rfl) (pts := [50002]) (loops := [50002]) (by kernel_rfl) (by kernel_rfl) ?_ (fun id q1 q2 => absurd q1 q2) (fun id hid hlt => absurd hlt (by obtain rfl := List.mem_singleton.1 hid; decide)) (fun id hid hge => ?_)
  · show gAS C5 _ l.length c (vi l) t r ph _
    rw [gAS_text]
  · obtain rfl := List.mem_singleton.1 hid
    refine ⟨⟨?_⟩⟩
    rintro s b e
    cases e
    show hAS1 l.length c t r ph (vi l) _
    rw [hAS1_text]
    refine ⟨rowsM m, fun rest s b => ∃ i, i ≤ m.length ∧ rest = rowsM (m.drop i) ∧ st i = (s, b), runMi l t r ph c v hp, ⟨0, Nat.zero_le _, rfl, rfl⟩, ?_, ?_⟩
    · rintro row rest s b ⟨i, hi, e1, e2⟩
      have hi2 : i < m.length := by
        refine Nat.lt_of_le_of_ne hi (fun h => ?_)
        rw [h, List.drop_length] at e1; cases e1
      rw [List.drop_eq_getElem_cons hi2] at e1
      obtain ⟨rfl, rfl⟩ := List.cons.inj (show row :: rest = [dI m[i]] :: rowsM (m.drop (i + 1)) from e1)
      have et : vi (m.take (i + 1)) = vi (m.take i) ++ [vI m[i]] := by rw [← List.take_append_getElem hi2]; exact List.map_append
      cases i with
      | zero =>
        cases e2
        show wAS2 C5 m[0] _ _
        rw [wAS2_text]
        intro caps
        refine ⟨1, hi2, rfl, ?_⟩
        show zAS4 1 (vi (m.take 1)) = _
        rw [et]; rfl
      | succ i =>
        cases e2
        show wAS4 C5 (i + 1) (vi (m.take (i + 1))) m[i + 1] _ _
        rw [wAS4_text]
        intro caps
        have el : (vi (m.take (i + 1))).length = (i + 1) * 1 := by simp; omega
        have ew : List.take ((i + 1) * 1) (List.drop 0 (vi (m.take (i + 1)))) = vi (m.take (i + 1)) := by have hlen : (m.take (i + 1)).length = i + 1 := (by rw [List.length_take]; omega); have := vi_whole (m.take (i + 1)); rwa [hlen] at this
        rw [bc_t (show i + 1 < i + 1 + 1 by omega), bc_t (show (2 * (i + 1 + 1) + 768) * 8 ≤ 281474976710656 by omega), bc_t (show i + 1 + 1 ≤ 1099511627776 by omega), bc_t (show 0 + (i + 1) * 1 ≤ (vi (m.take (i + 1))).length by omega), bc_t (show 0 + (i + 1) * 1 = (vi (m.take (i + 1))).length by omega), ew]
        refine ⟨i + 2, hi2, rfl, ?_⟩
        show zAS4 (i + 2) (vi (m.take (i + 2))) = _
        rw [et]
    · rintro s b ⟨i, hi, e1, e2⟩
      have hi2 : i = m.length := Decidable.byContradiction fun h => by
        rw [List.drop_eq_getElem_cons (show i < m.length by omega)] at e1; cases e1
      cases i with
      | zero =>
        cases e2
        show nAS3 C5 _ _
        rw [nAS3_text]
        exact h0 (List.eq_nil_of_length_eq_zero hi2.symm)
      | succ i =>
        cases e2
        show nAS5 C5 _ (i + 1) (vi (m.take (i + 1))) _
        rw [nAS5_text, hi2, List.take_length]
        exact h1 (fun e => by rw [show m = misM l t r ph from rfl, e] at hi2; cases hi2)
/-- (errors of the marks, of the circumference, none) -/
def exE (l : List Int) (t r : Int) : Int := (phE l t r).2.2
theorem phE_ok {l : List Int} {t r : Int} (h : (phE l t r).2.2 = 0) : VM l t r ∧ phE l t r = phV l t r ∧ (phV l t r).2.2 = 0 := by
  unfold phE at h ⊢
  split at h
  · rename_i a; exact absurd h a
  · rename_i a
    split at h
    · rename_i b; exact absurd h b
    · rename_i b
      have a' : (ckM l t).2 = 0 := Decidable.byContradiction a
      have b' : rdE t r = 0 := Decidable.byContradiction b
      rw [if_neg a, if_neg b]
      exact ⟨vm_of a' b', rfl, h⟩
theorem phV_lo {l : List Int} {t r : Int} (v : VM l t r) : 0 ≤ (phV l t r).1 ∧ (phV l t r).1 ≤ 10000 := by
  have := v.rd
  have := mod_sz (n := (ends l t r).1) v.rd.1
  unfold phV; split
  · show (0 : Int) ≤ 0 ∧ (0 : Int) ≤ 10000; omega
  · show 0 ≤ (ends l t r).1 % r ∧ (ends l t r).1 % r ≤ 10000; omega
def exD (l : List Int) (t r : Int) : D := if exE l t r = 0 then lsD (misM l t r (phE l t r).1) else .nil
theorem conEx (l : List Int) (t r : Int) (hl : l.length < 1000000) : C5 11 [mD l t, dI r] [exD l t r, dI (exE l t r)] := by
  refine con_flat hokM mixed Try.func11 rfl (by show 1 ≤ 400; omega) rfl (by kernel_rfl) (fun caps => ?_)
  show gEx _ _ l.length (caps 500) (vi l) t r _
  rw [gEx_text]
  simp only [vi_whole, bc_t (v1le l)]
  refine ⟨_, _, _, ⟨conPO l t r hl⟩, bc_bne (fun h => ?_) (fun h => ?_)⟩
  · show [D.nil, dI _] = [exD l t r, dI (exE l t r)]
    unfold exD
    rw [if_neg (show ¬ exE l t r = 0 from h)]; rfl
  · obtain ⟨v, e, _⟩ := phE_ok h
    have hp := phV_lo v
    rw [← e] at hp
    have he : exE l t r = 0 := h
    by_cases hm : misM l t r (phE l t r).1 = []
    · refine .inl ⟨⟨callAS l t r _ (caps 500) v hp (fun _ => ⟨rfl, rfl⟩) (fun hc => absurd hm hc)⟩, ?_⟩
      show [D.nil, dI 0] = [exD l t r, dI (exE l t r)]
      unfold exD lsD
      rw [if_pos he, if_pos (by rw [hm]; rfl), he]
    · refine .inr ⟨_, _, ⟨callAS l t r _ (caps 500) v hp (fun hc => absurd hc hm) (fun _ => ⟨rfl, rfl⟩)⟩, ⟨by first | trivial | rfl, by simp⟩, ?_⟩
      show [D.sl _ 1 _, dI 0] = [exD l t r, dI (exE l t r)]
      unfold exD lsD
      rw [if_pos he, if_neg (fun hc => hm (List.eq_nil_of_length_eq_zero hc)), he]
end Go.Proofs.G5r

/- Chapter 6, marks: what is missing by the reference, in data. -/
namespace Go.Proofs.G5r
open Go Go.Abs Go.Proofs
set_option maxRecDepth 100000
set_option maxHeartbeats 1000000
theorem bcF' {x y : Prop} : bcase false x y = y := rfl
theorem bcT' {x y : Prop} : bcase true x y = x := rfl
theorem near_take {l : List Int} {i : Nat} (h : i < l.length) (t p : Int) : nearB (l.take (i + 1)) t p = (nearB (l.take i) t p || decide (szI (l[i] - p) ≤ 2 * t)) := by
  rw [← List.take_append_getElem h]; unfold nearB; rw [List.any_append]; simp
theorem conrM (l : List Int) (t r ph : Int) (v : VM l t r) (hp : 0 ≤ ph ∧ ph ≤ 10000) : C5 17 [mD l t, dI r, dI ph] [lsD (misM l t r ph)] := by
  have hl := v.n30
  have h2 := v.n2
  have hF := head_rng v
  have hL := last_rng v
  have hS := strt_rng (ph := ph) v
  have hT := v.tol
  have hR := v.rd
  let A : Int → List Int := misA (nearB l t) r (lastI l)
  let inv : List Int × Int × Nat → Prop := fun x => (0 ≤ x.2.1 ∧ x.2.1 ≤ 1010000) ∧ (x.1.length : Int) ≤ x.2.1 ∧ misM l t r ph = x.1 ++ A x.2.1
  let st : List Int × Int × Nat → Slots × Blocks := fun x => match x with
    | ([], a, c) => zrM1 r (lastI l) a l.length c t (vi l)
    | (y :: q, a, c) => zrM5 r (lastI l) (y :: q).length a l.length c t (vi (y :: q)) (vi l)
  refine con_J hokM mixed [] (L := fun _ s' bl => ∃ y, inv y ∧ st y = (s', bl)) Try.func17 rfl (by show 1 ≤ 400; omega) rfl (pts := [0]) (loops := [0]) (by kernel_rfl) (by kernel_rfl) (fun caps _ => ?_) (fun id q1 q2 => absurd q1 q2) (fun id hid => ?_)
  · show grM _ _ l.length (caps 500) (vi l) t r ph _
    rw [grM_text]
    have hb := vi_at l 0 (by omega)
    rw [Nat.zero_mul, Nat.add_zero, show l[0] = l.getD 0 0 from (vgd (show 0 < l.length by omega)).symm] at hb
    have e1 : IntKind.wrap .i64 ((l.length : Int) - 1) = ((l.length - 1 : Nat) : Int) := by rw [w64 (by omega) (by omega)]; omega
    have hc := vi_at l (l.length - 1) (by omega)
    rw [show l[l.length - 1] = lastI l from (vgd (show l.length - 1 < l.length by omega)).symm] at hc
    simp only [e1, bc_t (show (0 : Int) < (l.length : Int) by omega), at1 hb, bc_t (show (0 : Int) ≤ ((l.length - 1 : Nat) : Int) by omega), bc_t (show ((l.length - 1 : Nat) : Int) < (l.length : Int) by omega), Int.toNat_natCast, at1 hc, Qv, eq_self, true_and, and_true]
    rw [w64 (z := ph - _) (by omega) (by omega)]
    refine ⟨_, ⟨conMo (ph - l.getD 0 0) r (by omega)⟩, ([], strt l r ph, caps 500), ⟨hS, by show ((0 : Nat) : Int) ≤ strt l r ph; omega, rfl⟩, ?_⟩
    have hm := mod_sz (n := ph - l.getD 0 0) hR.1
    rw [w64 (z := l.getD 0 0 + _) (by omega) (by omega)]
    try rfl
  · obtain rfl := List.mem_singleton.1 hid
    refine ⟨⟨_, st, inv, fun y => (lastI l + 1 - y.2.1).toNat, fun s' bl h => h, [2], [2], by kernel_rfl, by kernel_rfl, ?_⟩⟩
    rintro ⟨pre, a, c⟩ ⟨ha, hpl, he⟩
    have ha : 0 ≤ a ∧ a ≤ 1010000 := ha
    have hpl : (pre.length : Int) ≤ a := hpl
    have he : misM l t r ph = pre ++ A a := he
    cases pre with
    | nil =>
      let inv2 : Bool × Nat → Prop := fun x => (a ≤ lastI l ∧ x.2 ≤ l.length) ∧ x.1 = nearB (l.take x.2) t a
      let st2 : Bool × Nat → Slots × Blocks := fun x => zrM2 r (lastI l) a x.1 x.2 l.length c t (vi l)
      refine ⟨fun _ s' bl => ∃ j, inv2 j ∧ st2 j = (s', bl), ?_, fun id2 q1 q2 => absurd q1 q2, fun id2 hid2 => ?_⟩
      · show rrM1 _ _ r (lastI l) a l.length c t (vi l) _ _ _
        rw [rrM1_text]
        refine bc_dec (fun h => ?_) (fun h => ?_)
        · exact ⟨(false, 0), ⟨⟨h, Nat.zero_le _⟩, rfl⟩, rfl⟩
        · show (if 0 = 0 then _ else _)
          rw [if_pos rfl]
          show nrM3 _ _ _
          rw [nrM3_text]
          have e2 : A a = [] := misA_end h
          rw [he, e2]
          rfl
      · obtain rfl := List.mem_singleton.1 hid2
        refine ⟨⟨_, st2, inv2, fun x => l.length - x.2, fun s' bl h => h, [], by kernel_rfl, by kernel_rfl, fun x hj => ⟨fun _ _ _ => False, ?_, fun id3 h3 => by cases h3⟩⟩⟩
        obtain ⟨b, i⟩ := x
        obtain ⟨⟨k1, k2⟩, k3⟩ := hj
        have k1 : a ≤ lastI l := k1
        have k2 : i ≤ l.length := k2
        have k3 : b = nearB (l.take i) t a := k3
        show rrM2 _ _ r (lastI l) a b i l.length c t (vi l) _ _ _
        rw [rrM2_text]
        refine bc_dec (fun h => ?_) (fun h => ?_)
        · have h1 : i < l.length := by omega
          have hx := v.rng l[i] (List.getElem_mem h1)
          have nt := near_take h1 t a
          rw [← k3] at nt
          cases b with
          | true =>
            simp only [bcT', Qu, Qb, eq_self, true_and, and_true]
            refine ⟨(true, i + 1), ⟨⟨k1, h1⟩, by show true = nearB (l.take (i + 1)) t a; rw [nt]; rfl⟩, by show l.length - (i + 1) < l.length - i; omega, ?_⟩
            rw [w64 (by omega) (by omega)]
            try rfl
          | false =>
            simp only [bcF', bc_t (show (0 : Int) ≤ (i : Int) by omega), bc_t h, Int.toNat_natCast, at1 (vi_at l i h1), Qv, Qf, eq_self, true_and, and_true]
            rw [w64 (z := l[i] - a) (by omega) (by omega), w64 (z := 2 * t) (by omega) (by omega)]
            refine ⟨_, ⟨conSi (l[i] - a) (by omega)⟩, ?_⟩
            rw [Bool.false_or] at nt
            refine bc_dec (fun g => ?_) (fun g => ?_)
            · simp only [bc_t g, Qb, eq_self, true_and, and_true]
              refine ⟨(true, i + 1), ⟨⟨k1, h1⟩, by show true = nearB (l.take (i + 1)) t a; rw [nt, decide_eq_true g]⟩, by show l.length - (i + 1) < l.length - i; omega, ?_⟩
              rw [w64 (by omega) (by omega)]
              try rfl
            · simp only [bc_f g, Qf, eq_self, true_and, and_true]
              refine ⟨(false, i + 1), ⟨⟨k1, h1⟩, by show false = nearB (l.take (i + 1)) t a; rw [nt, decide_eq_false g]⟩, by show l.length - (i + 1) < l.length - i; omega, ?_⟩
              rw [w64 (by omega) (by omega)]
              try rfl
        · simp only [if_true]
          show irM4 _ _ r (lastI l) a b l.length c t (vi l) _ _ _
          rw [irM4_text]
          have e0 : i = l.length := by omega
          rw [e0, List.take_length] at k3
          have es : A a = if nearB l t a = true then A (a + r) else a :: A (a + r) := misA_step hR.1 k1
          cases b with
          | true =>
            rw [if_pos k3.symm] at es
            refine ⟨([], a + r, c), ⟨by show 0 ≤ a + r ∧ a + r ≤ 1010000; omega, by show (([] : List Int).length : Int) ≤ a + r; omega, by show misM l t r ph = [] ++ A (a + r); rw [he, es]⟩, by show (lastI l + 1 - (a + r)).toNat < (lastI l + 1 - a).toNat; omega, ?_⟩
            rw [w64 (by omega) (by omega)]
            try rfl
          | false =>
            rw [if_neg (by rw [← k3]; decide)] at es
            refine ⟨([a], a + r, c), ⟨by show 0 ≤ a + r ∧ a + r ≤ 1010000; omega, by show ((1 : Nat) : Int) ≤ a + r; omega, by show misM l t r ph = [a] ++ A (a + r); rw [he, es]; rfl⟩, by show (lastI l + 1 - (a + r)).toNat < (lastI l + 1 - a).toNat; omega, ?_⟩
            rw [w64 (by omega) (by omega)]
            try rfl
    | cons y q =>
      let inv2 : Bool × Nat → Prop := fun x => (a ≤ lastI l ∧ x.2 ≤ l.length) ∧ x.1 = nearB (l.take x.2) t a
      let st2 : Bool × Nat → Slots × Blocks := fun x => zrM6 r (lastI l) (y :: q).length a x.1 x.2 l.length c t (vi (y :: q)) (vi l)
      refine ⟨fun _ s' bl => ∃ j, inv2 j ∧ st2 j = (s', bl), ?_, fun id2 q1 q2 => absurd q1 q2, fun id2 hid2 => ?_⟩
      · show rrM5 _ _ r (lastI l) (y :: q).length a l.length c t (vi (y :: q)) (vi l) _ _ _
        rw [rrM5_text]
        refine bc_dec (fun h => ?_) (fun h => ?_)
        · exact ⟨(false, 0), ⟨⟨h, Nat.zero_le _⟩, rfl⟩, rfl⟩
        · show (if 0 = 0 then _ else _)
          rw [if_pos rfl]
          show nrM7 _ _ (y :: q).length (vi (y :: q)) _
          rw [nrM7_text]
          have e2 : A a = [] := misA_end h
          rw [he, e2]
          rw [List.append_nil]
          exact ⟨⟨rfl, by simp⟩, rfl⟩
      · obtain rfl := List.mem_singleton.1 hid2
        refine ⟨⟨_, st2, inv2, fun x => l.length - x.2, fun s' bl h => h, [], by kernel_rfl, by kernel_rfl, fun x hj => ⟨fun _ _ _ => False, ?_, fun id3 h3 => by cases h3⟩⟩⟩
        obtain ⟨b, i⟩ := x
        obtain ⟨⟨k1, k2⟩, k3⟩ := hj
        have k1 : a ≤ lastI l := k1
        have k2 : i ≤ l.length := k2
        have k3 : b = nearB (l.take i) t a := k3
        show rrM6 _ _ r (lastI l) (y :: q).length a b i l.length c t (vi (y :: q)) (vi l) _ _ _
        rw [rrM6_text]
        refine bc_dec (fun h => ?_) (fun h => ?_)
        · have h1 : i < l.length := by omega
          have hx := v.rng l[i] (List.getElem_mem h1)
          have nt := near_take h1 t a
          rw [← k3] at nt
          cases b with
          | true =>
            simp only [bcT', Qu, Qb, eq_self, true_and, and_true]
            refine ⟨(true, i + 1), ⟨⟨k1, h1⟩, by show true = nearB (l.take (i + 1)) t a; rw [nt]; rfl⟩, by show l.length - (i + 1) < l.length - i; omega, ?_⟩
            rw [w64 (by omega) (by omega)]
            try rfl
          | false =>
            simp only [bcF', bc_t (show (0 : Int) ≤ (i : Int) by omega), bc_t h, Int.toNat_natCast, at1 (vi_at l i h1), Qv, Qf, eq_self, true_and, and_true]
            rw [w64 (z := l[i] - a) (by omega) (by omega), w64 (z := 2 * t) (by omega) (by omega)]
            refine ⟨_, ⟨conSi (l[i] - a) (by omega)⟩, ?_⟩
            rw [Bool.false_or] at nt
            refine bc_dec (fun g => ?_) (fun g => ?_)
            · simp only [bc_t g, Qb, eq_self, true_and, and_true]
              refine ⟨(true, i + 1), ⟨⟨k1, h1⟩, by show true = nearB (l.take (i + 1)) t a; rw [nt, decide_eq_true g]⟩, by show l.length - (i + 1) < l.length - i; omega, ?_⟩
              rw [w64 (by omega) (by omega)]
              try rfl
            · simp only [bc_f g, Qf, eq_self, true_and, and_true]
              refine ⟨(false, i + 1), ⟨⟨k1, h1⟩, by show false = nearB (l.take (i + 1)) t a; rw [nt, decide_eq_false g]⟩, by show l.length - (i + 1) < l.length - i; omega, ?_⟩
              rw [w64 (by omega) (by omega)]
              try rfl
        · simp only [if_true]
          show irM8 _ _ r (lastI l) (y :: q).length a b l.length c t (vi (y :: q)) (vi l) _ _ _
          rw [irM8_text]
          have e0 : i = l.length := by omega
          rw [e0, List.take_length] at k3
          have es : A a = if nearB l t a = true then A (a + r) else a :: A (a + r) := misA_step hR.1 k1
          cases b with
          | true =>
            rw [if_pos k3.symm] at es
            refine ⟨((y :: q), a + r, c), ⟨by show 0 ≤ a + r ∧ a + r ≤ 1010000; omega, by show (((y :: q) : List Int).length : Int) ≤ a + r; omega, by show misM l t r ph = (y :: q) ++ A (a + r); rw [he, es]⟩, by show (lastI l + 1 - (a + r)).toNat < (lastI l + 1 - a).toNat; omega, ?_⟩
            rw [w64 (by omega) (by omega)]
            try rfl
          | false =>
            rw [if_neg (by rw [← k3]; decide)] at es
            have hq : ((y :: q).length : Int) ≤ a := hpl
            have ew : List.take ((y :: q).length * 1) (List.drop 0 (vi (y :: q))) = vi (y :: q) := vi_whole _
            have ea : vi (y :: q) ++ [vI a] = vi (y :: q ++ [a]) := by show (y :: q).map (Value.int .i64) ++ [a].map (Value.int .i64) = (y :: q ++ [a]).map (Value.int .i64); rw [List.map_append]
            simp only [bcF']
            refine bc_yes (by omega) (bc_yes (by omega) (bc_yes (by omega) (bc_yes (by simp) (bc_yes (by simp) ?_))))
            refine ⟨(y :: q ++ [a], a + r, c), ⟨by show 0 ≤ a + r ∧ a + r ≤ 1010000; omega, by show ((y :: q ++ [a]).length : Int) ≤ a + r; rw [List.length_append]; simp only [List.length_cons, List.length_nil] at hq ⊢; omega, by show misM l t r ph = y :: q ++ [a] ++ A (a + r); rw [he, es, List.append_assoc]; rfl⟩, by show (lastI l + 1 - (a + r)).toNat < (lastI l + 1 - a).toNat; omega, ?_⟩
            rw [w64 (by omega) (by omega), ew, ea]
            show zrM5 r (lastI l) (y :: (q ++ [a])).length _ _ _ _ _ _ = _
            rw [show (y :: (q ++ [a])).length = (y :: q).length + 1 by simp]; rfl
end Go.Proofs.G5r

/- RollMarked in data. -/
namespace Go.Proofs.G5r
open Go Go.Abs Go.Proofs
set_option maxRecDepth 100000
set_option maxHeartbeats 1000000
theorem ix_whole (n : Nat) : List.take (n * 1) (List.drop 0 (vi (ix n))) = vi (ix n) := by have := vi_whole (ix n); rwa [ix_len] at this
theorem ix_le (n : Nat) : 0 + n * 1 ≤ (vi (ix n)).length := by simp
theorem concM (l : List Int) (t : Int) (hl : l.length ≤ 1000000) : C5 9 [mD l t] [mD l t] := by
  refine con_flat hokE mixed Try.func9 rfl (by show 1 ≤ 400; omega) rfl (by kernel_rfl) (fun caps => ?_)
  show gcM _ _ l.length (caps 500) (vi l) t _
  rw [gcM_text]
  refine bc_yes (by simp) (bc_beq (fun h0 => ⟨⟨rfl, rfl⟩, ?_⟩) (fun h0 => bc_yes (by omega) (bc_yes (by omega) (bc_yes (by omega) ⟨⟨by first | rfl | trivial | simp, by simp⟩, ?_⟩))))
  · obtain rfl : l = [] := List.length_eq_zero_iff.1 h0
    rfl
  · rw [vi_whole, Nat.zero_add, List.nil_append]
theorem concMn (t : Int) : C5 9 [mN t] [mD [] t] := by
  refine con_flat hokE mixed Try.func9 rfl (by show 0 ≤ 400; omega) rfl (by kernel_rfl) (fun caps => ?_)
  show gcMn _ _ t _
  rw [gcMn_text]
  exact ⟨⟨rfl, rfl⟩, rfl⟩
theorem finE {a b c e x : Int} {X Y : Prop} (h1 : e = c) (h2 : x = c) (h3 : a = 0) (h4 : b = 0) (hX : X) :
    bcase (e == c) (bcase (x == c) (bcase (if Bool.false = Bool.true then !(a == 0 && (b == 0 && Bool.true)) else a == 0 && (b == 0 && Bool.true)) X Y) Y) Y := by
  subst h1 h3 h4; rw [h2, bc_qt, bc_qt]; exact hX
theorem finW {a b e x : Int} {X Y : Prop} (h1 : e = 0) (h2 : x = 0) (hX : X) :
    bcase (e == 0) (bcase (if Bool.false = Bool.true then !(a == a && (b == b && Bool.true)) else a == a && (b == b && Bool.true)) (bcase (x == 0) X Y) Y) Y := by
  rw [h1, h2, bc_qt, bc_qt]
  have : (if Bool.false = Bool.true then !(a == a && (b == b && Bool.true)) else a == a && (b == b && Bool.true)) = true := by simp
  rw [this]; exact hX
theorem lawM (conA : C5 7 [] [.val (.bool true)]) (l : List Int) (t r : Int) : C5 3 [mD l t, dI r] [dB true] := by
  refine con_flat hokM mixed Try.func3 rfl (by show 1 ≤ 400; omega) rfl (by kernel_rfl) (fun caps => ?_)
  show gLM _ _ l.length (caps 500) (vi l) t r _
  rw [gLM_text]
  simp only [vi_whole, bc_t (v1le l), Qv, eq_self, true_and, and_true]
  refine .inl ⟨⟨conA⟩, bc_dec (fun _ => by first | trivial | rfl) (fun h32 => ?_)⟩
  have hl : l.length ≤ 32 := by omega
  have cM := concM l t (by omega)
  have cE := conEx l t r (by omega)
  refine ⟨⟨cM⟩, _, _, ⟨conCM l t (by omega)⟩, ⟨cM⟩, _, _, _, ⟨conPO l t r (by omega)⟩, ⟨cM⟩, ?_⟩
  by_cases hc : exE l t r = 0 ∧ misM l t r (phE l t r).1 ≠ []
  · obtain ⟨hc1, hc2⟩ := hc
    obtain ⟨v, e, h0⟩ := phE_ok hc1
    have hp := phV_lo v
    have a1 : (ckM l t).2 = 0 := Decidable.byContradiction fun h => by
      have : exE l t r = (ckM l t).2 := by unfold exE phE; rw [if_pos h]
      exact h (this ▸ hc1)
    have a2 : rdE t r = 0 := Decidable.byContradiction fun h => by
      have : exE l t r = rdE t r := by unfold exE phE; rw [if_neg (by simp [a1]), if_pos h]
      exact h (this ▸ hc1)
    have eD : exD l t r = .sl (misM l t r (phV l t r).1).length 1 (vi (misM l t r (phV l t r).1)) := by
      unfold exD lsD; rw [if_pos hc1, if_neg (fun h => hc2 (List.eq_nil_of_length_eq_zero h)), e]
    rw [eD] at cE
    refine .inr ⟨_, _, _, ⟨cE⟩, ?_⟩
    refine ⟨_, _, ⟨conrC l t (by omega)⟩, ?_⟩
    simp only [bc_nf]
    rw [a1, bc_qt]
    refine ⟨_, ⟨conrR l t r⟩, ?_⟩
    rw [a2, bc_qt, bc_t (show (l.length : Int) > 0 by have := v.n2; omega)]
    have cP := conrP l t r v
    rw [decide_eq_true h0] at cP
    refine .inr ⟨_, _, ⟨conrL l t (by have := v.n2; omega) (by omega)⟩, ?_⟩
    simp only [ix_whole, bc_t (ix_le l.length)]
    refine ⟨_, _, .inl ⟨⟨cP⟩, ?_⟩⟩
    rw [bc_nf]
    refine .inr ⟨_, _, ⟨conrL l t (by have := v.n2; omega) (by omega)⟩, ?_⟩
    simp only [ix_whole, bc_t (ix_le l.length)]
    refine ⟨_, _, .inl ⟨⟨cP⟩, ?_⟩⟩
    rw [e]
    refine finW h0 hc1 ?_
    have cM2 := conrM l t r (phV l t r).1 v hp
    rw [show lsD (misM l t r (phV l t r).1) = .sl (misM l t r (phV l t r).1).length 1 (vi (misM l t r (phV l t r).1)) by unfold lsD; rw [if_neg (fun h => hc2 (by rw [e]; exact List.eq_nil_of_length_eq_zero h))]] at cM2
    have cI := conIn (misM l t r (phV l t r).1) (misM l t r (phV l t r).1) (by have := mis_len (ph := (phV l t r).1) v; omega)
    rw [decide_eq_true rfl] at cI
    refine .inr ⟨_, _, ⟨cM2⟩, ?_⟩
    simp only [vi_whole, bc_t (v1le (misM l t r (phV l t r).1))]
    exact .inl ⟨cI⟩
  · have eD : exD l t r = .nil := by
      unfold exD lsD
      split
      · rename_i h
        have : misM l t r (phE l t r).1 = [] := Classical.not_not.1 fun hn => hc ⟨h, hn⟩
        rw [this]; rfl
      · rfl
    rw [eD] at cE
    refine .inl ⟨_, ⟨cE⟩, _, _, ⟨conrC l t (by omega)⟩, ?_⟩
    simp only [bc_nf]
    refine bc_beq (fun h1 => ?_) (fun h1 => ?_)
    · refine ⟨_, ⟨conrR l t r⟩, bc_beq (fun h2 => ?_) (fun h2 => ?_)⟩
      · have v := vm_of h1 h2
        have ep : phE l t r = phV l t r := by unfold phE; rw [if_neg (by simp [h1]), if_neg (by simp [h2])]
        rw [bc_t (show (l.length : Int) > 0 by have := v.n2; omega)]
        refine .inr ⟨_, _, ⟨conrL l t (by have := v.n2; omega) (by omega)⟩, ?_⟩
        simp only [ix_whole, bc_t (ix_le l.length)]
        have cP := conrP l t r v
        by_cases h0 : (phV l t r).2.2 = 0
        · rw [decide_eq_true h0] at cP
          have e0 : exE l t r = 0 := by unfold exE; rw [ep]; exact h0
          have hp := phV_lo v
          refine ⟨_, _, .inl ⟨⟨cP⟩, ?_⟩⟩
          rw [h2, bc_nf]
          refine .inr ⟨_, _, ⟨conrL l t (by have := v.n2; omega) (by omega)⟩, ?_⟩
          simp only [ix_whole, bc_t (ix_le l.length)]
          refine ⟨_, _, .inl ⟨⟨cP⟩, ?_⟩⟩
          rw [ep]
          refine finW h0 e0 ?_
          have cM2 := conrM l t r (phV l t r).1 v hp
          have hm : misM l t r (phV l t r).1 = [] := Classical.not_not.1 fun hn => hc ⟨e0, by rw [ep]; exact hn⟩
          rw [hm] at cM2
          exact .inl ⟨⟨cM2⟩, .inl ⟨conInn⟩⟩
        · rw [decide_eq_false h0] at cP
          have e12 : phV l t r = (0, 0, 12) := by
            unfold phV at h0 ⊢
            split
            · rfl
            · rename_i h; rw [if_neg h] at h0; exact absurd rfl h0
          refine ⟨_, _, .inr ⟨⟨cP⟩, ?_⟩⟩
          exact finE (by rw [ep, e12]) (by show (phE l t r).2.2 = 12; rw [ep, e12]) (by rw [ep, e12]) (by rw [ep, e12]) trivial
      · have ep : phE l t r = (0, 0, rdE t r) := by unfold phE; rw [if_neg (by simp [h1]), if_pos h2]
        rw [bc_n h2]
        exact finE (by rw [ep]) (by show (phE l t r).2.2 = _; rw [ep]) (by rw [ep]) (by rw [ep]) trivial
    · have ep : phE l t r = (0, 0, (ckM l t).2) := by unfold phE; rw [if_pos h1]
      rw [bc_q h1, bc_n h1]
      exact finE (by rw [ep]) (by show (phE l t r).2.2 = _; rw [ep]) (by rw [ep]) (by rw [ep]) trivial
end Go.Proofs.G5r
