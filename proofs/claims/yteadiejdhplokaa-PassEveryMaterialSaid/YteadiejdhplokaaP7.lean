/- Texts of the proof, put together: GpP18, GpP19, GpPA0, GpPA1, GpPA2, GpPA3, GpPA, AbsPasD, AbsShort2, GpPLT, GpP8, GpP20, AbsListD, GpPNT, AbsList, GpP21, GpPNR, GpP23. -/
import Derived.Test.YteadiejdhplokaaP6
import Derived.Test.YteadiejdhplokaaP3
import Derived.Test.YteadiejdhplokaaP4
import Derived.Test.YteadiejdhplokaaP5
/- Chapter 3: whether a schedule holds; temperatures of all materials. -/
namespace Go.Proofs.G5p
open Go Go.Abs Go.Proofs Go.Str
set_option maxRecDepth 100000
theorem conHF (r : Ru) (nm : List UInt8) (th : List Int) (v : VR r th) (h : (schP r nm th).2 = 0) : C5 29 [r.d, scD nm th] [dI (ansD r 0 r.st 2 th), dI 0] := by
  have hl := v.v.len
  have h6 := v.v.n6
  refine con_flat hokP mixed Try.func29 rfl (by show 2 ≤ 400; omega) rfl (by kernel_rfl) (fun caps => ?_)
  show gHF _ _ r.w r.st r.fi r.hlo r.hhi r.co r.ss.length (caps 500) (vs5 r.ss) r.slo r.shi r.flo r.fhi (bs nm) th.length (caps 501) (vi th) _
  rw [gHF_text, bc_t (v5le r.ss), bc_t (v1le th), v5_whole, v1_whole]
  refine ⟨_, _, ⟨conKS r nm th (by omega) (by omega)⟩, bc_bne (fun hc => absurd h hc) (fun _ => ?_)⟩
  try simp only [bc_t (v5le r.ss), bc_t (v1le th)]
  exact ⟨_, ⟨conaF r nm th v⟩, rfl⟩
/-- spans as cells -/
def vq : List ((Int × Int) × (Int × Int)) → List Value
  | [] => []
  | p :: r => .int .i64 p.1.1 :: .int .i64 p.1.2 :: .int .i64 p.2.1 :: .int .i64 p.2.2 :: vq r
@[simp] theorem vq_length : ∀ l : List ((Int × Int) × (Int × Int)), (vq l).length = l.length * 4
  | [] => rfl
  | p :: r => by simp only [vq, List.length_cons, vq_length r]; omega
theorem vq_snoc {l : List ((Int × Int) × (Int × Int))} {i : Nat} (h : i < l.length) {a b : Int × Int} (e : l[i] = (a, b)) : List.take (i * 4) (List.drop 0 (vq (l.take i))) ++ [.int .i64 a.1, .int .i64 a.2, .int .i64 b.1, .int .i64 b.2] = vq (l.take (i + 1)) := by
  rw [List.take_succ_eq_append_getElem h, List.drop_zero, List.take_of_length_le (by simp; omega), e]
  generalize l.take i = m
  induction m with
  | nil => rfl
  | cons p r ih => simp only [List.cons_append, vq, ih]
/-- the spans of the temperatures after each stand -/
def spans (r : Ru) (th : List Int) : List ((Int × Int) × (Int × Int)) := (List.range th.length).map fun i => (low (hL r i (th.getD i 0)) 100, low (hH r i (th.getD i 0)) 100)
theorem spans_len (r : Ru) (th : List Int) : (spans r th).length = th.length := by simp [spans]
theorem spans_at {r : Ru} {th : List Int} {i : Nat} (hi : i < th.length) : (spans r th)[i]'(by rw [spans_len]; exact hi) = (low (hL r i th[i]) 100, low (hH r i th[i]) 100) := by
  simp only [spans, List.getElem_map, List.getElem_range, getD_at hi]
theorem runEH (r : Ru) (c0 c1 : Nat) (nm : List UInt8) (th : List Int) (w : VR r th) :
    freshS Try.prog 69 4 [.agg #[.int .i64 r.w, .int .i64 r.st, .int .i64 r.fi, .int .i64 r.hlo, .int .i64 r.hhi, .int .i64 r.co, .slice (some ⟨500, 0, none⟩) r.ss.length c0, .int .i64 r.slo, .int .i64 r.shi, .int .i64 r.flo, .int .i64 r.fhi], .agg #[.string (bs nm), .slice (some ⟨501, 0, none⟩) th.length c1], .func (.func 70) #[] #[.pointer (some ⟨502, 0, none⟩)]] [(500, .sym (vs5 r.ss) false 5), (501, .sym (vi th) false 1), (502, .cells [.int .i64 r.w, .int .i64 r.st, .int .i64 r.fi, .int .i64 r.hlo, .int .i64 r.hhi, .int .i64 r.co, .slice (some ⟨500, 0, none⟩) r.ss.length c0, .int .i64 r.slo, .int .i64 r.shi, .int .i64 r.flo, .int .i64 r.fhi] 95 false 11)] th.length (vq (spans r th)) := by
  have v := w.v
  have hl := v.len
  have h6 := v.n6
  have h0 := v.n0
  let st : Nat → Slots × Blocks := fun i => match i with
    | 0 => R.zeH2 r.w r.st r.fi r.hlo r.hhi r.co r.ss.length c0 r.slo r.shi r.flo r.fhi (vs5 r.ss)
    | i + 1 => R.zeH4 (i + 1) r.w r.st r.fi r.hlo r.hhi r.co r.ss.length c0 r.slo r.shi r.flo r.fhi (vq ((spans r th).take (i + 1))) (vs5 r.ss)
  refine callS_JR hokRP mixed [] (L := fun _ s b => R.zeH1 r.w r.st r.fi r.hlo r.hhi r.co r.ss.length c0 r.slo r.shi r.flo r.fhi (bs nm) th.length c1 r.w r.st r.fi r.hlo r.hhi r.co r.ss.length c0 r.slo r.shi r.flo r.fhi (vs5 r.ss) (vi th) = (s, b)) Try.func69 rfl (.inl rfl) (pts := [50003]) (loops := [50003]) (by kernel_rfl) (by kernel_rfl) ?_ (fun id q1 q2 => absurd q1 q2) (fun id hid hlt => absurd hlt (by obtain rfl := List.mem_singleton.1 hid; decide)) (fun id hid hlt => ?_)
  · show R.geH C5 _ r.w r.st r.fi r.hlo r.hhi r.co r.slo r.shi r.flo r.fhi r.ss.length c0 (vs5 r.ss) (bs nm) th.length c1 (vi th) _
    rw [R.geH_text]
  · obtain rfl := List.mem_singleton.1 hid
    refine ⟨⟨?_⟩⟩
    rintro s b e
    cases e
    show R.heH1 r.w r.st r.fi r.hlo r.hhi r.co r.ss.length c0 r.slo r.shi r.flo r.fhi (bs nm) th.length c1 r.w r.st r.fi r.hlo r.hhi r.co r.ss.length c0 r.slo r.shi r.flo r.fhi (vs5 r.ss) (vi th) _
    rw [R.heH1_text]
    refine ⟨drows r.st 0 th, fun rest s b => ∃ i, i ≤ th.length ∧ rest = drows (bfr r.st th i) i (th.drop i) ∧ st i = (s, b), runDo r c0 c1 nm th (by omega), ⟨0, Nat.zero_le _, rfl, rfl⟩, ?_, ?_⟩
    · rintro row rest s b ⟨i, hi, e1, e2⟩
      have hi2 : i < th.length := by
        refine Nat.lt_of_le_of_ne hi (fun h => ?_)
        rw [h, List.drop_length] at e1; cases e1
      rw [drows_drop hi2] at e1
      obtain ⟨rfl, rfl⟩ := List.cons.inj e1
      have hd := w.dr hi2
      have hh := hd.ht
      have go : C5 53 [dI (hL r i th[i]), dI 100] [.agg [dI (low (hL r i th[i]) 100).1, dI (low (hL r i th[i]) 100).2]] := conlT _ _ (by omega) (by omega)
      have go2 : C5 53 [dI (hH r i th[i]), dI 100] [.agg [dI (low (hH r i th[i]) 100).1, dI (low (hH r i th[i]) 100).2]] := conlT _ _ (by omega) (by omega)
      have e := vq_snoc (l := spans r th) (i := i) (by rw [spans_len]; exact hi2) (spans_at hi2)
      cases i with
      | zero =>
        cases e2
        show R.weH2 C5 r.w r.st r.fi r.hlo r.hhi r.co r.ss.length c0 r.slo r.shi r.flo r.fhi (vs5 r.ss) ((0 : Nat) : Int) (bfr r.st th 0) th[0] _ _
        rw [R.weH2_text]
        intro caps
        rw [bc_t (v5le r.ss), v5_whole]
        simp only [Qv, eq_self, true_and, and_true]
        refine ⟨_, _, ⟨conhe r 0 (bfr r.st th 0) th[0] hd⟩, _, _, ⟨go⟩, _, _, ⟨go2⟩, 1, hi2, by rw [bfr_succ hi2], ?_⟩
        show R.zeH4 _ _ _ _ _ _ _ _ _ _ _ _ _ _ _ = _
        rw [← e]; rfl
      | succ i =>
        cases e2
        show R.weH4 C5 (i + 1) r.w r.st r.fi r.hlo r.hhi r.co r.ss.length c0 r.slo r.shi r.flo r.fhi (vq ((spans r th).take (i + 1))) (vs5 r.ss) ((i + 1 : Nat) : Int) (bfr r.st th (i + 1)) th[i + 1] _ _
        rw [R.weH4_text]
        intro caps
        rw [bc_t (v5le r.ss), v5_whole]
        simp only [Qv, eq_self, true_and, and_true]
        have el : (vq ((spans r th).take (i + 1))).length = (i + 1) * 4 := by
          rw [vq_length, List.length_take, spans_len]; omega
        refine ⟨_, _, ⟨conhe r (i + 1) (bfr r.st th (i + 1)) th[i + 1] hd⟩, _, _, ⟨go⟩, _, _, ⟨go2⟩, ?_⟩
        rw [bc_t (show i + 1 < i + 1 + 1 by omega), bc_t (show (2 * (i + 1 + 1) + 768) * 32 ≤ 281474976710656 by omega), bc_t (show i + 1 + 1 ≤ 1099511627776 by omega), bc_t (show 0 + (i + 1) * 4 ≤ (vq ((spans r th).take (i + 1))).length by omega), bc_t (show 0 + (i + 1) * 4 = (vq ((spans r th).take (i + 1))).length by omega)]
        refine ⟨i + 2, hi2, by rw [bfr_succ hi2], ?_⟩
        show R.zeH4 _ _ _ _ _ _ _ _ _ _ _ _ _ _ _ = _
        rw [← e]
    · rintro s b ⟨i, hi, e1, e2⟩
      have hi2 : i = th.length := Decidable.byContradiction fun h => by
        rw [drows_drop (show i < th.length by omega)] at e1; cases e1
      obtain ⟨j, rfl⟩ : ∃ j, i = j + 1 := ⟨i - 1, by omega⟩
      cases e2
      show R.neH5 C5 _ (j + 1) r.w r.st r.fi r.hlo r.hhi r.co r.ss.length c0 r.slo r.shi r.flo r.fhi (vq ((spans r th).take (j + 1))) (vs5 r.ss) _
      rw [R.neH5_text, List.take_of_length_le (by rw [spans_len]; omega), hi2]
      exact ⟨rfl, rfl⟩
end Go.Proofs.G5p

/- Chapter 3: what is said of all materials is said of each one: mathematics alone. -/
namespace Go.Proofs.G5p
open Go Go.Abs Go.Proofs Go.Str
set_option maxRecDepth 100000
theorem frc_mono {w b h s s' f f' : Int} (hw : 1 ≤ w) (h1 : 1 ≤ h) (hb : h ≤ b) (hs : s ≤ s') (hf : f ≤ f') : frc w b h s f ≤ frc w b h s' f' := by
  unfold frc
  split
  · omega
  · have e1 := Int.mul_le_mul_of_nonneg_right hs (show 0 ≤ b - h by omega)
    have e2 := Int.mul_le_mul_of_nonneg_right hf (show 0 ≤ b + h by omega)
    exact Int.mul_le_mul_of_nonneg_left (by omega) (by omega)
theorem ansR_some : ∀ {l : List (Int × Int)} {a x : Int}, ansR a l = some x → (∀ p ∈ l, 0 ≤ p.2) ∧ ((x = a ∧ ∀ p ∈ l, 0 ≤ p.1) ∨ x = 1)
  | [], a, x, h => ⟨(fun p hp => by cases hp), .inl ⟨(Option.some.inj h).symm, (fun p hp => by cases hp)⟩⟩
  | p :: r, a, x, h => by
    rw [ansR] at h
    split at h
    · cases h
    · rename_i h2
      obtain ⟨k1, k2⟩ := ansR_some h
      refine ⟨fun q hq => ?_, ?_⟩
      · rcases List.mem_cons.1 hq with rfl | hq
        · omega
        · exact k1 q hq
      · rcases k2 with ⟨e, k2⟩ | e
        · split at e
          · exact .inr e
          · rename_i h1
            refine .inl ⟨e, fun q hq => ?_⟩
            rcases List.mem_cons.1 hq with rfl | hq
            · omega
            · exact k2 q hq
        · exact .inr e
theorem ansR_none : ∀ {l : List (Int × Int)} {a : Int}, ansR a l = none → ∃ p ∈ l, p.2 < 0
  | [], a, h => by cases h
  | p :: r, a, h => by
    rw [ansR] at h
    split at h
    · exact ⟨p, List.mem_cons_self, by assumption⟩
    · obtain ⟨q, hq, h⟩ := ansR_none h
      exact ⟨q, List.mem_cons_of_mem _ hq, h⟩
theorem ansR_all : ∀ {l : List (Int × Int)} {a : Int}, (∀ p ∈ l, 0 ≤ p.1 ∧ 0 ≤ p.2) → ansR a l = some a
  | [], a, _ => rfl
  | p :: r, a, h => by
    have := h p List.mem_cons_self
    rw [ansR, if_neg (by omega), if_neg (by omega)]
    exact ansR_all fun q hq => h q (List.mem_cons_of_mem _ hq)
theorem ansD_two (r : Ru) : ∀ (l : List Int) (k : Nat) (b a : Int), ansD r k b a l = 2 → a = 2
  | [], k, b, a, h => h
  | t :: l, k, b, a, h => by
    rw [ansD] at h
    split at h
    · cases h
    · rename_i x hx
      have := ansD_two r l (k + 1) t x h
      rcases (ansR_some hx).2 with ⟨e, _⟩ | e
      · omega
      · omega
/-! ### a material's losses -/
theorem rol_sum : ∀ {ss : List Fv} {ls : List Int} {i : Int} (k : Nat), ls.length = ss.length → (lsE i ss ls).2 = 0 → sumD (ss.take k) ≤ sumE ((rolL ss ls).take k) ∧ sumE ((rolL ss ls).take k) ≤ sumE (ss.take k)
  | _, _, _, 0, _, _ => by simp [sumD, sumE]
  | [], [], _, k + 1, _, _ => by simp [rolL, sumD, sumE]
  | [], _ :: _, _, k + 1, h, _ => absurd h (by simp)
  | _ :: _, [], _, k + 1, h, _ => absurd h (by simp)
  | s :: ss, l :: ls, i, k + 1, hl, h => by
    rw [lsE] at h
    split at h
    · have := rol_sum k (by simpa using hl) h
      simp only [rolL, List.take_succ_cons, sumD, sumE]
      omega
    · simp at h
theorem desc_le : ∀ {l : List Int} {b : Int} (i : Nat) (hi : i < l.length), Desc b l → l[i] ≤ b
  | h :: l, b, 0, _, d => d.2.1
  | h :: l, b, i + 1, hi, d => by
    have := desc_le (l := l) (b := h) i (by simpa using hi) d.2.2
    have := d.2.1
    simp only [List.getElem_cons_succ]; omega
section
variable {r : Ru} {ms mf mh : Int} {ls : List Int} (hB : matB r ms mf mh) (hl : ls.length = r.ss.length) (hs : (lsE 0 r.ss ls).2 = 0)
include hl in
theorem stA_rol {k : Nat} (hk : k < r.ss.length) : (stA (rolR r ms mf mh ls) k).a = (stA r k).a ∧ (stA (rolR r ms mf mh ls) k).b = (stA r k).b ∧ (stA (rolR r ms mf mh ls) k).c = (stA r k).c := by
  have hk' : k < (rolR r ms mf mh ls).ss.length := by show k < (rolL r.ss ls).length; rw [rolL_len]; exact hk
  have e : (rolR r ms mf mh ls).ss[k]'hk' = _ := rolL_at (ss := r.ss) (ls := ls) hk (by omega)
  rw [stA_at hk', stA_at hk, e]
  exact ⟨rfl, rfl, rfl⟩
include hB hl hs in
theorem hL_rol {k : Nat} {h : Int} (hh : h ≤ r.st) : hL r k h ≤ hL (rolR r ms mf mh ls) k h ∧ hL (rolR r ms mf mh ls) k h ≤ hH r k h := by
  have e := rol_sum (k + 1) hl hs
  obtain ⟨⟨b1, b2⟩, _, b3, b4⟩ := hB
  have m1 := Int.mul_le_mul_of_nonneg_left b1 (show 0 ≤ r.st - h by omega)
  have m2 := Int.mul_le_mul_of_nonneg_left b2 (show 0 ≤ r.st - h by omega)
  unfold hL hH
  simp only [rolR]
  omega
include hB hl in
theorem bit_rol {k : Nat} {b h : Int} (hk : k < r.ss.length) (ha : 0 ≤ (stA r k).a) : bit r k b h r.flo ≤ bit (rolR r ms mf mh ls) k b h mf ∧ bit (rolR r ms mf mh ls) k b h mf ≤ bit r k b h r.fhi := by
  obtain ⟨_, ⟨b1, b2⟩, _⟩ := hB
  have e := (stA_rol (ms := ms) (mf := mf) (mh := mh) hl hk).1
  have m1 := Int.mul_le_mul_of_nonneg_right b1 ha
  have m2 := Int.mul_le_mul_of_nonneg_right b2 ha
  unfold bit
  rw [e]
  split
  · omega
  · omega
include hB in
theorem frc_rol {b h : Int} (hw : 1 ≤ r.w) (h1 : 1 ≤ h) (hb : h ≤ b) : fl r b h ≤ frc r.w b h ms mf ∧ frc r.w b h ms mf ≤ fh r b h := by
  obtain ⟨⟨b1, b2⟩, ⟨b3, b4⟩, _⟩ := hB
  exact ⟨frc_mono hw h1 hb b1 b3, frc_mono hw h1 hb b2 b4⟩
include hB hl hs in
/-- surely for all: for this one -/
theorem kp_yes {k : Nat} {b h : Int} (hk : k < r.ss.length) (ha : 0 ≤ (stA r k).a) (hw : 1 ≤ r.w) (h1 : 1 ≤ h) (hb : h ≤ b) (hh : h ≤ r.st) (hp : ∀ p ∈ mar r k b h, 0 ≤ p.1) : kpD (rolR r ms mf mh ls) k b h = true := by
  have e1 := frc_rol hB hw h1 hb
  have e2 := bit_rol (b := b) (h := h) hB hl hk ha
  have e3 := hL_rol (k := k) hB hl hs hh
  have e4 := stA_rol (ms := ms) (mf := mf) (mh := mh) hl hk
  have e5 := Int.mul_le_mul_of_nonneg_right e1.2 (show 0 ≤ b - h by omega)
  simp only [mar, List.mem_cons, List.not_mem_nil, or_false, forall_eq_or_imp, forall_eq] at hp
  obtain ⟨p1, p2, p3, p4⟩ := hp
  simp only [kpD, Bool.and_eq_true, decide_eq_true_eq]
  rw [e4.2.1, e4.2.2]
  simp only [rolR] at e2 e3 ⊢
  refine ⟨⟨⟨by omega, by omega⟩, by omega⟩, by omega⟩
include hB hl hs in
/-- surely for none: not for this one -/
theorem kp_no {k : Nat} {b h : Int} (hk : k < r.ss.length) (ha : 0 ≤ (stA r k).a) (hw : 1 ≤ r.w) (h1 : 1 ≤ h) (hb : h ≤ b) (hh : h ≤ r.st) (hp : ∃ p ∈ mar r k b h, p.2 < 0) : kpD (rolR r ms mf mh ls) k b h = false := by
  have e1 := frc_rol hB hw h1 hb
  have e2 := bit_rol (b := b) (h := h) hB hl hk ha
  have e3 := hL_rol (k := k) hB hl hs hh
  have e4 := stA_rol (ms := ms) (mf := mf) (mh := mh) hl hk
  have e5 := Int.mul_le_mul_of_nonneg_right e1.1 (show 0 ≤ b - h by omega)
  simp only [mar, List.mem_cons, List.not_mem_nil, or_false, exists_eq_or_imp, exists_eq_left] at hp
  rw [Bool.eq_false_iff]
  intro hc
  simp only [kpD, Bool.and_eq_true, decide_eq_true_eq] at hc
  rw [e4.2.1, e4.2.2] at hc
  simp only [rolR] at e2 e3 hc
  obtain ⟨⟨⟨c1, c2⟩, c3⟩, c4⟩ := hc
  omega
include hB hl hs in
theorem ans_yes (hw : 1 ≤ r.w) (hst : ∀ s ∈ r.ss, stB s) : ∀ (l : List Int) (k : Nat) (b a : Int), k + l.length ≤ r.ss.length → Desc b l → b ≤ r.st → ansD r k b a l = 2 → kpL (rolR r ms mf mh ls) k b l = true
  | [], k, b, a, _, _, _, _ => rfl
  | t :: l, k, b, a, hk, d, hb, h => by
    have hk' : k < r.ss.length := by simp only [List.length_cons] at hk; omega
    have ha : 0 ≤ (stA r k).a := by rw [stA_at hk']; have := (hst _ (List.getElem_mem hk')).1; omega
    obtain ⟨⟨d1, d2⟩, d3, d4⟩ := d
    rw [ansD] at h
    split at h
    · cases h
    · rename_i x hx
      have h2 := ansD_two r l _ _ _ h
      rcases (ansR_some hx).2 with ⟨_, e⟩ | e
      · rw [kpL, kp_yes hB hl hs hk' ha hw d1 d3 (by omega) e, Bool.true_and]
        exact ans_yes hw hst l (k + 1) t x (by simp only [List.length_cons] at hk; omega) d4 (by omega) h
      · omega
include hB hl hs in
theorem ans_no (hw : 1 ≤ r.w) (hst : ∀ s ∈ r.ss, stB s) : ∀ (l : List Int) (k : Nat) (b a : Int), k + l.length ≤ r.ss.length → Desc b l → b ≤ r.st → a ≠ 0 → ansD r k b a l = 0 → kpL (rolR r ms mf mh ls) k b l = false
  | [], k, b, a, _, _, _, h0, h => absurd h h0
  | t :: l, k, b, a, hk, d, hb, h0, h => by
    have hk' : k < r.ss.length := by simp only [List.length_cons] at hk; omega
    have ha : 0 ≤ (stA r k).a := by rw [stA_at hk']; have := (hst _ (List.getElem_mem hk')).1; omega
    obtain ⟨⟨d1, d2⟩, d3, d4⟩ := d
    rw [ansD] at h
    split at h
    · rename_i hx
      rw [kpL, kp_no hB hl hs hk' ha hw d1 d3 (by omega) (ansR_none hx), Bool.false_and]
    · rename_i x hx
      have hx0 : x ≠ 0 := by rcases (ansR_some hx).2 with ⟨e, _⟩ | e <;> omega
      rw [kpL, ans_no hw hst l (k + 1) t x (by simp only [List.length_cons] at hk; omega) d4 (by omega) hx0 h, Bool.and_false]
end
/-! ### greater limits -/
def wdF (s : Fv) : Fv := ⟨s.a, 1000000000000, 1000000000000, s.d, s.e⟩
/-- the first stands with the greatest limits -/
def wdI : Nat → List Fv → List Fv
  | 0, ss => ss
  | _ + 1, [] => []
  | i + 1, s :: ss => wdF s :: wdI i ss
theorem wdI_len : ∀ (i : Nat) (ss : List Fv), (wdI i ss).length = ss.length
  | 0, ss => rfl
  | _ + 1, [] => rfl
  | i + 1, s :: ss => by simp only [wdI, List.length_cons, wdI_len i ss]
theorem wdI_at : ∀ (i : Nat) (ss : List Fv) (k : Nat) (h : k < ss.length), (wdI i ss)[k]'(by rw [wdI_len]; exact h) = if k < i then wdF ss[k] else ss[k]
  | 0, ss, k, h => by simp [wdI]
  | i + 1, s :: ss, 0, h => by simp [wdI]
  | i + 1, s :: ss, k + 1, h => by
    have := wdI_at i ss k (by simpa using h)
    simp only [wdI, List.getElem_cons_succ, this, Nat.add_lt_add_iff_right]
theorem wdI_set : ∀ (i : Nat) (ss : List Fv) (h : i < ss.length), (wdI i ss).set i (wdF ((wdI i ss)[i]'(by rw [wdI_len]; exact h))) = wdI (i + 1) ss
  | 0, s :: ss, h => by simp [wdI]
  | i + 1, s :: ss, h => by
    have := wdI_set i ss (by simpa using h)
    simp only [wdI, List.getElem_cons_succ, List.set_cons_succ, this]
def wdR (r : Ru) : Ru := ⟨r.w, r.st, r.fi, r.hlo, r.hhi, 0, wdI r.ss.length r.ss, r.slo, r.shi, r.flo, r.fhi⟩
theorem wd_sum : ∀ (ss : List Fv) (i k : Nat), sumD ((wdI i ss).take k) = sumD (ss.take k) ∧ sumE ((wdI i ss).take k) = sumE (ss.take k)
  | ss, 0, k => ⟨rfl, rfl⟩
  | [], i + 1, k => ⟨rfl, rfl⟩
  | s :: ss, i + 1, 0 => ⟨rfl, rfl⟩
  | s :: ss, i + 1, k + 1 => by
    have := wd_sum ss i k
    simp only [wdI, List.take_succ_cons, sumD, sumE, this, wdF, and_self]
theorem stA_wd {r : Ru} {k : Nat} (hk : k < r.ss.length) : stA (wdR r) k = wdF (stA r k) := by
  have hk' : k < (wdR r).ss.length := by show k < (wdI r.ss.length r.ss).length; rw [wdI_len]; exact hk
  have e : (wdR r).ss[k]'hk' = _ := wdI_at r.ss.length r.ss k hk
  rw [stA_at hk', stA_at hk, e, if_pos hk]
theorem mar_wd {r : Ru} {k : Nat} {b h : Int} (v : DrOK r k b h) (hp : ∀ p ∈ mar r k b h, 0 ≤ p.1 ∧ 0 ≤ p.2) : ∀ p ∈ mar (wdR r) k b h, 0 ≤ p.1 ∧ 0 ≤ p.2 := by
  have hk : k < r.ss.length := v.k
  have e1 := v.fl
  have e2 := v.fh
  have e3 := mulB 750000000 1000 e1 (show 0 ≤ b - h ∧ b - h ≤ 1000 by have := v.hb; have := v.b1; have := v.h1; omega)
  have e4 := mulB 750000000 1000 e2 (show 0 ≤ b - h ∧ b - h ≤ 1000 by have := v.hb; have := v.b1; have := v.h1; omega)
  have es := stA_wd hk
  have s1 := wd_sum r.ss r.ss.length (k + 1)
  have hco : 0 ≤ r.co := v.rng.2.2.1.2.2.1
  have x1 : hL (wdR r) k h = hL r k h := by unfold hL; simp only [wdR, s1.2]
  have x2 : hH (wdR r) k h = hH r k h := by unfold hH; simp only [wdR, s1.1]
  have x3 : ∀ f, bit (wdR r) k b h f = bit r k b h f := fun f => by unfold bit; rw [es]; rfl
  simp only [mar, List.mem_cons, List.not_mem_nil, or_false, forall_eq_or_imp, forall_eq] at hp ⊢
  obtain ⟨p1, p2, p3, p4⟩ := hp
  rw [x1, x2, x3, x3, es]
  have f1 : fl (wdR r) b h = fl r b h := rfl
  have f2 : fh (wdR r) b h = fh r b h := rfl
  rw [f1, f2]
  simp only [wdF, wdR]
  refine ⟨⟨by omega, by omega⟩, ⟨by omega, by omega⟩, p3, by omega, by omega⟩
theorem ans_wd {r : Ru} {th : List Int} (v : VR r th) : ∀ (l : List Int) (k : Nat) (b : Int), l = th.drop k → b = bfr r.st th k → k ≤ th.length → ansD r k b 2 l = 2 → ansD (wdR r) k b 2 l = 2
  | [], k, b, _, _, _, _ => rfl
  | t :: l, k, b, e, eb, hk, h => by
    have hk' : k < th.length := Decidable.byContradiction fun hn => by
      rw [List.drop_eq_nil_of_le (by omega)] at e; cases e
    rw [List.drop_eq_getElem_cons hk'] at e
    obtain ⟨rfl, rfl⟩ := List.cons.inj e
    have hd := v.dr hk'
    rw [← eb] at hd
    rw [ansD] at h
    split at h
    · cases h
    · rename_i x hx
      have h2 := ansD_two r _ _ _ _ h
      subst h2
      obtain ⟨q2, q1⟩ := ansR_some hx
      rcases q1 with ⟨_, q1⟩ | q1
      · rw [ansD, ansR_all (mar_wd hd fun p hp => ⟨q1 p hp, q2 p hp⟩)]
        exact ans_wd v _ (k + 1) _ rfl (by rw [bfr_succ hk']) hk' h
      · cases q1
/-! ### valid again -/
theorem stE_of {s : Fv} (h : stB s ∧ s.d ≤ s.e) : stE s = 0 := by rw [stE, if_pos h.1, if_pos h.2]
theorem stsE_of : ∀ {l : List Fv} {i : Int}, (∀ s ∈ l, stB s ∧ s.d ≤ s.e) → stsE i l = (0, 0)
  | [], _, _ => rfl
  | s :: l, i, h => by
    rw [stsE, if_pos (stE_of (h s List.mem_cons_self))]
    exact stsE_of fun t ht => h t (List.mem_cons_of_mem _ ht)
theorem chk_of {r : Ru} (h1 : rngB r) (h2 : ordB r) (h3 : 0 < r.ss.length) (h4 : r.ss.length ≤ 6) (h5 : ∀ s ∈ r.ss, stB s ∧ s.d ≤ s.e) : chk r = (0, 0) := by
  have hc : cntE r.ss.length = 0 := by rw [cntE, if_neg (by omega), if_neg (by omega)]
  rw [chk_cnt h1 h2, if_pos hc, stsE_of h5]
theorem rolL_all : ∀ {ss : List Fv} {ls : List Int} {i : Int}, ls.length = ss.length → (∀ s ∈ ss, stB s) → (lsE i ss ls).2 = 0 → ∀ s ∈ rolL ss ls, stB s ∧ s.d ≤ s.e
  | [], [], _, _, _, _, _, h => by cases h
  | [], _ :: _, _, h, _, _, _, _ => absurd h (by simp)
  | _ :: _, [], _, h, _, _, _, _ => absurd h (by simp)
  | s :: ss, l :: ls, i, hl, hs, h, t, ht => by
    have k := rolL_stB hl hs h t ht
    rw [lsE] at h
    split at h
    · rcases List.mem_cons.1 ht with rfl | ht
      · exact ⟨k, Int.le_refl _⟩
      · exact rolL_all (by simpa using hl) (fun s h => hs s (List.mem_cons_of_mem _ h)) h t ht
    · simp at h
theorem chk_rol {r : Ru} {th : List Int} {ms mf mh : Int} {ls : List Int} (v : VR r th) (h : (matE r ms mf mh ls).2 = 0) : chk (rolR r ms mf mh ls) = (0, 0) := by
  have w := vr_mat v h
  obtain ⟨_, hl, hs⟩ := matE_ok h
  exact chk_of w.v.rng w.v.ord w.v.n0 w.v.n6 (rolL_all hl v.sts hs)
theorem sch_rol {r : Ru} {nm : List UInt8} {th : List Int} {ms mf mh : Int} {ls : List Int} : schE (rolR r ms mf mh ls) nm th = schE r nm th := by
  unfold schE
  simp only [rolR, rolL_len]
theorem sch_wd {r : Ru} {nm : List UInt8} {th : List Int} : schE (wdR r) nm th = schE r nm th := by
  unfold schE
  simp only [wdR, wdI_len]
theorem chk_sts {r : Ru} (h1 : (chk r).2 = 0) : ∀ s ∈ r.ss, stB s ∧ s.d ≤ s.e := by
  have h := h1
  unfold chk at h
  split at h
  · exact stsE_ok h
  · rename_i hn; exact absurd h hn
theorem wdF_ok {s : Fv} (h : stB s ∧ s.d ≤ s.e) : stB (wdF s) ∧ (wdF s).d ≤ (wdF s).e := by
  obtain ⟨⟨a, b, c⟩, d⟩ := h
  exact ⟨⟨a, ⟨⟨by show (0 : Int) ≤ 1000000000000; omega, by show (1000000000000 : Int) ≤ 1000000000000; omega⟩, by show (0 : Int) ≤ 1000000000000; omega, by show (1000000000000 : Int) ≤ 1000000000000; omega⟩, c⟩, d⟩
theorem wdI_all {ss : List Fv} (h : ∀ s ∈ ss, stB s ∧ s.d ≤ s.e) : ∀ s ∈ wdI ss.length ss, stB s ∧ s.d ≤ s.e := by
  intro s hs
  obtain ⟨k, hk, rfl⟩ := List.getElem_of_mem hs
  rw [wdI_len] at hk
  rw [wdI_at _ _ _ hk, if_pos hk]
  exact wdF_ok (h _ (List.getElem_mem hk))
theorem chk_wd {r : Ru} {th : List Int} (v : VR r th) (h : (chk r).2 = 0) : chk (wdR r) = (0, 0) := by
  have hr := v.v.rng
  refine chk_of ?_ v.v.ord ?_ ?_ (wdI_all (chk_sts h))
  · unfold rngB at hr ⊢; simp only [wdR]; omega
  · show 0 < (wdI _ _).length; rw [wdI_len]; exact v.v.n0
  · show (wdI _ _).length ≤ 6; rw [wdI_len]; exact v.v.n6
end Go.Proofs.G5p

/- awake of chapter 3, for every tape: by what is known of some functions. -/
namespace Go.Proofs.G5p
open Go Go.Abs Go.Proofs Go.Str
set_option maxRecDepth 100000
def unFv : List Value → Option (List Fv)
  | [] => some []
  | .int .i64 a :: .int .i64 b :: .int .i64 c :: .int .i64 d :: .int .i64 e :: r => (unFv r).map (⟨a, b, c, d, e⟩ :: ·)
  | _ => none
theorem unFv_ok : ∀ {l : List Value} {ss : List Fv}, unFv l = some ss → l = vs5 ss := by
  intro l
  induction l using unFv.induct with
  | case1 => intro ss h; rw [unFv] at h; obtain rfl := Option.some.inj h; rfl
  | case2 a b c d e r ih =>
    intro ss h
    rw [unFv] at h
    obtain ⟨t, ht, rfl⟩ := Option.map_eq_some_iff.1 h
    rw [ih ht]; rfl
  | case3 l h1 h2 => intro ss h; rw [unFv] at h <;> first | (cases h; done) | assumption
def parR : D → Option Ru
  | .agg [.val (.int .i64 w), .val (.int .i64 st), .val (.int .i64 fi), .val (.int .i64 hlo), .val (.int .i64 hhi), .val (.int .i64 co), .sl n 5 l, .val (.int .i64 slo), .val (.int .i64 shi), .val (.int .i64 flo), .val (.int .i64 fhi)] =>
    match unFv l with
    | some ss => if ss.length = n then some ⟨w, st, fi, hlo, hhi, co, ss, slo, shi, flo, fhi⟩ else none
    | none => none
  | _ => none
theorem parR_ok {d : D} {r : Ru} (h : parR d = some r) : d = r.d := by
  unfold parR at h
  split at h
  · split at h
    · rename_i e
      split at h
      · obtain rfl := Option.some.inj h
        rename_i hn; subst hn
        rw [unFv_ok e]
      · cases h
    · cases h
  · cases h
def drB (r : Ru) (k : Int) (b h : Int) : Bool := decide (rngB r) && r.ss.all (fun s => decide (stB s)) && decide (0 ≤ k) && decide (k.toNat < r.ss.length) && decide (r.ss.length ≤ 6) && decide (1 ≤ h) && decide (h ≤ b) && decide (b ≤ 1000)
theorem drB_ok {r : Ru} {k b h : Int} (e : drB r k b h = true) : DrOK r k.toNat b h ∧ k = (k.toNat : Int) := by
  simp only [drB, Bool.and_eq_true, decide_eq_true_eq, List.all_eq_true] at e
  obtain ⟨⟨⟨⟨⟨⟨⟨h1, h2⟩, h3⟩, h4⟩, h5⟩, h6⟩, h7⟩, h8⟩ := e
  exact ⟨⟨h1, h2, h4, h5, h6, h7, h8⟩, by omega⟩
def marT (d : D) (k b h : Int) : Option (List D) :=
  match parR d with
  | some r => if drB r k b h = true then some [marD (mar r k.toNat b h)] else none
  | none => none
def torT (d : D) (k b h : Int) : Option (List D) :=
  match parR d with
  | some r => if drB r k b h = true then some [.agg [dI (fl r b h * (b - h)), dI (fh r b h * (b - h))]] else none
  | none => none
def keyD : List D → Int
  | [_, .agg [.val (.int _ k), .val (.int _ b), .val (.int _ h)], _] => k * 1000000 + b * 1000 + h
  | _ => -1
def lookK : List (List D × List D) → Int → List D → Option (List D)
  | [], _, _ => none
  | p :: r, q, ds => if keyD p.1 = q then (if dsEq p.1 ds then some p.2 else lookK r q ds) else lookK r q ds
theorem lookK_ok : ∀ {t : List (List D × List D)} {q : Int} {ds rs : List D}, lookK t q ds = some rs → (ds, rs) ∈ t
  | [], _, _, _, h => by cases h
  | p :: r, q, ds, rs, h => by
    unfold lookK at h
    split at h
    · split at h
      · rename_i e
        obtain rfl := Option.some.inj h
        rw [← dsEq_ok e]; exact List.mem_cons_self
      · exact List.mem_cons_of_mem _ (lookK_ok h)
    · exact List.mem_cons_of_mem _ (lookK_ok h)
def tabP : Tab := fun f =>
  if f = 86 then some fun ds => match ds with
    | [d, .agg [.val (.int .i64 k), .val (.int .i64 b), .val (.int .i64 h)]] => marT d k b h
    | _ => none
  else if f = 89 then some fun ds => match ds with
    | [d, .agg [.val (.int .i64 k), .val (.int .i64 b), .val (.int .i64 h)]] => torT d k b h
    | _ => none
  else if f = 8 then some fun ds => match ds with
    | [d] => (match parR d with | some r => if r.ss.length ≤ 6 then some [dI (chk r).1, dI (chk r).2] else none | none => none)
    | _ => none
  else if f = 53 then some fun ds => match ds with
    | [.val (.int .i64 n), .val (.int .i64 d)] => if -4611686018427387904 ≤ n ∧ n ≤ 4611686018427387904 ∧ 0 < d ∧ d ≤ 4611686018427387904 then some [.agg [dI (low n d).1, dI (low n d).2]] else none
    | _ => none
  else none
theorem tabP_ok : TabOK Try.prog tabP := by
  intro f t ht ds rs h
  unfold tabP at ht
  split at ht
  · rename_i e; subst e; obtain rfl := Option.some.inj ht
    simp only at h
    split at h
    · rename_i d k b hh
      unfold marT at h
      split at h
      · rename_i r hr
        split at h
        · rename_i hd
          obtain rfl := Option.some.inj h
          obtain ⟨hv, hk⟩ := drB_ok hd
          rw [parR_ok hr]
          have := conma r k.toNat b hh hv
          unfold drD at this
          rw [← hk] at this
          exact this
        · cases h
      · cases h
    · cases h
  · split at ht
    · rename_i e; subst e; obtain rfl := Option.some.inj ht
      simp only at h
      split at h
      · rename_i d k b hh
        unfold torT at h
        split at h
        · rename_i r hr
          split at h
          · rename_i hd
            obtain rfl := Option.some.inj h
            obtain ⟨hv, hk⟩ := drB_ok hd
            rw [parR_ok hr]
            have := conto r k.toNat b hh hv
            unfold drD at this
            rw [← hk] at this
            exact this
          · cases h
        · cases h
      · cases h
    · split at ht
      · rename_i e; subst e; obtain rfl := Option.some.inj ht
        simp only at h
        split at h
        · split at h
          · rename_i r hr
            split at h
            · obtain rfl := Option.some.inj h
              rw [parR_ok hr]
              exact conKR r (by omega)
            · cases h
          · cases h
        · cases h
      · split at ht
        · rename_i e; subst e; obtain rfl := Option.some.inj ht
          simp only at h
          split at h
          · split at h
            · rename_i hb
              obtain rfl := Option.some.inj h
              exact conlT _ _ ⟨hb.1, hb.2.1⟩ hb.2.2
            · cases h
          · cases h
        · cases ht
theorem look_all {tab : Tab} (ht : TabOK Try.prog tab) {f : FuncId} {lk : List (List D × List D)} (h : ∀ caps, (lk.all fun p => runOK Try.prog tab 1000 f p.1 p.2 caps) = true) (hc : (lk.all fun p => decide (countV p.1 ≤ 400)) = true) {ds rs : List D} (hm : (ds, rs) ∈ lk) : C5 f ds rs :=
  con_run ht mixed (by simpa using List.all_eq_true.1 hc _ hm) (fun caps => List.all_eq_true.1 (h caps) _ hm)
abbrev rulD : D := .agg [dI 10, dI 100, dI 60, dI 10000, dI 10000, dI 9000, .sl 2 5 [vI 300, vI 20000, vI 400000, vI 0, vI 100, vI 300, vI 20000, vI 400000, vI 0, vI 100], dI 2, dI 3, dI 7, dI 8]
abbrev oneD : D := .agg [dI 10, dI 100, dI 60, dI 10000, dI 10000, dI 9000, .sl 1 5 [vI 300, vI 20000, vI 400000, vI 0, vI 100], dI 2, dI 3, dI 7, dI 8]
abbrev bestD : D := .agg [.val (.string ⟨#[98, 101, 115, 116]⟩), .sl 2 1 [vI 80, vI 60]]
end Go.Proofs.G5p

/- awake of chapter 3: which draughts keep which limits. -/
namespace Go.Proofs.G5p
open Go Go.Abs Go.Proofs Go.Str
set_option maxRecDepth 100000
def lk1 : List (List D × List D) := [([rulD, drD 0 100 100, .sl 4 1 [vI 0, vI 1, vI 2, vI 3]], [dB true]),
  ([rulD, drD 0 100 90, .sl 4 1 [vI 0, vI 1, vI 2, vI 3]], [dB true]),
  ([rulD, drD 0 100 80, .sl 4 1 [vI 0, vI 1, vI 2, vI 3]], [dB true]),
  ([rulD, drD 0 100 70, .sl 4 1 [vI 0, vI 1, vI 2, vI 3]], [dB false]),
  ([rulD, drD 0 100 60, .sl 4 1 [vI 0, vI 1, vI 2, vI 3]], [dB false]),
  ([rulD, drD 0 90 90, .sl 4 1 [vI 0, vI 1, vI 2, vI 3]], [dB true]),
  ([rulD, drD 0 90 80, .sl 4 1 [vI 0, vI 1, vI 2, vI 3]], [dB true]),
  ([rulD, drD 0 90 70, .sl 4 1 [vI 0, vI 1, vI 2, vI 3]], [dB true]),
  ([rulD, drD 0 90 60, .sl 4 1 [vI 0, vI 1, vI 2, vI 3]], [dB false]),
  ([rulD, drD 0 80 80, .sl 4 1 [vI 0, vI 1, vI 2, vI 3]], [dB true]),
  ([rulD, drD 0 80 70, .sl 4 1 [vI 0, vI 1, vI 2, vI 3]], [dB true]),
  ([rulD, drD 0 80 60, .sl 4 1 [vI 0, vI 1, vI 2, vI 3]], [dB true]),
  ([rulD, drD 0 70 70, .sl 4 1 [vI 0, vI 1, vI 2, vI 3]], [dB true]),
  ([rulD, drD 0 70 60, .sl 4 1 [vI 0, vI 1, vI 2, vI 3]], [dB true]),
  ([rulD, drD 0 60 60, .sl 4 1 [vI 0, vI 1, vI 2, vI 3]], [dB true]),
  ([rulD, drD 1 100 100, .sl 4 1 [vI 0, vI 1, vI 2, vI 3]], [dB true]),
  ([rulD, drD 1 100 90, .sl 4 1 [vI 0, vI 1, vI 2, vI 3]], [dB true]),
  ([rulD, drD 1 100 80, .sl 4 1 [vI 0, vI 1, vI 2, vI 3]], [dB true]),
  ([rulD, drD 1 100 70, .sl 4 1 [vI 0, vI 1, vI 2, vI 3]], [dB false]),
  ([rulD, drD 1 100 60, .sl 4 1 [vI 0, vI 1, vI 2, vI 3]], [dB false]),
  ([rulD, drD 1 90 90, .sl 4 1 [vI 0, vI 1, vI 2, vI 3]], [dB true]),
  ([rulD, drD 1 90 80, .sl 4 1 [vI 0, vI 1, vI 2, vI 3]], [dB true]),
  ([rulD, drD 1 90 70, .sl 4 1 [vI 0, vI 1, vI 2, vI 3]], [dB true]),
  ([rulD, drD 1 90 60, .sl 4 1 [vI 0, vI 1, vI 2, vI 3]], [dB false]),
  ([rulD, drD 1 80 80, .sl 4 1 [vI 0, vI 1, vI 2, vI 3]], [dB true]),
  ([rulD, drD 1 80 70, .sl 4 1 [vI 0, vI 1, vI 2, vI 3]], [dB true]),
  ([rulD, drD 1 80 60, .sl 4 1 [vI 0, vI 1, vI 2, vI 3]], [dB true]),
  ([rulD, drD 1 70 70, .sl 4 1 [vI 0, vI 1, vI 2, vI 3]], [dB true]),
  ([rulD, drD 1 70 60, .sl 4 1 [vI 0, vI 1, vI 2, vI 3]], [dB true]),
  ([rulD, drD 1 60 60, .sl 4 1 [vI 0, vI 1, vI 2, vI 3]], [dB true])]
theorem run1 : ∀ caps, (lk1.all fun p => runOK Try.prog tabP 1000 102 p.1 p.2 caps) = true := by intro caps; kernel_rfl
end Go.Proofs.G5p

/- awake of chapter 3: which draughts keep which limits. -/
namespace Go.Proofs.G5p
open Go Go.Abs Go.Proofs Go.Str
set_option maxRecDepth 100000
def lk2 : List (List D × List D) := [([oneD, drD 0 100 100, .sl 4 1 [vI 0, vI 1, vI 2, vI 3]], [dB true]),
  ([oneD, drD 0 100 90, .sl 4 1 [vI 0, vI 1, vI 2, vI 3]], [dB true]),
  ([oneD, drD 0 100 80, .sl 4 1 [vI 0, vI 1, vI 2, vI 3]], [dB true]),
  ([oneD, drD 0 100 70, .sl 4 1 [vI 0, vI 1, vI 2, vI 3]], [dB false]),
  ([oneD, drD 0 100 60, .sl 4 1 [vI 0, vI 1, vI 2, vI 3]], [dB false]),
  ([oneD, drD 0 90 90, .sl 4 1 [vI 0, vI 1, vI 2, vI 3]], [dB true]),
  ([oneD, drD 0 90 80, .sl 4 1 [vI 0, vI 1, vI 2, vI 3]], [dB true]),
  ([oneD, drD 0 90 70, .sl 4 1 [vI 0, vI 1, vI 2, vI 3]], [dB true]),
  ([oneD, drD 0 90 60, .sl 4 1 [vI 0, vI 1, vI 2, vI 3]], [dB false]),
  ([oneD, drD 0 80 80, .sl 4 1 [vI 0, vI 1, vI 2, vI 3]], [dB true]),
  ([oneD, drD 0 80 70, .sl 4 1 [vI 0, vI 1, vI 2, vI 3]], [dB true]),
  ([oneD, drD 0 80 60, .sl 4 1 [vI 0, vI 1, vI 2, vI 3]], [dB true]),
  ([oneD, drD 0 70 70, .sl 4 1 [vI 0, vI 1, vI 2, vI 3]], [dB true]),
  ([oneD, drD 0 70 60, .sl 4 1 [vI 0, vI 1, vI 2, vI 3]], [dB true]),
  ([oneD, drD 0 60 60, .sl 4 1 [vI 0, vI 1, vI 2, vI 3]], [dB true]),
  ([oneD, drD 0 100 100, .nil], [dB true]),
  ([oneD, drD 0 100 90, .nil], [dB true]),
  ([oneD, drD 0 100 80, .nil], [dB true]),
  ([oneD, drD 0 100 70, .nil], [dB true]),
  ([oneD, drD 0 100 60, .nil], [dB true]),
  ([oneD, drD 0 90 90, .nil], [dB true]),
  ([oneD, drD 0 90 80, .nil], [dB true]),
  ([oneD, drD 0 90 70, .nil], [dB true]),
  ([oneD, drD 0 90 60, .nil], [dB true]),
  ([oneD, drD 0 80 80, .nil], [dB true]),
  ([oneD, drD 0 80 70, .nil], [dB true]),
  ([oneD, drD 0 80 60, .nil], [dB true]),
  ([oneD, drD 0 70 70, .nil], [dB true]),
  ([oneD, drD 0 70 60, .nil], [dB true]),
  ([oneD, drD 0 60 60, .nil], [dB true]),
  ([oneD, drD 0 100 100, .sl 1 1 [vI 0]], [dB true]),
  ([oneD, drD 0 100 90, .sl 1 1 [vI 0]], [dB true]),
  ([oneD, drD 0 100 80, .sl 1 1 [vI 0]], [dB true]),
  ([oneD, drD 0 100 70, .sl 1 1 [vI 0]], [dB true]),
  ([oneD, drD 0 100 60, .sl 1 1 [vI 0]], [dB true]),
  ([oneD, drD 0 90 90, .sl 1 1 [vI 0]], [dB true]),
  ([oneD, drD 0 90 80, .sl 1 1 [vI 0]], [dB true]),
  ([oneD, drD 0 90 70, .sl 1 1 [vI 0]], [dB true]),
  ([oneD, drD 0 90 60, .sl 1 1 [vI 0]], [dB true]),
  ([oneD, drD 0 80 80, .sl 1 1 [vI 0]], [dB true]),
  ([oneD, drD 0 80 70, .sl 1 1 [vI 0]], [dB true]),
  ([oneD, drD 0 80 60, .sl 1 1 [vI 0]], [dB true]),
  ([oneD, drD 0 70 70, .sl 1 1 [vI 0]], [dB true]),
  ([oneD, drD 0 70 60, .sl 1 1 [vI 0]], [dB true]),
  ([oneD, drD 0 60 60, .sl 1 1 [vI 0]], [dB true]),
  ([oneD, drD 0 100 100, .sl 1 1 [vI 1]], [dB true]),
  ([oneD, drD 0 100 90, .sl 1 1 [vI 1]], [dB true]),
  ([oneD, drD 0 100 80, .sl 1 1 [vI 1]], [dB true]),
  ([oneD, drD 0 100 70, .sl 1 1 [vI 1]], [dB false]),
  ([oneD, drD 0 100 60, .sl 1 1 [vI 1]], [dB false]),
  ([oneD, drD 0 90 90, .sl 1 1 [vI 1]], [dB true]),
  ([oneD, drD 0 90 80, .sl 1 1 [vI 1]], [dB true]),
  ([oneD, drD 0 90 70, .sl 1 1 [vI 1]], [dB true]),
  ([oneD, drD 0 90 60, .sl 1 1 [vI 1]], [dB true]),
  ([oneD, drD 0 80 80, .sl 1 1 [vI 1]], [dB true]),
  ([oneD, drD 0 80 70, .sl 1 1 [vI 1]], [dB true]),
  ([oneD, drD 0 80 60, .sl 1 1 [vI 1]], [dB true]),
  ([oneD, drD 0 70 70, .sl 1 1 [vI 1]], [dB true]),
  ([oneD, drD 0 70 60, .sl 1 1 [vI 1]], [dB true]),
  ([oneD, drD 0 60 60, .sl 1 1 [vI 1]], [dB true])]
theorem run2 : ∀ caps, (lk2.all fun p => runOK Try.prog tabP 1000 102 p.1 p.2 caps) = true := by intro caps; kernel_rfl
end Go.Proofs.G5p

/- awake of chapter 3: what is known of some calls. -/
namespace Go.Proofs.G5p
open Go Go.Abs Go.Proofs Go.Str
set_option maxRecDepth 100000
def lkH : List (List D × List D) := [([rulD, bestD], [dI 2, dI 0])]
def lkR : List (List D × List D) := [([rulD, bestD, .agg [dI 2, dI 8, dI 10000, .sl 2 1 [vI 50, vI 50]]], [.sl 2 2 [vI 49752, vI 5, vI 49504, vI 5], .val (.bool true), dI 0])]
def lkT : List (List D × List D) := [([rulD, bestD, dI 300], [.sl 2 2 [vI 375, vI 1, vI 500, vI 1], dI 0])]
def lkQ : List (List D × List D) := [([rulD, dI 10], [.sl 5 1 [vI 100, vI 90, vI 80, vI 70, vI 60]]), ([oneD, dI 10], [.sl 5 1 [vI 100, vI 90, vI 80, vI 70, vI 60]])]
theorem runH : ∀ caps, (lkH.all fun p => runOK Try.prog tabP 1000 29 p.1 p.2 caps) = true := by intro caps; kernel_rfl
theorem runR : ∀ caps, (lkR.all fun p => runOK Try.prog tabP 1000 22 p.1 p.2 caps) = true := by intro caps; kernel_rfl
theorem runT : ∀ caps, (lkT.all fun p => runOK Try.prog tabP 1000 13 p.1 p.2 caps) = true := by intro caps; kernel_rfl
theorem runQ : ∀ caps, (lkQ.all fun p => runOK Try.prog tabP 1000 92 p.1 p.2 caps) = true := by intro caps; kernel_rfl
end Go.Proofs.G5p

/- awake of chapter 3, for every tape: by tables. -/
namespace Go.Proofs.G5p
open Go Go.Abs Go.Proofs Go.Str
set_option maxRecDepth 100000
theorem runP : ∀ caps, ((lk1 ++ lk2).all fun p => runOK Try.prog tabP 1000 102 p.1 p.2 caps) = true := fun caps => by rw [List.all_append, run1, run2]; rfl
def tabA : Tab := fun f => if f == 102 then some (fun ds => lookK (lk1 ++ lk2) (keyD ds) ds) else if f == 29 then some (tabLook lkH) else if f == 22 then some (tabLook lkR) else if f == 13 then some (tabLook lkT) else if f == 92 then some (tabLook lkQ) else tabP f
theorem tabA_ok : TabOK Try.prog tabA := by
  intro f t ht ds rs h
  unfold tabA at ht
  split at ht
  · rename_i e; obtain rfl := Option.some.inj ht; rw [beq_iff_eq] at e; subst e; exact look_all tabP_ok runP (by kernel_rfl) (lookK_ok h)
  · split at ht
    · rename_i e; obtain rfl := Option.some.inj ht; rw [beq_iff_eq] at e; subst e; exact look_all tabP_ok runH (by kernel_rfl) (tabLook_ok h)
    · split at ht
      · rename_i e; obtain rfl := Option.some.inj ht; rw [beq_iff_eq] at e; subst e; exact look_all tabP_ok runR (by kernel_rfl) (tabLook_ok h)
      · split at ht
        · rename_i e; obtain rfl := Option.some.inj ht; rw [beq_iff_eq] at e; subst e; exact look_all tabP_ok runT (by kernel_rfl) (tabLook_ok h)
        · split at ht
          · rename_i e; obtain rfl := Option.some.inj ht; rw [beq_iff_eq] at e; subst e; exact look_all tabP_ok runQ (by kernel_rfl) (tabLook_ok h)
          · exact tabP_ok f t ht ds rs h
theorem runA : ∀ caps, runOK Try.prog tabA 1000 6 [] [.val (.bool true)] caps = true := by intro caps; kernel_rfl
theorem conA : C5 6 [] [.val (.bool true)] := con_run tabA_ok mixed (by show 0 ≤ 400; omega) runA
end Go.Proofs.G5p

/- Chapter 3: copies, by the shape of what is copied. -/
namespace Go.Abs
def copyPR : List D → Option (List D)
  | [.agg [a, b, c, d, e, f, .nil, g, h, i, j]] => some [.agg [a, b, c, d, e, f, .sl 0 5 [], g, h, i, j]]
  | [.agg [a, b, c, d, e, f, .sl n es cs, g, h, i, j]] => some [.agg [a, b, c, d, e, f, .sl n es cs, g, h, i, j]]
  | _ => none
def copyPS : List D → Option (List D)
  | [.agg [a, .nil]] => some [.agg [a, .sl 0 1 []]]
  | [.agg [a, .sl n es cs]] => some [.agg [a, .sl n es cs]]
  | _ => none
def copyPM : List D → Option (List D)
  | [.agg [a, b, c, .nil]] => some [.agg [a, b, c, .sl 0 1 []]]
  | [.agg [a, b, c, .sl n es cs]] => some [.agg [a, b, c, .sl n es cs]]
  | _ => none
end Go.Abs

/- Short names for what stands often in printed texts of laws. -/
namespace Go.Abs
abbrev Tk (n k : Nat) (l : List Value) : List Value := List.take (n * k) (List.drop 0 l)
abbrev Dw (n k : Nat) (l : List Value) : D := .sl n k (Tk n k l)
abbrev dL (n k : Nat) (l : List Value) : Bool := decide (0 + n * k ≤ List.length l)
abbrev kT : List D := [.val (.bool true)]
abbrev kF : List D := [.val (.bool false)]
abbrev Qu : Prop := Value.tuple [].toArray = Value.tuple [].toArray
abbrev Qf : Prop := Value.bool false = Value.bool false
abbrev Qb : Prop := Value.bool true = Value.bool true
abbrev Qft : Prop := Value.bool false = Value.bool true
abbrev Qtf : Prop := Value.bool true = Value.bool false
end Go.Abs

/- What is left to show of each function, written out; the kernel reckons it. -/
namespace Go.Proofs.G5p
open Go Go.Abs Go.Proofs
set_option maxRecDepth 100000
set_option linter.unusedVariables false
def preQ (C : Ct) : FuncId → Option Handler := fun g => if g == 9 then some (fixH C copyPR) else if g == 11 then some (fixH C copyPS) else if g == 21 then some (fixH C copyPM) else if [6, 42, 43, 44, 45, 46, 48, 60, 8, 81, 82, 47, 10, 20, 53, 105, 98, 89, 99, 63, 86, 97, 61, 64, 12, 13, 30, 29, 22, 14, 23, 15, 25, 27, 59, 17, 19, 66, 67, 68, 65, 26, 24, 28, 16, 18, 58, 41, 71, 87, 31, 32, 33].contains g then some (saidH Try.prog C) else none
abbrev hQ (C : Ct) : Handler := handlerX Try.prog (preQ C) 12 6
def gcR (C : Ct) (L : AtLoop) (x0 : Int) (x1 : Int) (x2 : Int) (x3 : Int) (x4 : Int) (x5 : Int) (n6 : Nat) (c6 : Nat) (l6 : List Value) (x7 : Int) (x8 : Int) (x9 : Int) (x10 : Int) (k : List D → Prop) : Prop := wpFn Try.prog (hE C) L 0 9 #[.agg #[.int .i64 x0, .int .i64 x1, .int .i64 x2, .int .i64 x3, .int .i64 x4, .int .i64 x5, .slice (some ⟨500, 0, none⟩) n6 c6, .int .i64 x7, .int .i64 x8, .int .i64 x9, .int .i64 x10]] (heapOf [(500, .sym l6 false 5)]) (dataK k)
theorem gcR_text (C : Ct) (L : AtLoop) (x0 : Int) (x1 : Int) (x2 : Int) (x3 : Int) (x4 : Int) (x5 : Int) (n6 : Nat) (c6 : Nat) (l6 : List Go.Value) (x7 : Int) (x8 : Int) (x9 : Int) (x10 : Int) (k : List D → Prop) : gcR C L x0 x1 x2 x3 x4 x5 n6 c6 l6 x7 x8 x9 x10 k =
 (bcase (dL n6 5 l6)
 (bcase (n6 == 0)
 (((0 = 0) ∧
 (0 = 0)) ∧
 (k [(D.agg [(dI x0), (dI x1), (dI x2), (dI x3), (dI x4), (dI x5), (D.sl 0 5 []), (dI x7), (dI x8), (dI x9), (dI x10)])]))
 (bcase (decide (0 < 0 + n6))
 (bcase (decide ((2 * (0 + n6) + 768) * 40 ≤ 281474976710656))
 (bcase (decide (0 + n6 ≤ 1099511627776))
 (((Qv (0 + n6)) ∧
 ((List.length (List.take 0 (List.drop 0 []) ++ List.take (n6 * 5) (List.drop 0 l6))) = ((0 + n6) * 5))) ∧
 (k [(D.agg [(dI x0), (dI x1), (dI x2), (dI x3), (dI x4), (dI x5), (D.sl (0 + n6) 5 ([] ++ (Tk n6 5 l6))), (dI x7), (dI x8), (dI x9), (dI x10)])]))
 False)
 False)
 False))
 False) := by kernel_rfl
def gcS (C : Ct) (L : AtLoop) (s0 : ByteArray) (n1 : Nat) (c1 : Nat) (l1 : List Value) (k : List D → Prop) : Prop := wpFn Try.prog (hE C) L 0 11 #[.agg #[.string s0, .slice (some ⟨500, 0, none⟩) n1 c1]] (heapOf [(500, .sym l1 false 1)]) (dataK k)
theorem gcS_text (C : Ct) (L : AtLoop) (s0 : ByteArray) (n1 : Nat) (c1 : Nat) (l1 : List Go.Value) (k : List D → Prop) : gcS C L s0 n1 c1 l1 k =
 (((Qv (Sl 500 (n1) (c1))) ∧
 ((Qv (Pt 1000 1)) ∧
 ((Qv (Value.string (s0))) ∧
 ((Qv (Pt 1000 0)) ∧
 True)))) ∧
 (bcase (dL n1 1 l1)
 (bcase (n1 == 0)
 (((Qv (Value.agg [(Value.string (s0)), (Sl 1003 0 0)].toArray)) ∧
 ((Qv (Pt 1000 1)) ∧
 ((Qv (Value.string (s0))) ∧
 ((Qv (Pt 1000 0)) ∧
 True)))) ∧
 (True ∧
 (((0 = 0) ∧
 (0 = 0)) ∧
 (k [(D.agg [(D.val (Value.string (s0))), (D.sl 0 1 [])])]))))
 (bcase (decide (0 < 0 + n1))
 (bcase (decide ((2 * (0 + n1) + 768) * 8 ≤ 281474976710656))
 (bcase (decide (0 + n1 ≤ 1099511627776))
 (((Qv (Value.agg [(Value.string (s0)), (Sl 1003 (0 + n1) (0 + n1))].toArray)) ∧
 ((Qv (Pt 1000 1)) ∧
 ((Qv (Value.string (s0))) ∧
 ((Qv (Pt 1000 0)) ∧
 True)))) ∧
 (True ∧
 (((Qv (0 + n1)) ∧
 ((List.length (List.take 0 (List.drop 0 []) ++ List.take (n1 * 1) (List.drop 0 l1))) = ((0 + n1) * 1))) ∧
 (k [(D.agg [(D.val (Value.string (s0))), (D.sl (0 + n1) 1 ([] ++ (Tk n1 1 l1)))])]))))
 False)
 False)
 False))
 False)) := by kernel_rfl
def gcM (C : Ct) (L : AtLoop) (x0 : Int) (x1 : Int) (x2 : Int) (n3 : Nat) (c3 : Nat) (l3 : List Value) (k : List D → Prop) : Prop := wpFn Try.prog (hE C) L 0 21 #[.agg #[.int .i64 x0, .int .i64 x1, .int .i64 x2, .slice (some ⟨500, 0, none⟩) n3 c3]] (heapOf [(500, .sym l3 false 1)]) (dataK k)
theorem gcM_text (C : Ct) (L : AtLoop) (x0 : Int) (x1 : Int) (x2 : Int) (n3 : Nat) (c3 : Nat) (l3 : List Go.Value) (k : List D → Prop) : gcM C L x0 x1 x2 n3 c3 l3 k =
 (bcase (dL n3 1 l3)
 (bcase (n3 == 0)
 (((0 = 0) ∧
 (0 = 0)) ∧
 (k [(D.agg [(dI x0), (dI x1), (dI x2), (D.sl 0 1 [])])]))
 (bcase (decide (0 < 0 + n3))
 (bcase (decide ((2 * (0 + n3) + 768) * 8 ≤ 281474976710656))
 (bcase (decide (0 + n3 ≤ 1099511627776))
 (((Qv (0 + n3)) ∧
 ((List.length (List.take 0 (List.drop 0 []) ++ List.take (n3 * 1) (List.drop 0 l3))) = ((0 + n3) * 1))) ∧
 (k [(D.agg [(dI x0), (dI x1), (dI x2), (D.sl (0 + n3) 1 ([] ++ (Tk n3 1 l3)))])]))
 False)
 False)
 False))
 False) := by kernel_rfl
end Go.Proofs.G5p

/- PassSchedules in data. -/
namespace Go.Proofs.G5p
open Go Go.Abs Go.Proofs Go.Str
set_option maxRecDepth 100000
theorem v5_e {l : List Fv} (h : l.length = 0) : vs5 l = [] := by rw [List.eq_nil_of_length_eq_zero h]; rfl
theorem v1_e {l : List Int} (h : l.length = 0) : vi l = [] := by rw [List.eq_nil_of_length_eq_zero h]; rfl
theorem concR (r : Ru) (h8 : r.ss.length ≤ 8) : C5 9 [r.d] [r.d] := by
  refine con_flat hokE mixed Try.func9 rfl (by show 1 ≤ 400; omega) rfl (by kernel_rfl) (fun caps => ?_)
  show gcR _ _ r.w r.st r.fi r.hlo r.hhi r.co r.ss.length (caps 500) (vs5 r.ss) r.slo r.shi r.flo r.fhi _
  rw [gcR_text]
  simp only [dL, Tk, v5_whole, bc_t (v5le r.ss), Qv, eq_self, true_and]
  refine bc_beq (fun h => ?_) (fun h => ?_)
  · show [D.agg _] = [D.agg _]
    simp only [v5_e h, h]
  · rw [bc_t (by omega), bc_t (by omega), bc_t (by omega)]
    simp
theorem concS (nm : List UInt8) (th : List Int) (h8 : th.length ≤ 8) : C5 11 [scD nm th] [scD nm th] := by
  refine con_flat hokE mixed Try.func11 rfl (by show 1 ≤ 400; omega) rfl (by kernel_rfl) (fun caps => ?_)
  show gcS _ _ (bs nm) th.length (caps 500) (vi th) _
  rw [gcS_text]
  simp only [dL, Tk, v1_whole, bc_t (v1le th), Qv, eq_self, true_and]
  refine bc_beq (fun h => ?_) (fun h => ?_)
  · show [D.agg _] = [D.agg _]
    simp only [v1_e h, h]
  · rw [bc_t (by omega), bc_t (by omega), bc_t (by omega)]
    simp
end Go.Proofs.G5p

/- Chapter 3: for every material: small contracts. -/
namespace Go.Proofs.G5p
open Go Go.Abs Go.Proofs Go.Str
set_option maxRecDepth 100000
theorem schP_good {r : Ru} {nm : List UInt8} {th : List Int} (h : (chk r).2 = 0) : schP r nm th = schE r nm th := by rw [schP, if_pos h]
theorem chk_pos {r : Ru} (h1 : (chk r).2 = 0) : 0 < r.ss.length := by
  have hr : rngB r := Decidable.byContradiction fun h => by rw [chk_rng h] at h1; simp at h1
  have ho : ordB r := Decidable.byContradiction fun h => by rw [chk_ord hr h] at h1; simp at h1
  rw [chk_cnt hr ho] at h1
  have hc : cntE r.ss.length = 0 := Decidable.byContradiction fun h => by rw [if_neg h] at h1; exact h h1
  refine Nat.pos_of_ne_zero fun h => ?_
  rw [cntE, if_pos h] at hc; simp at hc
theorem schE_nil {r : Ru} (nm : List UInt8) (h0 : 0 < r.ss.length) : (schE r nm []).2 ≠ 0 := by
  rw [schE]
  split
  · rw [if_neg (by simp; omega)]; decide
  · decide
theorem conSE (r : Ru) (nm : List UInt8) (th : List Int) (hlen : r.ss.length < 1000000000) (hth : th.length < 1000000000) : C5 25 [r.d, scD nm th] [dI (schE r nm th).2] := by
  refine con_flat hokP mixed Try.func25 rfl (by show 2 ≤ 400; omega) rfl (by kernel_rfl) (fun caps => ?_)
  show gSE _ _ r.w r.st r.fi r.hlo r.hhi r.co r.ss.length (caps 500) (vs5 r.ss) r.slo r.shi r.flo r.fhi (bs nm) th.length (caps 501) (vi th) _
  rw [gSE_text, bc_t (v5le r.ss), bc_t (v1le th), v5_whole, v1_whole]
  exact ⟨_, _, ⟨conRS r nm th hlen hth⟩, rfl⟩
theorem conSEn (r : Ru) (nm : List UInt8) (h0 : 0 < r.ss.length) (hlen : r.ss.length < 1000000000) : C5 25 [r.d, scN nm] [dI (schE r nm []).2] := by
  refine con_flat hokP mixed Try.func25 rfl (by show 1 ≤ 400; omega) rfl (by kernel_rfl) (fun caps => ?_)
  show gSEn _ _ r.w r.st r.fi r.hlo r.hhi r.co r.ss.length (caps 500) (vs5 r.ss) r.slo r.shi r.flo r.fhi (bs nm) _
  rw [gSEn_text, bc_t (v5le r.ss), v5_whole]
  exact ⟨_, _, ⟨conRSn r nm h0 hlen⟩, rfl⟩
theorem concM (ms mf mh : Int) (ls : List Int) (h8 : ls.length ≤ 8) : C5 21 [maD ms mf mh ls] [maD ms mf mh ls] := by
  refine con_flat hokE mixed Try.func21 rfl (by show 1 ≤ 400; omega) rfl (by kernel_rfl) (fun caps => ?_)
  show gcM _ _ ms mf mh ls.length (caps 500) (vi ls) _
  rw [gcM_text]
  simp only [dL, Tk, v1_whole, bc_t (v1le ls), Qv, eq_self, true_and]
  refine bc_beq (fun h => ?_) (fun h => ?_)
  · show [D.agg _] = [D.agg _]
    simp only [v1_e h, h]
  · rw [bc_t (by omega), bc_t (by omega), bc_t (by omega)]
    simp
theorem matP_good {r : Ru} {ms mf mh : Int} {ls : List Int} (h : (chk r).2 = 0) : matP r ms mf mh ls = matE r ms mf mh ls := by rw [matP, if_pos h]
theorem matE_nil {r : Ru} (ms mf mh : Int) (h0 : 0 < r.ss.length) : (matE r ms mf mh []).2 ≠ 0 := by
  rw [matE]
  split
  · rw [if_neg (by simp; omega)]; decide
  · decide
theorem conIst (a b : Int) (h : (-1000000000 ≤ a ∧ a ≤ 1000000000) ∧ 1 ≤ b ∧ b ≤ 1000000000) : C5 32 [.agg [dI a, dI b]] [dB true] := by
  refine con_flat hokP mixed Try.func32 rfl (by show 0 ≤ 400; omega) rfl (by kernel_rfl) (fun caps => ?_)
  show gIS _ _ a b _
  rw [gIS_text]
  exact .inl ⟨sayWt (by omega), .inl ⟨sayWt (by omega), rfl⟩⟩
theorem conCm (a b c d : Int) (h : (-1000000000 ≤ a ∧ a ≤ 1000000000) ∧ 1 ≤ b ∧ b ≤ 1000000000) (k : (-1000000000 ≤ c ∧ c ≤ 1000000000) ∧ 1 ≤ d ∧ d ≤ 1000000000) : C5 33 [.agg [dI a, dI b], .agg [dI c, dI d]] [dI (if a * d < c * b then -1 else if a * d > c * b then 1 else 0)] := by
  refine con_flat hokP mixed Try.func33 rfl (by show 0 ≤ 400; omega) rfl (by kernel_rfl) (fun caps => ?_)
  show gCm _ _ a b c d _
  have e1 := mulS 1000000000 1000000000 h.1 (show 0 ≤ d ∧ d ≤ 1000000000 by omega)
  have e2 := mulS 1000000000 1000000000 k.1 (show 0 ≤ b ∧ b ≤ 1000000000 by omega)
  rw [gCm_text]
  simp only [Qv, eq_self, true_and, and_true]
  rw [w64 (z := a * d) (by omega) (by omega), w64 (z := c * b) (by omega) (by omega)]
  refine bc_dec (fun h1 => ?_) (fun h1 => ?_)
  · rw [if_pos h1]; rfl
  · rw [if_neg h1]
    refine bc_dec (fun h2 => ?_) (fun h2 => ?_)
    · rw [if_pos h2]
    · rw [if_neg h2]
theorem conBE (r : Ru) (nm : List UInt8) (th : List Int) (hlen : r.ss.length < 1000000000) (hth : th.length < 1000000000) : C5 27 [r.d, scD nm th] [dI (if (chk r).2 = 0 then (schE r nm th).2 else (chk r).2)] := by
  refine con_flat hokP mixed Try.func27 rfl (by show 2 ≤ 400; omega) rfl (by kernel_rfl) (fun caps => ?_)
  show gBE _ _ r.w r.st r.fi r.hlo r.hhi r.co r.ss.length (caps 500) (vs5 r.ss) r.slo r.shi r.flo r.fhi (bs nm) th.length (caps 501) (vi th) _
  rw [gBE_text]
  simp only [bc_t (v5le r.ss), bc_t (v1le th), v5_whole, v1_whole]
  refine ⟨_, ⟨conRE r hlen⟩, bc_bne (fun h => ?_) (fun h => ?_)⟩
  · rw [if_neg h]
  · exact ⟨_, ⟨conSE r nm th hlen hth⟩, by rw [if_pos h]⟩
theorem conBEn (r : Ru) (nm : List UInt8) (hlen : r.ss.length < 1000000000) : C5 27 [r.d, scN nm] [dI (if (chk r).2 = 0 then (schE r nm []).2 else (chk r).2)] := by
  refine con_flat hokP mixed Try.func27 rfl (by show 1 ≤ 400; omega) rfl (by kernel_rfl) (fun caps => ?_)
  show gBEn _ _ r.w r.st r.fi r.hlo r.hhi r.co r.ss.length (caps 500) (vs5 r.ss) r.slo r.shi r.flo r.fhi (bs nm) _
  rw [gBEn_text]
  simp only [bc_t (v5le r.ss), v5_whole]
  refine ⟨_, ⟨conRE r hlen⟩, bc_bne (fun h => ?_) (fun h => ?_)⟩
  · rw [if_neg h]
  · exact ⟨_, ⟨conSEn r nm (chk_pos h) hlen⟩, by rw [if_pos h]⟩
theorem chk_nil {r : Ru} (h : r.ss = []) : (chk r).2 ≠ 0 := fun hc => by
  have := chk_pos hc
  rw [h] at this; simp at this
theorem conBEm (r : Ru) (hr : r.ss = []) (nm : List UInt8) (th : List Int) : C5 27 [r.dn, scD nm th] [dI (chk r).2] := by
  refine con_flat hokP mixed Try.func27 rfl (by show 1 ≤ 400; omega) rfl (by kernel_rfl) (fun caps => ?_)
  show gBEm _ _ r.w r.st r.fi r.hlo r.hhi r.co r.slo r.shi r.flo r.fhi (bs nm) th.length (caps 500) (vi th) _
  rw [gBEm_text]
  exact ⟨_, ⟨conREn r hr⟩, bc_bne (fun h => rfl) (fun h => absurd h (chk_nil hr))⟩
theorem conBEk (r : Ru) (hr : r.ss = []) (nm : List UInt8) : C5 27 [r.dn, scN nm] [dI (chk r).2] := by
  refine con_flat hokP mixed Try.func27 rfl (by show 0 ≤ 400; omega) rfl (by kernel_rfl) (fun caps => ?_)
  show gBEk _ _ r.w r.st r.fi r.hlo r.hhi r.co r.slo r.shi r.flo r.fhi (bs nm) _
  rw [gBEk_text]
  exact ⟨_, ⟨conREn r hr⟩, bc_bne (fun h => rfl) (fun h => absurd h (chk_nil hr))⟩
theorem conME (r : Ru) (ms mf mh : Int) (ls : List Int) (hlen : r.ss.length < 1000000000) : C5 28 [r.d, maD ms mf mh ls] [dI (matE r ms mf mh ls).2] := by
  refine con_flat hokP mixed Try.func28 rfl (by show 2 ≤ 400; omega) rfl (by kernel_rfl) (fun caps => ?_)
  show gME _ _ r.w r.st r.fi r.hlo r.hhi r.co r.ss.length (caps 500) (vs5 r.ss) r.slo r.shi r.flo r.fhi ms mf mh ls.length (caps 501) (vi ls) _
  rw [gME_text]
  simp only [bc_t (v5le r.ss), bc_t (v1le ls), v5_whole, v1_whole]
  exact ⟨_, _, ⟨conRC0 r ms mf mh ls hlen⟩, rfl⟩
theorem conMEn (r : Ru) (ms mf mh : Int) (h0 : 0 < r.ss.length) (hlen : r.ss.length < 1000000000) : C5 28 [r.d, maN ms mf mh] [dI (matE r ms mf mh []).2] := by
  refine con_flat hokP mixed Try.func28 rfl (by show 1 ≤ 400; omega) rfl (by kernel_rfl) (fun caps => ?_)
  show gMEn _ _ r.w r.st r.fi r.hlo r.hhi r.co r.ss.length (caps 500) (vs5 r.ss) r.slo r.shi r.flo r.fhi ms mf mh _
  rw [gMEn_text]
  simp only [bc_t (v5le r.ss), v5_whole]
  exact ⟨_, _, ⟨conRCn r ms mf mh h0 hlen⟩, rfl⟩
end Go.Proofs.G5p

/- Calls whose lists are never nil, and whose bools stay open: met by one shape. -/
namespace Go.Abs
def someScalL : List Sc → Heap → (List D → List Value → Heap → Prop) → Prop
  | [], H, k => k [] [] H
  | .int kd :: r, H, k => ∃ n : Int, someScalL r H fun ds vs H' => k (.val (.int kd n) :: ds) (.int kd n :: vs) H'
  | .bool :: r, H, k => ∃ b : Bool, someScalL r H fun ds vs H' => k (.val (.bool b) :: ds) (.bool b :: vs) H'
  | .str :: r, H, k => ∃ s : ByteArray, someScalL r H fun ds vs H' => k (.val (.string s) :: ds) (.string s :: vs) H'
  | .sl es :: r, H, k => ∃ (n : Nat) (cs : List Value), someScalL r (H.new (.sym cs true es)) fun ds vs H' => k (.sl n es cs :: ds) (.slice (some ⟨H.next, 0, none⟩) n n :: vs) H'
def someValL (P : Program) (t : TypeId) (H : Heap) (k : D → Value → Heap → Prop) : Prop :=
  match scal P 8 t with
  | none => False
  | some l =>
    match isAggP P t with
    | some true => someScalL l H fun ds vs H' => k (.agg ds) (.agg vs.toArray) H'
    | _ => someScalL l H fun ds vs H' => match ds, vs with | [d], [v] => k d v H' | _, _ => False
def someValsL (P : Program) : List TypeId → Heap → (List D → List Value → Heap → Prop) → Prop
  | [], H, k => k [] [] H
  | t :: r, H, k => someValL P t H fun d v H' => someValsL P r H' fun ds vs H'' => k (d :: ds) (v :: vs) H''
def saidL (P : Program) (C : FuncId → List D → List D → Prop) : Handler := fun g args _ H k =>
  match P.funcs[g]? with | some fn => readVals H args.toList fun ds => someValsL P fn.resultTypes.toList H fun rs vs H' => Says C g ds rs ∧ k (tupleOf vs) H' | none => False
/-- what is never called -/
def deadH : Handler := fun _ _ _ _ _ => False
end Go.Abs

/- What is left to show of each function, written out; the kernel reckons it. -/
namespace Go.Proofs.G5p
open Go Go.Abs Go.Proofs
set_option maxRecDepth 100000
set_option linter.unusedVariables false
def preE (C : Ct) : FuncId → Option Handler := fun g => if [22, 30].contains g then some (saidL Try.prog C) else if g == 9 then some (fixH C copyPR) else if g == 11 then some (fixH C copyPS) else if g == 21 then some (fixH C copyPM) else if [6, 42, 43, 44, 45, 46, 48, 60, 8, 81, 82, 47, 10, 20, 53, 105, 98, 89, 99, 63, 86, 97, 61, 64, 12, 13, 30, 29, 22, 14, 23, 15, 25, 27, 59, 17, 19, 66, 67, 68, 65, 26, 24, 28, 16, 18, 58, 41, 71, 87, 31, 32, 33].contains g then some (saidH Try.prog C) else none
def preF (C : Ct) : FuncId → Option Handler := fun g => if g == 29 then some deadH else if g == 9 then some (fixH C copyPR) else if g == 11 then some (fixH C copyPS) else if g == 21 then some (fixH C copyPM) else if [6, 42, 43, 44, 45, 46, 48, 60, 8, 81, 82, 47, 10, 20, 53, 105, 98, 89, 99, 63, 86, 97, 61, 64, 12, 13, 30, 29, 22, 14, 23, 15, 25, 27, 59, 17, 19, 66, 67, 68, 65, 26, 24, 28, 16, 18, 58, 41, 71, 87, 31, 32, 33].contains g then some (saidH Try.prog C) else none
abbrev hE2 (C : Ct) : Handler := handlerX Try.prog (preE C) 12 6
abbrev hF2 (C : Ct) : Handler := handlerX Try.prog (preF C) 12 6
def gE0 (C : Ct) (L : AtLoop) (x0 : Int) (x1 : Int) (x2 : Int) (x3 : Int) (x4 : Int) (x5 : Int) (n6 : Nat) (c6 : Nat) (l6 : List Value) (x7 : Int) (x8 : Int) (x9 : Int) (x10 : Int) (s11 : ByteArray) (n12 : Nat) (c12 : Nat) (l12 : List Value) (x13 : Int) (x14 : Int) (x15 : Int) (n16 : Nat) (c16 : Nat) (l16 : List Value) (k : List D → Prop) : Prop := wpFn Try.prog (hE2 C) L 0 5 #[.agg #[.int .i64 x0, .int .i64 x1, .int .i64 x2, .int .i64 x3, .int .i64 x4, .int .i64 x5, .slice (some ⟨500, 0, none⟩) n6 c6, .int .i64 x7, .int .i64 x8, .int .i64 x9, .int .i64 x10], .agg #[.string s11, .slice (some ⟨501, 0, none⟩) n12 c12], .agg #[.int .i64 x13, .int .i64 x14, .int .i64 x15, .slice (some ⟨502, 0, none⟩) n16 c16]] (heapOf [(500, .sym l6 false 5), (501, .sym l12 false 1), (502, .sym l16 false 1)]) (dataK k)
theorem gE0_text (C : Ct) (L : AtLoop) (x0 : Int) (x1 : Int) (x2 : Int) (x3 : Int) (x4 : Int) (x5 : Int) (n6 : Nat) (c6 : Nat) (l6 : List Go.Value) (x7 : Int) (x8 : Int) (x9 : Int) (x10 : Int) (s11 : ByteArray) (n12 : Nat) (c12 : Nat) (l12 : List Go.Value) (x13 : Int) (x14 : Int) (x15 : Int) (n16 : Nat) (c16 : Nat) (l16 : List Go.Value) (k : List D → Prop) : gE0 C L x0 x1 x2 x3 x4 x5 n6 c6 l6 x7 x8 x9 x10 s11 n12 c12 l12 x13 x14 x15 n16 c16 l16 k =
 (((Says C 6 [] kT) ∧
 (bcase (decide ((↑n6 : Int) ≤ 8))
 (bcase (decide ((↑n12 : Int) ≤ 8))
 (bcase (decide ((↑(ByteArray.size s11) : Int) ≤ 30))
 (bcase (dL n6 5 l6)
 (bcase (dL n12 1 l12)
 (∃ n1 : Int,
 ((Says C 27 [(D.agg [(dI x0), (dI x1), (dI x2), (dI x3), (dI x4), (dI x5), (Dw n6 5 l6), (dI x7), (dI x8), (dI x9), (dI x10)]), (D.agg [(D.val (Value.string (s11))), (Dw n12 1 l12)])] [(dI n1)]) ∧
 (bcase (n1 != 0)
 (k kT)
 (bcase (dL n6 5 l6)
 (bcase (dL n16 1 l16)
 (∃ n2 : Int,
 ((Says C 28 [(D.agg [(dI x0), (dI x1), (dI x2), (dI x3), (dI x4), (dI x5), (Dw n6 5 l6), (dI x7), (dI x8), (dI x9), (dI x10)]), (D.agg [(dI x13), (dI x14), (dI x15), (Dw n16 1 l16)])] [(dI n2)]) ∧
 (bcase (n2 != 0)
 (k kT)
 (((Qv (Value.agg [(Value.string (s11)), (Sl 501 (n12) (c12))].toArray)) ∧
 ((Qv (Value.agg [(vI x0), (vI x1), (vI x2), (vI x3), (vI x4), (vI x5), (Sl 500 (n6) (c6)), (vI x7), (vI x8), (vI x9), (vI x10)].toArray)) ∧
 True)) ∧
 (bcase (dL n6 5 l6)
 ((Says C 9 [(D.agg [(dI x0), (dI x1), (dI x2), (dI x3), (dI x4), (dI x5), (Dw n6 5 l6), (dI x7), (dI x8), (dI x9), (dI x10)])] [(D.agg [(dI x0), (dI x1), (dI x2), (dI x3), (dI x4), (dI x5), (Dw n6 5 l6), (dI x7), (dI x8), (dI x9), (dI x10)])]) ∧
 (((Qv (Value.agg [(Value.string (s11)), (Sl 501 (n12) (c12))].toArray)) ∧
 True) ∧
 (bcase (dL n12 1 l12)
 ((Says C 11 [(D.agg [(D.val (Value.string (s11))), (Dw n12 1 l12)])] [(D.agg [(D.val (Value.string (s11))), (Dw n12 1 l12)])]) ∧
 (True ∧
 (bcase (dL n6 5 (Tk n6 5 l6))
 (bcase (dL n12 1 (Tk n12 1 l12))
 (∃ n3 : Int,
 (∃ n4 : Int,
 ((Says C 29 [(D.agg [(dI x0), (dI x1), (dI x2), (dI x3), (dI x4), (dI x5), (Dw n6 5 (Tk n6 5 l6)), (dI x7), (dI x8), (dI x9), (dI x10)]), (D.agg [(D.val (Value.string (s11))), (Dw n12 1 (Tk n12 1 l12))])] [(dI n3), (dI n4)]) ∧
 (((Qv (vI n4)) ∧
 ((Qv (vI n3)) ∧
 ((Qv (Value.tuple [(vI n3), (vI n4)].toArray)) ∧
 True))) ∧
 (((Qv (vI n4)) ∧
 True) ∧
 (True ∧
 (((Qv (Value.agg [(vI x13), (vI x14), (vI x15), (Sl 502 (n16) (c16))].toArray)) ∧
 ((Qv (Value.agg [(Value.string (s11)), (Sl 501 (n12) (c12))].toArray)) ∧
 ((Qv (Value.agg [(vI x0), (vI x1), (vI x2), (vI x3), (vI x4), (vI x5), (Sl 500 (n6) (c6)), (vI x7), (vI x8), (vI x9), (vI x10)].toArray)) ∧
 True))) ∧
 (bcase (dL n6 5 l6)
 ((Says C 9 [(D.agg [(dI x0), (dI x1), (dI x2), (dI x3), (dI x4), (dI x5), (Dw n6 5 l6), (dI x7), (dI x8), (dI x9), (dI x10)])] [(D.agg [(dI x0), (dI x1), (dI x2), (dI x3), (dI x4), (dI x5), (Dw n6 5 l6), (dI x7), (dI x8), (dI x9), (dI x10)])]) ∧
 (((Qv (Value.agg [(vI x13), (vI x14), (vI x15), (Sl 502 (n16) (c16))].toArray)) ∧
 ((Qv (Value.agg [(Value.string (s11)), (Sl 501 (n12) (c12))].toArray)) ∧
 True)) ∧
 (bcase (dL n12 1 l12)
 ((Says C 11 [(D.agg [(D.val (Value.string (s11))), (Dw n12 1 l12)])] [(D.agg [(D.val (Value.string (s11))), (Dw n12 1 l12)])]) ∧
 (((Qv (Value.agg [(vI x13), (vI x14), (vI x15), (Sl 502 (n16) (c16))].toArray)) ∧
 True) ∧
 (bcase (dL n16 1 l16)
 ((Says C 21 [(D.agg [(dI x13), (dI x14), (dI x15), (Dw n16 1 l16)])] [(D.agg [(dI x13), (dI x14), (dI x15), (Dw n16 1 l16)])]) ∧
 (True ∧
 (bcase (dL n6 5 (Tk n6 5 l6))
 (bcase (dL n12 1 (Tk n12 1 l12))
 (bcase (dL n16 1 (Tk n16 1 l16))
 (∃ n5 : Nat,
 (∃ cs1 : List Go.Value,
 (∃ b1 : Bool,
 (∃ n7 : Int,
 ((Says C 22 [(D.agg [(dI x0), (dI x1), (dI x2), (dI x3), (dI x4), (dI x5), (Dw n6 5 (Tk n6 5 l6)), (dI x7), (dI x8), (dI x9), (dI x10)]), (D.agg [(D.val (Value.string (s11))), (Dw n12 1 (Tk n12 1 l12))]), (D.agg [(dI x13), (dI x14), (dI x15), (Dw n16 1 (Tk n16 1 l16))])] [(D.sl (n5) 2 (cs1)), (D.val (Value.bool (b1))), (dI n7)]) ∧
 (bcase (b1)
 (((Qv (vI n7)) ∧
 ((bcase (b1)
 Qb
 Qft) ∧
 ((Qv (Sl 1010 (n5) (n5))) ∧
 ((Qv (Value.tuple [(Sl 1010 (n5) (n5)), (Value.bool (b1)), (vI n7)].toArray)) ∧
 True)))) ∧
 (((Qv (vI n7)) ∧
 ((bcase (b1)
 Qb
 Qft) ∧
 True)) ∧
 (((Qv (vI n7)) ∧
 True) ∧
 (True ∧
 (((Qv (Value.agg [(Value.string (s11)), (Sl 501 (n12) (c12))].toArray)) ∧
 ((Qv (Value.agg [(vI x0), (vI x1), (vI x2), (vI x3), (vI x4), (vI x5), (Sl 500 (n6) (c6)), (vI x7), (vI x8), (vI x9), (vI x10)].toArray)) ∧
 True)) ∧
 (bcase (dL n6 5 l6)
 ((Says C 9 [(D.agg [(dI x0), (dI x1), (dI x2), (dI x3), (dI x4), (dI x5), (Dw n6 5 l6), (dI x7), (dI x8), (dI x9), (dI x10)])] [(D.agg [(dI x0), (dI x1), (dI x2), (dI x3), (dI x4), (dI x5), (Dw n6 5 l6), (dI x7), (dI x8), (dI x9), (dI x10)])]) ∧
 (((Qv (Value.agg [(Value.string (s11)), (Sl 501 (n12) (c12))].toArray)) ∧
 True) ∧
 (bcase (dL n12 1 l12)
 ((Says C 11 [(D.agg [(D.val (Value.string (s11))), (Dw n12 1 l12)])] [(D.agg [(D.val (Value.string (s11))), (Dw n12 1 l12)])]) ∧
 (True ∧
 (bcase (dL n6 5 (Tk n6 5 l6))
 (bcase (dL n12 1 (Tk n12 1 l12))
 (∃ n8 : Nat,
 (∃ cs2 : List Go.Value,
 (∃ n9 : Int,
 ((Says C 30 [(D.agg [(dI x0), (dI x1), (dI x2), (dI x3), (dI x4), (dI x5), (Dw n6 5 (Tk n6 5 l6)), (dI x7), (dI x8), (dI x9), (dI x10)]), (D.agg [(D.val (Value.string (s11))), (Dw n12 1 (Tk n12 1 l12))])] [(D.sl (n8) 4 (cs2)), (dI n9)]) ∧
 (((Qv (vI n9)) ∧
 ((Qv (Sl 1013 (n8) (n8))) ∧
 ((Qv (Value.tuple [(Sl 1013 (n8) (n8)), (vI n9)].toArray)) ∧
 True))) ∧
 (((Qv (vI n9)) ∧
 True) ∧
 (True ∧
 (bcase (n4 != 0)
 (k kF)
 (bcase (n7 != 0)
 (k kF)
 (bcase (n9 != 0)
 (k kF)
 (bcase (n3 == 2)
 (bcase (n3 == 0)
 (k kF)
 (bcase ((↑n5 : Int) != (↑n6 : Int))
 (k kF)
 (bcase ((↑n8 : Int) != (↑n5 : Int))
 (k kF)
 (L 0 [(Prod.mk 3 (Pt 1000 0)), (Prod.mk 4 (Pt 1001 0)), (Prod.mk 5 (Pt 1002 0)), (Prod.mk 7 (vI n3)), (Prod.mk 9 (Sl 1003 (n5) (n5))), (Prod.mk 10 (Value.bool true)), (Prod.mk 12 (Sl 1004 (n8) (n8))), (Prod.mk 14 (vI 0))] [(Prod.mk 1000 (AObj.cells [(vI x0), (vI x1), (vI x2), (vI x3), (vI x4), (vI x5), (Sl 500 (n6) (c6)), (vI x7), (vI x8), (vI x9), (vI x10)] 26 false 1)), (Prod.mk 1001 (AObj.cells [(Value.string (s11)), (Sl 501 (n12) (c12))] 29 false 1)), (Prod.mk 1002 (AObj.cells [(vI x13), (vI x14), (vI x15), (Sl 502 (n16) (c16))] 51 false 1)), (Prod.mk 1003 (AObj.sym (cs1) true 2)), (Prod.mk 1004 (AObj.sym (cs2) true 4)), (Prod.mk 500 (AObj.sym (l6) false 5)), (Prod.mk 501 (AObj.sym (l12) false 1)), (Prod.mk 502 (AObj.sym (l16) false 1))]))))
 (bcase (n3 == 0)
 (k kF)
 (bcase ((↑n5 : Int) != (↑n6 : Int))
 (k kF)
 (bcase ((↑n8 : Int) != (↑n5 : Int))
 (k kF)
 (L 0 [(Prod.mk 3 (Pt 1000 0)), (Prod.mk 4 (Pt 1001 0)), (Prod.mk 5 (Pt 1002 0)), (Prod.mk 7 (vI n3)), (Prod.mk 9 (Sl 1003 (n5) (n5))), (Prod.mk 10 (Value.bool true)), (Prod.mk 12 (Sl 1004 (n8) (n8))), (Prod.mk 14 (vI 0))] [(Prod.mk 1000 (AObj.cells [(vI x0), (vI x1), (vI x2), (vI x3), (vI x4), (vI x5), (Sl 500 (n6) (c6)), (vI x7), (vI x8), (vI x9), (vI x10)] 26 false 1)), (Prod.mk 1001 (AObj.cells [(Value.string (s11)), (Sl 501 (n12) (c12))] 29 false 1)), (Prod.mk 1002 (AObj.cells [(vI x13), (vI x14), (vI x15), (Sl 502 (n16) (c16))] 51 false 1)), (Prod.mk 1003 (AObj.sym (cs1) true 2)), (Prod.mk 1004 (AObj.sym (cs2) true 4)), (Prod.mk 500 (AObj.sym (l6) false 5)), (Prod.mk 501 (AObj.sym (l12) false 1)), (Prod.mk 502 (AObj.sym (l16) false 1))])))))))))))))))
 False)
 False)))
 False)))
 False))))))
 (((Qv (vI n7)) ∧
 ((bcase (b1)
 Qtf
 Qf) ∧
 ((Qv (Sl 1010 (n5) (n5))) ∧
 ((Qv (Value.tuple [(Sl 1010 (n5) (n5)), (Value.bool (b1)), (vI n7)].toArray)) ∧
 True)))) ∧
 (((Qv (vI n7)) ∧
 ((bcase (b1)
 Qtf
 Qf) ∧
 True)) ∧
 (((Qv (vI n7)) ∧
 True) ∧
 (True ∧
 (((Qv (Value.agg [(Value.string (s11)), (Sl 501 (n12) (c12))].toArray)) ∧
 ((Qv (Value.agg [(vI x0), (vI x1), (vI x2), (vI x3), (vI x4), (vI x5), (Sl 500 (n6) (c6)), (vI x7), (vI x8), (vI x9), (vI x10)].toArray)) ∧
 True)) ∧
 (bcase (dL n6 5 l6)
 ((Says C 9 [(D.agg [(dI x0), (dI x1), (dI x2), (dI x3), (dI x4), (dI x5), (Dw n6 5 l6), (dI x7), (dI x8), (dI x9), (dI x10)])] [(D.agg [(dI x0), (dI x1), (dI x2), (dI x3), (dI x4), (dI x5), (Dw n6 5 l6), (dI x7), (dI x8), (dI x9), (dI x10)])]) ∧
 (((Qv (Value.agg [(Value.string (s11)), (Sl 501 (n12) (c12))].toArray)) ∧
 True) ∧
 (bcase (dL n12 1 l12)
 ((Says C 11 [(D.agg [(D.val (Value.string (s11))), (Dw n12 1 l12)])] [(D.agg [(D.val (Value.string (s11))), (Dw n12 1 l12)])]) ∧
 (True ∧
 (bcase (dL n6 5 (Tk n6 5 l6))
 (bcase (dL n12 1 (Tk n12 1 l12))
 (∃ n8 : Nat,
 (∃ cs2 : List Go.Value,
 (∃ n9 : Int,
 ((Says C 30 [(D.agg [(dI x0), (dI x1), (dI x2), (dI x3), (dI x4), (dI x5), (Dw n6 5 (Tk n6 5 l6)), (dI x7), (dI x8), (dI x9), (dI x10)]), (D.agg [(D.val (Value.string (s11))), (Dw n12 1 (Tk n12 1 l12))])] [(D.sl (n8) 4 (cs2)), (dI n9)]) ∧
 (((Qv (vI n9)) ∧
 ((Qv (Sl 1013 (n8) (n8))) ∧
 ((Qv (Value.tuple [(Sl 1013 (n8) (n8)), (vI n9)].toArray)) ∧
 True))) ∧
 (((Qv (vI n9)) ∧
 True) ∧
 (True ∧
 (bcase (n4 != 0)
 (k kF)
 (bcase (n7 != 0)
 (k kF)
 (bcase (n9 != 0)
 (k kF)
 (bcase (n3 == 2)
 (k kF)
 (bcase (n3 == 0)
 (bcase ((↑n5 : Int) != (↑n6 : Int))
 (k kF)
 (bcase ((↑n8 : Int) != (↑n5 : Int))
 (k kF)
 (L 0 [(Prod.mk 3 (Pt 1000 0)), (Prod.mk 4 (Pt 1001 0)), (Prod.mk 5 (Pt 1002 0)), (Prod.mk 7 (vI n3)), (Prod.mk 9 (Sl 1003 (n5) (n5))), (Prod.mk 10 (Value.bool false)), (Prod.mk 12 (Sl 1004 (n8) (n8))), (Prod.mk 14 (vI 0))] [(Prod.mk 1000 (AObj.cells [(vI x0), (vI x1), (vI x2), (vI x3), (vI x4), (vI x5), (Sl 500 (n6) (c6)), (vI x7), (vI x8), (vI x9), (vI x10)] 26 false 1)), (Prod.mk 1001 (AObj.cells [(Value.string (s11)), (Sl 501 (n12) (c12))] 29 false 1)), (Prod.mk 1002 (AObj.cells [(vI x13), (vI x14), (vI x15), (Sl 502 (n16) (c16))] 51 false 1)), (Prod.mk 1003 (AObj.sym (cs1) true 2)), (Prod.mk 1004 (AObj.sym (cs2) true 4)), (Prod.mk 500 (AObj.sym (l6) false 5)), (Prod.mk 501 (AObj.sym (l12) false 1)), (Prod.mk 502 (AObj.sym (l16) false 1))])))
 (bcase ((↑n5 : Int) != (↑n6 : Int))
 (k kF)
 (bcase ((↑n8 : Int) != (↑n5 : Int))
 (k kF)
 (L 0 [(Prod.mk 3 (Pt 1000 0)), (Prod.mk 4 (Pt 1001 0)), (Prod.mk 5 (Pt 1002 0)), (Prod.mk 7 (vI n3)), (Prod.mk 9 (Sl 1003 (n5) (n5))), (Prod.mk 10 (Value.bool false)), (Prod.mk 12 (Sl 1004 (n8) (n8))), (Prod.mk 14 (vI 0))] [(Prod.mk 1000 (AObj.cells [(vI x0), (vI x1), (vI x2), (vI x3), (vI x4), (vI x5), (Sl 500 (n6) (c6)), (vI x7), (vI x8), (vI x9), (vI x10)] 26 false 1)), (Prod.mk 1001 (AObj.cells [(Value.string (s11)), (Sl 501 (n12) (c12))] 29 false 1)), (Prod.mk 1002 (AObj.cells [(vI x13), (vI x14), (vI x15), (Sl 502 (n16) (c16))] 51 false 1)), (Prod.mk 1003 (AObj.sym (cs1) true 2)), (Prod.mk 1004 (AObj.sym (cs2) true 4)), (Prod.mk 500 (AObj.sym (l6) false 5)), (Prod.mk 501 (AObj.sym (l12) false 1)), (Prod.mk 502 (AObj.sym (l16) false 1))])))))))))))))))
 False)
 False)))
 False)))
 False))))))))))))
 False)
 False)
 False)))
 False)))
 False)))
 False))))))))
 False)
 False)))
 False)))
 False)))))
 False)
 False))))
 False)
 False)
 (k kT))
 (k kT))
 (k kT))) ∨
 ((Says C 6 [] kF) ∧
 (k kF))) := by kernel_rfl
abbrev zE01 (x0 : Int) (n1 : Nat) (b2 : Bool) (n3 : Nat) (x4 : Int) (x5 : Int) (x6 : Int) (x7 : Int) (x8 : Int) (x9 : Int) (x10 : Int) (n11 : Nat) (c12 : Nat) (x13 : Int) (x14 : Int) (x15 : Int) (x16 : Int) (s17 : ByteArray) (n18 : Nat) (c19 : Nat) (x20 : Int) (x21 : Int) (x22 : Int) (n23 : Nat) (c24 : Nat) (l25 : List Value) (l26 : List Value) (l27 : List Value) (l28 : List Value) (l29 : List Value) : Slots × Blocks := ([(3, (Value.pointer (some ⟨1000, 0, none⟩))), (4, (Value.pointer (some ⟨1001, 0, none⟩))), (5, (Value.pointer (some ⟨1002, 0, none⟩))), (7, (Value.int .i64 x0)), (9, (Value.slice (some ⟨1003, 0, none⟩) n1 n1)), (10, (Value.bool b2)), (12, (Value.slice (some ⟨1004, 0, none⟩) n3 n3)), (14, (Value.int .i64 x4))], [(1000, (AObj.cells [(Value.int .i64 x5), (Value.int .i64 x6), (Value.int .i64 x7), (Value.int .i64 x8), (Value.int .i64 x9), (Value.int .i64 x10), (Value.slice (some ⟨500, 0, none⟩) n11 c12), (Value.int .i64 x13), (Value.int .i64 x14), (Value.int .i64 x15), (Value.int .i64 x16)] 26 false 1)), (1001, (AObj.cells [(Value.string s17), (Value.slice (some ⟨501, 0, none⟩) n18 c19)] 29 false 1)), (1002, (AObj.cells [(Value.int .i64 x20), (Value.int .i64 x21), (Value.int .i64 x22), (Value.slice (some ⟨502, 0, none⟩) n23 c24)] 51 false 1)), (1003, (AObj.sym l25 true 2)), (1004, (AObj.sym l26 true 4)), (500, (AObj.sym l27 false 5)), (501, (AObj.sym l28 false 1)), (502, (AObj.sym l29 false 1))])
def nE02 (C : Ct) (L : AtLoop) (x0 : Int) (b1 : Bool) (x2 : Int) (x3 : Int) (x4 : Int) (x5 : Int) (x6 : Int) (x7 : Int) (n8 : Nat) (c9 : Nat) (x10 : Int) (x11 : Int) (x12 : Int) (x13 : Int) (s14 : ByteArray) (n15 : Nat) (c16 : Nat) (x17 : Int) (x18 : Int) (x19 : Int) (n20 : Nat) (c21 : Nat) (l22 : List Value) (l23 : List Value) (l24 : List Value) (k : List D → Prop) : Prop := wpNext Try.prog (hE2 C) L 5 0 .normal [(3, (Value.pointer (some ⟨1000, 0, none⟩))), (4, (Value.pointer (some ⟨1001, 0, none⟩))), (5, (Value.pointer (some ⟨1002, 0, none⟩))), (7, (Value.int .i64 x0)), (10, (Value.bool b1))] [(1000, (AObj.cells [(Value.int .i64 x2), (Value.int .i64 x3), (Value.int .i64 x4), (Value.int .i64 x5), (Value.int .i64 x6), (Value.int .i64 x7), (Value.slice (some ⟨500, 0, none⟩) n8 c9), (Value.int .i64 x10), (Value.int .i64 x11), (Value.int .i64 x12), (Value.int .i64 x13)] 26 false 1)), (1001, (AObj.cells [(Value.string s14), (Value.slice (some ⟨501, 0, none⟩) n15 c16)] 29 false 1)), (1002, (AObj.cells [(Value.int .i64 x17), (Value.int .i64 x18), (Value.int .i64 x19), (Value.slice (some ⟨502, 0, none⟩) n20 c21)] 51 false 1)), (500, (AObj.sym l22 false 5)), (501, (AObj.sym l23 false 1)), (502, (AObj.sym l24 false 1))] (dataK k)
theorem nE02_text (C : Ct) (L : AtLoop) (x0 : Int) (b1 : Bool) (x2 : Int) (x3 : Int) (x4 : Int) (x5 : Int) (x6 : Int) (x7 : Int) (n8 : Nat) (c9 : Nat) (x10 : Int) (x11 : Int) (x12 : Int) (x13 : Int) (s14 : ByteArray) (n15 : Nat) (c16 : Nat) (x17 : Int) (x18 : Int) (x19 : Int) (n20 : Nat) (c21 : Nat) (l22 : List Go.Value) (l23 : List Go.Value) (l24 : List Go.Value) (k : List D → Prop) : nE02 C L x0 b1 x2 x3 x4 x5 x6 x7 n8 c9 x10 x11 x12 x13 s14 n15 c16 x17 x18 x19 n20 c21 l22 l23 l24 k =
 ((((Qv (Pt 1004 0)) ∧
 (Qv (some (AObj.cells [(vI 0), (vI 0), (vI 0), (vI 0), (vI 0), (vI 0), (Value.slice none 0 0), (vI 0), (vI 0), (vI 0), (vI 0)] 26 false 11)))) ∧
 (((Qv (Pt 1003 0)) ∧
 (Qv (some (AObj.cells [(vI 0), (vI 0), (vI 0), (vI 0), (vI 0), (vI 0), (Value.slice none 0 0), (vI 0), (vI 0), (vI 0), (vI 0)] 26 false 11)))) ∧
 ((Qv (Value.agg [(vI x2), (vI x3), (vI x4), (vI x5), (vI x6), (vI x7), (Sl 500 (n8) (c9)), (vI x10), (vI x11), (vI x12), (vI x13)].toArray)) ∧
 ((Qv (Value.agg [(vI x2), (vI x3), (vI x4), (vI x5), (vI x6), (vI x7), (Sl 500 (n8) (c9)), (vI x10), (vI x11), (vI x12), (vI x13)].toArray)) ∧
 True)))) ∧
 (bcase (dL n8 5 l22)
 ((Says C 9 [(D.agg [(dI x2), (dI x3), (dI x4), (dI x5), (dI x6), (dI x7), (Dw n8 5 l22), (dI x10), (dI x11), (dI x12), (dI x13)])] [(D.agg [(dI x2), (dI x3), (dI x4), (dI x5), (dI x6), (dI x7), (Dw n8 5 l22), (dI x10), (dI x11), (dI x12), (dI x13)])]) ∧
 ((((Qv (Pt 1004 0)) ∧
 (Qv (some (AObj.cells [(vI 0), (vI 0), (vI 0), (vI 0), (vI 0), (vI 0), (Value.slice none 0 0), (vI 0), (vI 0), (vI 0), (vI 0)] 26 false 11)))) ∧
 (((Qv (Pt 1003 0)) ∧
 (Qv (some (AObj.cells [(vI 0), (vI 0), (vI 0), (vI 0), (vI 0), (vI 0), (Value.slice none 0 0), (vI 0), (vI 0), (vI 0), (vI 0)] 26 false 11)))) ∧
 ((Qv (Value.agg [(vI x2), (vI x3), (vI x4), (vI x5), (vI x6), (vI x7), (Sl 500 (n8) (c9)), (vI x10), (vI x11), (vI x12), (vI x13)].toArray)) ∧
 True))) ∧
 (bcase (dL n8 5 l22)
 ((Says C 9 [(D.agg [(dI x2), (dI x3), (dI x4), (dI x5), (dI x6), (dI x7), (Dw n8 5 l22), (dI x10), (dI x11), (dI x12), (dI x13)])] [(D.agg [(dI x2), (dI x3), (dI x4), (dI x5), (dI x6), (dI x7), (Dw n8 5 l22), (dI x10), (dI x11), (dI x12), (dI x13)])]) ∧
 ((((Qv (Pt 1004 0)) ∧
 (Qv (some (AObj.cells [(vI 0), (vI 0), (vI 0), (vI 0), (vI 0), (vI 0), (Value.slice none 0 0), (vI 0), (vI 0), (vI 0), (vI 0)] 26 false 11)))) ∧
 (((Qv (Pt 1003 0)) ∧
 (Qv (some (AObj.cells [(vI 0), (vI 0), (vI 0), (vI 0), (vI 0), (vI 0), (Value.slice none 0 0), (vI 0), (vI 0), (vI 0), (vI 0)] 26 false 11)))) ∧
 True)) ∧
 (True ∧
 (True ∧
 (((Qv (Pt 1003 7)) ∧
 ((Qv (Value.agg [(vI x19), (vI x19)].toArray)) ∧
 ((Qv (vI x19)) ∧
 ((Qv (Pt 1002 2)) ∧
 ((Qv (vI x19)) ∧
 ((Qv (Pt 1002 2)) ∧
 ((Qv (Value.agg [(vI x18), (vI x18)].toArray)) ∧
 ((Qv (vI x18)) ∧
 ((Qv (Pt 1002 1)) ∧
 ((Qv (vI x18)) ∧
 ((Qv (Pt 1002 1)) ∧
 ((Qv (Value.agg [(vI x17), (vI x17)].toArray)) ∧
 ((Qv (vI x17)) ∧
 ((Qv (Pt 1002 0)) ∧
 ((Qv (vI x17)) ∧
 ((Qv (Pt 1002 0)) ∧
 True)))))))))))))))) ∧
 (((Qv (Pt 1003 9)) ∧
 ((Qv (Value.agg [(vI x19), (vI x19)].toArray)) ∧
 ((Qv (vI x19)) ∧
 ((Qv (Pt 1002 2)) ∧
 ((Qv (vI x19)) ∧
 ((Qv (Pt 1002 2)) ∧
 ((Qv (Value.agg [(vI x18), (vI x18)].toArray)) ∧
 ((Qv (vI x18)) ∧
 ((Qv (Pt 1002 1)) ∧
 ((Qv (vI x18)) ∧
 ((Qv (Pt 1002 1)) ∧
 True))))))))))) ∧
 (((Qv (Pt 1003 3)) ∧
 ((Qv (Value.agg [(vI x19), (vI x19)].toArray)) ∧
 ((Qv (vI x19)) ∧
 ((Qv (Pt 1002 2)) ∧
 ((Qv (vI x19)) ∧
 ((Qv (Pt 1002 2)) ∧
 True)))))) ∧
 (True ∧
 (L 2 [(Prod.mk 3 (Pt 1000 0)), (Prod.mk 4 (Pt 1001 0)), (Prod.mk 5 (Pt 1002 0)), (Prod.mk 7 (vI x0)), (Prod.mk 10 (Value.bool (b1))), (Prod.mk 15 (Pt 1003 0)), (Prod.mk 16 (Pt 1004 0)), (Prod.mk 17 (vI 0))] [(Prod.mk 1000 (AObj.cells [(vI x2), (vI x3), (vI x4), (vI x5), (vI x6), (vI x7), (Sl 500 (n8) (c9)), (vI x10), (vI x11), (vI x12), (vI x13)] 26 false 1)), (Prod.mk 1001 (AObj.cells [(Value.string (s14)), (Sl 501 (n15) (c16))] 29 false 1)), (Prod.mk 1002 (AObj.cells [(vI x17), (vI x18), (vI x19), (Sl 502 (n20) (c21))] 51 false 1)), (Prod.mk 1003 (AObj.cells [(vI x2), (vI x3), (vI x4), (vI x19), (vI x19), (vI x7), (Sl 1005 (n8) (n8)), (vI x17), (vI x17), (vI x18), (vI x18)] 26 false 11)), (Prod.mk 1004 (AObj.cells [(vI x2), (vI x3), (vI x4), (vI x5), (vI x6), (vI 0), (Sl 1006 (n8) (n8)), (vI x10), (vI x11), (vI x12), (vI x13)] 26 false 11)), (Prod.mk 500 (AObj.sym (l22) false 5)), (Prod.mk 501 (AObj.sym (l23) false 1)), (Prod.mk 502 (AObj.sym (l24) false 1)), (Prod.mk 1005 (AObj.sym (Tk n8 5 l22) true 5)), (Prod.mk 1006 (AObj.sym (Tk n8 5 l22) true 5))])))))))))
 False)))
 False)) := by kernel_rfl
abbrev zE03 (x0 : Int) (b1 : Bool) (x2 : Int) (x3 : Int) (x4 : Int) (x5 : Int) (x6 : Int) (x7 : Int) (x8 : Int) (n9 : Nat) (c10 : Nat) (x11 : Int) (x12 : Int) (x13 : Int) (x14 : Int) (s15 : ByteArray) (n16 : Nat) (c17 : Nat) (x18 : Int) (x19 : Int) (x20 : Int) (n21 : Nat) (c22 : Nat) (x23 : Int) (x24 : Int) (x25 : Int) (x26 : Int) (x27 : Int) (x28 : Int) (n29 : Nat) (x30 : Int) (x31 : Int) (x32 : Int) (x33 : Int) (x34 : Int) (x35 : Int) (x36 : Int) (x37 : Int) (x38 : Int) (x39 : Int) (n40 : Nat) (x41 : Int) (x42 : Int) (x43 : Int) (x44 : Int) (l45 : List Value) (l46 : List Value) (l47 : List Value) (l48 : List Value) (l49 : List Value) : Slots × Blocks := ([(3, (Value.pointer (some ⟨1000, 0, none⟩))), (4, (Value.pointer (some ⟨1001, 0, none⟩))), (5, (Value.pointer (some ⟨1002, 0, none⟩))), (7, (Value.int .i64 x0)), (10, (Value.bool b1)), (15, (Value.pointer (some ⟨1003, 0, none⟩))), (16, (Value.pointer (some ⟨1004, 0, none⟩))), (17, (Value.int .i64 x2))], [(1000, (AObj.cells [(Value.int .i64 x3), (Value.int .i64 x4), (Value.int .i64 x5), (Value.int .i64 x6), (Value.int .i64 x7), (Value.int .i64 x8), (Value.slice (some ⟨500, 0, none⟩) n9 c10), (Value.int .i64 x11), (Value.int .i64 x12), (Value.int .i64 x13), (Value.int .i64 x14)] 26 false 1)), (1001, (AObj.cells [(Value.string s15), (Value.slice (some ⟨501, 0, none⟩) n16 c17)] 29 false 1)), (1002, (AObj.cells [(Value.int .i64 x18), (Value.int .i64 x19), (Value.int .i64 x20), (Value.slice (some ⟨502, 0, none⟩) n21 c22)] 51 false 1)), (1003, (AObj.cells [(Value.int .i64 x23), (Value.int .i64 x24), (Value.int .i64 x25), (Value.int .i64 x26), (Value.int .i64 x27), (Value.int .i64 x28), (Value.slice (some ⟨1005, 0, none⟩) n29 n29), (Value.int .i64 x30), (Value.int .i64 x31), (Value.int .i64 x32), (Value.int .i64 x33)] 26 false 11)), (1004, (AObj.cells [(Value.int .i64 x34), (Value.int .i64 x35), (Value.int .i64 x36), (Value.int .i64 x37), (Value.int .i64 x38), (Value.int .i64 x39), (Value.slice (some ⟨1006, 0, none⟩) n40 n40), (Value.int .i64 x41), (Value.int .i64 x42), (Value.int .i64 x43), (Value.int .i64 x44)] 26 false 11)), (500, (AObj.sym l45 false 5)), (501, (AObj.sym l46 false 1)), (502, (AObj.sym l47 false 1)), (1005, (AObj.sym l48 true 5)), (1006, (AObj.sym l49 true 5))])
def rE03 (C : Ct) (L : AtLoop) (x0 : Int) (b1 : Bool) (x2 : Int) (x3 : Int) (x4 : Int) (x5 : Int) (x6 : Int) (x7 : Int) (x8 : Int) (n9 : Nat) (c10 : Nat) (x11 : Int) (x12 : Int) (x13 : Int) (x14 : Int) (s15 : ByteArray) (n16 : Nat) (c17 : Nat) (x18 : Int) (x19 : Int) (x20 : Int) (n21 : Nat) (c22 : Nat) (x23 : Int) (x24 : Int) (x25 : Int) (x26 : Int) (x27 : Int) (x28 : Int) (n29 : Nat) (x30 : Int) (x31 : Int) (x32 : Int) (x33 : Int) (x34 : Int) (x35 : Int) (x36 : Int) (x37 : Int) (x38 : Int) (x39 : Int) (n40 : Nat) (x41 : Int) (x42 : Int) (x43 : Int) (x44 : Int) (l45 : List Value) (l46 : List Value) (l47 : List Value) (l48 : List Value) (l49 : List Value) (B : Bx) (X : Xx) (k : List D → Prop) : Prop := wpRound Try.prog (hE2 C) L 5 2 [(3, (Value.pointer (some ⟨1000, 0, none⟩))), (4, (Value.pointer (some ⟨1001, 0, none⟩))), (5, (Value.pointer (some ⟨1002, 0, none⟩))), (7, (Value.int .i64 x0)), (10, (Value.bool b1)), (15, (Value.pointer (some ⟨1003, 0, none⟩))), (16, (Value.pointer (some ⟨1004, 0, none⟩))), (17, (Value.int .i64 x2))] [(1000, (AObj.cells [(Value.int .i64 x3), (Value.int .i64 x4), (Value.int .i64 x5), (Value.int .i64 x6), (Value.int .i64 x7), (Value.int .i64 x8), (Value.slice (some ⟨500, 0, none⟩) n9 c10), (Value.int .i64 x11), (Value.int .i64 x12), (Value.int .i64 x13), (Value.int .i64 x14)] 26 false 1)), (1001, (AObj.cells [(Value.string s15), (Value.slice (some ⟨501, 0, none⟩) n16 c17)] 29 false 1)), (1002, (AObj.cells [(Value.int .i64 x18), (Value.int .i64 x19), (Value.int .i64 x20), (Value.slice (some ⟨502, 0, none⟩) n21 c22)] 51 false 1)), (1003, (AObj.cells [(Value.int .i64 x23), (Value.int .i64 x24), (Value.int .i64 x25), (Value.int .i64 x26), (Value.int .i64 x27), (Value.int .i64 x28), (Value.slice (some ⟨1005, 0, none⟩) n29 n29), (Value.int .i64 x30), (Value.int .i64 x31), (Value.int .i64 x32), (Value.int .i64 x33)] 26 false 11)), (1004, (AObj.cells [(Value.int .i64 x34), (Value.int .i64 x35), (Value.int .i64 x36), (Value.int .i64 x37), (Value.int .i64 x38), (Value.int .i64 x39), (Value.slice (some ⟨1006, 0, none⟩) n40 n40), (Value.int .i64 x41), (Value.int .i64 x42), (Value.int .i64 x43), (Value.int .i64 x44)] 26 false 11)), (500, (AObj.sym l45 false 5)), (501, (AObj.sym l46 false 1)), (502, (AObj.sym l47 false 1)), (1005, (AObj.sym l48 true 5)), (1006, (AObj.sym l49 true 5))] B X (dataK k)
theorem rE03_text (C : Ct) (L : AtLoop) (x0 : Int) (b1 : Bool) (x2 : Int) (x3 : Int) (x4 : Int) (x5 : Int) (x6 : Int) (x7 : Int) (x8 : Int) (n9 : Nat) (c10 : Nat) (x11 : Int) (x12 : Int) (x13 : Int) (x14 : Int) (s15 : ByteArray) (n16 : Nat) (c17 : Nat) (x18 : Int) (x19 : Int) (x20 : Int) (n21 : Nat) (c22 : Nat) (x23 : Int) (x24 : Int) (x25 : Int) (x26 : Int) (x27 : Int) (x28 : Int) (n29 : Nat) (x30 : Int) (x31 : Int) (x32 : Int) (x33 : Int) (x34 : Int) (x35 : Int) (x36 : Int) (x37 : Int) (x38 : Int) (x39 : Int) (n40 : Nat) (x41 : Int) (x42 : Int) (x43 : Int) (x44 : Int) (l45 : List Go.Value) (l46 : List Go.Value) (l47 : List Go.Value) (l48 : List Go.Value) (l49 : List Go.Value) (B : Bx) (X : Xx) (k : List D → Prop) : rE03 C L x0 b1 x2 x3 x4 x5 x6 x7 x8 n9 c10 x11 x12 x13 x14 s15 n16 c17 x18 x19 x20 n21 c22 x23 x24 x25 x26 x27 x28 n29 x30 x31 x32 x33 x34 x35 x36 x37 x38 x39 n40 x41 x42 x43 x44 l45 l46 l47 l48 l49 B X k =
 (bcase (decide (x2 < (↑n9 : Int)))
 (bcase (decide (0 ≤ x2))
 (bcase (decide (x2 < (↑n21 : Int)))
 (∃ n1 : Int,
 ((At (l47) (0 + Int.toNat x2 * 1) 1 [(vI n1)]) ∧
 (bcase (decide (0 ≤ x2))
 (bcase (decide (x2 < (↑n21 : Int)))
 (∃ n2 : Int,
 ((At (l47) (0 + Int.toNat x2 * 1) 1 [(vI n2)]) ∧
 (bcase (decide (0 ≤ x2))
 (bcase (decide (x2 < (↑n29 : Int)))
 (((Qv (Value.pointer (some (Addr.mk 1005 (Addr.off { block := 1005, off := 0 + Int.toNat x2 * 5 } + 3) none)))) ∧
 ((bcase (decide (0 ≤ x2))
 (bcase (decide (x2 < (↑n29 : Int)))
 (Qv (Pt 1005 (0 + Int.toNat x2 * 5)))
 False)
 False) ∧
 ((Qv (Value.agg [(vI n1), (vI n2)].toArray)) ∧
 ((∃ n3 : Int,
 ((At (l47) (0 + Int.toNat x2 * 1) 1 [(vI n3)]) ∧
 ((vI n3) = (vI n2)))) ∧
 ((bcase (decide (0 ≤ x2))
 (bcase (decide (x2 < (↑n21 : Int)))
 (Qv (Pt 502 (0 + Int.toNat x2 * 1)))
 False)
 False) ∧
 ((Qv (vI x2)) ∧
 ((Qv (Sl 502 (n21) (c22))) ∧
 ((Qv (Pt 1002 3)) ∧
 ((∃ n3 : Int,
 ((At (l47) (0 + Int.toNat x2 * 1) 1 [(vI n3)]) ∧
 ((vI n3) = (vI n1)))) ∧
 ((bcase (decide (0 ≤ x2))
 (bcase (decide (x2 < (↑n21 : Int)))
 (Qv (Pt 502 (0 + Int.toNat x2 * 1)))
 False)
 False) ∧
 ((Qv (vI x2)) ∧
 ((Qv (Sl 502 (n21) (c22))) ∧
 ((Qv (Pt 1002 3)) ∧
 ((Qv (vI x2)) ∧
 ((Qv (Sl 1005 (n29) (n29))) ∧
 ((Qv (Pt 1003 6)) ∧
 True)))))))))))))))) ∧
 (bcase (decide (Addr.off { block := 1005, off := 0 + Int.toNat x2 * 5 } + 3 + 2 ≤ List.length l48))
 (((bcase (decide (0 ≤ x2))
 (bcase (decide (x2 < (↑n29 : Int)))
 (Qv (Pt 1005 (0 + Int.toNat x2 * 5)))
 False)
 False) ∧
 True) ∧
 (bcase (decide (0 ≤ x2))
 (bcase (decide (x2 < (↑n40 : Int)))
 (((Qv (Value.pointer (some (Addr.mk 1006 (Addr.off { block := 1006, off := 0 + Int.toNat x2 * 5 } + 1) none)))) ∧
 ((bcase (decide (0 ≤ x2))
 (bcase (decide (x2 < (↑n40 : Int)))
 (Qv (Pt 1006 (0 + Int.toNat x2 * 5)))
 False)
 False) ∧
 ((Qv (vI x2)) ∧
 ((Qv (Sl 1006 (n40) (n40))) ∧
 ((Qv (Pt 1004 6)) ∧
 ((Qv (vI x2)) ∧
 ((Qv (Sl 1006 (n40) (n40))) ∧
 ((Qv (Pt 1004 6)) ∧
 True)))))))) ∧
 (bcase (decide (Addr.off { block := 1006, off := 0 + Int.toNat x2 * 5 } + 1 + 1 ≤ List.length l49))
 (bcase (decide (0 ≤ x2))
 (bcase (decide (x2 < (↑n40 : Int)))
 (((Qv (Value.pointer (some (Addr.mk 1006 (Addr.off { block := 1006, off := 0 + Int.toNat x2 * 5 } + 2) none)))) ∧
 ((bcase (decide (0 ≤ x2))
 (bcase (decide (x2 < (↑n40 : Int)))
 (Qv (Pt 1006 (0 + Int.toNat x2 * 5)))
 False)
 False) ∧
 ((bcase (decide (0 ≤ x2))
 (bcase (decide (x2 < (↑n40 : Int)))
 (Qv (Pt 1006 (0 + Int.toNat x2 * 5)))
 False)
 False) ∧
 ((Qv (vI x2)) ∧
 ((Qv (Sl 1006 (n40) (n40))) ∧
 ((Qv (Pt 1004 6)) ∧
 True)))))) ∧
 (bcase (decide (Addr.off { block := 1006, off := 0 + Int.toNat x2 * 5 } + 2 + 1 ≤ List.length (listSet l49 (Addr.off { block := 1006, off := 0 + Int.toNat x2 * 5 } + 1) [vI 1000000000000])))
 (((bcase (decide (0 ≤ x2))
 (bcase (decide (x2 < (↑n40 : Int)))
 (Qv (Pt 1006 (0 + Int.toNat x2 * 5)))
 False)
 False) ∧
 True) ∧
 (B [(Prod.mk 3 (Pt 1000 0)), (Prod.mk 4 (Pt 1001 0)), (Prod.mk 5 (Pt 1002 0)), (Prod.mk 7 (vI x0)), (Prod.mk 10 (Value.bool (b1))), (Prod.mk 15 (Pt 1003 0)), (Prod.mk 16 (Pt 1004 0)), (Prod.mk 17 (vI (IntKind.wrap .i64 (x2 + 1))))] [(Prod.mk 1000 (AObj.cells [(vI x3), (vI x4), (vI x5), (vI x6), (vI x7), (vI x8), (Sl 500 (n9) (c10)), (vI x11), (vI x12), (vI x13), (vI x14)] 26 false 1)), (Prod.mk 1001 (AObj.cells [(Value.string (s15)), (Sl 501 (n16) (c17))] 29 false 1)), (Prod.mk 1002 (AObj.cells [(vI x18), (vI x19), (vI x20), (Sl 502 (n21) (c22))] 51 false 1)), (Prod.mk 1003 (AObj.cells [(vI x23), (vI x24), (vI x25), (vI x26), (vI x27), (vI x28), (Sl 1005 (n29) (n29)), (vI x30), (vI x31), (vI x32), (vI x33)] 26 false 11)), (Prod.mk 1004 (AObj.cells [(vI x34), (vI x35), (vI x36), (vI x37), (vI x38), (vI x39), (Sl 1006 (n40) (n40)), (vI x41), (vI x42), (vI x43), (vI x44)] 26 false 11)), (Prod.mk 500 (AObj.sym (l45) false 5)), (Prod.mk 501 (AObj.sym (l46) false 1)), (Prod.mk 502 (AObj.sym (l47) false 1)), (Prod.mk 1005 (AObj.sym (listSet (l48) (Addr.off { block := 1005, off := 0 + Int.toNat x2 * 5 } + 3) [(vI n1), (vI n2)]) true 5)), (Prod.mk 1006 (AObj.sym (listSet (listSet (l49) (Addr.off { block := 1006, off := 0 + Int.toNat x2 * 5 } + 1) [(vI 1000000000000)]) (Addr.off { block := 1006, off := 0 + Int.toNat x2 * 5 } + 2) [(vI 1000000000000)]) true 5))]))
 False))
 False)
 False)
 False))
 False)
 False))
 False))
 False)
 False)))
 False)
 False)))
 False)
 False)
 (X 2 [(Prod.mk 4 (Pt 1000 0)), (Prod.mk 7 (vI x0)), (Prod.mk 10 (Value.bool (b1))), (Prod.mk 15 (Pt 1001 0)), (Prod.mk 16 (Pt 1002 0))] [(Prod.mk 1000 (AObj.cells [(Value.string (s15)), (Sl 501 (n16) (c17))] 29 false 1)), (Prod.mk 1001 (AObj.cells [(vI x23), (vI x24), (vI x25), (vI x26), (vI x27), (vI x28), (Sl 1003 (n29) (n29)), (vI x30), (vI x31), (vI x32), (vI x33)] 26 false 11)), (Prod.mk 1002 (AObj.cells [(vI x34), (vI x35), (vI x36), (vI x37), (vI x38), (vI x39), (Sl 1004 (n40) (n40)), (vI x41), (vI x42), (vI x43), (vI x44)] 26 false 11)), (Prod.mk 501 (AObj.sym (l46) false 1)), (Prod.mk 1003 (AObj.sym (l48) true 5)), (Prod.mk 1004 (AObj.sym (l49) true 5))])) := by kernel_rfl
def nE04 (C : Ct) (L : AtLoop) (x0 : Int) (b1 : Bool) (s2 : ByteArray) (n3 : Nat) (c4 : Nat) (x5 : Int) (x6 : Int) (x7 : Int) (x8 : Int) (x9 : Int) (x10 : Int) (n11 : Nat) (x12 : Int) (x13 : Int) (x14 : Int) (x15 : Int) (x16 : Int) (x17 : Int) (x18 : Int) (x19 : Int) (x20 : Int) (x21 : Int) (n22 : Nat) (x23 : Int) (x24 : Int) (x25 : Int) (x26 : Int) (l27 : List Value) (l28 : List Value) (l29 : List Value) (k : List D → Prop) : Prop := wpNext Try.prog (hE2 C) L 5 2 .normal [(4, (Value.pointer (some ⟨1000, 0, none⟩))), (7, (Value.int .i64 x0)), (10, (Value.bool b1)), (15, (Value.pointer (some ⟨1001, 0, none⟩))), (16, (Value.pointer (some ⟨1002, 0, none⟩)))] [(1000, (AObj.cells [(Value.string s2), (Value.slice (some ⟨501, 0, none⟩) n3 c4)] 29 false 1)), (1001, (AObj.cells [(Value.int .i64 x5), (Value.int .i64 x6), (Value.int .i64 x7), (Value.int .i64 x8), (Value.int .i64 x9), (Value.int .i64 x10), (Value.slice (some ⟨1003, 0, none⟩) n11 n11), (Value.int .i64 x12), (Value.int .i64 x13), (Value.int .i64 x14), (Value.int .i64 x15)] 26 false 11)), (1002, (AObj.cells [(Value.int .i64 x16), (Value.int .i64 x17), (Value.int .i64 x18), (Value.int .i64 x19), (Value.int .i64 x20), (Value.int .i64 x21), (Value.slice (some ⟨1004, 0, none⟩) n22 n22), (Value.int .i64 x23), (Value.int .i64 x24), (Value.int .i64 x25), (Value.int .i64 x26)] 26 false 11)), (501, (AObj.sym l27 false 1)), (1003, (AObj.sym l28 true 5)), (1004, (AObj.sym l29 true 5))] (dataK k)
theorem nE04_text (C : Ct) (L : AtLoop) (x0 : Int) (b1 : Bool) (s2 : ByteArray) (n3 : Nat) (c4 : Nat) (x5 : Int) (x6 : Int) (x7 : Int) (x8 : Int) (x9 : Int) (x10 : Int) (n11 : Nat) (x12 : Int) (x13 : Int) (x14 : Int) (x15 : Int) (x16 : Int) (x17 : Int) (x18 : Int) (x19 : Int) (x20 : Int) (x21 : Int) (n22 : Nat) (x23 : Int) (x24 : Int) (x25 : Int) (x26 : Int) (l27 : List Go.Value) (l28 : List Go.Value) (l29 : List Go.Value) (k : List D → Prop) : nE04 C L x0 b1 s2 n3 c4 x5 x6 x7 x8 x9 x10 n11 x12 x13 x14 x15 x16 x17 x18 x19 x20 x21 n22 x23 x24 x25 x26 l27 l28 l29 k =
 (((Qv (Value.agg [(Value.string (s2)), (Sl 501 (n3) (c4))].toArray)) ∧
 ((Qv (Value.agg [(vI x5), (vI x6), (vI x7), (vI x8), (vI x9), (vI x10), (Sl 1003 (n11) (n11)), (vI x12), (vI x13), (vI x14), (vI x15)].toArray)) ∧
 True)) ∧
 (bcase (dL n3 1 l27)
 ((Says C 11 [(D.agg [(D.val (Value.string (s2))), (Dw n3 1 l27)])] [(D.agg [(D.val (Value.string (s2))), (Dw n3 1 l27)])]) ∧
 (((Qv (Value.agg [(vI x5), (vI x6), (vI x7), (vI x8), (vI x9), (vI x10), (Sl 1003 (n11) (n11)), (vI x12), (vI x13), (vI x14), (vI x15)].toArray)) ∧
 True) ∧
 (bcase (dL n11 5 l28)
 (bcase (dL n3 1 (Tk n3 1 l27))
 (∃ n1 : Int,
 (∃ n2 : Int,
 ((Says C 29 [(D.agg [(dI x5), (dI x6), (dI x7), (dI x8), (dI x9), (dI x10), (Dw n11 5 l28), (dI x12), (dI x13), (dI x14), (dI x15)]), (D.agg [(D.val (Value.string (s2))), (Dw n3 1 (Tk n3 1 l27))])] [(dI n1), (dI n2)]) ∧
 (((Qv (vI n2)) ∧
 ((Qv (vI n1)) ∧
 ((Qv (Value.tuple [(vI n1), (vI n2)].toArray)) ∧
 True))) ∧
 (((Qv (vI n2)) ∧
 True) ∧
 (True ∧
 (((Qv (Value.agg [(Value.string (s2)), (Sl 501 (n3) (c4))].toArray)) ∧
 ((Qv (Value.agg [(vI x16), (vI x17), (vI x18), (vI x19), (vI x20), (vI x21), (Sl 1004 (n22) (n22)), (vI x23), (vI x24), (vI x25), (vI x26)].toArray)) ∧
 True)) ∧
 (bcase (dL n3 1 l27)
 ((Says C 11 [(D.agg [(D.val (Value.string (s2))), (Dw n3 1 l27)])] [(D.agg [(D.val (Value.string (s2))), (Dw n3 1 l27)])]) ∧
 (((Qv (Value.agg [(vI x16), (vI x17), (vI x18), (vI x19), (vI x20), (vI x21), (Sl 1004 (n22) (n22)), (vI x23), (vI x24), (vI x25), (vI x26)].toArray)) ∧
 True) ∧
 (bcase (dL n22 5 l29)
 (bcase (dL n3 1 (Tk n3 1 l27))
 (∃ n4 : Int,
 (∃ n5 : Int,
 ((Says C 29 [(D.agg [(dI x16), (dI x17), (dI x18), (dI x19), (dI x20), (dI x21), (Dw n22 5 l29), (dI x23), (dI x24), (dI x25), (dI x26)]), (D.agg [(D.val (Value.string (s2))), (Dw n3 1 (Tk n3 1 l27))])] [(dI n4), (dI n5)]) ∧
 (((Qv (vI n5)) ∧
 ((Qv (vI n4)) ∧
 ((Qv (Value.tuple [(vI n4), (vI n5)].toArray)) ∧
 True))) ∧
 (((Qv (vI n5)) ∧
 True) ∧
 (True ∧
 (bcase (n2 == 0)
 (bcase (n1 == 2)
 (bcase (b1)
 (bcase (n1 != 1)
 (bcase (n5 == 0)
 (bcase (x0 != 2)
 (k kT)
 (bcase (n4 == 2)
 (k kT)
 (k kF)))
 (k kF))
 (k kF))
 (k kF))
 (bcase (b1)
 (k kF)
 (bcase (n1 != 1)
 (bcase (n5 == 0)
 (bcase (x0 != 2)
 (k kT)
 (bcase (n4 == 2)
 (k kT)
 (k kF)))
 (k kF))
 (k kF))))
 (k kF))))))))
 False)
 False)))
 False))))))))
 False)
 False)))
 False)) := by kernel_rfl
def gE1 (C : Ct) (L : AtLoop) (x0 : Int) (x1 : Int) (x2 : Int) (x3 : Int) (x4 : Int) (x5 : Int) (n6 : Nat) (c6 : Nat) (l6 : List Value) (x7 : Int) (x8 : Int) (x9 : Int) (x10 : Int) (s11 : ByteArray) (n12 : Nat) (c12 : Nat) (l12 : List Value) (x13 : Int) (x14 : Int) (x15 : Int) (k : List D → Prop) : Prop := wpFn Try.prog (hF2 C) L 0 5 #[.agg #[.int .i64 x0, .int .i64 x1, .int .i64 x2, .int .i64 x3, .int .i64 x4, .int .i64 x5, .slice (some ⟨500, 0, none⟩) n6 c6, .int .i64 x7, .int .i64 x8, .int .i64 x9, .int .i64 x10], .agg #[.string s11, .slice (some ⟨501, 0, none⟩) n12 c12], .agg #[.int .i64 x13, .int .i64 x14, .int .i64 x15, .slice none 0 0]] (heapOf [(500, .sym l6 false 5), (501, .sym l12 false 1)]) (dataK k)
theorem gE1_text (C : Ct) (L : AtLoop) (x0 : Int) (x1 : Int) (x2 : Int) (x3 : Int) (x4 : Int) (x5 : Int) (n6 : Nat) (c6 : Nat) (l6 : List Go.Value) (x7 : Int) (x8 : Int) (x9 : Int) (x10 : Int) (s11 : ByteArray) (n12 : Nat) (c12 : Nat) (l12 : List Go.Value) (x13 : Int) (x14 : Int) (x15 : Int) (k : List D → Prop) : gE1 C L x0 x1 x2 x3 x4 x5 n6 c6 l6 x7 x8 x9 x10 s11 n12 c12 l12 x13 x14 x15 k =
 (((Says C 6 [] kT) ∧
 (bcase (decide ((↑n6 : Int) ≤ 8))
 (bcase (decide ((↑n12 : Int) ≤ 8))
 (bcase (decide ((↑(ByteArray.size s11) : Int) ≤ 30))
 (bcase (dL n6 5 l6)
 (bcase (dL n12 1 l12)
 (∃ n1 : Int,
 ((Says C 27 [(D.agg [(dI x0), (dI x1), (dI x2), (dI x3), (dI x4), (dI x5), (Dw n6 5 l6), (dI x7), (dI x8), (dI x9), (dI x10)]), (D.agg [(D.val (Value.string (s11))), (Dw n12 1 l12)])] [(dI n1)]) ∧
 (bcase (n1 != 0)
 (k kT)
 (bcase (dL n6 5 l6)
 (∃ n2 : Int,
 ((Says C 28 [(D.agg [(dI x0), (dI x1), (dI x2), (dI x3), (dI x4), (dI x5), (Dw n6 5 l6), (dI x7), (dI x8), (dI x9), (dI x10)]), (D.agg [(dI x13), (dI x14), (dI x15), D.nil])] [(dI n2)]) ∧
 (bcase (n2 != 0)
 (k kT)
 (((Qv (Value.agg [(Value.string (s11)), (Sl 501 (n12) (c12))].toArray)) ∧
 ((Qv (Value.agg [(vI x0), (vI x1), (vI x2), (vI x3), (vI x4), (vI x5), (Sl 500 (n6) (c6)), (vI x7), (vI x8), (vI x9), (vI x10)].toArray)) ∧
 True)) ∧
 (bcase (dL n6 5 l6)
 ((Says C 9 [(D.agg [(dI x0), (dI x1), (dI x2), (dI x3), (dI x4), (dI x5), (Dw n6 5 l6), (dI x7), (dI x8), (dI x9), (dI x10)])] [(D.agg [(dI x0), (dI x1), (dI x2), (dI x3), (dI x4), (dI x5), (Dw n6 5 l6), (dI x7), (dI x8), (dI x9), (dI x10)])]) ∧
 (((Qv (Value.agg [(Value.string (s11)), (Sl 501 (n12) (c12))].toArray)) ∧
 True) ∧
 (bcase (dL n12 1 l12)
 ((Says C 11 [(D.agg [(D.val (Value.string (s11))), (Dw n12 1 l12)])] [(D.agg [(D.val (Value.string (s11))), (Dw n12 1 l12)])]) ∧
 (True ∧
 False))
 False)))
 False)))))
 False))))
 False)
 False)
 (k kT))
 (k kT))
 (k kT))) ∨
 ((Says C 6 [] kF) ∧
 (k kF))) := by kernel_rfl
def gE2 (C : Ct) (L : AtLoop) (x0 : Int) (x1 : Int) (x2 : Int) (x3 : Int) (x4 : Int) (x5 : Int) (n6 : Nat) (c6 : Nat) (l6 : List Value) (x7 : Int) (x8 : Int) (x9 : Int) (x10 : Int) (s11 : ByteArray) (x13 : Int) (x14 : Int) (x15 : Int) (n16 : Nat) (c16 : Nat) (l16 : List Value) (k : List D → Prop) : Prop := wpFn Try.prog (hF2 C) L 0 5 #[.agg #[.int .i64 x0, .int .i64 x1, .int .i64 x2, .int .i64 x3, .int .i64 x4, .int .i64 x5, .slice (some ⟨500, 0, none⟩) n6 c6, .int .i64 x7, .int .i64 x8, .int .i64 x9, .int .i64 x10], .agg #[.string s11, .slice none 0 0], .agg #[.int .i64 x13, .int .i64 x14, .int .i64 x15, .slice (some ⟨501, 0, none⟩) n16 c16]] (heapOf [(500, .sym l6 false 5), (501, .sym l16 false 1)]) (dataK k)
theorem gE2_text (C : Ct) (L : AtLoop) (x0 : Int) (x1 : Int) (x2 : Int) (x3 : Int) (x4 : Int) (x5 : Int) (n6 : Nat) (c6 : Nat) (l6 : List Go.Value) (x7 : Int) (x8 : Int) (x9 : Int) (x10 : Int) (s11 : ByteArray) (x13 : Int) (x14 : Int) (x15 : Int) (n16 : Nat) (c16 : Nat) (l16 : List Go.Value) (k : List D → Prop) : gE2 C L x0 x1 x2 x3 x4 x5 n6 c6 l6 x7 x8 x9 x10 s11 x13 x14 x15 n16 c16 l16 k =
 (((Says C 6 [] kT) ∧
 (bcase (decide ((↑n6 : Int) ≤ 8))
 (bcase (decide ((↑(ByteArray.size s11) : Int) ≤ 30))
 (bcase (dL n6 5 l6)
 (∃ n1 : Int,
 ((Says C 27 [(D.agg [(dI x0), (dI x1), (dI x2), (dI x3), (dI x4), (dI x5), (Dw n6 5 l6), (dI x7), (dI x8), (dI x9), (dI x10)]), (D.agg [(D.val (Value.string (s11))), D.nil])] [(dI n1)]) ∧
 (bcase (n1 != 0)
 (k kT)
 (bcase (dL n6 5 l6)
 (bcase (dL n16 1 l16)
 (∃ n2 : Int,
 ((Says C 28 [(D.agg [(dI x0), (dI x1), (dI x2), (dI x3), (dI x4), (dI x5), (Dw n6 5 l6), (dI x7), (dI x8), (dI x9), (dI x10)]), (D.agg [(dI x13), (dI x14), (dI x15), (Dw n16 1 l16)])] [(dI n2)]) ∧
 (bcase (n2 != 0)
 (k kT)
 (((Qv (Value.agg [(Value.string (s11)), (Value.slice none 0 0)].toArray)) ∧
 ((Qv (Value.agg [(vI x0), (vI x1), (vI x2), (vI x3), (vI x4), (vI x5), (Sl 500 (n6) (c6)), (vI x7), (vI x8), (vI x9), (vI x10)].toArray)) ∧
 True)) ∧
 (bcase (dL n6 5 l6)
 ((Says C 9 [(D.agg [(dI x0), (dI x1), (dI x2), (dI x3), (dI x4), (dI x5), (Dw n6 5 l6), (dI x7), (dI x8), (dI x9), (dI x10)])] [(D.agg [(dI x0), (dI x1), (dI x2), (dI x3), (dI x4), (dI x5), (Dw n6 5 l6), (dI x7), (dI x8), (dI x9), (dI x10)])]) ∧
 (((Qv (Value.agg [(Value.string (s11)), (Value.slice none 0 0)].toArray)) ∧
 True) ∧
 ((Says C 11 [(D.agg [(D.val (Value.string (s11))), D.nil])] [(D.agg [(D.val (Value.string (s11))), (D.sl 0 1 [])])]) ∧
 (True ∧
 False))))
 False)))))
 False)
 False))))
 False)
 (k kT))
 (k kT))) ∨
 ((Says C 6 [] kF) ∧
 (k kF))) := by kernel_rfl
def gE3 (C : Ct) (L : AtLoop) (x0 : Int) (x1 : Int) (x2 : Int) (x3 : Int) (x4 : Int) (x5 : Int) (n6 : Nat) (c6 : Nat) (l6 : List Value) (x7 : Int) (x8 : Int) (x9 : Int) (x10 : Int) (s11 : ByteArray) (x13 : Int) (x14 : Int) (x15 : Int) (k : List D → Prop) : Prop := wpFn Try.prog (hF2 C) L 0 5 #[.agg #[.int .i64 x0, .int .i64 x1, .int .i64 x2, .int .i64 x3, .int .i64 x4, .int .i64 x5, .slice (some ⟨500, 0, none⟩) n6 c6, .int .i64 x7, .int .i64 x8, .int .i64 x9, .int .i64 x10], .agg #[.string s11, .slice none 0 0], .agg #[.int .i64 x13, .int .i64 x14, .int .i64 x15, .slice none 0 0]] (heapOf [(500, .sym l6 false 5)]) (dataK k)
theorem gE3_text (C : Ct) (L : AtLoop) (x0 : Int) (x1 : Int) (x2 : Int) (x3 : Int) (x4 : Int) (x5 : Int) (n6 : Nat) (c6 : Nat) (l6 : List Go.Value) (x7 : Int) (x8 : Int) (x9 : Int) (x10 : Int) (s11 : ByteArray) (x13 : Int) (x14 : Int) (x15 : Int) (k : List D → Prop) : gE3 C L x0 x1 x2 x3 x4 x5 n6 c6 l6 x7 x8 x9 x10 s11 x13 x14 x15 k =
 (((Says C 6 [] kT) ∧
 (bcase (decide ((↑n6 : Int) ≤ 8))
 (bcase (decide ((↑(ByteArray.size s11) : Int) ≤ 30))
 (bcase (dL n6 5 l6)
 (∃ n1 : Int,
 ((Says C 27 [(D.agg [(dI x0), (dI x1), (dI x2), (dI x3), (dI x4), (dI x5), (Dw n6 5 l6), (dI x7), (dI x8), (dI x9), (dI x10)]), (D.agg [(D.val (Value.string (s11))), D.nil])] [(dI n1)]) ∧
 (bcase (n1 != 0)
 (k kT)
 (bcase (dL n6 5 l6)
 (∃ n2 : Int,
 ((Says C 28 [(D.agg [(dI x0), (dI x1), (dI x2), (dI x3), (dI x4), (dI x5), (Dw n6 5 l6), (dI x7), (dI x8), (dI x9), (dI x10)]), (D.agg [(dI x13), (dI x14), (dI x15), D.nil])] [(dI n2)]) ∧
 (bcase (n2 != 0)
 (k kT)
 (((Qv (Value.agg [(Value.string (s11)), (Value.slice none 0 0)].toArray)) ∧
 ((Qv (Value.agg [(vI x0), (vI x1), (vI x2), (vI x3), (vI x4), (vI x5), (Sl 500 (n6) (c6)), (vI x7), (vI x8), (vI x9), (vI x10)].toArray)) ∧
 True)) ∧
 (bcase (dL n6 5 l6)
 ((Says C 9 [(D.agg [(dI x0), (dI x1), (dI x2), (dI x3), (dI x4), (dI x5), (Dw n6 5 l6), (dI x7), (dI x8), (dI x9), (dI x10)])] [(D.agg [(dI x0), (dI x1), (dI x2), (dI x3), (dI x4), (dI x5), (Dw n6 5 l6), (dI x7), (dI x8), (dI x9), (dI x10)])]) ∧
 (((Qv (Value.agg [(Value.string (s11)), (Value.slice none 0 0)].toArray)) ∧
 True) ∧
 ((Says C 11 [(D.agg [(D.val (Value.string (s11))), D.nil])] [(D.agg [(D.val (Value.string (s11))), (D.sl 0 1 [])])]) ∧
 (True ∧
 False))))
 False)))))
 False))))
 False)
 (k kT))
 (k kT))) ∨
 ((Says C 6 [] kF) ∧
 (k kF))) := by kernel_rfl
def gE4 (C : Ct) (L : AtLoop) (x0 : Int) (x1 : Int) (x2 : Int) (x3 : Int) (x4 : Int) (x5 : Int) (x7 : Int) (x8 : Int) (x9 : Int) (x10 : Int) (s11 : ByteArray) (n12 : Nat) (c12 : Nat) (l12 : List Value) (x13 : Int) (x14 : Int) (x15 : Int) (n16 : Nat) (c16 : Nat) (l16 : List Value) (k : List D → Prop) : Prop := wpFn Try.prog (hF2 C) L 0 5 #[.agg #[.int .i64 x0, .int .i64 x1, .int .i64 x2, .int .i64 x3, .int .i64 x4, .int .i64 x5, .slice none 0 0, .int .i64 x7, .int .i64 x8, .int .i64 x9, .int .i64 x10], .agg #[.string s11, .slice (some ⟨500, 0, none⟩) n12 c12], .agg #[.int .i64 x13, .int .i64 x14, .int .i64 x15, .slice (some ⟨501, 0, none⟩) n16 c16]] (heapOf [(500, .sym l12 false 1), (501, .sym l16 false 1)]) (dataK k)
theorem gE4_text (C : Ct) (L : AtLoop) (x0 : Int) (x1 : Int) (x2 : Int) (x3 : Int) (x4 : Int) (x5 : Int) (x7 : Int) (x8 : Int) (x9 : Int) (x10 : Int) (s11 : ByteArray) (n12 : Nat) (c12 : Nat) (l12 : List Go.Value) (x13 : Int) (x14 : Int) (x15 : Int) (n16 : Nat) (c16 : Nat) (l16 : List Go.Value) (k : List D → Prop) : gE4 C L x0 x1 x2 x3 x4 x5 x7 x8 x9 x10 s11 n12 c12 l12 x13 x14 x15 n16 c16 l16 k =
 (((Says C 6 [] kT) ∧
 (bcase (decide ((↑n12 : Int) ≤ 8))
 (bcase (decide ((↑(ByteArray.size s11) : Int) ≤ 30))
 (bcase (dL n12 1 l12)
 (∃ n1 : Int,
 ((Says C 27 [(D.agg [(dI x0), (dI x1), (dI x2), (dI x3), (dI x4), (dI x5), D.nil, (dI x7), (dI x8), (dI x9), (dI x10)]), (D.agg [(D.val (Value.string (s11))), (Dw n12 1 l12)])] [(dI n1)]) ∧
 (bcase (n1 != 0)
 (k kT)
 (bcase (dL n16 1 l16)
 (∃ n2 : Int,
 ((Says C 28 [(D.agg [(dI x0), (dI x1), (dI x2), (dI x3), (dI x4), (dI x5), D.nil, (dI x7), (dI x8), (dI x9), (dI x10)]), (D.agg [(dI x13), (dI x14), (dI x15), (Dw n16 1 l16)])] [(dI n2)]) ∧
 (bcase (n2 != 0)
 (k kT)
 (((Qv (Value.agg [(Value.string (s11)), (Sl 500 (n12) (c12))].toArray)) ∧
 ((Qv (Value.agg [(vI x0), (vI x1), (vI x2), (vI x3), (vI x4), (vI x5), (Value.slice none 0 0), (vI x7), (vI x8), (vI x9), (vI x10)].toArray)) ∧
 True)) ∧
 ((Says C 9 [(D.agg [(dI x0), (dI x1), (dI x2), (dI x3), (dI x4), (dI x5), D.nil, (dI x7), (dI x8), (dI x9), (dI x10)])] [(D.agg [(dI x0), (dI x1), (dI x2), (dI x3), (dI x4), (dI x5), (D.sl 0 5 []), (dI x7), (dI x8), (dI x9), (dI x10)])]) ∧
 (((Qv (Value.agg [(Value.string (s11)), (Sl 500 (n12) (c12))].toArray)) ∧
 True) ∧
 (bcase (dL n12 1 l12)
 ((Says C 11 [(D.agg [(D.val (Value.string (s11))), (Dw n12 1 l12)])] [(D.agg [(D.val (Value.string (s11))), (Dw n12 1 l12)])]) ∧
 (True ∧
 False))
 False)))))))
 False))))
 False)
 (k kT))
 (k kT))) ∨
 ((Says C 6 [] kF) ∧
 (k kF))) := by kernel_rfl
def gE5 (C : Ct) (L : AtLoop) (x0 : Int) (x1 : Int) (x2 : Int) (x3 : Int) (x4 : Int) (x5 : Int) (x7 : Int) (x8 : Int) (x9 : Int) (x10 : Int) (s11 : ByteArray) (n12 : Nat) (c12 : Nat) (l12 : List Value) (x13 : Int) (x14 : Int) (x15 : Int) (k : List D → Prop) : Prop := wpFn Try.prog (hF2 C) L 0 5 #[.agg #[.int .i64 x0, .int .i64 x1, .int .i64 x2, .int .i64 x3, .int .i64 x4, .int .i64 x5, .slice none 0 0, .int .i64 x7, .int .i64 x8, .int .i64 x9, .int .i64 x10], .agg #[.string s11, .slice (some ⟨500, 0, none⟩) n12 c12], .agg #[.int .i64 x13, .int .i64 x14, .int .i64 x15, .slice none 0 0]] (heapOf [(500, .sym l12 false 1)]) (dataK k)
theorem gE5_text (C : Ct) (L : AtLoop) (x0 : Int) (x1 : Int) (x2 : Int) (x3 : Int) (x4 : Int) (x5 : Int) (x7 : Int) (x8 : Int) (x9 : Int) (x10 : Int) (s11 : ByteArray) (n12 : Nat) (c12 : Nat) (l12 : List Go.Value) (x13 : Int) (x14 : Int) (x15 : Int) (k : List D → Prop) : gE5 C L x0 x1 x2 x3 x4 x5 x7 x8 x9 x10 s11 n12 c12 l12 x13 x14 x15 k =
 (((Says C 6 [] kT) ∧
 (bcase (decide ((↑n12 : Int) ≤ 8))
 (bcase (decide ((↑(ByteArray.size s11) : Int) ≤ 30))
 (bcase (dL n12 1 l12)
 (∃ n1 : Int,
 ((Says C 27 [(D.agg [(dI x0), (dI x1), (dI x2), (dI x3), (dI x4), (dI x5), D.nil, (dI x7), (dI x8), (dI x9), (dI x10)]), (D.agg [(D.val (Value.string (s11))), (Dw n12 1 l12)])] [(dI n1)]) ∧
 (bcase (n1 != 0)
 (k kT)
 (∃ n2 : Int,
 ((Says C 28 [(D.agg [(dI x0), (dI x1), (dI x2), (dI x3), (dI x4), (dI x5), D.nil, (dI x7), (dI x8), (dI x9), (dI x10)]), (D.agg [(dI x13), (dI x14), (dI x15), D.nil])] [(dI n2)]) ∧
 (bcase (n2 != 0)
 (k kT)
 (((Qv (Value.agg [(Value.string (s11)), (Sl 500 (n12) (c12))].toArray)) ∧
 ((Qv (Value.agg [(vI x0), (vI x1), (vI x2), (vI x3), (vI x4), (vI x5), (Value.slice none 0 0), (vI x7), (vI x8), (vI x9), (vI x10)].toArray)) ∧
 True)) ∧
 ((Says C 9 [(D.agg [(dI x0), (dI x1), (dI x2), (dI x3), (dI x4), (dI x5), D.nil, (dI x7), (dI x8), (dI x9), (dI x10)])] [(D.agg [(dI x0), (dI x1), (dI x2), (dI x3), (dI x4), (dI x5), (D.sl 0 5 []), (dI x7), (dI x8), (dI x9), (dI x10)])]) ∧
 (((Qv (Value.agg [(Value.string (s11)), (Sl 500 (n12) (c12))].toArray)) ∧
 True) ∧
 (bcase (dL n12 1 l12)
 ((Says C 11 [(D.agg [(D.val (Value.string (s11))), (Dw n12 1 l12)])] [(D.agg [(D.val (Value.string (s11))), (Dw n12 1 l12)])]) ∧
 (True ∧
 False))
 False))))))))))
 False)
 (k kT))
 (k kT))) ∨
 ((Says C 6 [] kF) ∧
 (k kF))) := by kernel_rfl
def gE6 (C : Ct) (L : AtLoop) (x0 : Int) (x1 : Int) (x2 : Int) (x3 : Int) (x4 : Int) (x5 : Int) (x7 : Int) (x8 : Int) (x9 : Int) (x10 : Int) (s11 : ByteArray) (x13 : Int) (x14 : Int) (x15 : Int) (n16 : Nat) (c16 : Nat) (l16 : List Value) (k : List D → Prop) : Prop := wpFn Try.prog (hF2 C) L 0 5 #[.agg #[.int .i64 x0, .int .i64 x1, .int .i64 x2, .int .i64 x3, .int .i64 x4, .int .i64 x5, .slice none 0 0, .int .i64 x7, .int .i64 x8, .int .i64 x9, .int .i64 x10], .agg #[.string s11, .slice none 0 0], .agg #[.int .i64 x13, .int .i64 x14, .int .i64 x15, .slice (some ⟨500, 0, none⟩) n16 c16]] (heapOf [(500, .sym l16 false 1)]) (dataK k)
theorem gE6_text (C : Ct) (L : AtLoop) (x0 : Int) (x1 : Int) (x2 : Int) (x3 : Int) (x4 : Int) (x5 : Int) (x7 : Int) (x8 : Int) (x9 : Int) (x10 : Int) (s11 : ByteArray) (x13 : Int) (x14 : Int) (x15 : Int) (n16 : Nat) (c16 : Nat) (l16 : List Go.Value) (k : List D → Prop) : gE6 C L x0 x1 x2 x3 x4 x5 x7 x8 x9 x10 s11 x13 x14 x15 n16 c16 l16 k =
 (((Says C 6 [] kT) ∧
 (bcase (decide ((↑(ByteArray.size s11) : Int) ≤ 30))
 (∃ n1 : Int,
 ((Says C 27 [(D.agg [(dI x0), (dI x1), (dI x2), (dI x3), (dI x4), (dI x5), D.nil, (dI x7), (dI x8), (dI x9), (dI x10)]), (D.agg [(D.val (Value.string (s11))), D.nil])] [(dI n1)]) ∧
 (bcase (n1 != 0)
 (k kT)
 (bcase (dL n16 1 l16)
 (∃ n2 : Int,
 ((Says C 28 [(D.agg [(dI x0), (dI x1), (dI x2), (dI x3), (dI x4), (dI x5), D.nil, (dI x7), (dI x8), (dI x9), (dI x10)]), (D.agg [(dI x13), (dI x14), (dI x15), (Dw n16 1 l16)])] [(dI n2)]) ∧
 (bcase (n2 != 0)
 (k kT)
 (((Qv (Value.agg [(Value.string (s11)), (Value.slice none 0 0)].toArray)) ∧
 ((Qv (Value.agg [(vI x0), (vI x1), (vI x2), (vI x3), (vI x4), (vI x5), (Value.slice none 0 0), (vI x7), (vI x8), (vI x9), (vI x10)].toArray)) ∧
 True)) ∧
 ((Says C 9 [(D.agg [(dI x0), (dI x1), (dI x2), (dI x3), (dI x4), (dI x5), D.nil, (dI x7), (dI x8), (dI x9), (dI x10)])] [(D.agg [(dI x0), (dI x1), (dI x2), (dI x3), (dI x4), (dI x5), (D.sl 0 5 []), (dI x7), (dI x8), (dI x9), (dI x10)])]) ∧
 (((Qv (Value.agg [(Value.string (s11)), (Value.slice none 0 0)].toArray)) ∧
 True) ∧
 ((Says C 11 [(D.agg [(D.val (Value.string (s11))), D.nil])] [(D.agg [(D.val (Value.string (s11))), (D.sl 0 1 [])])]) ∧
 (True ∧
 False))))))))
 False))))
 (k kT))) ∨
 ((Says C 6 [] kF) ∧
 (k kF))) := by kernel_rfl
def gE7 (C : Ct) (L : AtLoop) (x0 : Int) (x1 : Int) (x2 : Int) (x3 : Int) (x4 : Int) (x5 : Int) (x7 : Int) (x8 : Int) (x9 : Int) (x10 : Int) (s11 : ByteArray) (x13 : Int) (x14 : Int) (x15 : Int) (k : List D → Prop) : Prop := wpFn Try.prog (hF2 C) L 0 5 #[.agg #[.int .i64 x0, .int .i64 x1, .int .i64 x2, .int .i64 x3, .int .i64 x4, .int .i64 x5, .slice none 0 0, .int .i64 x7, .int .i64 x8, .int .i64 x9, .int .i64 x10], .agg #[.string s11, .slice none 0 0], .agg #[.int .i64 x13, .int .i64 x14, .int .i64 x15, .slice none 0 0]] (heapOf []) (dataK k)
theorem gE7_text (C : Ct) (L : AtLoop) (x0 : Int) (x1 : Int) (x2 : Int) (x3 : Int) (x4 : Int) (x5 : Int) (x7 : Int) (x8 : Int) (x9 : Int) (x10 : Int) (s11 : ByteArray) (x13 : Int) (x14 : Int) (x15 : Int) (k : List D → Prop) : gE7 C L x0 x1 x2 x3 x4 x5 x7 x8 x9 x10 s11 x13 x14 x15 k =
 (((Says C 6 [] kT) ∧
 (bcase (decide ((↑(ByteArray.size s11) : Int) ≤ 30))
 (∃ n1 : Int,
 ((Says C 27 [(D.agg [(dI x0), (dI x1), (dI x2), (dI x3), (dI x4), (dI x5), D.nil, (dI x7), (dI x8), (dI x9), (dI x10)]), (D.agg [(D.val (Value.string (s11))), D.nil])] [(dI n1)]) ∧
 (bcase (n1 != 0)
 (k kT)
 (∃ n2 : Int,
 ((Says C 28 [(D.agg [(dI x0), (dI x1), (dI x2), (dI x3), (dI x4), (dI x5), D.nil, (dI x7), (dI x8), (dI x9), (dI x10)]), (D.agg [(dI x13), (dI x14), (dI x15), D.nil])] [(dI n2)]) ∧
 (bcase (n2 != 0)
 (k kT)
 (((Qv (Value.agg [(Value.string (s11)), (Value.slice none 0 0)].toArray)) ∧
 ((Qv (Value.agg [(vI x0), (vI x1), (vI x2), (vI x3), (vI x4), (vI x5), (Value.slice none 0 0), (vI x7), (vI x8), (vI x9), (vI x10)].toArray)) ∧
 True)) ∧
 ((Says C 9 [(D.agg [(dI x0), (dI x1), (dI x2), (dI x3), (dI x4), (dI x5), D.nil, (dI x7), (dI x8), (dI x9), (dI x10)])] [(D.agg [(dI x0), (dI x1), (dI x2), (dI x3), (dI x4), (dI x5), (D.sl 0 5 []), (dI x7), (dI x8), (dI x9), (dI x10)])]) ∧
 (((Qv (Value.agg [(Value.string (s11)), (Value.slice none 0 0)].toArray)) ∧
 True) ∧
 ((Says C 11 [(D.agg [(D.val (Value.string (s11))), D.nil])] [(D.agg [(D.val (Value.string (s11))), (D.sl 0 1 [])])]) ∧
 (True ∧
 False)))))))))))
 (k kT))) ∨
 ((Says C 6 [] kF) ∧
 (k kF))) := by kernel_rfl
end Go.Proofs.G5p

/- Calls whose lists are never nil: the rule holds. -/
namespace Go.Abs
open Go.RowKit
variable {P : Program}
theorem someScalL_out : ∀ (l : List Sc) {H : Heap} {k : List D → List Value → Heap → Prop}, someScalL l H k → ∃ ds vs H', LaidC H ds vs H' ∧ ds.length = l.length ∧ k ds vs H'
  | [], H, k, h => ⟨[], [], H, .nil H, rfl, h⟩
  | .int kd :: r, H, k, h => by
    obtain ⟨n, h⟩ := h
    obtain ⟨ds, vs, H', h1, h2, h3⟩ := someScalL_out r h
    exact ⟨_, _, _, .val _ (fun cs e => by cases e) h1, by simp [h2], h3⟩
  | .bool :: r, H, k, h => by
    obtain ⟨n, h⟩ := h
    obtain ⟨ds, vs, H', h1, h2, h3⟩ := someScalL_out r h
    exact ⟨_, _, _, .val _ (fun cs e => by cases e) h1, by simp [h2], h3⟩
  | .str :: r, H, k, h => by
    obtain ⟨n, h⟩ := h
    obtain ⟨ds, vs, H', h1, h2, h3⟩ := someScalL_out r h
    exact ⟨_, _, _, .val _ (fun cs e => by cases e) h1, by simp [h2], h3⟩
  | .sl es :: r, H, k, h => by
    obtain ⟨n, cs, h⟩ := h
    obtain ⟨ds, vs, H', h1, h2, h3⟩ := someScalL_out r h
    exact ⟨_, _, _, .sl n es cs h1, by simp [h2], h3⟩
theorem someValsL_out : ∀ (ts : List TypeId) {H : Heap} {k : List D → List Value → Heap → Prop}, someValsL P ts H k → ∃ ds vs H', LaidV H ds vs H' ∧ k ds vs H'
  | [], H, k, h => ⟨[], [], H, .nil H, h⟩
  | t :: r, H, k, h => by
    simp only [someValsL, someValL] at h
    split at h
    · cases h
    · rename_i l hl
      split at h
      · obtain ⟨ds, vs, H', h1, _, h3⟩ := someScalL_out l h
        obtain ⟨rs, us, H2, h4, h5⟩ := someValsL_out r h3
        exact ⟨_, _, _, .agg h1 h4, h5⟩
      · obtain ⟨ds, vs, H', h1, _, h3⟩ := someScalL_out l h
        split at h3
        · obtain ⟨rs, us, H2, h4, h5⟩ := someValsL_out r h3
          exact ⟨_, _, _, .one h1 h4, h5⟩
        · cases h3
theorem saidL_ok {C : FuncId → List D → List D → Prop} (hC : ∀ f ds rs, C f ds rs → Con P f ds rs) : HandlerOK P (saidL P C) := by
  intro f args ats H k hk
  unfold saidL at hk
  split at hk
  · rename_i fn _
    intro w0 ρ w args' n g ha
    obtain ⟨ds, hr, hk⟩ := readVals_out g _ ha hk
    obtain ⟨rs, vs, H', hl, hs, hk⟩ := someValsL_out fn.resultTypes.toList hk
    refine callsIn_wide.2 ((hC f ds rs hs.out w args' g.good hr).mono ?_)
    rintro e w' ⟨⟨vs', u, rfl, hg⟩, hb⟩
    obtain ⟨ρ', g', l', e', _, _⟩ := laidV_sound hl (g.grow hb) (g.growB hb) g.below.size (fun i m hm => .inl (g.own i m hm).1) hg
    exact ⟨_, H', ρ', _, hk, rfl, tupleOf_R l', g', e'⟩
  · exact hk.elim
end Go.Abs

/- PassEveryMaterial in data: where its arguments are nil, and what is said of all temperatures. -/
namespace Go.Proofs.G5p
open Go Go.Abs Go.Proofs Go.Str
set_option maxRecDepth 100000
theorem conHO (r : Ru) (nm : List UInt8) (th : List Int) (v : VR r th) (h : (schP r nm th).2 = 0) : C5 30 [r.d, scD nm th] [.sl th.length 4 (vq (spans r th)), dI 0] := by
  have hl := v.v.len
  have h6 := v.v.n6
  refine con_flat hokP mixed Try.func30 rfl (by show 2 ≤ 400; omega) rfl (by kernel_rfl) (fun caps => ?_)
  show gHO _ _ r.w r.st r.fi r.hlo r.hhi r.co r.ss.length (caps 500) (vs5 r.ss) r.slo r.shi r.flo r.fhi (bs nm) th.length (caps 501) (vi th) _
  rw [gHO_text, bc_t (v5le r.ss), bc_t (v1le th), v5_whole, v1_whole]
  refine ⟨_, _, ⟨conKS r nm th (by omega) (by omega)⟩, bc_bne (fun hc => absurd h hc) (fun _ => ?_)⟩
  try simp only [Qv, eq_self, true_and, and_true]
  refine ⟨th.length, vq (spans r th), ⟨runEH r _ _ nm th v⟩, ?_⟩
  simp only [vq_length, spans_len, Qv, eq_self, true_and]
theorem preEOK : PreOK Try.prog (preE C5) := by
  intro g h he args ats H k hk
  unfold preE at he
  rcases ite_so he with ⟨_, rfl⟩ | he
  · exact saidL_ok (fun _ _ _ h => h) _ _ _ _ _ hk
  rcases ite_so he with ⟨_, rfl⟩ | he
  · exact fixH_ok (fun _ _ _ h => h) _ _ _ _ _ hk
  rcases ite_so he with ⟨_, rfl⟩ | he
  · exact fixH_ok (fun _ _ _ h => h) _ _ _ _ _ hk
  rcases ite_so he with ⟨_, rfl⟩ | he
  · exact fixH_ok (fun _ _ _ h => h) _ _ _ _ _ hk
  rcases ite_so he with ⟨_, rfl⟩ | he
  · exact saidH_ok (fun _ _ _ h => h) _ _ _ _ _ hk
  · cases he
theorem hokE2 : HandlerOK Try.prog (hE2 C5) := handlerX_ok mixed preEOK (by decide) 6
theorem preFOK : PreOK Try.prog (preF C5) := by
  intro g h he args ats H k hk
  unfold preF at he
  rcases ite_so he with ⟨_, rfl⟩ | he
  · exact hk.elim
  rcases ite_so he with ⟨_, rfl⟩ | he
  · exact fixH_ok (fun _ _ _ h => h) _ _ _ _ _ hk
  rcases ite_so he with ⟨_, rfl⟩ | he
  · exact fixH_ok (fun _ _ _ h => h) _ _ _ _ _ hk
  rcases ite_so he with ⟨_, rfl⟩ | he
  · exact fixH_ok (fun _ _ _ h => h) _ _ _ _ _ hk
  rcases ite_so he with ⟨_, rfl⟩ | he
  · exact saidH_ok (fun _ _ _ h => h) _ _ _ _ _ hk
  · cases he
theorem hokF2 : HandlerOK Try.prog (hF2 C5) := handlerX_ok mixed preFOK (by decide) 6
theorem both_of {c s : Int} (h : (if c = 0 then s else c) = 0) : c = 0 ∧ s = 0 := by
  by_cases hc : c = 0
  · rw [if_pos hc] at h; exact ⟨hc, h⟩
  · rw [if_neg hc] at h; exact absurd h hc
theorem lawE1 (r : Ru) (nm : List UInt8) (th : List Int) (ms mf mh : Int) : C5 5 [r.d, scD nm th, maN ms mf mh] [.val (.bool true)] := by
  refine con_of (L := fun _ _ _ => False) hokF2 mixed Try.func5 rfl (by show 2 ≤ 400; omega) rfl (ids := [0, 2]) (by kernel_rfl) rfl (fun caps => ?_) (fun id hid => ?_)
  · show gE1 _ _ r.w r.st r.fi r.hlo r.hhi r.co r.ss.length (caps 500) (vs5 r.ss) r.slo r.shi r.flo r.fhi (bs nm) th.length (caps 501) (vi th) ms mf mh _
    rw [gE1_text]
    refine .inl ⟨⟨conA⟩, bc_dec (fun h1 => bc_dec (fun h2 => bc_dec (fun h3 => ?_) (fun _ => rfl)) (fun _ => rfl)) (fun _ => rfl)⟩
    simp only [dL, Dw, Tk, v5_whole, v1_whole, bc_t (v5le r.ss), bc_t (v1le th), Qv, eq_self, true_and]
    refine ⟨_, ⟨conBE r nm th (by omega) (by omega)⟩, bc_bne (fun _ => trivial) (fun hz => ?_)⟩
    obtain ⟨hc, hs⟩ := both_of hz
    exact ⟨_, ⟨conMEn r ms mf mh (chk_pos hc) (by omega)⟩, bc_bne (fun _ => trivial) (fun hm => absurd hm (matE_nil ms mf mh (chk_pos hc)))⟩
  · rcases List.mem_cons.1 hid with rfl | hid
    · exact ⟨Unit, fun _ => ([], []), fun _ => False, fun _ => 0, ⟨fun s b h => h.elim, by kernel_rfl, fun _ h => h.elim⟩⟩
    · obtain rfl := List.mem_singleton.1 hid
      exact ⟨Unit, fun _ => ([], []), fun _ => False, fun _ => 0, ⟨fun s b h => h.elim, by kernel_rfl, fun _ h => h.elim⟩⟩
theorem lawE2 (r : Ru) (nm : List UInt8) (ms mf mh : Int) (ls : List Int) : C5 5 [r.d, scN nm, maD ms mf mh ls] [.val (.bool true)] := by
  refine con_of (L := fun _ _ _ => False) hokF2 mixed Try.func5 rfl (by show 2 ≤ 400; omega) rfl (ids := [0, 2]) (by kernel_rfl) rfl (fun caps => ?_) (fun id hid => ?_)
  · show gE2 _ _ r.w r.st r.fi r.hlo r.hhi r.co r.ss.length (caps 500) (vs5 r.ss) r.slo r.shi r.flo r.fhi (bs nm) ms mf mh ls.length (caps 501) (vi ls) _
    rw [gE2_text]
    refine .inl ⟨⟨conA⟩, bc_dec (fun h1 => bc_dec (fun h2 => ?_) (fun _ => rfl)) (fun _ => rfl)⟩
    simp only [dL, Dw, Tk, v5_whole, v1_whole, bc_t (v5le r.ss), Qv, eq_self, true_and]
    refine ⟨_, ⟨conBEn r nm (by omega)⟩, bc_bne (fun _ => trivial) (fun hz => ?_)⟩
    obtain ⟨hc, hs⟩ := both_of hz
    exact absurd hs (schE_nil nm (chk_pos hc))
  · rcases List.mem_cons.1 hid with rfl | hid
    · exact ⟨Unit, fun _ => ([], []), fun _ => False, fun _ => 0, ⟨fun s b h => h.elim, by kernel_rfl, fun _ h => h.elim⟩⟩
    · obtain rfl := List.mem_singleton.1 hid
      exact ⟨Unit, fun _ => ([], []), fun _ => False, fun _ => 0, ⟨fun s b h => h.elim, by kernel_rfl, fun _ h => h.elim⟩⟩
theorem lawE3 (r : Ru) (nm : List UInt8) (ms mf mh : Int) : C5 5 [r.d, scN nm, maN ms mf mh] [.val (.bool true)] := by
  refine con_of (L := fun _ _ _ => False) hokF2 mixed Try.func5 rfl (by show 1 ≤ 400; omega) rfl (ids := [0, 2]) (by kernel_rfl) rfl (fun caps => ?_) (fun id hid => ?_)
  · show gE3 _ _ r.w r.st r.fi r.hlo r.hhi r.co r.ss.length (caps 500) (vs5 r.ss) r.slo r.shi r.flo r.fhi (bs nm) ms mf mh _
    rw [gE3_text]
    refine .inl ⟨⟨conA⟩, bc_dec (fun h1 => bc_dec (fun h2 => ?_) (fun _ => rfl)) (fun _ => rfl)⟩
    simp only [dL, Dw, Tk, v5_whole, v1_whole, bc_t (v5le r.ss), Qv, eq_self, true_and]
    refine ⟨_, ⟨conBEn r nm (by omega)⟩, bc_bne (fun _ => trivial) (fun hz => ?_)⟩
    obtain ⟨hc, hs⟩ := both_of hz
    exact absurd hs (schE_nil nm (chk_pos hc))
  · rcases List.mem_cons.1 hid with rfl | hid
    · exact ⟨Unit, fun _ => ([], []), fun _ => False, fun _ => 0, ⟨fun s b h => h.elim, by kernel_rfl, fun _ h => h.elim⟩⟩
    · obtain rfl := List.mem_singleton.1 hid
      exact ⟨Unit, fun _ => ([], []), fun _ => False, fun _ => 0, ⟨fun s b h => h.elim, by kernel_rfl, fun _ h => h.elim⟩⟩
theorem lawE4 (r : Ru) (hr : r.ss = []) (nm : List UInt8) (th : List Int) (ms mf mh : Int) (ls : List Int) : C5 5 [r.dn, scD nm th, maD ms mf mh ls] [.val (.bool true)] := by
  refine con_of (L := fun _ _ _ => False) hokF2 mixed Try.func5 rfl (by show 2 ≤ 400; omega) rfl (ids := [0, 2]) (by kernel_rfl) rfl (fun caps => ?_) (fun id hid => ?_)
  · show gE4 _ _ r.w r.st r.fi r.hlo r.hhi r.co r.slo r.shi r.flo r.fhi (bs nm) th.length (caps 500) (vi th) ms mf mh ls.length (caps 501) (vi ls) _
    rw [gE4_text]
    refine .inl ⟨⟨conA⟩, bc_dec (fun h1 => bc_dec (fun h2 => ?_) (fun _ => rfl)) (fun _ => rfl)⟩
    simp only [dL, Dw, Tk, v5_whole, v1_whole, bc_t (v1le th), Qv, eq_self, true_and]
    exact ⟨_, ⟨conBEm r hr nm th⟩, bc_bne (fun _ => trivial) (fun hz => absurd hz (chk_nil hr))⟩
  · rcases List.mem_cons.1 hid with rfl | hid
    · exact ⟨Unit, fun _ => ([], []), fun _ => False, fun _ => 0, ⟨fun s b h => h.elim, by kernel_rfl, fun _ h => h.elim⟩⟩
    · obtain rfl := List.mem_singleton.1 hid
      exact ⟨Unit, fun _ => ([], []), fun _ => False, fun _ => 0, ⟨fun s b h => h.elim, by kernel_rfl, fun _ h => h.elim⟩⟩
theorem lawE5 (r : Ru) (hr : r.ss = []) (nm : List UInt8) (th : List Int) (ms mf mh : Int) : C5 5 [r.dn, scD nm th, maN ms mf mh] [.val (.bool true)] := by
  refine con_of (L := fun _ _ _ => False) hokF2 mixed Try.func5 rfl (by show 1 ≤ 400; omega) rfl (ids := [0, 2]) (by kernel_rfl) rfl (fun caps => ?_) (fun id hid => ?_)
  · show gE5 _ _ r.w r.st r.fi r.hlo r.hhi r.co r.slo r.shi r.flo r.fhi (bs nm) th.length (caps 500) (vi th) ms mf mh _
    rw [gE5_text]
    refine .inl ⟨⟨conA⟩, bc_dec (fun h1 => bc_dec (fun h2 => ?_) (fun _ => rfl)) (fun _ => rfl)⟩
    simp only [dL, Dw, Tk, v5_whole, v1_whole, bc_t (v1le th), Qv, eq_self, true_and]
    exact ⟨_, ⟨conBEm r hr nm th⟩, bc_bne (fun _ => trivial) (fun hz => absurd hz (chk_nil hr))⟩
  · rcases List.mem_cons.1 hid with rfl | hid
    · exact ⟨Unit, fun _ => ([], []), fun _ => False, fun _ => 0, ⟨fun s b h => h.elim, by kernel_rfl, fun _ h => h.elim⟩⟩
    · obtain rfl := List.mem_singleton.1 hid
      exact ⟨Unit, fun _ => ([], []), fun _ => False, fun _ => 0, ⟨fun s b h => h.elim, by kernel_rfl, fun _ h => h.elim⟩⟩
theorem lawE6 (r : Ru) (hr : r.ss = []) (nm : List UInt8) (ms mf mh : Int) (ls : List Int) : C5 5 [r.dn, scN nm, maD ms mf mh ls] [.val (.bool true)] := by
  refine con_of (L := fun _ _ _ => False) hokF2 mixed Try.func5 rfl (by show 1 ≤ 400; omega) rfl (ids := [0, 2]) (by kernel_rfl) rfl (fun caps => ?_) (fun id hid => ?_)
  · show gE6 _ _ r.w r.st r.fi r.hlo r.hhi r.co r.slo r.shi r.flo r.fhi (bs nm) ms mf mh ls.length (caps 500) (vi ls) _
    rw [gE6_text]
    refine .inl ⟨⟨conA⟩, bc_dec (fun h1 => ?_) (fun _ => rfl)⟩
    simp only [dL, Dw, Tk, v5_whole, v1_whole, Qv, eq_self, true_and]
    exact ⟨_, ⟨conBEk r hr nm⟩, bc_bne (fun _ => trivial) (fun hz => absurd hz (chk_nil hr))⟩
  · rcases List.mem_cons.1 hid with rfl | hid
    · exact ⟨Unit, fun _ => ([], []), fun _ => False, fun _ => 0, ⟨fun s b h => h.elim, by kernel_rfl, fun _ h => h.elim⟩⟩
    · obtain rfl := List.mem_singleton.1 hid
      exact ⟨Unit, fun _ => ([], []), fun _ => False, fun _ => 0, ⟨fun s b h => h.elim, by kernel_rfl, fun _ h => h.elim⟩⟩
theorem lawE7 (r : Ru) (hr : r.ss = []) (nm : List UInt8) (ms mf mh : Int) : C5 5 [r.dn, scN nm, maN ms mf mh] [.val (.bool true)] := by
  refine con_of (L := fun _ _ _ => False) hokF2 mixed Try.func5 rfl (by show 0 ≤ 400; omega) rfl (ids := [0, 2]) (by kernel_rfl) rfl (fun caps => ?_) (fun id hid => ?_)
  · show gE7 _ _ r.w r.st r.fi r.hlo r.hhi r.co r.slo r.shi r.flo r.fhi (bs nm) ms mf mh _
    rw [gE7_text]
    refine .inl ⟨⟨conA⟩, bc_dec (fun h1 => ?_) (fun _ => rfl)⟩
    simp only [dL, Dw, Tk, v5_whole, v1_whole, Qv, eq_self, true_and]
    exact ⟨_, ⟨conBEk r hr nm⟩, bc_bne (fun _ => trivial) (fun hz => absurd hz (chk_nil hr))⟩
  · rcases List.mem_cons.1 hid with rfl | hid
    · exact ⟨Unit, fun _ => ([], []), fun _ => False, fun _ => 0, ⟨fun s b h => h.elim, by kernel_rfl, fun _ h => h.elim⟩⟩
    · obtain rfl := List.mem_singleton.1 hid
      exact ⟨Unit, fun _ => ([], []), fun _ => False, fun _ => 0, ⟨fun s b h => h.elim, by kernel_rfl, fun _ h => h.elim⟩⟩
end Go.Proofs.G5p

/- What is left to show of each function, written out; the kernel reckons it. -/
namespace Go.Proofs.G5p
open Go Go.Abs Go.Proofs
set_option maxRecDepth 100000
set_option linter.unusedVariables false
def rE01 (C : Ct) (L : AtLoop) (x0 : Int) (n1 : Nat) (b2 : Bool) (n3 : Nat) (x4 : Int) (x5 : Int) (x6 : Int) (x7 : Int) (x8 : Int) (x9 : Int) (x10 : Int) (n11 : Nat) (c12 : Nat) (x13 : Int) (x14 : Int) (x15 : Int) (x16 : Int) (s17 : ByteArray) (n18 : Nat) (c19 : Nat) (x20 : Int) (x21 : Int) (x22 : Int) (n23 : Nat) (c24 : Nat) (l25 : List Value) (l26 : List Value) (l27 : List Value) (l28 : List Value) (l29 : List Value) (B : Bx) (X : Xx) (k : List D → Prop) : Prop := wpRound Try.prog (hE2 C) L 5 0 [(3, (Value.pointer (some ⟨1000, 0, none⟩))), (4, (Value.pointer (some ⟨1001, 0, none⟩))), (5, (Value.pointer (some ⟨1002, 0, none⟩))), (7, (Value.int .i64 x0)), (9, (Value.slice (some ⟨1003, 0, none⟩) n1 n1)), (10, (Value.bool b2)), (12, (Value.slice (some ⟨1004, 0, none⟩) n3 n3)), (14, (Value.int .i64 x4))] [(1000, (AObj.cells [(Value.int .i64 x5), (Value.int .i64 x6), (Value.int .i64 x7), (Value.int .i64 x8), (Value.int .i64 x9), (Value.int .i64 x10), (Value.slice (some ⟨500, 0, none⟩) n11 c12), (Value.int .i64 x13), (Value.int .i64 x14), (Value.int .i64 x15), (Value.int .i64 x16)] 26 false 1)), (1001, (AObj.cells [(Value.string s17), (Value.slice (some ⟨501, 0, none⟩) n18 c19)] 29 false 1)), (1002, (AObj.cells [(Value.int .i64 x20), (Value.int .i64 x21), (Value.int .i64 x22), (Value.slice (some ⟨502, 0, none⟩) n23 c24)] 51 false 1)), (1003, (AObj.sym l25 true 2)), (1004, (AObj.sym l26 true 4)), (500, (AObj.sym l27 false 5)), (501, (AObj.sym l28 false 1)), (502, (AObj.sym l29 false 1))] B X (dataK k)
theorem rE01_text (C : Ct) (L : AtLoop) (x0 : Int) (n1 : Nat) (b2 : Bool) (n3 : Nat) (x4 : Int) (x5 : Int) (x6 : Int) (x7 : Int) (x8 : Int) (x9 : Int) (x10 : Int) (n11 : Nat) (c12 : Nat) (x13 : Int) (x14 : Int) (x15 : Int) (x16 : Int) (s17 : ByteArray) (n18 : Nat) (c19 : Nat) (x20 : Int) (x21 : Int) (x22 : Int) (n23 : Nat) (c24 : Nat) (l25 : List Go.Value) (l26 : List Go.Value) (l27 : List Go.Value) (l28 : List Go.Value) (l29 : List Go.Value) (B : Bx) (X : Xx) (k : List D → Prop) : rE01 C L x0 n1 b2 n3 x4 x5 x6 x7 x8 x9 x10 n11 c12 x13 x14 x15 x16 s17 n18 c19 x20 x21 x22 n23 c24 l25 l26 l27 l28 l29 B X k =
 (bcase (decide (x4 < (↑n1 : Int)))
 (bcase (decide (0 ≤ x4))
 (bcase (decide (x4 < (↑n1 : Int)))
 (∃ n2 : Int,
 (∃ n4 : Int,
 ((At (l25) (0 + Int.toNat x4 * 2) 2 [(vI n2), (vI n4)]) ∧
 (((∃ n5 : Int,
 (∃ n6 : Int,
 ((At (l25) (0 + Int.toNat x4 * 2) 2 [(vI n5), (vI n6)]) ∧
 ((Value.agg [(vI n5), (vI n6)].toArray) = (Value.agg [(vI n2), (vI n4)].toArray))))) ∧
 ((bcase (decide (0 ≤ x4))
 (bcase (decide (x4 < (↑n1 : Int)))
 (Qv (Pt 1003 (0 + Int.toNat x4 * 2)))
 False)
 False) ∧
 ((Qv (vI x4)) ∧
 ((Qv (Sl 1003 (n1) (n1))) ∧
 True)))) ∧
 (((Says C 31 [(D.agg [(dI n2), (dI n4)])] kT) ∧
 (bcase (decide (0 ≤ x4))
 (bcase (decide (x4 < (↑n1 : Int)))
 (∃ n5 : Int,
 (∃ n6 : Int,
 ((At (l25) (0 + Int.toNat x4 * 2) 2 [(vI n5), (vI n6)]) ∧
 (((∃ n7 : Int,
 (∃ n8 : Int,
 ((At (l25) (0 + Int.toNat x4 * 2) 2 [(vI n7), (vI n8)]) ∧
 ((Value.agg [(vI n7), (vI n8)].toArray) = (Value.agg [(vI n5), (vI n6)].toArray))))) ∧
 ((bcase (decide (0 ≤ x4))
 (bcase (decide (x4 < (↑n1 : Int)))
 (Qv (Pt 1003 (0 + Int.toNat x4 * 2)))
 False)
 False) ∧
 ((Qv (vI x4)) ∧
 ((Qv (Sl 1003 (n1) (n1))) ∧
 (Qf ∧
 (Qf ∧
 ((bcase (decide (0 ≤ x4))
 (bcase (decide (x4 < (↑n1 : Int)))
 (Qv (Pt 1003 (0 + Int.toNat x4 * 2)))
 False)
 False) ∧
 ((Qv (vI x4)) ∧
 ((Qv (Sl 1003 (n1) (n1))) ∧
 True))))))))) ∧
 (((Says C 32 [(D.agg [(dI n5), (dI n6)])] kT) ∧
 (bcase (decide (0 ≤ x4))
 (bcase (decide (x4 < (↑n3 : Int)))
 (∃ n7 : Int,
 (∃ n8 : Int,
 ((At (l26) (0 + Int.toNat x4 * 4) 2 [(vI n7), (vI n8)]) ∧
 (((∃ n9 : Int,
 (∃ n10 : Int,
 ((At (l26) (0 + Int.toNat x4 * 4) 2 [(vI n9), (vI n10)]) ∧
 ((Value.agg [(vI n9), (vI n10)].toArray) = (Value.agg [(vI n7), (vI n8)].toArray))))) ∧
 ((Qv (Pt 1004 (0 + Int.toNat x4 * 4))) ∧
 ((bcase (decide (0 ≤ x4))
 (bcase (decide (x4 < (↑n3 : Int)))
 (Qv (Pt 1004 (0 + Int.toNat x4 * 4)))
 False)
 False) ∧
 ((Qv (vI x4)) ∧
 ((Qv (Sl 1004 (n3) (n3))) ∧
 (Qf ∧
 (Qf ∧
 (Qf ∧
 ((bcase (decide (0 ≤ x4))
 (bcase (decide (x4 < (↑n1 : Int)))
 (Qv (Pt 1003 (0 + Int.toNat x4 * 2)))
 False)
 False) ∧
 ((Qv (vI x4)) ∧
 ((Qv (Sl 1003 (n1) (n1))) ∧
 (Qf ∧
 ((bcase (decide (0 ≤ x4))
 (bcase (decide (x4 < (↑n1 : Int)))
 (Qv (Pt 1003 (0 + Int.toNat x4 * 2)))
 False)
 False) ∧
 ((Qv (vI x4)) ∧
 ((Qv (Sl 1003 (n1) (n1))) ∧
 True))))))))))))))) ∧
 (((Says C 31 [(D.agg [(dI n7), (dI n8)])] kT) ∧
 (bcase (decide (0 ≤ x4))
 (bcase (decide (x4 < (↑n3 : Int)))
 (∃ n9 : Int,
 (∃ n10 : Int,
 ((At (l26) (0 + Int.toNat x4 * 4) 2 [(vI n9), (vI n10)]) ∧
 (((∃ n12 : Int,
 (∃ n13 : Int,
 ((At (l26) (0 + Int.toNat x4 * 4) 2 [(vI n12), (vI n13)]) ∧
 ((Value.agg [(vI n12), (vI n13)].toArray) = (Value.agg [(vI n9), (vI n10)].toArray))))) ∧
 ((Qv (Pt 1004 (0 + Int.toNat x4 * 4))) ∧
 ((bcase (decide (0 ≤ x4))
 (bcase (decide (x4 < (↑n3 : Int)))
 (Qv (Pt 1004 (0 + Int.toNat x4 * 4)))
 False)
 False) ∧
 ((Qv (vI x4)) ∧
 ((Qv (Sl 1004 (n3) (n3))) ∧
 (Qf ∧
 (Qf ∧
 (Qf ∧
 ((Qv (Pt 1004 (0 + Int.toNat x4 * 4))) ∧
 ((bcase (decide (0 ≤ x4))
 (bcase (decide (x4 < (↑n3 : Int)))
 (Qv (Pt 1004 (0 + Int.toNat x4 * 4)))
 False)
 False) ∧
 ((Qv (vI x4)) ∧
 ((Qv (Sl 1004 (n3) (n3))) ∧
 (Qf ∧
 (Qf ∧
 ((bcase (decide (0 ≤ x4))
 (bcase (decide (x4 < (↑n1 : Int)))
 (Qv (Pt 1003 (0 + Int.toNat x4 * 2)))
 False)
 False) ∧
 ((Qv (vI x4)) ∧
 ((Qv (Sl 1003 (n1) (n1))) ∧
 (Qf ∧
 ((bcase (decide (0 ≤ x4))
 (bcase (decide (x4 < (↑n1 : Int)))
 (Qv (Pt 1003 (0 + Int.toNat x4 * 2)))
 False)
 False) ∧
 ((Qv (vI x4)) ∧
 ((Qv (Sl 1003 (n1) (n1))) ∧
 True))))))))))))))))))))) ∧
 (((Says C 32 [(D.agg [(dI n9), (dI n10)])] kT) ∧
 (bcase (decide (0 ≤ x4))
 (bcase (decide (x4 < (↑n3 : Int)))
 (∃ n12 : Int,
 (∃ n13 : Int,
 ((At (l26) (Addr.off { block := 1004, off := 0 + Int.toNat x4 * 4 } + 2) 2 [(vI n12), (vI n13)]) ∧
 (((∃ n14 : Int,
 (∃ n15 : Int,
 ((At (l26) (Addr.off { block := 1004, off := 0 + Int.toNat x4 * 4 } + 2) 2 [(vI n14), (vI n15)]) ∧
 ((Value.agg [(vI n14), (vI n15)].toArray) = (Value.agg [(vI n12), (vI n13)].toArray))))) ∧
 ((Qv (Value.pointer (some (Addr.mk 1004 (Addr.off { block := 1004, off := 0 + Int.toNat x4 * 4 } + 2) none)))) ∧
 ((bcase (decide (0 ≤ x4))
 (bcase (decide (x4 < (↑n3 : Int)))
 (Qv (Pt 1004 (0 + Int.toNat x4 * 4)))
 False)
 False) ∧
 ((Qv (vI x4)) ∧
 ((Qv (Sl 1004 (n3) (n3))) ∧
 (Qf ∧
 (Qf ∧
 (Qf ∧
 ((Qv (Pt 1004 (0 + Int.toNat x4 * 4))) ∧
 ((bcase (decide (0 ≤ x4))
 (bcase (decide (x4 < (↑n3 : Int)))
 (Qv (Pt 1004 (0 + Int.toNat x4 * 4)))
 False)
 False) ∧
 ((Qv (vI x4)) ∧
 ((Qv (Sl 1004 (n3) (n3))) ∧
 (Qf ∧
 (Qf ∧
 ((Qv (Pt 1004 (0 + Int.toNat x4 * 4))) ∧
 ((bcase (decide (0 ≤ x4))
 (bcase (decide (x4 < (↑n3 : Int)))
 (Qv (Pt 1004 (0 + Int.toNat x4 * 4)))
 False)
 False) ∧
 ((Qv (vI x4)) ∧
 ((Qv (Sl 1004 (n3) (n3))) ∧
 (Qf ∧
 (Qf ∧
 ((bcase (decide (0 ≤ x4))
 (bcase (decide (x4 < (↑n1 : Int)))
 (Qv (Pt 1003 (0 + Int.toNat x4 * 2)))
 False)
 False) ∧
 ((Qv (vI x4)) ∧
 ((Qv (Sl 1003 (n1) (n1))) ∧
 (Qf ∧
 ((bcase (decide (0 ≤ x4))
 (bcase (decide (x4 < (↑n1 : Int)))
 (Qv (Pt 1003 (0 + Int.toNat x4 * 2)))
 False)
 False) ∧
 ((Qv (vI x4)) ∧
 ((Qv (Sl 1003 (n1) (n1))) ∧
 True))))))))))))))))))))))))))) ∧
 (((Says C 31 [(D.agg [(dI n12), (dI n13)])] kT) ∧
 (bcase (decide (0 ≤ x4))
 (bcase (decide (x4 < (↑n3 : Int)))
 (∃ n14 : Int,
 (∃ n15 : Int,
 ((At (l26) (Addr.off { block := 1004, off := 0 + Int.toNat x4 * 4 } + 2) 2 [(vI n14), (vI n15)]) ∧
 (((∃ n16 : Int,
 (∃ n17 : Int,
 ((At (l26) (Addr.off { block := 1004, off := 0 + Int.toNat x4 * 4 } + 2) 2 [(vI n16), (vI n17)]) ∧
 ((Value.agg [(vI n16), (vI n17)].toArray) = (Value.agg [(vI n14), (vI n15)].toArray))))) ∧
 ((Qv (Value.pointer (some (Addr.mk 1004 (Addr.off { block := 1004, off := 0 + Int.toNat x4 * 4 } + 2) none)))) ∧
 ((bcase (decide (0 ≤ x4))
 (bcase (decide (x4 < (↑n3 : Int)))
 (Qv (Pt 1004 (0 + Int.toNat x4 * 4)))
 False)
 False) ∧
 ((Qv (vI x4)) ∧
 ((Qv (Sl 1004 (n3) (n3))) ∧
 (Qf ∧
 (Qf ∧
 (Qf ∧
 ((Qv (Value.pointer (some (Addr.mk 1004 (Addr.off { block := 1004, off := 0 + Int.toNat x4 * 4 } + 2) none)))) ∧
 ((bcase (decide (0 ≤ x4))
 (bcase (decide (x4 < (↑n3 : Int)))
 (Qv (Pt 1004 (0 + Int.toNat x4 * 4)))
 False)
 False) ∧
 ((Qv (vI x4)) ∧
 ((Qv (Sl 1004 (n3) (n3))) ∧
 (Qf ∧
 (Qf ∧
 ((Qv (Pt 1004 (0 + Int.toNat x4 * 4))) ∧
 ((bcase (decide (0 ≤ x4))
 (bcase (decide (x4 < (↑n3 : Int)))
 (Qv (Pt 1004 (0 + Int.toNat x4 * 4)))
 False)
 False) ∧
 ((Qv (vI x4)) ∧
 ((Qv (Sl 1004 (n3) (n3))) ∧
 (Qf ∧
 (Qf ∧
 ((Qv (Pt 1004 (0 + Int.toNat x4 * 4))) ∧
 ((bcase (decide (0 ≤ x4))
 (bcase (decide (x4 < (↑n3 : Int)))
 (Qv (Pt 1004 (0 + Int.toNat x4 * 4)))
 False)
 False) ∧
 ((Qv (vI x4)) ∧
 ((Qv (Sl 1004 (n3) (n3))) ∧
 (Qf ∧
 (Qf ∧
 ((bcase (decide (0 ≤ x4))
 (bcase (decide (x4 < (↑n1 : Int)))
 (Qv (Pt 1003 (0 + Int.toNat x4 * 2)))
 False)
 False) ∧
 ((Qv (vI x4)) ∧
 ((Qv (Sl 1003 (n1) (n1))) ∧
 (Qf ∧
 ((bcase (decide (0 ≤ x4))
 (bcase (decide (x4 < (↑n1 : Int)))
 (Qv (Pt 1003 (0 + Int.toNat x4 * 2)))
 False)
 False) ∧
 ((Qv (vI x4)) ∧
 ((Qv (Sl 1003 (n1) (n1))) ∧
 True))))))))))))))))))))))))))))))))) ∧
 (((Says C 32 [(D.agg [(dI n14), (dI n15)])] kT) ∧
 (bcase (decide (0 ≤ x4))
 (bcase (decide (x4 < (↑n1 : Int)))
 (∃ n16 : Int,
 (∃ n17 : Int,
 ((At (l25) (0 + Int.toNat x4 * 2) 2 [(vI n16), (vI n17)]) ∧
 (bcase (decide (0 ≤ x4))
 (bcase (decide (x4 < (↑n3 : Int)))
 (∃ n19 : Int,
 (∃ n20 : Int,
 ((At (l26) (0 + Int.toNat x4 * 4) 2 [(vI n19), (vI n20)]) ∧
 (((∃ n21 : Int,
 (∃ n22 : Int,
 ((At (l26) (0 + Int.toNat x4 * 4) 2 [(vI n21), (vI n22)]) ∧
 ((Value.agg [(vI n21), (vI n22)].toArray) = (Value.agg [(vI n19), (vI n20)].toArray))))) ∧
 ((Qv (Pt 1004 (0 + Int.toNat x4 * 4))) ∧
 ((bcase (decide (0 ≤ x4))
 (bcase (decide (x4 < (↑n3 : Int)))
 (Qv (Pt 1004 (0 + Int.toNat x4 * 4)))
 False)
 False) ∧
 ((Qv (vI x4)) ∧
 ((Qv (Sl 1004 (n3) (n3))) ∧
 ((∃ n21 : Int,
 (∃ n22 : Int,
 ((At (l25) (0 + Int.toNat x4 * 2) 2 [(vI n21), (vI n22)]) ∧
 ((Value.agg [(vI n21), (vI n22)].toArray) = (Value.agg [(vI n16), (vI n17)].toArray))))) ∧
 ((bcase (decide (0 ≤ x4))
 (bcase (decide (x4 < (↑n1 : Int)))
 (Qv (Pt 1003 (0 + Int.toNat x4 * 2)))
 False)
 False) ∧
 ((Qv (vI x4)) ∧
 ((Qv (Sl 1003 (n1) (n1))) ∧
 (Qf ∧
 (Qf ∧
 (Qf ∧
 ((Qv (Value.pointer (some (Addr.mk 1004 (Addr.off { block := 1004, off := 0 + Int.toNat x4 * 4 } + 2) none)))) ∧
 ((bcase (decide (0 ≤ x4))
 (bcase (decide (x4 < (↑n3 : Int)))
 (Qv (Pt 1004 (0 + Int.toNat x4 * 4)))
 False)
 False) ∧
 ((Qv (vI x4)) ∧
 ((Qv (Sl 1004 (n3) (n3))) ∧
 (Qf ∧
 (Qf ∧
 ((Qv (Value.pointer (some (Addr.mk 1004 (Addr.off { block := 1004, off := 0 + Int.toNat x4 * 4 } + 2) none)))) ∧
 ((bcase (decide (0 ≤ x4))
 (bcase (decide (x4 < (↑n3 : Int)))
 (Qv (Pt 1004 (0 + Int.toNat x4 * 4)))
 False)
 False) ∧
 ((Qv (vI x4)) ∧
 ((Qv (Sl 1004 (n3) (n3))) ∧
 (Qf ∧
 (Qf ∧
 ((Qv (Pt 1004 (0 + Int.toNat x4 * 4))) ∧
 ((bcase (decide (0 ≤ x4))
 (bcase (decide (x4 < (↑n3 : Int)))
 (Qv (Pt 1004 (0 + Int.toNat x4 * 4)))
 False)
 False) ∧
 ((Qv (vI x4)) ∧
 ((Qv (Sl 1004 (n3) (n3))) ∧
 (Qf ∧
 (Qf ∧
 ((Qv (Pt 1004 (0 + Int.toNat x4 * 4))) ∧
 ((bcase (decide (0 ≤ x4))
 (bcase (decide (x4 < (↑n3 : Int)))
 (Qv (Pt 1004 (0 + Int.toNat x4 * 4)))
 False)
 False) ∧
 ((Qv (vI x4)) ∧
 ((Qv (Sl 1004 (n3) (n3))) ∧
 (Qf ∧
 (Qf ∧
 ((bcase (decide (0 ≤ x4))
 (bcase (decide (x4 < (↑n1 : Int)))
 (Qv (Pt 1003 (0 + Int.toNat x4 * 2)))
 False)
 False) ∧
 ((Qv (vI x4)) ∧
 ((Qv (Sl 1003 (n1) (n1))) ∧
 (Qf ∧
 ((bcase (decide (0 ≤ x4))
 (bcase (decide (x4 < (↑n1 : Int)))
 (Qv (Pt 1003 (0 + Int.toNat x4 * 2)))
 False)
 False) ∧
 ((Qv (vI x4)) ∧
 ((Qv (Sl 1003 (n1) (n1))) ∧
 True))))))))))))))))))))))))))))))))))))))))))) ∧
 (∃ n21 : Int,
 ((Says C 33 [(D.agg [(dI n16), (dI n17)]), (D.agg [(dI n19), (dI n20)])] [(dI n21)]) ∧
 (bcase (decide (n21 < 0))
 ((Qu ∧
 (Qu ∧
 (Qu ∧
 (Qu ∧
 (Qu ∧
 (Qu ∧
 (Qu ∧
 (Qu ∧
 (Qu ∧
 (Qb ∧
 (Qb ∧
 ((bcase (decide (n21 < 0))
 Qb
 Qft) ∧
 ((Qv (Pt 1004 (0 + Int.toNat x4 * 4))) ∧
 ((bcase (decide (0 ≤ x4))
 (bcase (decide (x4 < (↑n3 : Int)))
 (Qv (Pt 1004 (0 + Int.toNat x4 * 4)))
 False)
 False) ∧
 ((Qv (vI x4)) ∧
 ((Qv (Sl 1004 (n3) (n3))) ∧
 ((bcase (decide (0 ≤ x4))
 (bcase (decide (x4 < (↑n1 : Int)))
 (Qv (Pt 1003 (0 + Int.toNat x4 * 2)))
 False)
 False) ∧
 ((Qv (vI x4)) ∧
 ((Qv (Sl 1003 (n1) (n1))) ∧
 (Qf ∧
 (Qf ∧
 ((Qv (Value.pointer (some (Addr.mk 1004 (Addr.off { block := 1004, off := 0 + Int.toNat x4 * 4 } + 2) none)))) ∧
 ((bcase (decide (0 ≤ x4))
 (bcase (decide (x4 < (↑n3 : Int)))
 (Qv (Pt 1004 (0 + Int.toNat x4 * 4)))
 False)
 False) ∧
 ((Qv (vI x4)) ∧
 ((Qv (Sl 1004 (n3) (n3))) ∧
 (Qf ∧
 (Qf ∧
 ((Qv (Value.pointer (some (Addr.mk 1004 (Addr.off { block := 1004, off := 0 + Int.toNat x4 * 4 } + 2) none)))) ∧
 ((bcase (decide (0 ≤ x4))
 (bcase (decide (x4 < (↑n3 : Int)))
 (Qv (Pt 1004 (0 + Int.toNat x4 * 4)))
 False)
 False) ∧
 ((Qv (vI x4)) ∧
 ((Qv (Sl 1004 (n3) (n3))) ∧
 (Qf ∧
 (Qf ∧
 ((Qv (Pt 1004 (0 + Int.toNat x4 * 4))) ∧
 ((bcase (decide (0 ≤ x4))
 (bcase (decide (x4 < (↑n3 : Int)))
 (Qv (Pt 1004 (0 + Int.toNat x4 * 4)))
 False)
 False) ∧
 ((Qv (vI x4)) ∧
 ((Qv (Sl 1004 (n3) (n3))) ∧
 (Qf ∧
 (Qf ∧
 ((Qv (Pt 1004 (0 + Int.toNat x4 * 4))) ∧
 ((bcase (decide (0 ≤ x4))
 (bcase (decide (x4 < (↑n3 : Int)))
 (Qv (Pt 1004 (0 + Int.toNat x4 * 4)))
 False)
 False) ∧
 ((Qv (vI x4)) ∧
 ((Qv (Sl 1004 (n3) (n3))) ∧
 (Qf ∧
 (Qf ∧
 ((bcase (decide (0 ≤ x4))
 (bcase (decide (x4 < (↑n1 : Int)))
 (Qv (Pt 1003 (0 + Int.toNat x4 * 2)))
 False)
 False) ∧
 ((Qv (vI x4)) ∧
 ((Qv (Sl 1003 (n1) (n1))) ∧
 (Qf ∧
 ((bcase (decide (0 ≤ x4))
 (bcase (decide (x4 < (↑n1 : Int)))
 (Qv (Pt 1003 (0 + Int.toNat x4 * 2)))
 False)
 False) ∧
 ((Qv (vI x4)) ∧
 ((Qv (Sl 1003 (n1) (n1))) ∧
 True)))))))))))))))))))))))))))))))))))))))))))))))))))) ∧
 ((Qb ∧
 (Qu ∧
 (Qu ∧
 (Qu ∧
 (Qu ∧
 (Qu ∧
 (Qu ∧
 (Qu ∧
 (Qu ∧
 (Qb ∧
 ((bcase (decide (n21 < 0))
 Qb
 Qft) ∧
 ((Qv (Pt 1004 (0 + Int.toNat x4 * 4))) ∧
 ((bcase (decide (0 ≤ x4))
 (bcase (decide (x4 < (↑n3 : Int)))
 (Qv (Pt 1004 (0 + Int.toNat x4 * 4)))
 False)
 False) ∧
 ((Qv (vI x4)) ∧
 ((Qv (Sl 1004 (n3) (n3))) ∧
 ((bcase (decide (0 ≤ x4))
 (bcase (decide (x4 < (↑n1 : Int)))
 (Qv (Pt 1003 (0 + Int.toNat x4 * 2)))
 False)
 False) ∧
 ((Qv (vI x4)) ∧
 ((Qv (Sl 1003 (n1) (n1))) ∧
 (Qf ∧
 (Qf ∧
 ((Qv (Value.pointer (some (Addr.mk 1004 (Addr.off { block := 1004, off := 0 + Int.toNat x4 * 4 } + 2) none)))) ∧
 ((bcase (decide (0 ≤ x4))
 (bcase (decide (x4 < (↑n3 : Int)))
 (Qv (Pt 1004 (0 + Int.toNat x4 * 4)))
 False)
 False) ∧
 ((Qv (vI x4)) ∧
 ((Qv (Sl 1004 (n3) (n3))) ∧
 (Qf ∧
 (Qf ∧
 ((Qv (Value.pointer (some (Addr.mk 1004 (Addr.off { block := 1004, off := 0 + Int.toNat x4 * 4 } + 2) none)))) ∧
 ((bcase (decide (0 ≤ x4))
 (bcase (decide (x4 < (↑n3 : Int)))
 (Qv (Pt 1004 (0 + Int.toNat x4 * 4)))
 False)
 False) ∧
 ((Qv (vI x4)) ∧
 ((Qv (Sl 1004 (n3) (n3))) ∧
 (Qf ∧
 (Qf ∧
 ((Qv (Pt 1004 (0 + Int.toNat x4 * 4))) ∧
 ((bcase (decide (0 ≤ x4))
 (bcase (decide (x4 < (↑n3 : Int)))
 (Qv (Pt 1004 (0 + Int.toNat x4 * 4)))
 False)
 False) ∧
 ((Qv (vI x4)) ∧
 ((Qv (Sl 1004 (n3) (n3))) ∧
 (Qf ∧
 (Qf ∧
 ((Qv (Pt 1004 (0 + Int.toNat x4 * 4))) ∧
 ((bcase (decide (0 ≤ x4))
 (bcase (decide (x4 < (↑n3 : Int)))
 (Qv (Pt 1004 (0 + Int.toNat x4 * 4)))
 False)
 False) ∧
 ((Qv (vI x4)) ∧
 ((Qv (Sl 1004 (n3) (n3))) ∧
 (Qf ∧
 (Qf ∧
 ((bcase (decide (0 ≤ x4))
 (bcase (decide (x4 < (↑n1 : Int)))
 (Qv (Pt 1003 (0 + Int.toNat x4 * 2)))
 False)
 False) ∧
 ((Qv (vI x4)) ∧
 ((Qv (Sl 1003 (n1) (n1))) ∧
 (Qf ∧
 ((bcase (decide (0 ≤ x4))
 (bcase (decide (x4 < (↑n1 : Int)))
 (Qv (Pt 1003 (0 + Int.toNat x4 * 2)))
 False)
 False) ∧
 ((Qv (vI x4)) ∧
 ((Qv (Sl 1003 (n1) (n1))) ∧
 True))))))))))))))))))))))))))))))))))))))))))))))))))) ∧
 (k kF)))
 (bcase (decide (0 ≤ x4))
 (bcase (decide (x4 < (↑n1 : Int)))
 (∃ n22 : Int,
 (∃ n24 : Int,
 ((At (l25) (0 + Int.toNat x4 * 2) 2 [(vI n22), (vI n24)]) ∧
 (bcase (decide (0 ≤ x4))
 (bcase (decide (x4 < (↑n3 : Int)))
 (∃ n25 : Int,
 (∃ n26 : Int,
 ((At (l26) (Addr.off { block := 1004, off := 0 + Int.toNat x4 * 4 } + 2) 2 [(vI n25), (vI n26)]) ∧
 (((∃ n27 : Int,
 (∃ n28 : Int,
 ((At (l26) (Addr.off { block := 1004, off := 0 + Int.toNat x4 * 4 } + 2) 2 [(vI n27), (vI n28)]) ∧
 ((Value.agg [(vI n27), (vI n28)].toArray) = (Value.agg [(vI n25), (vI n26)].toArray))))) ∧
 ((Qv (Value.pointer (some (Addr.mk 1004 (Addr.off { block := 1004, off := 0 + Int.toNat x4 * 4 } + 2) none)))) ∧
 ((bcase (decide (0 ≤ x4))
 (bcase (decide (x4 < (↑n3 : Int)))
 (Qv (Pt 1004 (0 + Int.toNat x4 * 4)))
 False)
 False) ∧
 ((Qv (vI x4)) ∧
 ((Qv (Sl 1004 (n3) (n3))) ∧
 ((∃ n27 : Int,
 (∃ n28 : Int,
 ((At (l25) (0 + Int.toNat x4 * 2) 2 [(vI n27), (vI n28)]) ∧
 ((Value.agg [(vI n27), (vI n28)].toArray) = (Value.agg [(vI n22), (vI n24)].toArray))))) ∧
 ((bcase (decide (0 ≤ x4))
 (bcase (decide (x4 < (↑n1 : Int)))
 (Qv (Pt 1003 (0 + Int.toNat x4 * 2)))
 False)
 False) ∧
 ((Qv (vI x4)) ∧
 ((Qv (Sl 1003 (n1) (n1))) ∧
 (Qf ∧
 (Qf ∧
 ((bcase (decide (n21 < 0))
 Qtf
 Qf) ∧
 ((Qv (Pt 1004 (0 + Int.toNat x4 * 4))) ∧
 ((bcase (decide (0 ≤ x4))
 (bcase (decide (x4 < (↑n3 : Int)))
 (Qv (Pt 1004 (0 + Int.toNat x4 * 4)))
 False)
 False) ∧
 ((Qv (vI x4)) ∧
 ((Qv (Sl 1004 (n3) (n3))) ∧
 ((bcase (decide (0 ≤ x4))
 (bcase (decide (x4 < (↑n1 : Int)))
 (Qv (Pt 1003 (0 + Int.toNat x4 * 2)))
 False)
 False) ∧
 ((Qv (vI x4)) ∧
 ((Qv (Sl 1003 (n1) (n1))) ∧
 (Qf ∧
 (Qf ∧
 ((Qv (Value.pointer (some (Addr.mk 1004 (Addr.off { block := 1004, off := 0 + Int.toNat x4 * 4 } + 2) none)))) ∧
 ((bcase (decide (0 ≤ x4))
 (bcase (decide (x4 < (↑n3 : Int)))
 (Qv (Pt 1004 (0 + Int.toNat x4 * 4)))
 False)
 False) ∧
 ((Qv (vI x4)) ∧
 ((Qv (Sl 1004 (n3) (n3))) ∧
 (Qf ∧
 (Qf ∧
 ((Qv (Value.pointer (some (Addr.mk 1004 (Addr.off { block := 1004, off := 0 + Int.toNat x4 * 4 } + 2) none)))) ∧
 ((bcase (decide (0 ≤ x4))
 (bcase (decide (x4 < (↑n3 : Int)))
 (Qv (Pt 1004 (0 + Int.toNat x4 * 4)))
 False)
 False) ∧
 ((Qv (vI x4)) ∧
 ((Qv (Sl 1004 (n3) (n3))) ∧
 (Qf ∧
 (Qf ∧
 ((Qv (Pt 1004 (0 + Int.toNat x4 * 4))) ∧
 ((bcase (decide (0 ≤ x4))
 (bcase (decide (x4 < (↑n3 : Int)))
 (Qv (Pt 1004 (0 + Int.toNat x4 * 4)))
 False)
 False) ∧
 ((Qv (vI x4)) ∧
 ((Qv (Sl 1004 (n3) (n3))) ∧
 (Qf ∧
 (Qf ∧
 ((Qv (Pt 1004 (0 + Int.toNat x4 * 4))) ∧
 ((bcase (decide (0 ≤ x4))
 (bcase (decide (x4 < (↑n3 : Int)))
 (Qv (Pt 1004 (0 + Int.toNat x4 * 4)))
 False)
 False) ∧
 ((Qv (vI x4)) ∧
 ((Qv (Sl 1004 (n3) (n3))) ∧
 (Qf ∧
 (Qf ∧
 ((bcase (decide (0 ≤ x4))
 (bcase (decide (x4 < (↑n1 : Int)))
 (Qv (Pt 1003 (0 + Int.toNat x4 * 2)))
 False)
 False) ∧
 ((Qv (vI x4)) ∧
 ((Qv (Sl 1003 (n1) (n1))) ∧
 (Qf ∧
 ((bcase (decide (0 ≤ x4))
 (bcase (decide (x4 < (↑n1 : Int)))
 (Qv (Pt 1003 (0 + Int.toNat x4 * 2)))
 False)
 False) ∧
 ((Qv (vI x4)) ∧
 ((Qv (Sl 1003 (n1) (n1))) ∧
 True)))))))))))))))))))))))))))))))))))))))))))))))))))) ∧
 (∃ n27 : Int,
 ((Says C 33 [(D.agg [(dI n22), (dI n24)]), (D.agg [(dI n25), (dI n26)])] [(dI n27)]) ∧
 (bcase (decide (n27 > 0))
 ((Qb ∧
 ((bcase (decide (n27 > 0))
 Qb
 Qft) ∧
 ((Qv (Value.pointer (some (Addr.mk 1004 (Addr.off { block := 1004, off := 0 + Int.toNat x4 * 4 } + 2) none)))) ∧
 ((bcase (decide (0 ≤ x4))
 (bcase (decide (x4 < (↑n3 : Int)))
 (Qv (Pt 1004 (0 + Int.toNat x4 * 4)))
 False)
 False) ∧
 ((Qv (vI x4)) ∧
 ((Qv (Sl 1004 (n3) (n3))) ∧
 ((bcase (decide (0 ≤ x4))
 (bcase (decide (x4 < (↑n1 : Int)))
 (Qv (Pt 1003 (0 + Int.toNat x4 * 2)))
 False)
 False) ∧
 ((Qv (vI x4)) ∧
 ((Qv (Sl 1003 (n1) (n1))) ∧
 (Qf ∧
 ((bcase (decide (n21 < 0))
 Qtf
 Qf) ∧
 ((Qv (Pt 1004 (0 + Int.toNat x4 * 4))) ∧
 ((bcase (decide (0 ≤ x4))
 (bcase (decide (x4 < (↑n3 : Int)))
 (Qv (Pt 1004 (0 + Int.toNat x4 * 4)))
 False)
 False) ∧
 ((Qv (vI x4)) ∧
 ((Qv (Sl 1004 (n3) (n3))) ∧
 ((bcase (decide (0 ≤ x4))
 (bcase (decide (x4 < (↑n1 : Int)))
 (Qv (Pt 1003 (0 + Int.toNat x4 * 2)))
 False)
 False) ∧
 ((Qv (vI x4)) ∧
 ((Qv (Sl 1003 (n1) (n1))) ∧
 (Qf ∧
 (Qf ∧
 ((Qv (Value.pointer (some (Addr.mk 1004 (Addr.off { block := 1004, off := 0 + Int.toNat x4 * 4 } + 2) none)))) ∧
 ((bcase (decide (0 ≤ x4))
 (bcase (decide (x4 < (↑n3 : Int)))
 (Qv (Pt 1004 (0 + Int.toNat x4 * 4)))
 False)
 False) ∧
 ((Qv (vI x4)) ∧
 ((Qv (Sl 1004 (n3) (n3))) ∧
 (Qf ∧
 (Qf ∧
 ((Qv (Value.pointer (some (Addr.mk 1004 (Addr.off { block := 1004, off := 0 + Int.toNat x4 * 4 } + 2) none)))) ∧
 ((bcase (decide (0 ≤ x4))
 (bcase (decide (x4 < (↑n3 : Int)))
 (Qv (Pt 1004 (0 + Int.toNat x4 * 4)))
 False)
 False) ∧
 ((Qv (vI x4)) ∧
 ((Qv (Sl 1004 (n3) (n3))) ∧
 (Qf ∧
 (Qf ∧
 ((Qv (Pt 1004 (0 + Int.toNat x4 * 4))) ∧
 ((bcase (decide (0 ≤ x4))
 (bcase (decide (x4 < (↑n3 : Int)))
 (Qv (Pt 1004 (0 + Int.toNat x4 * 4)))
 False)
 False) ∧
 ((Qv (vI x4)) ∧
 ((Qv (Sl 1004 (n3) (n3))) ∧
 (Qf ∧
 (Qf ∧
 ((Qv (Pt 1004 (0 + Int.toNat x4 * 4))) ∧
 ((bcase (decide (0 ≤ x4))
 (bcase (decide (x4 < (↑n3 : Int)))
 (Qv (Pt 1004 (0 + Int.toNat x4 * 4)))
 False)
 False) ∧
 ((Qv (vI x4)) ∧
 ((Qv (Sl 1004 (n3) (n3))) ∧
 (Qf ∧
 (Qf ∧
 ((bcase (decide (0 ≤ x4))
 (bcase (decide (x4 < (↑n1 : Int)))
 (Qv (Pt 1003 (0 + Int.toNat x4 * 2)))
 False)
 False) ∧
 ((Qv (vI x4)) ∧
 ((Qv (Sl 1003 (n1) (n1))) ∧
 (Qf ∧
 ((bcase (decide (0 ≤ x4))
 (bcase (decide (x4 < (↑n1 : Int)))
 (Qv (Pt 1003 (0 + Int.toNat x4 * 2)))
 False)
 False) ∧
 ((Qv (vI x4)) ∧
 ((Qv (Sl 1003 (n1) (n1))) ∧
 True))))))))))))))))))))))))))))))))))))))))))))))))))) ∧
 (k kF))
 ((Qf ∧
 ((bcase (decide (n27 > 0))
 Qtf
 Qf) ∧
 ((Qv (Value.pointer (some (Addr.mk 1004 (Addr.off { block := 1004, off := 0 + Int.toNat x4 * 4 } + 2) none)))) ∧
 ((bcase (decide (0 ≤ x4))
 (bcase (decide (x4 < (↑n3 : Int)))
 (Qv (Pt 1004 (0 + Int.toNat x4 * 4)))
 False)
 False) ∧
 ((Qv (vI x4)) ∧
 ((Qv (Sl 1004 (n3) (n3))) ∧
 ((bcase (decide (0 ≤ x4))
 (bcase (decide (x4 < (↑n1 : Int)))
 (Qv (Pt 1003 (0 + Int.toNat x4 * 2)))
 False)
 False) ∧
 ((Qv (vI x4)) ∧
 ((Qv (Sl 1003 (n1) (n1))) ∧
 (Qf ∧
 ((bcase (decide (n21 < 0))
 Qtf
 Qf) ∧
 ((Qv (Pt 1004 (0 + Int.toNat x4 * 4))) ∧
 ((bcase (decide (0 ≤ x4))
 (bcase (decide (x4 < (↑n3 : Int)))
 (Qv (Pt 1004 (0 + Int.toNat x4 * 4)))
 False)
 False) ∧
 ((Qv (vI x4)) ∧
 ((Qv (Sl 1004 (n3) (n3))) ∧
 ((bcase (decide (0 ≤ x4))
 (bcase (decide (x4 < (↑n1 : Int)))
 (Qv (Pt 1003 (0 + Int.toNat x4 * 2)))
 False)
 False) ∧
 ((Qv (vI x4)) ∧
 ((Qv (Sl 1003 (n1) (n1))) ∧
 (Qf ∧
 (Qf ∧
 ((Qv (Value.pointer (some (Addr.mk 1004 (Addr.off { block := 1004, off := 0 + Int.toNat x4 * 4 } + 2) none)))) ∧
 ((bcase (decide (0 ≤ x4))
 (bcase (decide (x4 < (↑n3 : Int)))
 (Qv (Pt 1004 (0 + Int.toNat x4 * 4)))
 False)
 False) ∧
 ((Qv (vI x4)) ∧
 ((Qv (Sl 1004 (n3) (n3))) ∧
 (Qf ∧
 (Qf ∧
 ((Qv (Value.pointer (some (Addr.mk 1004 (Addr.off { block := 1004, off := 0 + Int.toNat x4 * 4 } + 2) none)))) ∧
 ((bcase (decide (0 ≤ x4))
 (bcase (decide (x4 < (↑n3 : Int)))
 (Qv (Pt 1004 (0 + Int.toNat x4 * 4)))
 False)
 False) ∧
 ((Qv (vI x4)) ∧
 ((Qv (Sl 1004 (n3) (n3))) ∧
 (Qf ∧
 (Qf ∧
 ((Qv (Pt 1004 (0 + Int.toNat x4 * 4))) ∧
 ((bcase (decide (0 ≤ x4))
 (bcase (decide (x4 < (↑n3 : Int)))
 (Qv (Pt 1004 (0 + Int.toNat x4 * 4)))
 False)
 False) ∧
 ((Qv (vI x4)) ∧
 ((Qv (Sl 1004 (n3) (n3))) ∧
 (Qf ∧
 (Qf ∧
 ((Qv (Pt 1004 (0 + Int.toNat x4 * 4))) ∧
 ((bcase (decide (0 ≤ x4))
 (bcase (decide (x4 < (↑n3 : Int)))
 (Qv (Pt 1004 (0 + Int.toNat x4 * 4)))
 False)
 False) ∧
 ((Qv (vI x4)) ∧
 ((Qv (Sl 1004 (n3) (n3))) ∧
 (Qf ∧
 (Qf ∧
 ((bcase (decide (0 ≤ x4))
 (bcase (decide (x4 < (↑n1 : Int)))
 (Qv (Pt 1003 (0 + Int.toNat x4 * 2)))
 False)
 False) ∧
 ((Qv (vI x4)) ∧
 ((Qv (Sl 1003 (n1) (n1))) ∧
 (Qf ∧
 ((bcase (decide (0 ≤ x4))
 (bcase (decide (x4 < (↑n1 : Int)))
 (Qv (Pt 1003 (0 + Int.toNat x4 * 2)))
 False)
 False) ∧
 ((Qv (vI x4)) ∧
 ((Qv (Sl 1003 (n1) (n1))) ∧
 True))))))))))))))))))))))))))))))))))))))))))))))))))) ∧
 (B [(Prod.mk 3 (Pt 1000 0)), (Prod.mk 4 (Pt 1001 0)), (Prod.mk 5 (Pt 1002 0)), (Prod.mk 7 (vI x0)), (Prod.mk 9 (Sl 1003 (n1) (n1))), (Prod.mk 10 (Value.bool (b2))), (Prod.mk 12 (Sl 1004 (n3) (n3))), (Prod.mk 14 (vI (IntKind.wrap .i64 (x4 + 1))))] [(Prod.mk 1000 (AObj.cells [(vI x5), (vI x6), (vI x7), (vI x8), (vI x9), (vI x10), (Sl 500 (n11) (c12)), (vI x13), (vI x14), (vI x15), (vI x16)] 26 false 1)), (Prod.mk 1001 (AObj.cells [(Value.string (s17)), (Sl 501 (n18) (c19))] 29 false 1)), (Prod.mk 1002 (AObj.cells [(vI x20), (vI x21), (vI x22), (Sl 502 (n23) (c24))] 51 false 1)), (Prod.mk 1003 (AObj.sym (l25) true 2)), (Prod.mk 1004 (AObj.sym (l26) true 4)), (Prod.mk 500 (AObj.sym (l27) false 5)), (Prod.mk 501 (AObj.sym (l28) false 1)), (Prod.mk 502 (AObj.sym (l29) false 1))])))))))))
 False)
 False))))
 False)
 False))))))))
 False)
 False))))
 False)
 False)) ∨
 ((Says C 32 [(D.agg [(dI n14), (dI n15)])] kF) ∧
 ((Qu ∧
 (Qu ∧
 (Qu ∧
 (Qu ∧
 (Qu ∧
 (Qu ∧
 (Qu ∧
 (Qu ∧
 (Qu ∧
 (Qb ∧
 (Qb ∧
 (Qb ∧
 ((Qv (Value.pointer (some (Addr.mk 1004 (Addr.off { block := 1004, off := 0 + Int.toNat x4 * 4 } + 2) none)))) ∧
 ((bcase (decide (0 ≤ x4))
 (bcase (decide (x4 < (↑n3 : Int)))
 (Qv (Pt 1004 (0 + Int.toNat x4 * 4)))
 False)
 False) ∧
 ((Qv (vI x4)) ∧
 ((Qv (Sl 1004 (n3) (n3))) ∧
 (Qf ∧
 (Qf ∧
 ((Qv (Value.pointer (some (Addr.mk 1004 (Addr.off { block := 1004, off := 0 + Int.toNat x4 * 4 } + 2) none)))) ∧
 ((bcase (decide (0 ≤ x4))
 (bcase (decide (x4 < (↑n3 : Int)))
 (Qv (Pt 1004 (0 + Int.toNat x4 * 4)))
 False)
 False) ∧
 ((Qv (vI x4)) ∧
 ((Qv (Sl 1004 (n3) (n3))) ∧
 (Qf ∧
 (Qf ∧
 ((Qv (Pt 1004 (0 + Int.toNat x4 * 4))) ∧
 ((bcase (decide (0 ≤ x4))
 (bcase (decide (x4 < (↑n3 : Int)))
 (Qv (Pt 1004 (0 + Int.toNat x4 * 4)))
 False)
 False) ∧
 ((Qv (vI x4)) ∧
 ((Qv (Sl 1004 (n3) (n3))) ∧
 (Qf ∧
 (Qf ∧
 ((Qv (Pt 1004 (0 + Int.toNat x4 * 4))) ∧
 ((bcase (decide (0 ≤ x4))
 (bcase (decide (x4 < (↑n3 : Int)))
 (Qv (Pt 1004 (0 + Int.toNat x4 * 4)))
 False)
 False) ∧
 ((Qv (vI x4)) ∧
 ((Qv (Sl 1004 (n3) (n3))) ∧
 (Qf ∧
 (Qf ∧
 ((bcase (decide (0 ≤ x4))
 (bcase (decide (x4 < (↑n1 : Int)))
 (Qv (Pt 1003 (0 + Int.toNat x4 * 2)))
 False)
 False) ∧
 ((Qv (vI x4)) ∧
 ((Qv (Sl 1003 (n1) (n1))) ∧
 (Qf ∧
 ((bcase (decide (0 ≤ x4))
 (bcase (decide (x4 < (↑n1 : Int)))
 (Qv (Pt 1003 (0 + Int.toNat x4 * 2)))
 False)
 False) ∧
 ((Qv (vI x4)) ∧
 ((Qv (Sl 1003 (n1) (n1))) ∧
 True))))))))))))))))))))))))))))))))))))))))))) ∧
 ((Qu ∧
 (Qu ∧
 (Qu ∧
 (Qu ∧
 (Qu ∧
 (Qu ∧
 (Qu ∧
 (Qu ∧
 (Qu ∧
 (Qb ∧
 (Qb ∧
 (Qu ∧
 (Qu ∧
 (Qu ∧
 (Qu ∧
 (Qu ∧
 (Qu ∧
 (Qu ∧
 (Qu ∧
 (Qb ∧
 (Qb ∧
 ((Qv (Value.pointer (some (Addr.mk 1004 (Addr.off { block := 1004, off := 0 + Int.toNat x4 * 4 } + 2) none)))) ∧
 ((bcase (decide (0 ≤ x4))
 (bcase (decide (x4 < (↑n3 : Int)))
 (Qv (Pt 1004 (0 + Int.toNat x4 * 4)))
 False)
 False) ∧
 ((Qv (vI x4)) ∧
 ((Qv (Sl 1004 (n3) (n3))) ∧
 (Qf ∧
 (Qf ∧
 ((Qv (Value.pointer (some (Addr.mk 1004 (Addr.off { block := 1004, off := 0 + Int.toNat x4 * 4 } + 2) none)))) ∧
 ((bcase (decide (0 ≤ x4))
 (bcase (decide (x4 < (↑n3 : Int)))
 (Qv (Pt 1004 (0 + Int.toNat x4 * 4)))
 False)
 False) ∧
 ((Qv (vI x4)) ∧
 ((Qv (Sl 1004 (n3) (n3))) ∧
 (Qf ∧
 (Qf ∧
 ((Qv (Pt 1004 (0 + Int.toNat x4 * 4))) ∧
 ((bcase (decide (0 ≤ x4))
 (bcase (decide (x4 < (↑n3 : Int)))
 (Qv (Pt 1004 (0 + Int.toNat x4 * 4)))
 False)
 False) ∧
 ((Qv (vI x4)) ∧
 ((Qv (Sl 1004 (n3) (n3))) ∧
 (Qf ∧
 (Qf ∧
 ((Qv (Pt 1004 (0 + Int.toNat x4 * 4))) ∧
 ((bcase (decide (0 ≤ x4))
 (bcase (decide (x4 < (↑n3 : Int)))
 (Qv (Pt 1004 (0 + Int.toNat x4 * 4)))
 False)
 False) ∧
 ((Qv (vI x4)) ∧
 ((Qv (Sl 1004 (n3) (n3))) ∧
 (Qf ∧
 (Qf ∧
 ((bcase (decide (0 ≤ x4))
 (bcase (decide (x4 < (↑n1 : Int)))
 (Qv (Pt 1003 (0 + Int.toNat x4 * 2)))
 False)
 False) ∧
 ((Qv (vI x4)) ∧
 ((Qv (Sl 1003 (n1) (n1))) ∧
 (Qf ∧
 ((bcase (decide (0 ≤ x4))
 (bcase (decide (x4 < (↑n1 : Int)))
 (Qv (Pt 1003 (0 + Int.toNat x4 * 2)))
 False)
 False) ∧
 ((Qv (vI x4)) ∧
 ((Qv (Sl 1003 (n1) (n1))) ∧
 True)))))))))))))))))))))))))))))))))))))))))))))))))))) ∧
 ((Qb ∧
 (Qu ∧
 (Qu ∧
 (Qu ∧
 (Qu ∧
 (Qu ∧
 (Qu ∧
 (Qu ∧
 (Qu ∧
 (Qb ∧
 (Qu ∧
 (Qu ∧
 (Qu ∧
 (Qu ∧
 (Qu ∧
 (Qu ∧
 (Qu ∧
 (Qu ∧
 (Qb ∧
 (Qb ∧
 ((Qv (Value.pointer (some (Addr.mk 1004 (Addr.off { block := 1004, off := 0 + Int.toNat x4 * 4 } + 2) none)))) ∧
 ((bcase (decide (0 ≤ x4))
 (bcase (decide (x4 < (↑n3 : Int)))
 (Qv (Pt 1004 (0 + Int.toNat x4 * 4)))
 False)
 False) ∧
 ((Qv (vI x4)) ∧
 ((Qv (Sl 1004 (n3) (n3))) ∧
 (Qf ∧
 (Qf ∧
 ((Qv (Value.pointer (some (Addr.mk 1004 (Addr.off { block := 1004, off := 0 + Int.toNat x4 * 4 } + 2) none)))) ∧
 ((bcase (decide (0 ≤ x4))
 (bcase (decide (x4 < (↑n3 : Int)))
 (Qv (Pt 1004 (0 + Int.toNat x4 * 4)))
 False)
 False) ∧
 ((Qv (vI x4)) ∧
 ((Qv (Sl 1004 (n3) (n3))) ∧
 (Qf ∧
 (Qf ∧
 ((Qv (Pt 1004 (0 + Int.toNat x4 * 4))) ∧
 ((bcase (decide (0 ≤ x4))
 (bcase (decide (x4 < (↑n3 : Int)))
 (Qv (Pt 1004 (0 + Int.toNat x4 * 4)))
 False)
 False) ∧
 ((Qv (vI x4)) ∧
 ((Qv (Sl 1004 (n3) (n3))) ∧
 (Qf ∧
 (Qf ∧
 ((Qv (Pt 1004 (0 + Int.toNat x4 * 4))) ∧
 ((bcase (decide (0 ≤ x4))
 (bcase (decide (x4 < (↑n3 : Int)))
 (Qv (Pt 1004 (0 + Int.toNat x4 * 4)))
 False)
 False) ∧
 ((Qv (vI x4)) ∧
 ((Qv (Sl 1004 (n3) (n3))) ∧
 (Qf ∧
 (Qf ∧
 ((bcase (decide (0 ≤ x4))
 (bcase (decide (x4 < (↑n1 : Int)))
 (Qv (Pt 1003 (0 + Int.toNat x4 * 2)))
 False)
 False) ∧
 ((Qv (vI x4)) ∧
 ((Qv (Sl 1003 (n1) (n1))) ∧
 (Qf ∧
 ((bcase (decide (0 ≤ x4))
 (bcase (decide (x4 < (↑n1 : Int)))
 (Qv (Pt 1003 (0 + Int.toNat x4 * 2)))
 False)
 False) ∧
 ((Qv (vI x4)) ∧
 ((Qv (Sl 1003 (n1) (n1))) ∧
 True))))))))))))))))))))))))))))))))))))))))))))))))))) ∧
 (k kF))))))))))
 False)
 False)) ∨
 ((Says C 31 [(D.agg [(dI n12), (dI n13)])] kF) ∧
 ((Qu ∧
 (Qu ∧
 (Qu ∧
 (Qu ∧
 (Qu ∧
 (Qb ∧
 (Qb ∧
 (Qb ∧
 ((Qv (Value.pointer (some (Addr.mk 1004 (Addr.off { block := 1004, off := 0 + Int.toNat x4 * 4 } + 2) none)))) ∧
 ((bcase (decide (0 ≤ x4))
 (bcase (decide (x4 < (↑n3 : Int)))
 (Qv (Pt 1004 (0 + Int.toNat x4 * 4)))
 False)
 False) ∧
 ((Qv (vI x4)) ∧
 ((Qv (Sl 1004 (n3) (n3))) ∧
 (Qf ∧
 (Qf ∧
 ((Qv (Pt 1004 (0 + Int.toNat x4 * 4))) ∧
 ((bcase (decide (0 ≤ x4))
 (bcase (decide (x4 < (↑n3 : Int)))
 (Qv (Pt 1004 (0 + Int.toNat x4 * 4)))
 False)
 False) ∧
 ((Qv (vI x4)) ∧
 ((Qv (Sl 1004 (n3) (n3))) ∧
 (Qf ∧
 (Qf ∧
 ((Qv (Pt 1004 (0 + Int.toNat x4 * 4))) ∧
 ((bcase (decide (0 ≤ x4))
 (bcase (decide (x4 < (↑n3 : Int)))
 (Qv (Pt 1004 (0 + Int.toNat x4 * 4)))
 False)
 False) ∧
 ((Qv (vI x4)) ∧
 ((Qv (Sl 1004 (n3) (n3))) ∧
 (Qf ∧
 (Qf ∧
 ((bcase (decide (0 ≤ x4))
 (bcase (decide (x4 < (↑n1 : Int)))
 (Qv (Pt 1003 (0 + Int.toNat x4 * 2)))
 False)
 False) ∧
 ((Qv (vI x4)) ∧
 ((Qv (Sl 1003 (n1) (n1))) ∧
 (Qf ∧
 ((bcase (decide (0 ≤ x4))
 (bcase (decide (x4 < (↑n1 : Int)))
 (Qv (Pt 1003 (0 + Int.toNat x4 * 2)))
 False)
 False) ∧
 ((Qv (vI x4)) ∧
 ((Qv (Sl 1003 (n1) (n1))) ∧
 True))))))))))))))))))))))))))))))))) ∧
 ((Qu ∧
 (Qu ∧
 (Qu ∧
 (Qu ∧
 (Qu ∧
 (Qu ∧
 (Qu ∧
 (Qu ∧
 (Qu ∧
 (Qb ∧
 (Qb ∧
 (Qu ∧
 (Qu ∧
 (Qu ∧
 (Qu ∧
 (Qu ∧
 (Qb ∧
 (Qb ∧
 ((Qv (Value.pointer (some (Addr.mk 1004 (Addr.off { block := 1004, off := 0 + Int.toNat x4 * 4 } + 2) none)))) ∧
 ((bcase (decide (0 ≤ x4))
 (bcase (decide (x4 < (↑n3 : Int)))
 (Qv (Pt 1004 (0 + Int.toNat x4 * 4)))
 False)
 False) ∧
 ((Qv (vI x4)) ∧
 ((Qv (Sl 1004 (n3) (n3))) ∧
 (Qf ∧
 (Qf ∧
 ((Qv (Pt 1004 (0 + Int.toNat x4 * 4))) ∧
 ((bcase (decide (0 ≤ x4))
 (bcase (decide (x4 < (↑n3 : Int)))
 (Qv (Pt 1004 (0 + Int.toNat x4 * 4)))
 False)
 False) ∧
 ((Qv (vI x4)) ∧
 ((Qv (Sl 1004 (n3) (n3))) ∧
 (Qf ∧
 (Qf ∧
 ((Qv (Pt 1004 (0 + Int.toNat x4 * 4))) ∧
 ((bcase (decide (0 ≤ x4))
 (bcase (decide (x4 < (↑n3 : Int)))
 (Qv (Pt 1004 (0 + Int.toNat x4 * 4)))
 False)
 False) ∧
 ((Qv (vI x4)) ∧
 ((Qv (Sl 1004 (n3) (n3))) ∧
 (Qf ∧
 (Qf ∧
 ((bcase (decide (0 ≤ x4))
 (bcase (decide (x4 < (↑n1 : Int)))
 (Qv (Pt 1003 (0 + Int.toNat x4 * 2)))
 False)
 False) ∧
 ((Qv (vI x4)) ∧
 ((Qv (Sl 1003 (n1) (n1))) ∧
 (Qf ∧
 ((bcase (decide (0 ≤ x4))
 (bcase (decide (x4 < (↑n1 : Int)))
 (Qv (Pt 1003 (0 + Int.toNat x4 * 2)))
 False)
 False) ∧
 ((Qv (vI x4)) ∧
 ((Qv (Sl 1003 (n1) (n1))) ∧
 True))))))))))))))))))))))))))))))))))))))))))) ∧
 ((Qu ∧
 (Qu ∧
 (Qu ∧
 (Qu ∧
 (Qu ∧
 (Qu ∧
 (Qu ∧
 (Qu ∧
 (Qu ∧
 (Qb ∧
 (Qb ∧
 (Qu ∧
 (Qu ∧
 (Qu ∧
 (Qu ∧
 (Qu ∧
 (Qu ∧
 (Qu ∧
 (Qu ∧
 (Qb ∧
 (Qu ∧
 (Qu ∧
 (Qu ∧
 (Qu ∧
 (Qu ∧
 (Qb ∧
 (Qb ∧
 ((Qv (Value.pointer (some (Addr.mk 1004 (Addr.off { block := 1004, off := 0 + Int.toNat x4 * 4 } + 2) none)))) ∧
 ((bcase (decide (0 ≤ x4))
 (bcase (decide (x4 < (↑n3 : Int)))
 (Qv (Pt 1004 (0 + Int.toNat x4 * 4)))
 False)
 False) ∧
 ((Qv (vI x4)) ∧
 ((Qv (Sl 1004 (n3) (n3))) ∧
 (Qf ∧
 (Qf ∧
 ((Qv (Pt 1004 (0 + Int.toNat x4 * 4))) ∧
 ((bcase (decide (0 ≤ x4))
 (bcase (decide (x4 < (↑n3 : Int)))
 (Qv (Pt 1004 (0 + Int.toNat x4 * 4)))
 False)
 False) ∧
 ((Qv (vI x4)) ∧
 ((Qv (Sl 1004 (n3) (n3))) ∧
 (Qf ∧
 (Qf ∧
 ((Qv (Pt 1004 (0 + Int.toNat x4 * 4))) ∧
 ((bcase (decide (0 ≤ x4))
 (bcase (decide (x4 < (↑n3 : Int)))
 (Qv (Pt 1004 (0 + Int.toNat x4 * 4)))
 False)
 False) ∧
 ((Qv (vI x4)) ∧
 ((Qv (Sl 1004 (n3) (n3))) ∧
 (Qf ∧
 (Qf ∧
 ((bcase (decide (0 ≤ x4))
 (bcase (decide (x4 < (↑n1 : Int)))
 (Qv (Pt 1003 (0 + Int.toNat x4 * 2)))
 False)
 False) ∧
 ((Qv (vI x4)) ∧
 ((Qv (Sl 1003 (n1) (n1))) ∧
 (Qf ∧
 ((bcase (decide (0 ≤ x4))
 (bcase (decide (x4 < (↑n1 : Int)))
 (Qv (Pt 1003 (0 + Int.toNat x4 * 2)))
 False)
 False) ∧
 ((Qv (vI x4)) ∧
 ((Qv (Sl 1003 (n1) (n1))) ∧
 True)))))))))))))))))))))))))))))))))))))))))))))))))))) ∧
 ((Qb ∧
 (Qu ∧
 (Qu ∧
 (Qu ∧
 (Qu ∧
 (Qu ∧
 (Qu ∧
 (Qu ∧
 (Qu ∧
 (Qb ∧
 (Qu ∧
 (Qu ∧
 (Qu ∧
 (Qu ∧
 (Qu ∧
 (Qu ∧
 (Qu ∧
 (Qu ∧
 (Qb ∧
 (Qu ∧
 (Qu ∧
 (Qu ∧
 (Qu ∧
 (Qu ∧
 (Qb ∧
 (Qb ∧
 ((Qv (Value.pointer (some (Addr.mk 1004 (Addr.off { block := 1004, off := 0 + Int.toNat x4 * 4 } + 2) none)))) ∧
 ((bcase (decide (0 ≤ x4))
 (bcase (decide (x4 < (↑n3 : Int)))
 (Qv (Pt 1004 (0 + Int.toNat x4 * 4)))
 False)
 False) ∧
 ((Qv (vI x4)) ∧
 ((Qv (Sl 1004 (n3) (n3))) ∧
 (Qf ∧
 (Qf ∧
 ((Qv (Pt 1004 (0 + Int.toNat x4 * 4))) ∧
 ((bcase (decide (0 ≤ x4))
 (bcase (decide (x4 < (↑n3 : Int)))
 (Qv (Pt 1004 (0 + Int.toNat x4 * 4)))
 False)
 False) ∧
 ((Qv (vI x4)) ∧
 ((Qv (Sl 1004 (n3) (n3))) ∧
 (Qf ∧
 (Qf ∧
 ((Qv (Pt 1004 (0 + Int.toNat x4 * 4))) ∧
 ((bcase (decide (0 ≤ x4))
 (bcase (decide (x4 < (↑n3 : Int)))
 (Qv (Pt 1004 (0 + Int.toNat x4 * 4)))
 False)
 False) ∧
 ((Qv (vI x4)) ∧
 ((Qv (Sl 1004 (n3) (n3))) ∧
 (Qf ∧
 (Qf ∧
 ((bcase (decide (0 ≤ x4))
 (bcase (decide (x4 < (↑n1 : Int)))
 (Qv (Pt 1003 (0 + Int.toNat x4 * 2)))
 False)
 False) ∧
 ((Qv (vI x4)) ∧
 ((Qv (Sl 1003 (n1) (n1))) ∧
 (Qf ∧
 ((bcase (decide (0 ≤ x4))
 (bcase (decide (x4 < (↑n1 : Int)))
 (Qv (Pt 1003 (0 + Int.toNat x4 * 2)))
 False)
 False) ∧
 ((Qv (vI x4)) ∧
 ((Qv (Sl 1003 (n1) (n1))) ∧
 True))))))))))))))))))))))))))))))))))))))))))))))))))) ∧
 (k kF)))))))))))
 False)
 False)) ∨
 ((Says C 32 [(D.agg [(dI n9), (dI n10)])] kF) ∧
 ((Qu ∧
 (Qu ∧
 (Qu ∧
 (Qu ∧
 (Qu ∧
 (Qb ∧
 (Qb ∧
 (Qb ∧
 ((Qv (Pt 1004 (0 + Int.toNat x4 * 4))) ∧
 ((bcase (decide (0 ≤ x4))
 (bcase (decide (x4 < (↑n3 : Int)))
 (Qv (Pt 1004 (0 + Int.toNat x4 * 4)))
 False)
 False) ∧
 ((Qv (vI x4)) ∧
 ((Qv (Sl 1004 (n3) (n3))) ∧
 (Qf ∧
 (Qf ∧
 ((Qv (Pt 1004 (0 + Int.toNat x4 * 4))) ∧
 ((bcase (decide (0 ≤ x4))
 (bcase (decide (x4 < (↑n3 : Int)))
 (Qv (Pt 1004 (0 + Int.toNat x4 * 4)))
 False)
 False) ∧
 ((Qv (vI x4)) ∧
 ((Qv (Sl 1004 (n3) (n3))) ∧
 (Qf ∧
 (Qf ∧
 ((bcase (decide (0 ≤ x4))
 (bcase (decide (x4 < (↑n1 : Int)))
 (Qv (Pt 1003 (0 + Int.toNat x4 * 2)))
 False)
 False) ∧
 ((Qv (vI x4)) ∧
 ((Qv (Sl 1003 (n1) (n1))) ∧
 (Qf ∧
 ((bcase (decide (0 ≤ x4))
 (bcase (decide (x4 < (↑n1 : Int)))
 (Qv (Pt 1003 (0 + Int.toNat x4 * 2)))
 False)
 False) ∧
 ((Qv (vI x4)) ∧
 ((Qv (Sl 1003 (n1) (n1))) ∧
 True))))))))))))))))))))))))))) ∧
 ((Qu ∧
 (Qu ∧
 (Qu ∧
 (Qu ∧
 (Qu ∧
 (Qb ∧
 (Qb ∧
 (Qu ∧
 (Qu ∧
 (Qu ∧
 (Qu ∧
 (Qu ∧
 (Qb ∧
 (Qb ∧
 ((Qv (Pt 1004 (0 + Int.toNat x4 * 4))) ∧
 ((bcase (decide (0 ≤ x4))
 (bcase (decide (x4 < (↑n3 : Int)))
 (Qv (Pt 1004 (0 + Int.toNat x4 * 4)))
 False)
 False) ∧
 ((Qv (vI x4)) ∧
 ((Qv (Sl 1004 (n3) (n3))) ∧
 (Qf ∧
 (Qf ∧
 ((Qv (Pt 1004 (0 + Int.toNat x4 * 4))) ∧
 ((bcase (decide (0 ≤ x4))
 (bcase (decide (x4 < (↑n3 : Int)))
 (Qv (Pt 1004 (0 + Int.toNat x4 * 4)))
 False)
 False) ∧
 ((Qv (vI x4)) ∧
 ((Qv (Sl 1004 (n3) (n3))) ∧
 (Qf ∧
 (Qf ∧
 ((bcase (decide (0 ≤ x4))
 (bcase (decide (x4 < (↑n1 : Int)))
 (Qv (Pt 1003 (0 + Int.toNat x4 * 2)))
 False)
 False) ∧
 ((Qv (vI x4)) ∧
 ((Qv (Sl 1003 (n1) (n1))) ∧
 (Qf ∧
 ((bcase (decide (0 ≤ x4))
 (bcase (decide (x4 < (↑n1 : Int)))
 (Qv (Pt 1003 (0 + Int.toNat x4 * 2)))
 False)
 False) ∧
 ((Qv (vI x4)) ∧
 ((Qv (Sl 1003 (n1) (n1))) ∧
 True))))))))))))))))))))))))))))))))) ∧
 ((Qu ∧
 (Qu ∧
 (Qu ∧
 (Qu ∧
 (Qu ∧
 (Qu ∧
 (Qu ∧
 (Qu ∧
 (Qu ∧
 (Qb ∧
 (Qb ∧
 (Qu ∧
 (Qu ∧
 (Qu ∧
 (Qu ∧
 (Qu ∧
 (Qb ∧
 (Qu ∧
 (Qu ∧
 (Qu ∧
 (Qu ∧
 (Qu ∧
 (Qb ∧
 (Qb ∧
 ((Qv (Pt 1004 (0 + Int.toNat x4 * 4))) ∧
 ((bcase (decide (0 ≤ x4))
 (bcase (decide (x4 < (↑n3 : Int)))
 (Qv (Pt 1004 (0 + Int.toNat x4 * 4)))
 False)
 False) ∧
 ((Qv (vI x4)) ∧
 ((Qv (Sl 1004 (n3) (n3))) ∧
 (Qf ∧
 (Qf ∧
 ((Qv (Pt 1004 (0 + Int.toNat x4 * 4))) ∧
 ((bcase (decide (0 ≤ x4))
 (bcase (decide (x4 < (↑n3 : Int)))
 (Qv (Pt 1004 (0 + Int.toNat x4 * 4)))
 False)
 False) ∧
 ((Qv (vI x4)) ∧
 ((Qv (Sl 1004 (n3) (n3))) ∧
 (Qf ∧
 (Qf ∧
 ((bcase (decide (0 ≤ x4))
 (bcase (decide (x4 < (↑n1 : Int)))
 (Qv (Pt 1003 (0 + Int.toNat x4 * 2)))
 False)
 False) ∧
 ((Qv (vI x4)) ∧
 ((Qv (Sl 1003 (n1) (n1))) ∧
 (Qf ∧
 ((bcase (decide (0 ≤ x4))
 (bcase (decide (x4 < (↑n1 : Int)))
 (Qv (Pt 1003 (0 + Int.toNat x4 * 2)))
 False)
 False) ∧
 ((Qv (vI x4)) ∧
 ((Qv (Sl 1003 (n1) (n1))) ∧
 True))))))))))))))))))))))))))))))))))))))))))) ∧
 ((Qu ∧
 (Qu ∧
 (Qu ∧
 (Qu ∧
 (Qu ∧
 (Qu ∧
 (Qu ∧
 (Qu ∧
 (Qu ∧
 (Qb ∧
 (Qb ∧
 (Qu ∧
 (Qu ∧
 (Qu ∧
 (Qu ∧
 (Qu ∧
 (Qu ∧
 (Qu ∧
 (Qu ∧
 (Qb ∧
 (Qu ∧
 (Qu ∧
 (Qu ∧
 (Qu ∧
 (Qu ∧
 (Qb ∧
 (Qu ∧
 (Qu ∧
 (Qu ∧
 (Qu ∧
 (Qu ∧
 (Qb ∧
 (Qb ∧
 ((Qv (Pt 1004 (0 + Int.toNat x4 * 4))) ∧
 ((bcase (decide (0 ≤ x4))
 (bcase (decide (x4 < (↑n3 : Int)))
 (Qv (Pt 1004 (0 + Int.toNat x4 * 4)))
 False)
 False) ∧
 ((Qv (vI x4)) ∧
 ((Qv (Sl 1004 (n3) (n3))) ∧
 (Qf ∧
 (Qf ∧
 ((Qv (Pt 1004 (0 + Int.toNat x4 * 4))) ∧
 ((bcase (decide (0 ≤ x4))
 (bcase (decide (x4 < (↑n3 : Int)))
 (Qv (Pt 1004 (0 + Int.toNat x4 * 4)))
 False)
 False) ∧
 ((Qv (vI x4)) ∧
 ((Qv (Sl 1004 (n3) (n3))) ∧
 (Qf ∧
 (Qf ∧
 ((bcase (decide (0 ≤ x4))
 (bcase (decide (x4 < (↑n1 : Int)))
 (Qv (Pt 1003 (0 + Int.toNat x4 * 2)))
 False)
 False) ∧
 ((Qv (vI x4)) ∧
 ((Qv (Sl 1003 (n1) (n1))) ∧
 (Qf ∧
 ((bcase (decide (0 ≤ x4))
 (bcase (decide (x4 < (↑n1 : Int)))
 (Qv (Pt 1003 (0 + Int.toNat x4 * 2)))
 False)
 False) ∧
 ((Qv (vI x4)) ∧
 ((Qv (Sl 1003 (n1) (n1))) ∧
 True)))))))))))))))))))))))))))))))))))))))))))))))))))) ∧
 ((Qb ∧
 (Qu ∧
 (Qu ∧
 (Qu ∧
 (Qu ∧
 (Qu ∧
 (Qu ∧
 (Qu ∧
 (Qu ∧
 (Qb ∧
 (Qu ∧
 (Qu ∧
 (Qu ∧
 (Qu ∧
 (Qu ∧
 (Qu ∧
 (Qu ∧
 (Qu ∧
 (Qb ∧
 (Qu ∧
 (Qu ∧
 (Qu ∧
 (Qu ∧
 (Qu ∧
 (Qb ∧
 (Qu ∧
 (Qu ∧
 (Qu ∧
 (Qu ∧
 (Qu ∧
 (Qb ∧
 (Qb ∧
 ((Qv (Pt 1004 (0 + Int.toNat x4 * 4))) ∧
 ((bcase (decide (0 ≤ x4))
 (bcase (decide (x4 < (↑n3 : Int)))
 (Qv (Pt 1004 (0 + Int.toNat x4 * 4)))
 False)
 False) ∧
 ((Qv (vI x4)) ∧
 ((Qv (Sl 1004 (n3) (n3))) ∧
 (Qf ∧
 (Qf ∧
 ((Qv (Pt 1004 (0 + Int.toNat x4 * 4))) ∧
 ((bcase (decide (0 ≤ x4))
 (bcase (decide (x4 < (↑n3 : Int)))
 (Qv (Pt 1004 (0 + Int.toNat x4 * 4)))
 False)
 False) ∧
 ((Qv (vI x4)) ∧
 ((Qv (Sl 1004 (n3) (n3))) ∧
 (Qf ∧
 (Qf ∧
 ((bcase (decide (0 ≤ x4))
 (bcase (decide (x4 < (↑n1 : Int)))
 (Qv (Pt 1003 (0 + Int.toNat x4 * 2)))
 False)
 False) ∧
 ((Qv (vI x4)) ∧
 ((Qv (Sl 1003 (n1) (n1))) ∧
 (Qf ∧
 ((bcase (decide (0 ≤ x4))
 (bcase (decide (x4 < (↑n1 : Int)))
 (Qv (Pt 1003 (0 + Int.toNat x4 * 2)))
 False)
 False) ∧
 ((Qv (vI x4)) ∧
 ((Qv (Sl 1003 (n1) (n1))) ∧
 True))))))))))))))))))))))))))))))))))))))))))))))))))) ∧
 (k kF))))))))))))
 False)
 False)) ∨
 ((Says C 31 [(D.agg [(dI n7), (dI n8)])] kF) ∧
 ((Qu ∧
 (Qu ∧
 (Qu ∧
 (Qu ∧
 (Qu ∧
 (Qb ∧
 (Qb ∧
 (Qb ∧
 ((Qv (Pt 1004 (0 + Int.toNat x4 * 4))) ∧
 ((bcase (decide (0 ≤ x4))
 (bcase (decide (x4 < (↑n3 : Int)))
 (Qv (Pt 1004 (0 + Int.toNat x4 * 4)))
 False)
 False) ∧
 ((Qv (vI x4)) ∧
 ((Qv (Sl 1004 (n3) (n3))) ∧
 (Qf ∧
 (Qf ∧
 ((bcase (decide (0 ≤ x4))
 (bcase (decide (x4 < (↑n1 : Int)))
 (Qv (Pt 1003 (0 + Int.toNat x4 * 2)))
 False)
 False) ∧
 ((Qv (vI x4)) ∧
 ((Qv (Sl 1003 (n1) (n1))) ∧
 (Qf ∧
 ((bcase (decide (0 ≤ x4))
 (bcase (decide (x4 < (↑n1 : Int)))
 (Qv (Pt 1003 (0 + Int.toNat x4 * 2)))
 False)
 False) ∧
 ((Qv (vI x4)) ∧
 ((Qv (Sl 1003 (n1) (n1))) ∧
 True))))))))))))))))))))) ∧
 ((Qu ∧
 (Qu ∧
 (Qu ∧
 (Qu ∧
 (Qu ∧
 (Qb ∧
 (Qb ∧
 (Qu ∧
 (Qu ∧
 (Qu ∧
 (Qu ∧
 (Qu ∧
 (Qb ∧
 (Qb ∧
 ((Qv (Pt 1004 (0 + Int.toNat x4 * 4))) ∧
 ((bcase (decide (0 ≤ x4))
 (bcase (decide (x4 < (↑n3 : Int)))
 (Qv (Pt 1004 (0 + Int.toNat x4 * 4)))
 False)
 False) ∧
 ((Qv (vI x4)) ∧
 ((Qv (Sl 1004 (n3) (n3))) ∧
 (Qf ∧
 (Qf ∧
 ((bcase (decide (0 ≤ x4))
 (bcase (decide (x4 < (↑n1 : Int)))
 (Qv (Pt 1003 (0 + Int.toNat x4 * 2)))
 False)
 False) ∧
 ((Qv (vI x4)) ∧
 ((Qv (Sl 1003 (n1) (n1))) ∧
 (Qf ∧
 ((bcase (decide (0 ≤ x4))
 (bcase (decide (x4 < (↑n1 : Int)))
 (Qv (Pt 1003 (0 + Int.toNat x4 * 2)))
 False)
 False) ∧
 ((Qv (vI x4)) ∧
 ((Qv (Sl 1003 (n1) (n1))) ∧
 True))))))))))))))))))))))))))) ∧
 ((Qu ∧
 (Qu ∧
 (Qu ∧
 (Qu ∧
 (Qu ∧
 (Qb ∧
 (Qb ∧
 (Qu ∧
 (Qu ∧
 (Qu ∧
 (Qu ∧
 (Qu ∧
 (Qb ∧
 (Qu ∧
 (Qu ∧
 (Qu ∧
 (Qu ∧
 (Qu ∧
 (Qb ∧
 (Qb ∧
 ((Qv (Pt 1004 (0 + Int.toNat x4 * 4))) ∧
 ((bcase (decide (0 ≤ x4))
 (bcase (decide (x4 < (↑n3 : Int)))
 (Qv (Pt 1004 (0 + Int.toNat x4 * 4)))
 False)
 False) ∧
 ((Qv (vI x4)) ∧
 ((Qv (Sl 1004 (n3) (n3))) ∧
 (Qf ∧
 (Qf ∧
 ((bcase (decide (0 ≤ x4))
 (bcase (decide (x4 < (↑n1 : Int)))
 (Qv (Pt 1003 (0 + Int.toNat x4 * 2)))
 False)
 False) ∧
 ((Qv (vI x4)) ∧
 ((Qv (Sl 1003 (n1) (n1))) ∧
 (Qf ∧
 ((bcase (decide (0 ≤ x4))
 (bcase (decide (x4 < (↑n1 : Int)))
 (Qv (Pt 1003 (0 + Int.toNat x4 * 2)))
 False)
 False) ∧
 ((Qv (vI x4)) ∧
 ((Qv (Sl 1003 (n1) (n1))) ∧
 True))))))))))))))))))))))))))))))))) ∧
 ((Qu ∧
 (Qu ∧
 (Qu ∧
 (Qu ∧
 (Qu ∧
 (Qu ∧
 (Qu ∧
 (Qu ∧
 (Qu ∧
 (Qb ∧
 (Qb ∧
 (Qu ∧
 (Qu ∧
 (Qu ∧
 (Qu ∧
 (Qu ∧
 (Qb ∧
 (Qu ∧
 (Qu ∧
 (Qu ∧
 (Qu ∧
 (Qu ∧
 (Qb ∧
 (Qu ∧
 (Qu ∧
 (Qu ∧
 (Qu ∧
 (Qu ∧
 (Qb ∧
 (Qb ∧
 ((Qv (Pt 1004 (0 + Int.toNat x4 * 4))) ∧
 ((bcase (decide (0 ≤ x4))
 (bcase (decide (x4 < (↑n3 : Int)))
 (Qv (Pt 1004 (0 + Int.toNat x4 * 4)))
 False)
 False) ∧
 ((Qv (vI x4)) ∧
 ((Qv (Sl 1004 (n3) (n3))) ∧
 (Qf ∧
 (Qf ∧
 ((bcase (decide (0 ≤ x4))
 (bcase (decide (x4 < (↑n1 : Int)))
 (Qv (Pt 1003 (0 + Int.toNat x4 * 2)))
 False)
 False) ∧
 ((Qv (vI x4)) ∧
 ((Qv (Sl 1003 (n1) (n1))) ∧
 (Qf ∧
 ((bcase (decide (0 ≤ x4))
 (bcase (decide (x4 < (↑n1 : Int)))
 (Qv (Pt 1003 (0 + Int.toNat x4 * 2)))
 False)
 False) ∧
 ((Qv (vI x4)) ∧
 ((Qv (Sl 1003 (n1) (n1))) ∧
 True))))))))))))))))))))))))))))))))))))))))))) ∧
 ((Qu ∧
 (Qu ∧
 (Qu ∧
 (Qu ∧
 (Qu ∧
 (Qu ∧
 (Qu ∧
 (Qu ∧
 (Qu ∧
 (Qb ∧
 (Qb ∧
 (Qu ∧
 (Qu ∧
 (Qu ∧
 (Qu ∧
 (Qu ∧
 (Qu ∧
 (Qu ∧
 (Qu ∧
 (Qb ∧
 (Qu ∧
 (Qu ∧
 (Qu ∧
 (Qu ∧
 (Qu ∧
 (Qb ∧
 (Qu ∧
 (Qu ∧
 (Qu ∧
 (Qu ∧
 (Qu ∧
 (Qb ∧
 (Qu ∧
 (Qu ∧
 (Qu ∧
 (Qu ∧
 (Qu ∧
 (Qb ∧
 (Qb ∧
 ((Qv (Pt 1004 (0 + Int.toNat x4 * 4))) ∧
 ((bcase (decide (0 ≤ x4))
 (bcase (decide (x4 < (↑n3 : Int)))
 (Qv (Pt 1004 (0 + Int.toNat x4 * 4)))
 False)
 False) ∧
 ((Qv (vI x4)) ∧
 ((Qv (Sl 1004 (n3) (n3))) ∧
 (Qf ∧
 (Qf ∧
 ((bcase (decide (0 ≤ x4))
 (bcase (decide (x4 < (↑n1 : Int)))
 (Qv (Pt 1003 (0 + Int.toNat x4 * 2)))
 False)
 False) ∧
 ((Qv (vI x4)) ∧
 ((Qv (Sl 1003 (n1) (n1))) ∧
 (Qf ∧
 ((bcase (decide (0 ≤ x4))
 (bcase (decide (x4 < (↑n1 : Int)))
 (Qv (Pt 1003 (0 + Int.toNat x4 * 2)))
 False)
 False) ∧
 ((Qv (vI x4)) ∧
 ((Qv (Sl 1003 (n1) (n1))) ∧
 True)))))))))))))))))))))))))))))))))))))))))))))))))))) ∧
 ((Qb ∧
 (Qu ∧
 (Qu ∧
 (Qu ∧
 (Qu ∧
 (Qu ∧
 (Qu ∧
 (Qu ∧
 (Qu ∧
 (Qb ∧
 (Qu ∧
 (Qu ∧
 (Qu ∧
 (Qu ∧
 (Qu ∧
 (Qu ∧
 (Qu ∧
 (Qu ∧
 (Qb ∧
 (Qu ∧
 (Qu ∧
 (Qu ∧
 (Qu ∧
 (Qu ∧
 (Qb ∧
 (Qu ∧
 (Qu ∧
 (Qu ∧
 (Qu ∧
 (Qu ∧
 (Qb ∧
 (Qu ∧
 (Qu ∧
 (Qu ∧
 (Qu ∧
 (Qu ∧
 (Qb ∧
 (Qb ∧
 ((Qv (Pt 1004 (0 + Int.toNat x4 * 4))) ∧
 ((bcase (decide (0 ≤ x4))
 (bcase (decide (x4 < (↑n3 : Int)))
 (Qv (Pt 1004 (0 + Int.toNat x4 * 4)))
 False)
 False) ∧
 ((Qv (vI x4)) ∧
 ((Qv (Sl 1004 (n3) (n3))) ∧
 (Qf ∧
 (Qf ∧
 ((bcase (decide (0 ≤ x4))
 (bcase (decide (x4 < (↑n1 : Int)))
 (Qv (Pt 1003 (0 + Int.toNat x4 * 2)))
 False)
 False) ∧
 ((Qv (vI x4)) ∧
 ((Qv (Sl 1003 (n1) (n1))) ∧
 (Qf ∧
 ((bcase (decide (0 ≤ x4))
 (bcase (decide (x4 < (↑n1 : Int)))
 (Qv (Pt 1003 (0 + Int.toNat x4 * 2)))
 False)
 False) ∧
 ((Qv (vI x4)) ∧
 ((Qv (Sl 1003 (n1) (n1))) ∧
 True))))))))))))))))))))))))))))))))))))))))))))))))))) ∧
 (k kF)))))))))))))
 False)
 False)) ∨
 ((Says C 32 [(D.agg [(dI n5), (dI n6)])] kF) ∧
 ((Qu ∧
 (Qu ∧
 (Qu ∧
 (Qu ∧
 (Qu ∧
 (Qb ∧
 (Qb ∧
 (Qb ∧
 ((bcase (decide (0 ≤ x4))
 (bcase (decide (x4 < (↑n1 : Int)))
 (Qv (Pt 1003 (0 + Int.toNat x4 * 2)))
 False)
 False) ∧
 ((Qv (vI x4)) ∧
 ((Qv (Sl 1003 (n1) (n1))) ∧
 (Qf ∧
 ((bcase (decide (0 ≤ x4))
 (bcase (decide (x4 < (↑n1 : Int)))
 (Qv (Pt 1003 (0 + Int.toNat x4 * 2)))
 False)
 False) ∧
 ((Qv (vI x4)) ∧
 ((Qv (Sl 1003 (n1) (n1))) ∧
 True))))))))))))))) ∧
 ((Qu ∧
 (Qu ∧
 (Qu ∧
 (Qu ∧
 (Qu ∧
 (Qb ∧
 (Qb ∧
 (Qu ∧
 (Qu ∧
 (Qu ∧
 (Qu ∧
 (Qu ∧
 (Qb ∧
 (Qb ∧
 ((bcase (decide (0 ≤ x4))
 (bcase (decide (x4 < (↑n1 : Int)))
 (Qv (Pt 1003 (0 + Int.toNat x4 * 2)))
 False)
 False) ∧
 ((Qv (vI x4)) ∧
 ((Qv (Sl 1003 (n1) (n1))) ∧
 (Qf ∧
 ((bcase (decide (0 ≤ x4))
 (bcase (decide (x4 < (↑n1 : Int)))
 (Qv (Pt 1003 (0 + Int.toNat x4 * 2)))
 False)
 False) ∧
 ((Qv (vI x4)) ∧
 ((Qv (Sl 1003 (n1) (n1))) ∧
 True))))))))))))))))))))) ∧
 ((Qu ∧
 (Qu ∧
 (Qu ∧
 (Qu ∧
 (Qu ∧
 (Qb ∧
 (Qb ∧
 (Qu ∧
 (Qu ∧
 (Qu ∧
 (Qu ∧
 (Qu ∧
 (Qb ∧
 (Qu ∧
 (Qu ∧
 (Qu ∧
 (Qu ∧
 (Qu ∧
 (Qb ∧
 (Qb ∧
 ((bcase (decide (0 ≤ x4))
 (bcase (decide (x4 < (↑n1 : Int)))
 (Qv (Pt 1003 (0 + Int.toNat x4 * 2)))
 False)
 False) ∧
 ((Qv (vI x4)) ∧
 ((Qv (Sl 1003 (n1) (n1))) ∧
 (Qf ∧
 ((bcase (decide (0 ≤ x4))
 (bcase (decide (x4 < (↑n1 : Int)))
 (Qv (Pt 1003 (0 + Int.toNat x4 * 2)))
 False)
 False) ∧
 ((Qv (vI x4)) ∧
 ((Qv (Sl 1003 (n1) (n1))) ∧
 True))))))))))))))))))))))))))) ∧
 ((Qu ∧
 (Qu ∧
 (Qu ∧
 (Qu ∧
 (Qu ∧
 (Qb ∧
 (Qb ∧
 (Qu ∧
 (Qu ∧
 (Qu ∧
 (Qu ∧
 (Qu ∧
 (Qb ∧
 (Qu ∧
 (Qu ∧
 (Qu ∧
 (Qu ∧
 (Qu ∧
 (Qb ∧
 (Qu ∧
 (Qu ∧
 (Qu ∧
 (Qu ∧
 (Qu ∧
 (Qb ∧
 (Qb ∧
 ((bcase (decide (0 ≤ x4))
 (bcase (decide (x4 < (↑n1 : Int)))
 (Qv (Pt 1003 (0 + Int.toNat x4 * 2)))
 False)
 False) ∧
 ((Qv (vI x4)) ∧
 ((Qv (Sl 1003 (n1) (n1))) ∧
 (Qf ∧
 ((bcase (decide (0 ≤ x4))
 (bcase (decide (x4 < (↑n1 : Int)))
 (Qv (Pt 1003 (0 + Int.toNat x4 * 2)))
 False)
 False) ∧
 ((Qv (vI x4)) ∧
 ((Qv (Sl 1003 (n1) (n1))) ∧
 True))))))))))))))))))))))))))))))))) ∧
 ((Qu ∧
 (Qu ∧
 (Qu ∧
 (Qu ∧
 (Qu ∧
 (Qu ∧
 (Qu ∧
 (Qu ∧
 (Qu ∧
 (Qb ∧
 (Qb ∧
 (Qu ∧
 (Qu ∧
 (Qu ∧
 (Qu ∧
 (Qu ∧
 (Qb ∧
 (Qu ∧
 (Qu ∧
 (Qu ∧
 (Qu ∧
 (Qu ∧
 (Qb ∧
 (Qu ∧
 (Qu ∧
 (Qu ∧
 (Qu ∧
 (Qu ∧
 (Qb ∧
 (Qu ∧
 (Qu ∧
 (Qu ∧
 (Qu ∧
 (Qu ∧
 (Qb ∧
 (Qb ∧
 ((bcase (decide (0 ≤ x4))
 (bcase (decide (x4 < (↑n1 : Int)))
 (Qv (Pt 1003 (0 + Int.toNat x4 * 2)))
 False)
 False) ∧
 ((Qv (vI x4)) ∧
 ((Qv (Sl 1003 (n1) (n1))) ∧
 (Qf ∧
 ((bcase (decide (0 ≤ x4))
 (bcase (decide (x4 < (↑n1 : Int)))
 (Qv (Pt 1003 (0 + Int.toNat x4 * 2)))
 False)
 False) ∧
 ((Qv (vI x4)) ∧
 ((Qv (Sl 1003 (n1) (n1))) ∧
 True))))))))))))))))))))))))))))))))))))))))))) ∧
 ((Qu ∧
 (Qu ∧
 (Qu ∧
 (Qu ∧
 (Qu ∧
 (Qu ∧
 (Qu ∧
 (Qu ∧
 (Qu ∧
 (Qb ∧
 (Qb ∧
 (Qu ∧
 (Qu ∧
 (Qu ∧
 (Qu ∧
 (Qu ∧
 (Qu ∧
 (Qu ∧
 (Qu ∧
 (Qb ∧
 (Qu ∧
 (Qu ∧
 (Qu ∧
 (Qu ∧
 (Qu ∧
 (Qb ∧
 (Qu ∧
 (Qu ∧
 (Qu ∧
 (Qu ∧
 (Qu ∧
 (Qb ∧
 (Qu ∧
 (Qu ∧
 (Qu ∧
 (Qu ∧
 (Qu ∧
 (Qb ∧
 (Qu ∧
 (Qu ∧
 (Qu ∧
 (Qu ∧
 (Qu ∧
 (Qb ∧
 (Qb ∧
 ((bcase (decide (0 ≤ x4))
 (bcase (decide (x4 < (↑n1 : Int)))
 (Qv (Pt 1003 (0 + Int.toNat x4 * 2)))
 False)
 False) ∧
 ((Qv (vI x4)) ∧
 ((Qv (Sl 1003 (n1) (n1))) ∧
 (Qf ∧
 ((bcase (decide (0 ≤ x4))
 (bcase (decide (x4 < (↑n1 : Int)))
 (Qv (Pt 1003 (0 + Int.toNat x4 * 2)))
 False)
 False) ∧
 ((Qv (vI x4)) ∧
 ((Qv (Sl 1003 (n1) (n1))) ∧
 True)))))))))))))))))))))))))))))))))))))))))))))))))))) ∧
 ((Qb ∧
 (Qu ∧
 (Qu ∧
 (Qu ∧
 (Qu ∧
 (Qu ∧
 (Qu ∧
 (Qu ∧
 (Qu ∧
 (Qb ∧
 (Qu ∧
 (Qu ∧
 (Qu ∧
 (Qu ∧
 (Qu ∧
 (Qu ∧
 (Qu ∧
 (Qu ∧
 (Qb ∧
 (Qu ∧
 (Qu ∧
 (Qu ∧
 (Qu ∧
 (Qu ∧
 (Qb ∧
 (Qu ∧
 (Qu ∧
 (Qu ∧
 (Qu ∧
 (Qu ∧
 (Qb ∧
 (Qu ∧
 (Qu ∧
 (Qu ∧
 (Qu ∧
 (Qu ∧
 (Qb ∧
 (Qu ∧
 (Qu ∧
 (Qu ∧
 (Qu ∧
 (Qu ∧
 (Qb ∧
 (Qb ∧
 ((bcase (decide (0 ≤ x4))
 (bcase (decide (x4 < (↑n1 : Int)))
 (Qv (Pt 1003 (0 + Int.toNat x4 * 2)))
 False)
 False) ∧
 ((Qv (vI x4)) ∧
 ((Qv (Sl 1003 (n1) (n1))) ∧
 (Qf ∧
 ((bcase (decide (0 ≤ x4))
 (bcase (decide (x4 < (↑n1 : Int)))
 (Qv (Pt 1003 (0 + Int.toNat x4 * 2)))
 False)
 False) ∧
 ((Qv (vI x4)) ∧
 ((Qv (Sl 1003 (n1) (n1))) ∧
 True))))))))))))))))))))))))))))))))))))))))))))))))))) ∧
 (k kF))))))))))))))
 False)
 False)) ∨
 ((Says C 31 [(D.agg [(dI n2), (dI n4)])] kF) ∧
 ((Qu ∧
 (Qu ∧
 (Qu ∧
 (Qu ∧
 (Qb ∧
 (Qb ∧
 ((bcase (decide (0 ≤ x4))
 (bcase (decide (x4 < (↑n1 : Int)))
 (Qv (Pt 1003 (0 + Int.toNat x4 * 2)))
 False)
 False) ∧
 ((Qv (vI x4)) ∧
 ((Qv (Sl 1003 (n1) (n1))) ∧
 True))))))))) ∧
 ((Qu ∧
 (Qu ∧
 (Qu ∧
 (Qu ∧
 (Qu ∧
 (Qb ∧
 (Qb ∧
 (Qu ∧
 (Qu ∧
 (Qu ∧
 (Qu ∧
 (Qb ∧
 ((bcase (decide (0 ≤ x4))
 (bcase (decide (x4 < (↑n1 : Int)))
 (Qv (Pt 1003 (0 + Int.toNat x4 * 2)))
 False)
 False) ∧
 ((Qv (vI x4)) ∧
 ((Qv (Sl 1003 (n1) (n1))) ∧
 True))))))))))))))) ∧
 ((Qu ∧
 (Qu ∧
 (Qu ∧
 (Qu ∧
 (Qu ∧
 (Qb ∧
 (Qb ∧
 (Qu ∧
 (Qu ∧
 (Qu ∧
 (Qu ∧
 (Qu ∧
 (Qb ∧
 (Qu ∧
 (Qu ∧
 (Qu ∧
 (Qu ∧
 (Qb ∧
 ((bcase (decide (0 ≤ x4))
 (bcase (decide (x4 < (↑n1 : Int)))
 (Qv (Pt 1003 (0 + Int.toNat x4 * 2)))
 False)
 False) ∧
 ((Qv (vI x4)) ∧
 ((Qv (Sl 1003 (n1) (n1))) ∧
 True))))))))))))))))))))) ∧
 ((Qu ∧
 (Qu ∧
 (Qu ∧
 (Qu ∧
 (Qu ∧
 (Qb ∧
 (Qb ∧
 (Qu ∧
 (Qu ∧
 (Qu ∧
 (Qu ∧
 (Qu ∧
 (Qb ∧
 (Qu ∧
 (Qu ∧
 (Qu ∧
 (Qu ∧
 (Qu ∧
 (Qb ∧
 (Qu ∧
 (Qu ∧
 (Qu ∧
 (Qu ∧
 (Qb ∧
 ((bcase (decide (0 ≤ x4))
 (bcase (decide (x4 < (↑n1 : Int)))
 (Qv (Pt 1003 (0 + Int.toNat x4 * 2)))
 False)
 False) ∧
 ((Qv (vI x4)) ∧
 ((Qv (Sl 1003 (n1) (n1))) ∧
 True))))))))))))))))))))))))))) ∧
 ((Qu ∧
 (Qu ∧
 (Qu ∧
 (Qu ∧
 (Qu ∧
 (Qb ∧
 (Qb ∧
 (Qu ∧
 (Qu ∧
 (Qu ∧
 (Qu ∧
 (Qu ∧
 (Qb ∧
 (Qu ∧
 (Qu ∧
 (Qu ∧
 (Qu ∧
 (Qu ∧
 (Qb ∧
 (Qu ∧
 (Qu ∧
 (Qu ∧
 (Qu ∧
 (Qu ∧
 (Qb ∧
 (Qu ∧
 (Qu ∧
 (Qu ∧
 (Qu ∧
 (Qb ∧
 ((bcase (decide (0 ≤ x4))
 (bcase (decide (x4 < (↑n1 : Int)))
 (Qv (Pt 1003 (0 + Int.toNat x4 * 2)))
 False)
 False) ∧
 ((Qv (vI x4)) ∧
 ((Qv (Sl 1003 (n1) (n1))) ∧
 True))))))))))))))))))))))))))))))))) ∧
 ((Qu ∧
 (Qu ∧
 (Qu ∧
 (Qu ∧
 (Qu ∧
 (Qu ∧
 (Qu ∧
 (Qu ∧
 (Qu ∧
 (Qb ∧
 (Qb ∧
 (Qu ∧
 (Qu ∧
 (Qu ∧
 (Qu ∧
 (Qu ∧
 (Qb ∧
 (Qu ∧
 (Qu ∧
 (Qu ∧
 (Qu ∧
 (Qu ∧
 (Qb ∧
 (Qu ∧
 (Qu ∧
 (Qu ∧
 (Qu ∧
 (Qu ∧
 (Qb ∧
 (Qu ∧
 (Qu ∧
 (Qu ∧
 (Qu ∧
 (Qu ∧
 (Qb ∧
 (Qu ∧
 (Qu ∧
 (Qu ∧
 (Qu ∧
 (Qb ∧
 ((bcase (decide (0 ≤ x4))
 (bcase (decide (x4 < (↑n1 : Int)))
 (Qv (Pt 1003 (0 + Int.toNat x4 * 2)))
 False)
 False) ∧
 ((Qv (vI x4)) ∧
 ((Qv (Sl 1003 (n1) (n1))) ∧
 True))))))))))))))))))))))))))))))))))))))))))) ∧
 ((Qu ∧
 (Qu ∧
 (Qu ∧
 (Qu ∧
 (Qu ∧
 (Qu ∧
 (Qu ∧
 (Qu ∧
 (Qu ∧
 (Qb ∧
 (Qb ∧
 (Qu ∧
 (Qu ∧
 (Qu ∧
 (Qu ∧
 (Qu ∧
 (Qu ∧
 (Qu ∧
 (Qu ∧
 (Qb ∧
 (Qu ∧
 (Qu ∧
 (Qu ∧
 (Qu ∧
 (Qu ∧
 (Qb ∧
 (Qu ∧
 (Qu ∧
 (Qu ∧
 (Qu ∧
 (Qu ∧
 (Qb ∧
 (Qu ∧
 (Qu ∧
 (Qu ∧
 (Qu ∧
 (Qu ∧
 (Qb ∧
 (Qu ∧
 (Qu ∧
 (Qu ∧
 (Qu ∧
 (Qu ∧
 (Qb ∧
 (Qu ∧
 (Qu ∧
 (Qu ∧
 (Qu ∧
 (Qb ∧
 ((bcase (decide (0 ≤ x4))
 (bcase (decide (x4 < (↑n1 : Int)))
 (Qv (Pt 1003 (0 + Int.toNat x4 * 2)))
 False)
 False) ∧
 ((Qv (vI x4)) ∧
 ((Qv (Sl 1003 (n1) (n1))) ∧
 True)))))))))))))))))))))))))))))))))))))))))))))))))))) ∧
 ((Qb ∧
 (Qu ∧
 (Qu ∧
 (Qu ∧
 (Qu ∧
 (Qu ∧
 (Qu ∧
 (Qu ∧
 (Qu ∧
 (Qb ∧
 (Qu ∧
 (Qu ∧
 (Qu ∧
 (Qu ∧
 (Qu ∧
 (Qu ∧
 (Qu ∧
 (Qu ∧
 (Qb ∧
 (Qu ∧
 (Qu ∧
 (Qu ∧
 (Qu ∧
 (Qu ∧
 (Qb ∧
 (Qu ∧
 (Qu ∧
 (Qu ∧
 (Qu ∧
 (Qu ∧
 (Qb ∧
 (Qu ∧
 (Qu ∧
 (Qu ∧
 (Qu ∧
 (Qu ∧
 (Qb ∧
 (Qu ∧
 (Qu ∧
 (Qu ∧
 (Qu ∧
 (Qu ∧
 (Qb ∧
 (Qu ∧
 (Qu ∧
 (Qu ∧
 (Qu ∧
 (Qb ∧
 ((bcase (decide (0 ≤ x4))
 (bcase (decide (x4 < (↑n1 : Int)))
 (Qv (Pt 1003 (0 + Int.toNat x4 * 2)))
 False)
 False) ∧
 ((Qv (vI x4)) ∧
 ((Qv (Sl 1003 (n1) (n1))) ∧
 True))))))))))))))))))))))))))))))))))))))))))))))))))) ∧
 (k kF)))))))))))))))
 False)
 False)
 (X 0 [(Prod.mk 3 (Pt 1000 0)), (Prod.mk 4 (Pt 1001 0)), (Prod.mk 5 (Pt 1002 0)), (Prod.mk 7 (vI x0)), (Prod.mk 10 (Value.bool (b2)))] [(Prod.mk 1000 (AObj.cells [(vI x5), (vI x6), (vI x7), (vI x8), (vI x9), (vI x10), (Sl 500 (n11) (c12)), (vI x13), (vI x14), (vI x15), (vI x16)] 26 false 1)), (Prod.mk 1001 (AObj.cells [(Value.string (s17)), (Sl 501 (n18) (c19))] 29 false 1)), (Prod.mk 1002 (AObj.cells [(vI x20), (vI x21), (vI x22), (Sl 502 (n23) (c24))] 51 false 1)), (Prod.mk 500 (AObj.sym (l27) false 5)), (Prod.mk 501 (AObj.sym (l28) false 1)), (Prod.mk 502 (AObj.sym (l29) false 1))])) := by kernel_rfl
end Go.Proofs.G5p

/- PassEveryMaterial in data: the temperatures of a material lie in those of all materials. -/
namespace Go.Proofs.G5p
open Go Go.Abs Go.Proofs Go.Str
set_option maxRecDepth 100000
theorem lowP_low {n d : Int} (hd : 0 < d) : lowP (low n d).1 (low n d).2 := by
  obtain ⟨_, _, _, _, h⟩ := low_parts (n := n) hd
  exact ⟨(low_den hd).1, by omega⟩
theorem sayIl {n d : Int} (hd : 0 < d) (hB : d ≤ 1000000000) (hn : -1000000000 ≤ n ∧ n ≤ 1000000000) : Says C5 31 [.agg [dI (low n d).1, dI (low n d).2]] [.val (.bool true)] := by
  have s := low_small hd hB hn
  have := conIl (low n d).1 (low n d).2 (by unfold I64; omega) (by unfold I64; omega)
  rw [decide_eq_true (lowP_low hd)] at this
  exact ⟨this⟩
theorem sayIs {n d : Int} (hd : 0 < d) (hB : d ≤ 1000000000) (hn : -1000000000 ≤ n ∧ n ≤ 1000000000) : Says C5 32 [.agg [dI (low n d).1, dI (low n d).2]] [.val (.bool true)] := ⟨conIst _ _ (low_small hd hB hn)⟩
theorem vq_drop : ∀ (l : List ((Int × Int) × (Int × Int))) (i : Nat), (vq l).drop (i * 4) = vq (l.drop i)
  | l, 0 => by simp
  | [], i + 1 => by simp [vq]
  | p :: r, i + 1 => by
    have := vq_drop r i
    rw [List.drop_succ_cons, ← this, show (i + 1) * 4 = i * 4 + 4 by omega]
    simp only [vq, List.drop_succ_cons]
theorem vq_lo {l : List ((Int × Int) × (Int × Int))} {i : Nat} (h : i < l.length) {a b : Int × Int} (e : l[i] = (a, b)) : At (vq l) (0 + i * 4) 2 [.int .i64 a.1, .int .i64 a.2] := by
  refine ⟨by rw [vq_length]; omega, ?_⟩
  rw [Nat.zero_add, vq_drop, List.drop_eq_getElem_cons h, e]
  rfl
theorem vq_hi {l : List ((Int × Int) × (Int × Int))} {i : Nat} (h : i < l.length) {a b : Int × Int} (e : l[i] = (a, b)) : At (vq l) (0 + i * 4 + 2) 2 [.int .i64 b.1, .int .i64 b.2] := by
  refine ⟨by rw [vq_length]; omega, ?_⟩
  rw [Nat.zero_add, ← List.drop_drop, vq_drop, List.drop_eq_getElem_cons h, e]
  rfl
def eS0 (r : Ru) (nm : List UInt8) (th : List Int) (ms mf mh : Int) (ls : List Int) : Nat × Nat × Nat × Nat → Slots × Blocks := fun q => zE01 (ansD r 0 r.st 2 th) th.length (kpL (rolR r ms mf mh ls) 0 r.st th) th.length q.1 r.w r.st r.fi r.hlo r.hhi r.co r.ss.length q.2.1 r.slo r.shi r.flo r.fhi (bs nm) th.length q.2.2.1 ms mf mh ls.length q.2.2.2 (vp (hts (rolR r ms mf mh ls) th)) (vq (spans r th)) (vs5 r.ss) (vi th) (vi ls)
theorem roundE0 (r : Ru) (nm : List UInt8) (th : List Int) (ms mf mh : Int) (ls : List Int) (i c0 c1 c2 : Nat) (v : VR r th) (hm : (matE r ms mf mh ls).2 = 0) (hi : i ≤ th.length) {L : AtLoop} {B : Bx} {X : Xx} {k : List D → Prop}
    (hB : i + 1 ≤ th.length → B (eS0 r nm th ms mf mh ls (i + 1, c0, c1, c2)).1 (eS0 r nm th ms mf mh ls (i + 1, c0, c1, c2)).2) (hX : X 0 [(3, (Value.pointer (some ⟨1000, 0, none⟩))), (4, (Value.pointer (some ⟨1001, 0, none⟩))), (5, (Value.pointer (some ⟨1002, 0, none⟩))), (7, .int .i64 (ansD r 0 r.st 2 th)), (10, .bool (kpL (rolR r ms mf mh ls) 0 r.st th))] [(1000, .cells [vI r.w, vI r.st, vI r.fi, vI r.hlo, vI r.hhi, vI r.co, .slice (some ⟨500, 0, none⟩) r.ss.length c0, vI r.slo, vI r.shi, vI r.flo, vI r.fhi] 26 false 1), (1001, .cells [.string (bs nm), .slice (some ⟨501, 0, none⟩) th.length c1] 29 false 1), (1002, .cells [vI ms, vI mf, vI mh, .slice (some ⟨502, 0, none⟩) ls.length c2] 51 false 1), (500, .sym (vs5 r.ss) false 5), (501, .sym (vi th) false 1), (502, .sym (vi ls) false 1)]) :
    wpRound Try.prog (hE2 C5) L 5 0 (eS0 r nm th ms mf mh ls (i, c0, c1, c2)).1 (eS0 r nm th ms mf mh ls (i, c0, c1, c2)).2 B X (dataK k) := by
  show rE01 C5 L (ansD r 0 r.st 2 th) th.length (kpL (rolR r ms mf mh ls) 0 r.st th) th.length i r.w r.st r.fi r.hlo r.hhi r.co r.ss.length c0 r.slo r.shi r.flo r.fhi (bs nm) th.length c1 ms mf mh ls.length c2 (vp (hts (rolR r ms mf mh ls) th)) (vq (spans r th)) (vs5 r.ss) (vi th) (vi ls) B X k
  rw [rE01_text]
  have h6 := v.v.n6
  have hlen := v.v.len
  refine bc_dec (fun h => ?_) (fun h => hX)
  have hi2 : i < th.length := by omega
  obtain ⟨mB, hl, hs⟩ := matE_ok hm
  have w := vr_mat v hm
  have hst := desc_le i hi2 v.v.desc
  have bd := (v.dr hi2).ht
  have bR := (w.dr hi2).ht
  have hw := hL_rol (k := i) mB hl hs hst
  have i1 : i < (hts (rolR r ms mf mh ls) th).length := by rw [hts_len]; exact hi2
  have i2 : i < (spans r th).length := by rw [spans_len]; exact hi2
  have a1 := vp_two (hts (rolR r ms mf mh ls) th) i i1
  rw [hts_at hi2] at a1
  have a2 := vq_lo i2 (spans_at hi2)
  have a3 : At (vq (spans r th)) (Go.Addr.off { block := 1004, off := 0 + i * 4 } + 2) 2 _ := vq_hi i2 (spans_at hi2)
  have n1 : -1000000000 ≤ hL (rolR r ms mf mh ls) i th[i] ∧ hL (rolR r ms mf mh ls) i th[i] ≤ 1000000000 := by omega
  have n2 : -1000000000 ≤ hL r i th[i] ∧ hL r i th[i] ≤ 1000000000 := by omega
  have n3 : -1000000000 ≤ hH r i th[i] ∧ hH r i th[i] ≤ 1000000000 := by omega
  have d0 : (0 : Int) < 100 := by decide
  have d1 : (100 : Int) ≤ 1000000000 := by decide
  have s1 := low_small d0 d1 n1
  have s2 := low_small d0 d1 n2
  have s3 := low_small d0 d1 n3
  have q1 := (low_le (n := hL r i th[i]) (m := hL (rolR r ms mf mh ls) i th[i]) d0 d0).2 (by omega)
  have q2 := (low_le (n := hL (rolR r ms mf mh ls) i th[i]) (m := hH r i th[i]) d0 d0).2 (by omega)
  have k1 := conCm _ _ _ _ s1 s2
  have k2 := conCm _ _ _ _ s1 s3
  simp only [bc_t (show (0 : Int) ≤ (i : Int) by omega), bc_t h, Int.toNat_natCast, at2 a1, at2 a2, at2 a3, Qv, eq_self, true_and, and_true]
  refine .inl ⟨sayIl d0 d1 n1, .inl ⟨sayIs d0 d1 n1, .inl ⟨sayIl d0 d1 n2, .inl ⟨sayIs d0 d1 n2, .inl ⟨sayIl d0 d1 n3, .inl ⟨sayIs d0 d1 n3, _, ⟨k1⟩, ?_⟩⟩⟩⟩⟩⟩
  have z1 : ¬ ((if (low (hL (rolR r ms mf mh ls) i th[i]) 100).1 * (low (hL r i th[i]) 100).2 < (low (hL r i th[i]) 100).1 * (low (hL (rolR r ms mf mh ls) i th[i]) 100).2 then (-1 : Int) else if (low (hL (rolR r ms mf mh ls) i th[i]) 100).1 * (low (hL r i th[i]) 100).2 > (low (hL r i th[i]) 100).1 * (low (hL (rolR r ms mf mh ls) i th[i]) 100).2 then 1 else 0) < 0) := by
    rw [if_neg (by omega)]; split <;> omega
  have z2 : ¬ ((if (low (hL (rolR r ms mf mh ls) i th[i]) 100).1 * (low (hH r i th[i]) 100).2 < (low (hH r i th[i]) 100).1 * (low (hL (rolR r ms mf mh ls) i th[i]) 100).2 then (-1 : Int) else if (low (hL (rolR r ms mf mh ls) i th[i]) 100).1 * (low (hH r i th[i]) 100).2 > (low (hH r i th[i]) 100).1 * (low (hL (rolR r ms mf mh ls) i th[i]) 100).2 then 1 else 0) > 0) := by
    split
    · omega
    · rw [if_neg (by omega)]; omega
  simp only [bc_f z1, bc_f z2, true_and, eq_self]
  refine ⟨_, ⟨k2⟩, ?_⟩
  simp only [bc_f z2, true_and, eq_self]
  have := hB hi2
  simp only [eS0] at this
  rw [w64 (by omega) (by omega)]
  exact this
end Go.Proofs.G5p
