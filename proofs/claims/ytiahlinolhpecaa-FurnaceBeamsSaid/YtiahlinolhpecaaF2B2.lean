/- Beams: their routes, the zone at a tick, the latest charge. -/
import Derived.Test.YtiahlinolhpecaaF2B
namespace Go.Proofs.B
open Go Go.Abs Go.Proofs
set_option maxRecDepth 100000
/-- The zones of a route, if none has too many steps. -/
def rt : List Int → List Int → Int → Option (List (Int × Int))
  | p :: ps, s :: ss, b => if p * b > 200 then none else (rt ps ss b).map fun l => (s, p * b) :: l
  | _, _, _ => some []
def rtRes (n : Nat) : Option (List (Int × Int)) → List (Int × Int) → List D
  | none, _ => [.nil, dI 8]
  | some l, out => [.sl n 2 (vp (out ++ l)), dI 0]
def routeP (ps ss : List Int) (beat : Int) : List D :=
  if bErr ps beat ≠ 0 then [.nil, dI (bErr ps beat)] else if ss.length ≠ ps.length then [.nil, dI 10] else if tE ss ≠ 0 then [.nil, dI 2] else rtRes ps.length (rt ps ss beat) []
theorem rt_len : ∀ {ps ss : List Int} {b : Int} {l : List (Int × Int)}, rt ps ss b = some l → ps.length = ss.length → l.length = ps.length
  | [], [], _, _, h, _ => by simp only [rt, Option.some.injEq] at h; subst h; rfl
  | p :: ps, s :: ss, b, l, h, hl => by
    simp only [rt] at h
    split at h
    · cases h
    · obtain ⟨r, hr, rfl⟩ := Option.map_eq_some_iff.1 h
      simp only [List.length_cons]
      rw [rt_len hr (by simpa using hl)]
theorem vp_app : ∀ (a b : List (Int × Int)), vp (a ++ b) = vp a ++ vp b
  | [], _ => rfl
  | p :: r, b => by simp only [List.cons_append, vp, vp_app r b]
theorem step_out {out : List (Int × Int)} {i : Nat} (h : out.length = i) (s q : Int) : List.take (i * 2) (List.drop 0 (vp out)) ++ [.int .i64 s, .int .i64 q] = vp (out ++ [(s, q)]) := by
  rw [← h, vp_whole, vp_app]; rfl
theorem rt_step {ps ss : List Int} {beat : Int} {i : Nat} (h1 : i < ps.length) (h2 : i < ss.length) : rt (ps.drop i) (ss.drop i) beat = if ps[i] * beat > 200 then none else (rt (ps.drop (i + 1)) (ss.drop (i + 1)) beat).map fun l => (ss[i], ps[i] * beat) :: l := by
  rw [List.drop_eq_getElem_cons h1, List.drop_eq_getElem_cons h2]; rfl
theorem rt_end {ps ss : List Int} {beat : Int} : rt (ps.drop ps.length) ss beat = some [] := by
  rw [List.drop_length]; cases ss <;> rfl

/-- The states of a loop that collects zones. -/
abbrev Xr := (Nat × List (Int × Int)) × (Nat × Nat)
theorem con63 {ps ss : List Int} {beat : Int} (hlen : ps.length < 1000000000) : Con Try.prog 63 [dBeam ps beat, .sl ss.length 1 (vi ss)] (routeP ps ss beat) := by
  let rs := routeP ps ss beat
  let inv : Xr → Prop := fun x => ValidBeam ps beat ∧ ss.length = ps.length ∧ x.1.1 ≤ ps.length ∧ x.1.2.length = x.1.1 ∧ rs = rtRes ps.length (rt (ps.drop x.1.1) (ss.drop x.1.1) beat) x.1.2
  let st : Xr → Slots × Blocks := fun x => match x.1.1 with
    | 0 => (s63 ss.length x.2.2 (.slice none 0 0) 0, [bx ps.length x.2.1 (vi ps) beat, T501 (vi ss), A500 (vi ps)])
    | i + 1 => (s63 ss.length x.2.2 (.slice (some ⟨1001, 0, none⟩) (i + 1) (i + 1)) ((i + 1 : Nat) : Int), [bx ps.length x.2.1 (vi ps) beat, (1001, .sym (vp x.1.2) true 2), T501 (vi ss), A500 (vi ps)])
  refine con_of (L := fun _ s b => ∃ x, inv x ∧ st x = (s, b)) hokB mixed Try.func63 rfl (by show 2 ≤ 500; omega) rfl (ids := [0]) (by kernel_rfl) rfl (fun caps => ?_) (fun id hid => ?_)
  · show g63 _ _ ps.length (caps 500) (vi ps) beat ss.length (caps 501) (vi ss) _
    rw [g63_text]
    obtain ⟨a, ha⟩ := beamRes_shape ps beat
    have h61 := con61g ps beat hlen
    rw [ha] at h61
    refine bc_yes (by simp) ⟨a, bErr ps beat, ⟨by rw [vi_whole]; exact h61⟩, bc_bne (fun h => ?_) (fun h0 => ?_)⟩
    · rw [routeP, if_pos h]
    have hv := bErr_valid h0
    refine bc_bne (fun h => ?_) (fun hl => bc_yes (by simp) ?_)
    · rw [routeP, if_neg (by simpa using h0), if_pos (by omega)]
    have hl : ss.length = ps.length := by omega
    have h5 := hv.few
    have h0' := hv.some
    refine ⟨tE ss, ⟨by rw [vi_whole]; exact con89l ss (fun e => by rw [e] at hl; simp at hl; omega) (by omega)⟩, bc_bne (fun h => ?_) (fun ht => ?_)⟩
    · have e : tE ss = 2 := by unfold tE at h ⊢; split <;> simp_all
      rw [e, routeP, if_neg (by simpa using h0), if_neg (by simpa using hl), if_pos (by rw [e]; decide)]
    · refine ⟨((0, []), (caps 500, caps 501)), ⟨hv, hl, Nat.zero_le _, rfl, ?_⟩, rfl⟩
      show routeP ps ss beat = _
      rw [routeP, if_neg (by simpa using h0), if_neg (by simpa using hl), if_neg (by simpa using ht)]
      rfl
  · obtain rfl := List.mem_singleton.1 hid
    refine ⟨Xr, st, inv, fun x => ps.length - x.1.1, ⟨fun s b h => h, by kernel_rfl, ?_⟩⟩
    rintro ⟨⟨i, out⟩, c1, c2⟩ ⟨hv, hl, hi, ho, hr⟩
    have h5 := hv.few
    have hb1 := hv.b1
    have hb2 := hv.b2
    simp only at hi ho hr
    cases i with
    | zero =>
      obtain rfl : out = [] := List.length_eq_zero_iff.1 ho
      show r63 _ _ ps.length c1 (vi ps) beat ss.length c2 (vi ss) ((0 : Nat) : Int) _ _ _
      rw [r63_text]
      have h0 := hv.some
      have hp := hv.all ps[0] (List.getElem_mem h0)
      have hm0 : 0 ≤ ps[0] * beat := Int.mul_nonneg (by omega) (by omega)
      have hm1 : ps[0] * beat ≤ 200 * 1000 := Int.mul_le_mul hp.2 hb2 (by omega) (by omega)
      have hs : 0 < ss.length := by omega
      rw [rt_step h0 hs] at hr
      refine bc_yes (by omega) (bc_yes (by omega) (bc_yes (by omega) ⟨ss[0], vi_at ss 0 hs, bc_yes (by omega) (bc_yes (by omega) ⟨ps[0], vi_at ps 0 h0, ?_⟩)⟩))
      rw [w64 (z := ps[0] * beat) (by omega) (by omega)]
      refine ⟨⟨rfl, rfl, rfl, ⟨ps[0], vi_at ps 0 h0, rfl⟩, bc_yes (by omega) (bc_yes (by omega) rfl), rfl, rfl, rfl, trivial⟩, trivial, bc_dec (fun h => ?_) (fun h => ?_)⟩
      · rw [if_pos h] at hr; exact hr.symm
      · rw [if_neg h] at hr
        refine ⟨((1, [(ss[0], ps[0] * beat)]), (c1, c2)), ⟨hv, hl, by show 1 ≤ ps.length; omega, rfl, ?_⟩, by show ps.length - 1 < ps.length - 0; omega, rfl⟩
        rw [hr]
        cases rt (ps.drop 1) (ss.drop 1) beat <;> rfl
    | succ i =>
      show r63b _ _ ps.length c1 (vi ps) beat ss.length c2 (vi ss) (i + 1) (vp out) ((i + 1 : Nat) : Int) _ _ _
      rw [r63b_text]
      refine bc_dec (fun h => ?_) (fun h => ?_)
      · have hi' : i + 1 < ps.length := by omega
        have hs : i + 1 < ss.length := by omega
        have hp := hv.all ps[i + 1] (List.getElem_mem hi')
        have hm0 : 0 ≤ ps[i + 1] * beat := Int.mul_nonneg (by omega) (by omega)
        have hm1 : ps[i + 1] * beat ≤ 200 * 1000 := Int.mul_le_mul hp.2 hb2 (by omega) (by omega)
        rw [rt_step hi' hs] at hr
        refine bc_yes (by omega) (bc_yes h ⟨ss[i + 1], vi_at ss (i + 1) hs, bc_yes (by omega) (bc_yes (by omega) ⟨ps[i + 1], vi_at ps (i + 1) hi', ?_⟩)⟩)
        rw [w64 (z := ps[i + 1] * beat) (by omega) (by omega)]
        refine ⟨⟨rfl, rfl, rfl, ⟨ps[i + 1], vi_at ps (i + 1) hi', rfl⟩, bc_yes (by omega) (bc_yes (by omega) rfl), rfl, rfl, rfl, trivial⟩, trivial, bc_dec (fun h => ?_) (fun h => ?_)⟩
        · rw [if_pos h] at hr; exact hr.symm
        · rw [if_neg h] at hr
          refine bc_yes (by omega) (bc_yes (by omega) (bc_yes (by omega) (bc_yes (by rw [vp_length]; omega) (bc_yes (by rw [vp_length]; omega) ?_))))
          rw [step_out ho]
          refine ⟨((i + 1 + 1, out ++ [(ss[i + 1], ps[i + 1] * beat)]), (c1, c2)), ⟨hv, hl, hi', by simp [ho], ?_⟩, by show ps.length - (i + 1 + 1) < ps.length - (i + 1); omega, ?_⟩
          · rw [hr]
            show _ = rtRes ps.length (rt (ps.drop (i + 1 + 1)) (ss.drop (i + 1 + 1)) beat) _
            cases rt (ps.drop (i + 1 + 1)) (ss.drop (i + 1 + 1)) beat with
            | none => rfl
            | some l => simp [rtRes]
          · rw [w64 (by omega) (by omega)]; rfl
      · show (if 0 = 0 then _ else _)
        rw [if_pos rfl]
        show n63b _ _ (i + 1) (vp out) _
        rw [n63b_text]
        have e : i + 1 = ps.length := by omega
        rw [e, rt_end] at hr
        refine ⟨⟨rfl, by rw [vp_length, ho]⟩, Eq.trans ?_ hr.symm⟩
        simp [rtRes, e]

/-- (valid beams) -/
def refRoute (ps ss : List Int) (beat : Int) : List D :=
  if ss.length ≠ ps.length then [.nil, dI 10] else if tE ss ≠ 0 then [.nil, dI 2] else rtRes ps.length (rt ps ss beat) []
theorem tE_split {l : List Int} {i : Nat} (h : i < l.length) (hp : ∀ x ∈ l.take i, 0 ≤ x ∧ x ≤ 20000) : (∀ x ∈ l.take (i + 1), 0 ≤ x ∧ x ≤ 20000) ↔ (0 ≤ l[i] ∧ l[i] ≤ 20000) := by
  rw [List.take_succ_eq_append_getElem h]
  constructor
  · intro hx; exact hx _ (List.mem_append_right _ (List.mem_singleton.2 rfl))
  · intro hx x hm
    rcases List.mem_append.1 hm with hm | hm
    · exact hp x hm
    · rw [List.mem_singleton.1 hm]; exact hx
theorem con67 {ps ss : List Int} {beat : Int} (hv : ValidBeam ps beat) : Con Try.prog 67 [dBeam ps beat, .sl ss.length 1 (vi ss)] (refRoute ps ss beat) := by
  have h5 := hv.few
  have hb1 := hv.b1
  have hb2 := hv.b2
  let rs := refRoute ps ss beat
  let inv0 : Nat × (Nat × Nat) → Prop := fun x => ss.length = ps.length ∧ x.1 ≤ ss.length ∧ ∀ y ∈ ss.take x.1, 0 ≤ y ∧ y ≤ 20000
  let st0 : Nat × (Nat × Nat) → Slots × Blocks := fun x => (s67 ss.length x.2.2 x.1, [T501 (vi ss), bx ps.length x.2.1 (vi ps) beat, A500 (vi ps)])
  let inv : Xr → Prop := fun x => ss.length = ps.length ∧ x.1.1 ≤ ps.length ∧ x.1.2.length = x.1.1 ∧ rs = rtRes ps.length (rt (ps.drop x.1.1) (ss.drop x.1.1) beat) x.1.2
  let st : Xr → Slots × Blocks := fun x => match x.1.1 with
    | 0 => (s67b ss.length x.2.2 (.slice none 0 0) 0, [T501 (vi ss), bx ps.length x.2.1 (vi ps) beat, A500 (vi ps)])
    | i + 1 => (s67b ss.length x.2.2 (.slice (some ⟨1001, 0, none⟩) (i + 1) (i + 1)) ((i + 1 : Nat) : Int), [T501 (vi ss), bx ps.length x.2.1 (vi ps) beat, (1001, .sym (vp x.1.2) true 2), A500 (vi ps)])
  refine con_of (L := fun id s b => if id = 0 then ∃ x, inv0 x ∧ st0 x = (s, b) else ∃ x, inv x ∧ st x = (s, b)) hokB mixed Try.func67 rfl (by show 2 ≤ 500; omega) rfl (ids := [0, 2]) (by kernel_rfl) rfl (fun caps => ?_) (fun id hid => ?_)
  · show g67 _ _ ps.length (caps 500) (vi ps) beat ss.length (caps 501) (vi ss) _
    rw [g67_text]
    refine bc_bne (fun h => ?_) (fun hl => ?_)
    · rw [refRoute, if_pos (by omega)]
    · show (if 0 = 0 then _ else _)
      rw [if_pos rfl]
      exact ⟨(0, (caps 500, caps 501)), ⟨by omega, Nat.zero_le _, by simp⟩, rfl⟩
  · have hid' : id = 0 ∨ id = 2 := by simpa using hid
    rcases hid' with rfl | rfl
    · refine ⟨_, st0, inv0, fun x => ss.length - x.1, ⟨fun s b h => by simpa using h, by kernel_rfl, ?_⟩⟩
      rintro ⟨i, c1, c2⟩ ⟨hl, hi, hall⟩
      simp only at hi hall
      show r67 _ _ ps.length c1 (vi ps) beat ss.length c2 (vi ss) i _ _ _
      rw [r67_text]
      refine bc_dec (fun h => ?_) (fun h => ?_)
      · have hi' : i < ss.length := by omega
        have hsp := tE_split hi' hall
        have hbad : ¬ (0 ≤ ss[i] ∧ ss[i] ≤ 20000) → [D.nil, dI 2] = refRoute ps ss beat := by
          intro hn
          have : tE ss = 2 := by
            unfold tE
            rw [if_neg (fun ha => hn (ha _ (List.getElem_mem hi')))]
          rw [refRoute, if_neg (by omega), if_pos (by rw [this]; decide)]
        refine bc_yes (by omega) (bc_yes h ⟨ss[i], vi_at ss i hi', bc_dec (fun h1 => bc_dec (fun h2 => ?_) (fun h2 => hbad (by omega))) (fun h1 => hbad (by omega))⟩)
        refine ⟨(i + 1, (c1, c2)), ⟨hl, hi', hsp.2 ⟨h1, h2⟩⟩, by show ss.length - (i + 1) < ss.length - i; omega, ?_⟩
        rw [w64 (by omega) (by omega)]; rfl
      · show (if 0 = 0 then _ else _)
        rw [if_pos rfl]
        show n67 _ _ ps.length c1 (vi ps) beat ss.length c2 (vi ss) _
        rw [n67_text]
        show (if 2 = 0 then _ else _)
        rw [if_neg (by decide)]
        refine ⟨((0, []), (c1, c2)), ⟨hl, Nat.zero_le _, rfl, ?_⟩, rfl⟩
        have e : i = ss.length := by omega
        have ht : tE ss = 0 := by
          unfold tE
          rw [if_pos (by rw [e, List.take_length] at hall; exact hall)]
        show refRoute ps ss beat = _
        rw [refRoute, if_neg (by omega), if_neg (by rw [ht]; decide)]
        rfl
    · refine ⟨Xr, st, inv, fun x => ps.length - x.1.1, ⟨fun s b h => by simpa using h, by kernel_rfl, ?_⟩⟩
      rintro ⟨⟨i, out⟩, c1, c2⟩ ⟨hl, hi, ho, hr⟩
      simp only at hi ho hr
      cases i with
      | zero =>
        obtain rfl : out = [] := List.length_eq_zero_iff.1 ho
        show r67n _ _ ps.length c1 (vi ps) beat ss.length c2 (vi ss) ((0 : Nat) : Int) _ _ _
        rw [r67n_text]
        have h0 := hv.some
        have hp := hv.all ps[0] (List.getElem_mem h0)
        have hm0 : 0 ≤ ps[0] * beat := Int.mul_nonneg (by omega) (by omega)
        have hm1 : ps[0] * beat ≤ 200 * 1000 := Int.mul_le_mul hp.2 hb2 (by omega) (by omega)
        have hs : 0 < ss.length := by omega
        rw [rt_step h0 hs] at hr
        refine bc_yes (by omega) (bc_yes (by omega) (bc_yes (by omega) ⟨ps[0], vi_at ps 0 h0, ?_⟩))
        rw [w64 (z := ps[0] * beat) (by omega) (by omega)]
        refine ⟨⟨rfl, rfl, rfl, ⟨ps[0], vi_at ps 0 h0, rfl⟩, bc_yes (by omega) (bc_yes (by omega) rfl), rfl, rfl, rfl, trivial⟩, trivial, bc_dec (fun h => ?_) (fun h => ?_)⟩
        · rw [if_pos h] at hr; exact hr.symm
        · rw [if_neg h] at hr
          refine bc_yes (by omega) (bc_yes (by omega) ⟨ss[0], vi_at ss 0 hs, ?_⟩)
          refine ⟨((1, [(ss[0], ps[0] * beat)]), (c1, c2)), ⟨hl, by show 1 ≤ ps.length; omega, rfl, ?_⟩, by show ps.length - 1 < ps.length - 0; omega, rfl⟩
          rw [hr]
          cases rt (ps.drop 1) (ss.drop 1) beat <;> rfl
      | succ i =>
        show r67b _ _ ps.length c1 (vi ps) beat ss.length c2 (vi ss) (i + 1) (vp out) ((i + 1 : Nat) : Int) _ _ _
        rw [r67b_text]
        refine bc_dec (fun h => ?_) (fun h => ?_)
        · have hi' : i + 1 < ps.length := by omega
          have hs : i + 1 < ss.length := by omega
          have hp := hv.all ps[i + 1] (List.getElem_mem hi')
          have hm0 : 0 ≤ ps[i + 1] * beat := Int.mul_nonneg (by omega) (by omega)
          have hm1 : ps[i + 1] * beat ≤ 200 * 1000 := Int.mul_le_mul hp.2 hb2 (by omega) (by omega)
          rw [rt_step hi' hs] at hr
          refine bc_yes (by omega) (bc_yes (by omega) ⟨ps[i + 1], vi_at ps (i + 1) hi', ?_⟩)
          rw [w64 (z := ps[i + 1] * beat) (by omega) (by omega)]
          refine ⟨⟨rfl, rfl, rfl, ⟨ps[i + 1], vi_at ps (i + 1) hi', rfl⟩, bc_yes (by omega) (bc_yes (by omega) rfl), rfl, rfl, rfl, trivial⟩, trivial, bc_dec (fun h => ?_) (fun h => ?_)⟩
          · rw [if_pos h] at hr; exact hr.symm
          · rw [if_neg h] at hr
            refine bc_yes (by omega) (bc_yes (by omega) ⟨ss[i + 1], vi_at ss (i + 1) hs, ?_⟩)
            refine bc_yes (by omega) (bc_yes (by omega) (bc_yes (by omega) (bc_yes (by rw [vp_length]; omega) (bc_yes (by rw [vp_length]; omega) ?_))))
            rw [step_out ho]
            refine ⟨((i + 1 + 1, out ++ [(ss[i + 1], ps[i + 1] * beat)]), (c1, c2)), ⟨hl, hi', by simp [ho], ?_⟩, by show ps.length - (i + 1 + 1) < ps.length - (i + 1); omega, ?_⟩
            · rw [hr]
              show _ = rtRes ps.length (rt (ps.drop (i + 1 + 1)) (ss.drop (i + 1 + 1)) beat) _
              cases rt (ps.drop (i + 1 + 1)) (ss.drop (i + 1 + 1)) beat with
              | none => rfl
              | some l => simp [rtRes]
            · rw [w64 (by omega) (by omega)]; rfl
        · show (if 2 = 2 then _ else _)
          rw [if_pos rfl]
          show n67b _ _ (i + 1) (vp out) _
          rw [n67b_text]
          have e : i + 1 = ps.length := by omega
          rw [e, rt_end] at hr
          refine ⟨⟨rfl, by rw [vp_length, ho]⟩, Eq.trans ?_ hr.symm⟩
          simp [rtRes, e]

/-- Two lists of zones that are one. -/
theorem con70n : Con Try.prog 70 [.nil, .nil] [.val (.bool true)] := by
  let inv : Unit → Prop := fun _ => True
  let st : Unit → Slots × Blocks := fun _ => (s70n 0, [])
  refine con_of (L := fun _ s b => ∃ x, inv x ∧ st x = (s, b)) hokB mixed Try.func70 rfl (by show 0 ≤ 500; omega) rfl (ids := [0]) (by kernel_rfl) rfl (fun caps => ?_) (fun id hid => ?_)
  · show g70n _ _ _
    rw [g70n_text]
    exact ⟨(), trivial, rfl⟩
  · obtain rfl := List.mem_singleton.1 hid
    refine ⟨_, st, inv, fun _ => 0, ⟨fun s b h => h, by kernel_rfl, ?_⟩⟩
    rintro ⟨⟩ _
    show r70n _ _ 0 _ _ _
    rw [r70n_text]
    refine bc_no (by omega) ?_
    show (if 0 = 0 then _ else _)
    rw [if_pos rfl]
    show n70 _ _ _
    rw [n70_text]
theorem eq2t {a b : Int} : (if Bool.true = Bool.true then !(a == a && (b == b && Bool.true)) else a == a && (b == b && Bool.true)) = false := by simp
theorem con70 (zs : List (Int × Int)) (hlen : zs.length < 1000000000) : Con Try.prog 70 [.sl zs.length 2 (vp zs), .sl zs.length 2 (vp zs)] [.val (.bool true)] := by
  let inv : Nat × (Nat × Nat) → Prop := fun x => x.1 ≤ zs.length
  let st : Nat × (Nat × Nat) → Slots × Blocks := fun x => (s70 zs.length x.2.1 zs.length x.2.2 x.1, [(500, .sym (vp zs) false 2), (501, .sym (vp zs) false 2)])
  refine con_of (L := fun _ s b => ∃ x, inv x ∧ st x = (s, b)) hokB mixed Try.func70 rfl (by show 2 ≤ 500; omega) rfl (ids := [0]) (by kernel_rfl) rfl (fun caps => ?_) (fun id hid => ?_)
  · show g70 _ _ zs.length (caps 500) (vp zs) zs.length (caps 501) (vp zs) _
    rw [g70_text]
    exact bc_bne (fun h => absurd rfl h) (fun _ => ⟨(0, (caps 500, caps 501)), Nat.zero_le _, rfl⟩)
  · obtain rfl := List.mem_singleton.1 hid
    refine ⟨_, st, inv, fun x => zs.length - x.1, ⟨fun s b h => h, by kernel_rfl, ?_⟩⟩
    rintro ⟨i, c1, c2⟩ hi
    have hi : i ≤ zs.length := hi
    show r70 _ _ zs.length c1 (vp zs) zs.length c2 (vp zs) i _ _ _
    rw [r70_text]
    refine bc_dec (fun h => ?_) (fun h => ?_)
    · have hi' : i < zs.length := by omega
      have h2 := vp_two zs i hi'
      refine bc_yes (by omega) (bc_yes h ⟨zs[i].1, zs[i].2, h2, bc_yes (by omega) (bc_yes h ⟨zs[i].1, zs[i].2, h2, bc_false eq2t ?_⟩)⟩)
      refine ⟨⟨bc_false eq2t rfl, ⟨_, _, h2, rfl⟩, bc_yes (by omega) (bc_yes h rfl), rfl, rfl, ⟨_, _, h2, rfl⟩, bc_yes (by omega) (bc_yes h rfl), rfl, rfl, trivial⟩, ?_⟩
      refine ⟨(i + 1, (c1, c2)), by show i + 1 ≤ zs.length; omega, by show zs.length - (i + 1) < zs.length - i; omega, ?_⟩
      rw [w64 (by omega) (by omega)]; rfl
    · show (if 0 = 0 then _ else _)
      rw [if_pos rfl]
      show n70 _ _ _
      rw [n70_text]
end Go.Proofs.B
