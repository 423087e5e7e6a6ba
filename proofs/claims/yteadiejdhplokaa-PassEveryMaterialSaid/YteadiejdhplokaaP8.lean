/- Texts of the proof, put together: GpP22, GpPEK. -/
import Derived.Test.YteadiejdhplokaaP7
import Derived.Test.YteadiejdhplokaaP6
/- PassEveryMaterial in data: the rules for one material, and the wider ones, and the law. -/
namespace Go.Proofs.G5p
open Go Go.Abs Go.Proofs Go.Str
set_option maxRecDepth 100000
theorem listSet_wd : ∀ (l : List Fv) (k : Nat) (w : Int) (h : k < l.length), listSet (listSet (vs5 l) (0 + k * 5 + 1) [vI w]) (0 + k * 5 + 2) [vI w] = vs5 (l.set k ⟨l[k].a, w, w, l[k].d, l[k].e⟩)
  | p :: r, 0, w, _ => by simp [listSet, vs5_cons, Fv.row]
  | p :: r, k + 1, w, h => by
    have ih := listSet_wd r k w (by simpa using h)
    rw [Nat.zero_add] at ih ⊢
    have e : (k + 1) * 5 + 1 = (k * 5 + 1) + 5 := by omega
    have e2 : (k + 1) * 5 + 2 = (k * 5 + 2) + 5 := by omega
    rw [e, e2, List.set_cons_succ, vs5_cons, vs5_cons]
    simp only [List.getElem_cons_succ]
    rw [← ih]
    have sh : ∀ (a b c d f : Value) (m : List Value) (n : Nat) (v : List Value), listSet (a :: b :: c :: d :: f :: m) (n + 5) v = a :: b :: c :: d :: f :: listSet m n v := by
      intro a b c d f m n v
      simp only [listSet]
      rw [show n + 5 + v.length = (n + v.length) + 5 by omega]
      rfl
    simp only [Fv.row, List.cons_append, List.nil_append, sh]
theorem listSet_len {l : List Value} {k : Nat} {v : List Value} (h : k + v.length ≤ l.length) : (listSet l k v).length = l.length := by
  simp only [listSet, List.length_append, List.length_take, List.length_drop]; omega
section
variable (r : Ru) (nm : List UInt8) (th : List Int) (ms mf mh : Int) (ls : List Int)
abbrev EN : Int := ansD r 0 r.st 2 th
abbrev EB : Bool := kpL (rolR r ms mf mh ls) 0 r.st th
def GoodM : Prop := (chk r).2 = 0 ∧ (schE r nm th).2 = 0 ∧ (matE r ms mf mh ls).2 = 0
def eS2 : Nat × Nat × Nat × Nat → Slots × Blocks := fun q => zE03 (EN r th) (EB r th ms mf mh ls) q.1 r.w r.st r.fi r.hlo r.hhi r.co r.ss.length q.2.1 r.slo r.shi r.flo r.fhi (bs nm) th.length q.2.2.1 ms mf mh ls.length q.2.2.2 r.w r.st r.fi mh mh r.co r.ss.length ms ms mf mf r.w r.st r.fi r.hlo r.hhi 0 r.ss.length r.slo r.shi r.flo r.fhi (vs5 r.ss) (vi th) (vi ls) (vs5 (rolL r.ss (ls.take q.1))) (vs5 (wdI q.1 r.ss))
def eL : AtLoop := fun id s b => match id with
  | 0 => ∃ q : Nat × Nat × Nat × Nat, (GoodM r nm th ms mf mh ls ∧ q.1 ≤ th.length) ∧ eS0 r nm th ms mf mh ls q = (s, b)
  | _ => ∃ q : Nat × Nat × Nat × Nat, (GoodM r nm th ms mf mh ls ∧ q.1 ≤ th.length) ∧ eS2 r nm th ms mf mh ls q = (s, b)
end
theorem goodM_vr {r : Ru} {nm : List UInt8} {th : List Int} {ms mf mh : Int} {ls : List Int} (g : GoodM r nm th ms mf mh ls) : VR r th := vr_of g.1 g.2.1
theorem goodM_kp {r : Ru} {nm : List UInt8} {th : List Int} {ms mf mh : Int} {ls : List Int} (g : GoodM r nm th ms mf mh ls) : (EN r th = 2 → EB r th ms mf mh ls = true) ∧ (EN r th = 0 → EB r th ms mf mh ls = false) := by
  have v := goodM_vr g
  obtain ⟨hB, hl, hs⟩ := matE_ok g.2.2
  exact ⟨fun h => ans_yes hB hl hs v.v.rng.1.1 v.sts th 0 r.st 2 (by have := v.v.len; omega) v.v.desc (Int.le_refl _) h, fun h => ans_no hB hl hs v.v.rng.1.1 v.sts th 0 r.st 2 (by have := v.v.len; omega) v.v.desc (Int.le_refl _) (by decide) h⟩
theorem endE (r : Ru) (nm : List UInt8) (th : List Int) (ms mf mh : Int) (ls : List Int) (c1 : Nat) (g : GoodM r nm th ms mf mh ls) (L : AtLoop) :
    nE04 C5 L (EN r th) (EB r th ms mf mh ls) (bs nm) th.length c1 r.w r.st r.fi mh mh r.co r.ss.length ms ms mf mf r.w r.st r.fi r.hlo r.hhi 0 r.ss.length r.slo r.shi r.flo r.fhi (vi th) (vs5 (rolL r.ss ls)) (vs5 (wdI r.ss.length r.ss)) (· = [.val (.bool true)]) := by
  have v := goodM_vr g
  obtain ⟨g1, g2, g3⟩ := g
  obtain ⟨hB, hl, hs⟩ := matE_ok g3
  have h6 := v.v.n6
  have hlen := v.v.len
  rw [nE04_text]
  have e1 : 0 + r.ss.length * 5 ≤ (vs5 (rolL r.ss ls)).length := by rw [vs5_length, rolL_len]; omega
  have e2 : 0 + r.ss.length * 5 ≤ (vs5 (wdI r.ss.length r.ss)).length := by rw [vs5_length, wdI_len]; omega
  have w1 : List.take (r.ss.length * 5) (List.drop 0 (vs5 (rolL r.ss ls))) = vs5 (rolL r.ss ls) := by have := v5_whole (rolL r.ss ls); rw [rolL_len] at this; exact this
  have w2 : List.take (r.ss.length * 5) (List.drop 0 (vs5 (wdI r.ss.length r.ss))) = vs5 (wdI r.ss.length r.ss) := by have := v5_whole (wdI r.ss.length r.ss); rw [wdI_len] at this; exact this
  have d1 : (rolR r ms mf mh ls).d = .agg [dI r.w, dI r.st, dI r.fi, dI mh, dI mh, dI r.co, .sl r.ss.length 5 (vs5 (rolL r.ss ls)), dI ms, dI ms, dI mf, dI mf] := by simp only [rolR, Ru.d, rolL_len]
  have d2 : (wdR r).d = .agg [dI r.w, dI r.st, dI r.fi, dI r.hlo, dI r.hhi, dI 0, .sl r.ss.length 5 (vs5 (wdI r.ss.length r.ss)), dI r.slo, dI r.shi, dI r.flo, dI r.fhi] := by simp only [wdR, Ru.d, wdI_len]
  have c2 := concS nm th (by omega)
  have va := vr_mat v g3
  have ca := chk_rol v g3
  have cw := chk_wd v g1
  have vw : VR (wdR r) th := vr_of (nm := nm) (by rw [cw]) (by rw [sch_wd]; exact g2)
  have a1 := conHF (rolR r ms mf mh ls) nm th va (by rw [schP, if_pos (by rw [ca]), sch_rol]; exact g2)
  have a2 := conHF (wdR r) nm th vw (by rw [schP, if_pos (by rw [cw]), sch_wd]; exact g2)
  rw [d1] at a1
  rw [d2] at a2
  simp only [dL, Dw, Tk, v1_whole, bc_t (v1le th), bc_t e1, bc_t e2, w1, w2, Qv, eq_self, true_and]
  have kp := goodM_kp ⟨g1, g2, g3⟩
  have o1 : ansD (rolR r ms mf mh ls) 0 r.st 2 th = if EB r th ms mf mh ls = true then 2 else 0 := ansD_one hl th 0 r.st
  have o2 : EN r th = 2 → ansD (wdR r) 0 r.st 2 th = 2 := ans_wd v th 0 r.st rfl rfl (Nat.zero_le _)
  refine ⟨⟨c2⟩, _, _, ⟨a1⟩, ⟨c2⟩, _, _, ⟨a2⟩, ?_⟩
  have s1 : (rolR r ms mf mh ls).st = r.st := rfl
  have s2 : (wdR r).st = r.st := rfl
  rw [s1, s2, o1]
  generalize EB r th ms mf mh ls = b at *
  generalize ansD (wdR r) 0 r.st 2 th = w at *
  generalize EN r th = n at *
  cases b with
  | true =>
    rw [if_pos rfl, bc_qt, bc_qt]
    simp only [bcT, bc_n (show (2 : Int) ≠ 1 by decide), bc_qt]
    refine bc_bne (fun _ => trivial) (fun h => ?_)
    rw [o2 h, bc_qt]; trivial
  | false =>
    rw [if_neg (by decide), bc_qt]
    simp only [bc_q (show (0 : Int) ≠ 2 by decide), bcF, bc_n (show (0 : Int) ≠ 1 by decide), bc_qt]
    refine bc_bne (fun _ => trivial) (fun h => ?_)
    rw [o2 h, bc_qt]; trivial
theorem lawE0 (r : Ru) (nm : List UInt8) (th : List Int) (ms mf mh : Int) (ls : List Int) : C5 5 [r.d, scD nm th, maD ms mf mh ls] [.val (.bool true)] := by
  refine con_of (L := eL r nm th ms mf mh ls) hokE2 mixed Try.func5 rfl (by show 3 ≤ 400; omega) rfl (ids := [0, 2]) (by kernel_rfl) rfl (fun caps => ?_) (fun id hid => ?_)
  · show gE0 _ _ r.w r.st r.fi r.hlo r.hhi r.co r.ss.length (caps 500) (vs5 r.ss) r.slo r.shi r.flo r.fhi (bs nm) th.length (caps 501) (vi th) ms mf mh ls.length (caps 502) (vi ls) _
    rw [gE0_text]
    refine .inl ⟨⟨conA⟩, bc_dec (fun h1 => bc_dec (fun h2 => bc_dec (fun h3 => ?_) (fun _ => rfl)) (fun _ => rfl)) (fun _ => rfl)⟩
    simp only [dL, Dw, Tk, v5_whole, v1_whole, bc_t (v5le r.ss), bc_t (v1le th), Qv, eq_self, true_and]
    refine ⟨_, ⟨conBE r nm th (by omega) (by omega)⟩, bc_bne (fun _ => trivial) (fun hz => ?_)⟩
    obtain ⟨hc, hs⟩ := both_of hz
    simp only [bc_t (v1le ls)]
    refine ⟨_, ⟨conME r ms mf mh ls (by omega)⟩, bc_bne (fun _ => trivial) (fun hm => ?_)⟩
    have g : GoodM r nm th ms mf mh ls := ⟨hc, hs, hm⟩
    have v := goodM_vr g
    obtain ⟨hB, hl, hsl⟩ := matE_ok hm
    have kp := goodM_kp g
    have hp : (schP r nm th).2 = 0 := by rw [schP_good hc]; exact hs
    have hq : (matP r ms mf mh ls).2 = 0 := by rw [matP_good hc]; exact hm
    have c1 := concR r (by omega)
    have c2 := concS nm th (by omega)
    have c3 := concM ms mf mh ls (by omega)
    have a1 := conHF r nm th v hp
    have ro := conRo r nm th ms mf mh ls hp hq
    rw [ans_kp hl] at ro
    have ho := conHO r nm th v hp
    have e5 : ((th.length : Nat) : Int) = ((r.ss.length : Nat) : Int) := by rw [v.v.len]
    refine ⟨⟨c1⟩, ⟨c2⟩, _, _, ⟨a1⟩, ⟨c1⟩, ⟨c2⟩, ⟨c3⟩, _, _, _, _, ⟨ro⟩, ?_⟩
    cases hb : kpL (rolR r ms mf mh ls) 0 r.st th with
    | true =>
      have hn0 : ansD r 0 r.st 2 th ≠ 0 := fun h => by have := kp.2 h; rw [EB, hb] at this; cases this
      simp only [bcT, true_and]
      refine ⟨⟨c1⟩, ⟨c2⟩, _, _, _, ⟨ho⟩, ?_⟩
      rw [bc_nf, bc_nf, bc_nf, bc_q hn0, e5, bc_nf, bc_nf]
      refine bc_beq (fun _ => ?_) (fun _ => ?_)
      all_goals exact ⟨(0, caps 500, caps 501, caps 502), ⟨g, Nat.zero_le _⟩, by simp only [eS0]; rw [hb]; rfl⟩
    | false =>
      have hn2 : ansD r 0 r.st 2 th ≠ 2 := fun h => by have := kp.1 h; rw [EB, hb] at this; cases this
      simp only [bcF, true_and]
      refine ⟨⟨c1⟩, ⟨c2⟩, _, _, _, ⟨ho⟩, ?_⟩
      rw [bc_nf, bc_nf, bc_nf, bc_q hn2, e5, bc_nf, bc_nf]
      refine bc_beq (fun _ => ?_) (fun _ => ?_)
      all_goals exact ⟨(0, caps 500, caps 501, caps 502), ⟨g, Nat.zero_le _⟩, by simp only [eS0]; rw [hb]; rfl⟩
  · rcases List.mem_cons.1 hid with rfl | hid
    · refine ⟨Nat × Nat × Nat × Nat, eS0 r nm th ms mf mh ls, fun q => GoodM r nm th ms mf mh ls ∧ q.1 ≤ th.length, fun q => th.length - q.1, ⟨fun s b h => h, by kernel_rfl, ?_⟩⟩
      rintro ⟨i, c0, c1, c2⟩ ⟨g, hi⟩
      refine roundE0 r nm th ms mf mh ls i c0 c1 c2 (goodM_vr g) g.2.2 hi ?_ ?_
      · intro hi2
        exact ⟨(i + 1, c0, c1, c2), ⟨g, hi2⟩, by show th.length - (i + 1) < th.length - i; have : i + 1 ≤ th.length := hi2; omega, rfl⟩
      · show (if 0 = 0 then _ else _)
        rw [if_pos rfl]
        show nE02 C5 _ (EN r th) (EB r th ms mf mh ls) r.w r.st r.fi r.hlo r.hhi r.co r.ss.length c0 r.slo r.shi r.flo r.fhi (bs nm) th.length c1 ms mf mh ls.length c2 (vs5 r.ss) (vi th) (vi ls) _
        have v := goodM_vr g
        have h6 := v.v.n6
        rw [nE02_text]
        simp only [dL, Dw, Tk, v5_whole, bc_t (v5le r.ss), Qv, eq_self, true_and]
        have c1' := concR r (by omega)
        exact ⟨⟨c1'⟩, ⟨c1'⟩, (0, c0, c1, c2), ⟨g, Nat.zero_le _⟩, by simp only [eS2, List.take_zero, rolL_nil, wdI]; rfl⟩
    · obtain rfl := List.mem_singleton.1 hid
      refine ⟨Nat × Nat × Nat × Nat, eS2 r nm th ms mf mh ls, fun q => GoodM r nm th ms mf mh ls ∧ q.1 ≤ th.length, fun q => th.length - q.1, ⟨fun s b h => h, by kernel_rfl, ?_⟩⟩
      rintro ⟨i, c0, c1, c2⟩ ⟨g, hi⟩
      have hi : i ≤ th.length := hi
      have v := goodM_vr g
      have h6 := v.v.n6
      have hlen := v.v.len
      have hl := (matE_ok g.2.2).2.1
      show rE03 C5 _ (EN r th) (EB r th ms mf mh ls) i r.w r.st r.fi r.hlo r.hhi r.co r.ss.length c0 r.slo r.shi r.flo r.fhi (bs nm) th.length c1 ms mf mh ls.length c2 r.w r.st r.fi mh mh r.co r.ss.length ms ms mf mf r.w r.st r.fi r.hlo r.hhi 0 r.ss.length r.slo r.shi r.flo r.fhi (vs5 r.ss) (vi th) (vi ls) (vs5 (rolL r.ss (ls.take i))) (vs5 (wdI i r.ss)) _ _ _
      rw [rE03_text]
      have el : (vs5 (rolL r.ss (ls.take i))).length = r.ss.length * 5 := by rw [vs5_length, rolL_len]
      have ew : (vs5 (wdI i r.ss)).length = r.ss.length * 5 := by rw [vs5_length, wdI_len]
      refine bc_dec (fun h => ?_) (fun h => ?_)
      · have hi2 : i < ls.length := by omega
        have hi3 : i < r.ss.length := by omega
        have hi4 : i < (rolL r.ss (ls.take i)).length := by rw [rolL_len]; exact hi3
        have hi5 : i < (wdI i r.ss).length := by rw [wdI_len]; exact hi3
        have hs : Go.Addr.off { block := 1005, off := 0 + i * 5 } + 3 + 2 ≤ (vs5 (rolL r.ss (ls.take i))).length := by
          show 0 + i * 5 + 3 + 2 ≤ _
          rw [el]; omega
        have hs1 : Go.Addr.off { block := 1006, off := 0 + i * 5 } + 1 + 1 ≤ (vs5 (wdI i r.ss)).length := by
          show 0 + i * 5 + 1 + 1 ≤ _
          rw [ew]; omega
        have hs2 : Go.Addr.off { block := 1006, off := 0 + i * 5 } + 2 + 1 ≤ (listSet (vs5 (wdI i r.ss)) (Go.Addr.off { block := 1006, off := 0 + i * 5 } + 1) [vI 1000000000000]).length := by
          rw [listSet_len (by show 0 + i * 5 + 1 + 1 ≤ _; rw [ew]; omega)]
          show 0 + i * 5 + 2 + 1 ≤ _
          rw [ew]; omega
        simp only [bc_t h, bc_t (show (0 : Int) ≤ (i : Int) by omega), bc_t (show (i : Int) < (r.ss.length : Int) by omega), bc_t (show (i : Int) < (ls.length : Int) by omega), Int.toNat_natCast, at1 (vi_at ls i hi2), bc_t hs, bc_t hs1, bc_t hs2, Qv, eq_self, true_and, and_true]
        refine ⟨(i + 1, c0, c1, c2), ⟨g, by show i + 1 ≤ th.length; omega⟩, by show th.length - (i + 1) < th.length - i; omega, ?_⟩
        have e : listSet (vs5 (rolL r.ss (ls.take i))) (0 + i * 5 + 3) [vI ls[i], vI ls[i]] = vs5 (rolL r.ss (ls.take (i + 1))) := by
          rw [listSet_v5 _ _ _ hi4, rolL_set _ _ _ hi2 hi3]
        have e' : listSet (listSet (vs5 (wdI i r.ss)) (0 + i * 5 + 1) [vI 1000000000000]) (0 + i * 5 + 2) [vI 1000000000000] = vs5 (wdI (i + 1) r.ss) := by
          rw [listSet_wd _ _ _ hi5]
          exact congrArg vs5 (wdI_set i r.ss hi3)
        show eS2 r nm th ms mf mh ls (i + 1, c0, c1, c2) = _
        simp only [eS2]
        rw [← e, ← e', w64 (by omega) (by omega)]; rfl
      · show (if 2 = 2 then _ else _)
        rw [if_pos rfl]
        have hn : i = ls.length := by omega
        have hn2 : i = r.ss.length := by omega
        show nE04 C5 _ (EN r th) (EB r th ms mf mh ls) (bs nm) th.length c1 r.w r.st r.fi mh mh r.co r.ss.length ms ms mf mf r.w r.st r.fi r.hlo r.hhi 0 r.ss.length r.slo r.shi r.flo r.fhi (vi th) (vs5 (rolL r.ss (ls.take i))) (vs5 (wdI i r.ss)) _
        rw [List.take_of_length_le (by omega), hn2]
        exact endE r nm th ms mf mh ls c1 g _
end Go.Proofs.G5p

/- PassEveryMaterial: whatever the input, it returns true, and the input reads as it did. No condition. -/
namespace Go.Proofs.Yteadiejdhplokaa.K
open Go Go.Abs Go.RowKit Go.ChangeShapes Go.WideShapes Go.ChangeAt Go.Proofs Go.Flat Go.Proofs.G5p
set_option maxRecDepth 100000
namespace PassEveryMaterial
abbrev shs : List Sh := [.agg [3, 3, 3, 3, 3, 3, 24, 3, 3, 3, 3], .agg [9, 27], .agg [3, 3, 3, 27]]
theorem shapes : Try.f5.params.toList.mapM (argSh Try.prog) = some shs := by kernel_rfl
theorem all (ds : List D) (h : ShDs Try.prog shs ds) : Con Try.prog 5 ds [.val (.bool true)] := by
  cases h with | cons h1 t => cases t with | cons h2 t => cases t with | cons h3 t =>
  cases t
  obtain ⟨d1, rfl, h1⟩ := h1
  obtain ⟨d2, rfl, h2⟩ := h2
  obtain ⟨d3, rfl, h3⟩ := h3
  cases h1 with | cons p1 t => cases t with | cons p2 t => cases t with | cons p3 t => cases t with | cons p4 t => cases t with | cons p5 t => cases t with | cons p6 t => cases t with | cons p7 t => cases t with | cons p8 t => cases t with | cons p9 t => cases t with | cons p10 t => cases t with | cons p11 t =>
  cases t
  cases h2 with | cons r1 t => cases t with | cons r2 t =>
  cases t
  cases h3 with | cons q1 t => cases t with | cons q2 t => cases t with | cons q3 t => cases t with | cons q4 t =>
  cases t
  obtain ⟨x1, rfl, _⟩ := leaf_int Try.underlying3 p1
  obtain ⟨x2, rfl, _⟩ := leaf_int Try.underlying3 p2
  obtain ⟨x3, rfl, _⟩ := leaf_int Try.underlying3 p3
  obtain ⟨x4, rfl, _⟩ := leaf_int Try.underlying3 p4
  obtain ⟨x5, rfl, _⟩ := leaf_int Try.underlying3 p5
  obtain ⟨x6, rfl, _⟩ := leaf_int Try.underlying3 p6
  obtain ⟨x8, rfl, _⟩ := leaf_int Try.underlying3 p8
  obtain ⟨x9, rfl, _⟩ := leaf_int Try.underlying3 p9
  obtain ⟨x10, rfl, _⟩ := leaf_int Try.underlying3 p10
  obtain ⟨x11, rfl, _⟩ := leaf_int Try.underlying3 p11
  obtain ⟨m1, rfl, _⟩ := leaf_int Try.underlying3 q1
  obtain ⟨m2, rfl, _⟩ := leaf_int Try.underlying3 q2
  obtain ⟨m3, rfl, _⟩ := leaf_int Try.underlying3 q3
  obtain ⟨nm, rfl⟩ := leaf_str Try.underlying9 r1
  rcases leaf_fvs Try.underlying24 (by kernel_rfl) p7 with rfl | ⟨T, rfl⟩
  · rcases leaf_ints Try.underlying27 (by kernel_rfl) r2 with rfl | ⟨R, rfl⟩
    · rcases leaf_ints Try.underlying27 (by kernel_rfl) q4 with rfl | ⟨S, rfl⟩
      · exact lawE7 ⟨x1, x2, x3, x4, x5, x6, [], x8, x9, x10, x11⟩ rfl nm m1 m2 m3
      · exact lawE6 ⟨x1, x2, x3, x4, x5, x6, [], x8, x9, x10, x11⟩ rfl nm m1 m2 m3 S
    · rcases leaf_ints Try.underlying27 (by kernel_rfl) q4 with rfl | ⟨S, rfl⟩
      · exact lawE5 ⟨x1, x2, x3, x4, x5, x6, [], x8, x9, x10, x11⟩ rfl nm R m1 m2 m3
      · exact lawE4 ⟨x1, x2, x3, x4, x5, x6, [], x8, x9, x10, x11⟩ rfl nm R m1 m2 m3 S
  · rcases leaf_ints Try.underlying27 (by kernel_rfl) r2 with rfl | ⟨R, rfl⟩
    · rcases leaf_ints Try.underlying27 (by kernel_rfl) q4 with rfl | ⟨S, rfl⟩
      · exact lawE3 ⟨x1, x2, x3, x4, x5, x6, T, x8, x9, x10, x11⟩ nm m1 m2 m3
      · exact lawE2 ⟨x1, x2, x3, x4, x5, x6, T, x8, x9, x10, x11⟩ nm m1 m2 m3 S
    · rcases leaf_ints Try.underlying27 (by kernel_rfl) q4 with rfl | ⟨S, rfl⟩
      · exact lawE1 ⟨x1, x2, x3, x4, x5, x6, T, x8, x9, x10, x11⟩ nm R m1 m2 m3
      · exact lawE0 ⟨x1, x2, x3, x4, x5, x6, T, x8, x9, x10, x11⟩ nm R m1 m2 m3 S
theorem lifted (os : Os) (started : os.Started) (H : Type) (enc : TypeId × Value → H) :
    ReturnsInHanded {} Try.checked os 5 .any (Rows.passEveryMaterialSpec.pre6 enc Try.prog Try.f5 Rows.passEveryMaterialRow.domain false) (Rows.passEveryMaterialSpec.post enc Try.prog Try.f5 false true false false) := by
  refine returnsInHanded_of_change (C := Try.checked) own started (by kernel_rfl) Try.func5
    (ChangeSpec.witness6 (enc := enc) (C := Try.checked) false ⟨#[], #[.agg #[.int .i64 0, .int .i64 0, .int .i64 0, .int .i64 0, .int .i64 0, .int .i64 0, .slice none 0 0, .int .i64 0, .int .i64 0, .int .i64 0, .int .i64 0], .agg #[.string ⟨#[]⟩, .slice none 0 0], .agg #[.int .i64 0, .int .i64 0, .int .i64 0, .slice none 0 0]], []⟩ 8 (by kernel_rfl) (by kernel_rfl) (by kernel_rfl) (by kernel_rfl)) ?_
  intro W base args ds gs before hval hW _ _
  exact law_shapes (tb := 4) (s := Rows.passEveryMaterialSpec) shapes all laidP mapsP slicesP (tsP (by kernel_rfl)) rfl Try.underlying4 rfl (fun ds h => by
    match ds, h with
    | [_, _, _], _ => exact ⟨rfl, rfl, rfl⟩) hval hW (good0 W)
theorem holds : Rows.PassEveryMaterialSaid :=
  OpenClaim.holds_of_wide 5 Try.f5 rfl rfl rfl rfl rfl rfl rfl ⟨rfl, rfl, rfl, rfl, rfl⟩ rfl rfl rfl rfl rfl (by kernel_rfl) Try.func5 (by kernel_rfl)
    (of_decide_eq_true (by kernel_rfl)) (by unfold Func.isWrapper; first | (rw [if_pos (by decide +kernel)]; kernel_rfl) | (rw [if_neg (by decide +kernel)]; exact ⟨rfl, rfl⟩))
    (fun os started H enc _ => lifted os started H enc)
#print axioms holds
end PassEveryMaterial
end Go.Proofs.Yteadiejdhplokaa.K
