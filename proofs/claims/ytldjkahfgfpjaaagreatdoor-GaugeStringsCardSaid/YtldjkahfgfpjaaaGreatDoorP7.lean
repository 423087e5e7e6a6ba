/- Texts of the proof, put together: GqE, GqA, GuSG4, GuSGK. -/
import Derived.Test.YtldjkahfgfpjaaaGreatDoorP6
import Derived.Test.YtldjkahfgfpjaaaGreatDoorP4
/- Chapter 5: the state after a tick, in data (two coefficients). -/
namespace Go.Proofs.G5q
open Go Go.Abs Go.Proofs Go.Proofs.G5
set_option maxRecDepth 100000
theorem insOK : InsWalk Tryz.prog 128 := fun b off n c vb voff vc cs x w h1 h2 h3 h4 h5 h6 h7 h8 h9 h10 h11 tA tB kA kB h12 h13 h14 h15 h16 => insW b off n c vb voff vc cs x w h1 h2 h3 h4 h5 h6 h7 h8 h9 h10 h11 tA tB kA kB h12 h13 h14 h15 h16
theorem preIOK : PreOK Tryz.prog preI := by
  intro g h he args ats H k hk
  unfold preI at he
  split at he
  · rename_i e
    obtain rfl := Option.some.inj he
    rw [beq_iff_eq] at e
    subst e
    exact ins_ok insOK hk
  · cases he
theorem hokI : HandlerOK Tryz.prog hI := handlerX_ok mixed preIOK (by decide) 6
theorem conAf (cs0 : List Value) (den a b d c1 c2 x : Int) : C5 99 [.agg [.sl 2 2 cs0, dI den], .agg [.sl 2 1 [vI a, vI b], dI d], .agg [.sl 2 1 [vI c1, vI c2], dI x]]
    [.agg [.sl 2 1 [vI (W6 (W6 (W6 (x * W6 (d * den)) + W6 (c1 * a)) + W6 (c2 * b))), vI (W6 (a * den))], dI (W6 (d * den))]] := by
  refine con_walk hokI mixed (u := 6) (by decide) Tryz.func99 rfl (by show 3 ≤ 400; omega) (fun caps => ?_)
  show gAf (caps 500) (caps 501) (caps 502) cs0 den a b d c1 c2 x _
  rw [gAf_text]
  have h1 : At [vI a, vI b] 0 1 [vI a] := ⟨by simp, rfl⟩
  have h2 : At [vI c1, vI c2] 0 1 [vI c1] := ⟨by simp, rfl⟩
  have h3 : At [vI a, vI b] 1 1 [vI b] := ⟨by simp, rfl⟩
  have h4 : At [vI c1, vI c2] 1 1 [vI c2] := ⟨by simp, rfl⟩
  exact ⟨a, h1, c1, h2, b, h3, c2, h4, ⟨rfl, rfl⟩, rfl⟩
theorem ra8 : raP 1 1 2 1 8 = (7, 0) := by kernel_rfl
theorem con12 : C5 16 [.agg [dI 1, dI 1, dI 2, dI 1], dI 8] [dI 7, dI 0] := by
  have := conRA 1 1 2 1 8
  rw [ra8] at this
  exact this
def afT : List D → Option (List D) := fun ds => match ds with
  | [.agg [.sl 2 2 _, .val (.int .i64 den)], .agg [.sl 2 1 [.int .i64 a, .int .i64 b], .val (.int .i64 d)], .agg [.sl 2 1 [.int .i64 c1, .int .i64 c2], .val (.int .i64 x)]] => some [.agg [.sl 2 1 [vI (W6 (W6 (W6 (x * W6 (d * den)) + W6 (c1 * a)) + W6 (c2 * b))), vI (W6 (a * den))], dI (W6 (d * den))]]
  | _ => none
def intsOf : List Value → Option (List Int)
  | [] => some []
  | .int .i64 n :: r => (intsOf r).map (n :: ·)
  | _ => none
theorem intsOf_ok : ∀ {cs : List Value} {l : List Int}, intsOf cs = some l → cs = vi l
  | [], l, h => by simp only [intsOf, Option.some.injEq] at h; subst h; rfl
  | v :: r, l, h => by
    unfold intsOf at h
    split at h
    · rename_i e; cases e
    · rename_i n r' e
      obtain ⟨rfl, rfl⟩ := List.cons.inj e
      obtain ⟨l', h1, rfl⟩ := Option.map_eq_some_iff.1 h
      rw [intsOf_ok h1]; rfl
    · cases h
def feT : List D → Option (List D) := fun ds => match ds with
  | [.sl n 1 cs] => (intsOf cs).bind fun l => if n = l.length ∧ n < 1000000 then some [dI (fst0 l)] else none
  | _ => none
def csT : List D → Option (List D) := fun ds => match ds with
  | [.val (.int .i64 a), .sl n 1 cs] => (intsOf cs).bind fun l => if n = l.length ∧ n < 1000000 then some [dI (sameE a l)] else none
  | _ => none
def prT : List D → Option (List D) := fun ds => match ds with
  | [.agg [.val (.int .i64 a), .val (.int .i64 b)], .agg [.val (.int .i64 c), .val (.int .i64 d)]] => some [.agg [dI (prV a b c d).1, dI (prV a b c d).2]]
  | _ => none
def ltT : List D → Option (List D) := fun ds => match ds with
  | [.val (.int .i64 n), .val (.int .i64 d)] => if -4611686018427387904 ≤ n ∧ n ≤ 4611686018427387904 ∧ -4611686018427387904 ≤ d ∧ d ≤ 4611686018427387904 ∧ d ≠ 0 then some [.agg [dI (low n d).1, dI (low n d).2]] else none
  | _ => none
def tab6 : Tab := fun f => if f = 16 then some (tabLook [([.agg [dI 1, dI 1, dI 2, dI 1], dI 8], [dI 7, dI 0])]) else if f = 99 then some afT else if f = 34 then some feT else if f = 49 then some csT else if f = 126 then some prT else if f = 70 then some ltT else none
theorem tab6_ok : TabOK Tryz.prog tab6 := by
  intro f t ht ds rs h
  unfold tab6 at ht
  split at ht
  · rename_i e
    subst e
    obtain rfl := Option.some.inj ht
    have := tabLook_ok h
    simp only [List.mem_cons, List.not_mem_nil, or_false, Prod.mk.injEq] at this
    obtain ⟨rfl, rfl⟩ := this
    exact con12
  split at ht
  · rename_i e
    subst e
    obtain rfl := Option.some.inj ht
    unfold afT at h
    split at h
    · obtain rfl := Option.some.inj h
      exact conAf _ _ _ _ _ _ _ _
    · cases h
  split at ht
  · rename_i e
    subst e
    obtain rfl := Option.some.inj ht
    unfold feT at h
    split at h
    · obtain ⟨l, h1, h2⟩ := Option.bind_eq_some_iff.1 h
      split at h2
      · rename_i hc
        obtain ⟨rfl, hl⟩ := hc
        obtain rfl := Option.some.inj h2
        rw [intsOf_ok h1]
        exact conFE l (by omega)
      · cases h2
    · cases h
  split at ht
  · rename_i e
    subst e
    obtain rfl := Option.some.inj ht
    unfold csT at h
    split at h
    · obtain ⟨l, h1, h2⟩ := Option.bind_eq_some_iff.1 h
      split at h2
      · rename_i hc
        obtain ⟨rfl, hl⟩ := hc
        obtain rfl := Option.some.inj h2
        rw [intsOf_ok h1]
        exact conCS _ l (by omega)
      · cases h2
    · cases h
  split at ht
  · rename_i e
    subst e
    obtain rfl := Option.some.inj ht
    unfold prT at h
    split at h
    · obtain rfl := Option.some.inj h
      exact conPr _ _ _ _
    · cases h
  split at ht
  · rename_i e
    subst e
    obtain rfl := Option.some.inj ht
    unfold ltT at h
    split at h
    · split at h
      · rename_i hc
        obtain rfl := Option.some.inj h
        exact conLT _ _ ⟨hc.1, hc.2.1⟩ ⟨hc.2.2.1, hc.2.2.2.1⟩ hc.2.2.2.2
      · cases h
    · cases h
  · cases ht
end Go.Proofs.G5q

/- awake of chapter 5, for every tape. -/
namespace Go.Proofs.G5q
open Go Go.Abs Go.Proofs Go.Proofs.G5
set_option maxRecDepth 100000
theorem run6 : ∀ caps, runOK Tryz.prog tab6 1000 4 [] [.val (.bool true)] caps = true := by intro caps; kernel_rfl
theorem con6 : C5 4 [] [.val (.bool true)] := con_run tab6_ok mixed (by show 0 ≤ 400; omega) run6
end Go.Proofs.G5q

/- Chapter 5: loops that are alike, copied; the law of strings. -/
namespace Go.Proofs.G5u
open Go Go.Abs Go.Proofs Go.Str
set_option maxRecDepth 100000
theorem conA : C5 4 [] [.val (.bool true)] := Go.Proofs.G5q.con6
theorem bc_ff {x y : Prop} : bcase false x y = y := rfl
theorem conRA (l : List Pr) (hlen : l.length ≤ 1000000) : C5 20 [.sl l.length 2 (vp l), .sl l.length 2 (vp l)] [dB true] := by
  let inv : Nat × Nat × Nat → Prop := fun x => x.1 ≤ l.length
  let st : Nat × Nat × Nat → Slots × Blocks := fun x => zRA1 l.length x.2.1 l.length x.2.2 x.1 (vp l) (vp l)
  refine con_of (L := fun _ s b => ∃ x, inv x ∧ st x = (s, b)) hokG mixed Tryz.func20 rfl (by show 2 ≤ 400; omega) rfl (ids := [0]) (by kernel_rfl) rfl (fun caps => ?_) (fun id hid => ?_)
  · show gRA _ _ l.length (caps 500) (vp l) l.length (caps 501) (vp l) _
    rw [gRA_text]
    refine bc_bne (fun h => absurd rfl h) (fun _ => ?_)
    exact ⟨(0, caps 500, caps 501), Nat.zero_le _, rfl⟩
  · obtain rfl := List.mem_singleton.1 hid
    refine ⟨Nat × Nat × Nat, st, inv, fun x => l.length - x.1, ⟨fun s b h => h, by kernel_rfl, ?_⟩⟩
    rintro ⟨i, c1, c2⟩ hi
    have hi : i ≤ l.length := hi
    show rRA1 _ _ l.length c1 l.length c2 i (vp l) (vp l) _ _ _
    rw [rRA1_text]
    refine bc_dec (fun h => ?_) (fun h => ?_)
    · have hi' : i < l.length := by omega
      simp only [bc_t (show (0 : Int) ≤ (i : Int) by omega), bc_t h, Int.toNat_natCast, at2 (vp_two l i hi'), wi1 hi' (by omega), if_true, beq_self_eq_true, Bool.and_self, Bool.not_true, bc_ff, eq_self, true_and, and_true]
      exact ⟨(i + 1, c1, c2), hi', by show l.length - (i + 1) < l.length - i; omega, rfl⟩
    · show (if 0 = 0 then _ else _)
      rw [if_pos rfl]
      show nRA2 _ _ _
      rw [nRA2_text]
theorem conRAo : C5 20 [.nil, .nil] [dB true] := by
  refine con_of (L := fun _ s b => ∃ _x : Unit, True ∧ zRAo1 0 = (s, b)) hokG mixed Tryz.func20 rfl (by show 0 ≤ 400; omega) rfl (ids := [0]) (by kernel_rfl) rfl (fun caps => ?_) (fun id hid => ?_)
  · show gRAo _ _ _
    rw [gRAo_text]
    exact ⟨(), trivial, rfl⟩
  · obtain rfl := List.mem_singleton.1 hid
    refine ⟨Unit, fun _ => zRAo1 0, fun _ => True, fun _ => 0, ⟨fun s b h => h, by kernel_rfl, ?_⟩⟩
    rintro _ _
    show rRAo1 _ _ 0 _ _ _
    rw [rRAo1_text]
    refine bc_no (by decide) ?_
    show (if 0 = 0 then _ else _)
    rw [if_pos rfl]
    show nRAo2 _ _ _
    rw [nRAo2_text]
theorem conSM (l : List Pr) (den : Int) (hlen : l.length ≤ 1000000) : C5 11 [dL l den, dL l den] [dB true] := by
  refine con_flat hokG mixed Tryz.func11 rfl (by show 2 ≤ 400; omega) rfl (by kernel_rfl) (fun caps => ?_)
  show gSM _ _ l.length (caps 500) (vp l) den l.length (caps 501) (vp l) den _
  rw [gSM_text]
  simp only [vp_whole]
  have hvp : 0 + l.length * 2 ≤ (vp l).length := by rw [vp_length]; omega
  exact bc_beq (fun _ => bc_yes hvp (bc_yes hvp (.inl ⟨⟨conRA l hlen⟩, trivial⟩))) (fun h => absurd rfl h)
theorem conSMo (den : Int) : C5 11 [.agg [.nil, dI den], .agg [.nil, dI den]] [dB true] := by
  refine con_flat hokG mixed Tryz.func11 rfl (by show 0 ≤ 400; omega) rfl (by kernel_rfl) (fun caps => ?_)
  show gSMo _ _ den den _
  rw [gSMo_text]
  exact bc_beq (fun _ => .inl ⟨⟨conRAo⟩, rfl⟩) (fun h => absurd rfl h)
theorem conCY (l : List Pr) (den : Int) (hlen : l.length ≤ 1000000) : C5 7 [dL l den] [dL l den] := by
  refine con_flat hokE mixed Tryz.func7 rfl (by show 1 ≤ 400; omega) rfl (by kernel_rfl) (fun caps => ?_)
  show gCY _ _ l.length (caps 500) (vp l) den _
  rw [gCY_text]
  simp only [vp_whole, eq_self, true_and, List.nil_append, Nat.zero_add]
  refine bc_yes (by rw [vp_length]; omega) (bc_beq (fun h => ?_) (fun h => ?_))
  · have : l = [] := List.length_eq_zero_iff.1 h
    subst this
    rfl
  · refine bc_yes (by omega) (bc_yes (by omega) (bc_yes (by omega) ?_))
    first | exact ⟨by rw [vp_length], rfl⟩ | rfl | simp
theorem conCYn (den : Int) : C5 7 [.agg [.nil, dI den]] [dL [] den] := by
  refine con_flat hokE mixed Tryz.func7 rfl (by show 0 ≤ 400; omega) rfl (by kernel_rfl) (fun caps => ?_)
  show gCYn _ _ den _
  rw [gCYn_text]
  simp only [eq_self, true_and]
  rfl
/-! ### what is written is read again -/
theorem itoa_free {n : Int} {c : UInt8} (h1 : isDig c = false) (h2 : c ≠ 45) : c ∉ Lib.itoa n := by
  intro hm
  rcases Int.lt_or_le n 0 with hn | hn
  · rw [itoa_ng hn] at hm
    rcases List.mem_cons.1 hm with e | hm
    · exact h2 e
    · have := List.all_eq_true.1 (dec_all _ _ (Nat.le_refl n.natAbs)) c hm
      rw [h1] at this; cases this
  · rw [itoa_nn hn] at hm
    have := List.all_eq_true.1 (dec_all _ _ (Nat.le_refl n.toNat)) c hm
    rw [h1] at this; cases this
theorem gpar_fmg (l : List Pr) (den : Int) (h : loopE l den = 0) : gpar (fmg l den) = (dL l den, 0) := by
  have h0 : l.length ≠ 0 := by intro e; unfold loopE at h; rw [if_pos e] at h; exact absurd h (by decide)
  have h3 : ¬ 3 < l.length := by intro e; unfold loopE at h; rw [if_neg h0, if_pos e] at h; exact absurd h (by decide)
  have hr : rgsE l = 0 ∧ 1 ≤ den ∧ den ≤ 10 := by
    unfold loopE at h
    rw [if_neg h0, if_neg h3] at h
    split at h
    · next hz => refine ⟨hz, ?_⟩; split at h; assumption; exact absurd h (by decide)
    · next hz => exact absurd h hz
  have hz : ∀ p ∈ l, rgOk p := fun p hp => by
    have := rgsE_0.1 hr.1 p hp
    unfold rgE at this
    split at this
    · assumption
    · exact absurd this (by decide)
  have hnd : (59 : UInt8) ∉ Lib.itoa den := itoa_free (by decide) (by decide)
  have hcut : Lib.cut (fmg l den) [59] = (Lib.itoa den, fms l, true) := cut_hit hnd
  have hok : okNum 2 (Lib.itoa den) = true ∧ numF 0 (Lib.itoa den) = den := by
    rw [itoa_nn (by omega)]
    exact ⟨okNum_dec (dec_len 2 _ (by decide) (by omega)), by rw [dec_num _ _ (Nat.le_refl _)]; omega⟩
  have hpc : cutA 44 [] (fms l) = l.map wr := cutA_join (by intro e; exact h0 (by simpa using e)) (fun x hx => by
    obtain ⟨p, hp, rfl⟩ := List.mem_map.1 hx
    intro hm
    rw [wr, List.mem_append] at hm
    rcases hm with hm | hm
    · exact itoa_free (by decide) (by decide) hm
    · rcases List.mem_cons.1 hm with hm | hm
      · exact absurd hm (by decide)
      · exact itoa_free (by decide) (by decide) hm)
  have hwo : words rangeW (l.map wr) = some l := words_map (fun p hp => by
    have := hz p hp
    unfold rgOk at this
    exact pair_join rd32 (rdN_itoa (by decide) (by omega)) (rdN_itoa (by decide) (by omega)))
  unfold gpar
  rw [hcut]
  simp only
  rw [if_pos hok.1, hpc, hwo, hok.2]
  unfold afterG
  simp only
  rw [if_pos h]
theorem gpar_cases (l : List UInt8) : (∃ e, gpar l = (nilL, e)) ∨ ∃ (zs : List Pr) (den : Int), gpar l = (dL zs den, 0) ∧ zs.length ≤ 3 := by
  unfold gpar
  split
  · unfold afterG
    split
    · exact .inl ⟨_, rfl⟩
    · split
      · next h =>
        rename_i zs _
        refine .inr ⟨_, _, rfl, ?_⟩
        rcases Nat.lt_or_ge 3 zs.length with h5 | h5
        · unfold loopE at h
          rw [if_neg (by omega), if_pos h5] at h; exact absurd h (by decide)
        · exact h5
      · exact .inl ⟨_, rfl⟩
  · exact .inl ⟨_, rfl⟩
theorem bsame {x : List UInt8} {K T : Prop} (ht : T) : bcase (!x == x) K T := bc_false (by simp) ht
theorem lawE (l : List Pr) (den : Int) (hd : -9223372036854775808 ≤ den ∧ den ≤ 9223372036854775807) (hb : in64 l) (s : List UInt8) : C5 3 [dL l den, dS s] [dB true] := by
  refine con_flat hokG mixed Tryz.func3 rfl (by show 1 ≤ 400; omega) rfl (by kernel_rfl) (fun caps => ?_)
  show gLw _ _ l.length (caps 500) (vp l) den (bs s) _
  rw [gLw_text]
  have hvp : 0 + l.length * 2 ≤ (vp l).length := by rw [vp_length]; omega
  simp only [vp_whole, bs_size, bc_t hvp]
  refine .inl ⟨⟨conA⟩, bc_dec (fun h5 => bc_dec (fun _ => trivial) (fun hs => ?_)) (fun _ => trivial)⟩
  have h5' : l.length ≤ 5 := by omega
  have hsl : s.length ≤ 70000 := by omega
  refine ⟨⟨conCY l den (by omega)⟩, _, ⟨conFL l den hd hb (by omega)⟩, ?_⟩
  have c1 := conPL s hsl
  have c2 := conRP s hsl
  have hpf : (fmg l den).length ≤ 70000 := by
    have := fms_len hb
    have wd := Lib.itoa_length_le den hd.1 hd.2
    simp only [fmg, List.length_append, List.length_cons]; omega
  have c3 := conPL (fmg l den) hpf
  rcases gpar_cases s with ⟨e, he⟩ | ⟨zs, dz, he, hz5⟩
  · rw [he] at c1 c2
    refine .inl ⟨_, _, ⟨c1⟩, .inl ⟨_, _, ⟨c2⟩, _, ⟨conRF l den hd hb (by omega)⟩, bsame (bc_bne (fun h => absurd rfl h) (fun _ => .inl ⟨⟨conSMo 0⟩, _, ⟨conLE l den⟩, bc_bne (fun _ => trivial) (fun h0 => ?_)⟩))⟩⟩
    rw [gpar_fmg l den h0] at c3
    exact .inr ⟨_, _, _, _, ⟨c3⟩, bc_beq (fun _ => bc_yes hvp (by rw [vp_whole]; exact .inl ⟨⟨conSM l den (by omega)⟩, trivial⟩)) (fun h => absurd rfl h)⟩
  · rw [he] at c1 c2
    have hvz : 0 + zs.length * 2 ≤ (vp zs).length := by rw [vp_length]; omega
    refine .inr ⟨_, _, _, _, ⟨c1⟩, .inr ⟨_, _, _, _, ⟨c2⟩, _, ⟨conRF l den hd hb (by omega)⟩, bsame (bc_bne (fun h => absurd rfl h) (fun _ => bc_yes hvz (bc_yes hvz ?_)))⟩⟩
    rw [vp_whole]
    refine .inl ⟨⟨conSM zs dz (by omega)⟩, _, ⟨conLE l den⟩, bc_bne (fun _ => trivial) (fun h0 => ?_)⟩
    rw [gpar_fmg l den h0] at c3
    exact .inr ⟨_, _, _, _, ⟨c3⟩, bc_beq (fun _ => bc_yes hvp (by rw [vp_whole]; exact .inl ⟨⟨conSM l den (by omega)⟩, trivial⟩)) (fun h => absurd rfl h)⟩
theorem lawN (den : Int) (hd : -9223372036854775808 ≤ den ∧ den ≤ 9223372036854775807) (s : List UInt8) : C5 3 [.agg [.nil, dI den], dS s] [dB true] := by
  refine con_flat hokG mixed Tryz.func3 rfl (by show 0 ≤ 400; omega) rfl (by kernel_rfl) (fun caps => ?_)
  show gLwn _ _ den (bs s) _
  rw [gLwn_text]
  simp only [bs_size]
  refine .inl ⟨⟨conA⟩, bc_dec (fun _ => trivial) (fun hs => ?_)⟩
  have hsl : s.length ≤ 70000 := by omega
  have c0 : C5 6 [dL [] den] [dS (fmg [] den)] := conFL [] den hd (fun p hp => by cases hp) (by decide)
  refine ⟨⟨conCYn den⟩, _, ⟨c0⟩, ?_⟩
  have c1 := conPL s hsl
  have c2 := conRP s hsl
  rcases gpar_cases s with ⟨e, he⟩ | ⟨zs, dz, he, hz5⟩
  · rw [he] at c1 c2
    exact .inl ⟨_, _, ⟨c1⟩, .inl ⟨_, _, ⟨c2⟩, _, ⟨conRFn den hd⟩, bsame (bc_bne (fun h => absurd rfl h) (fun _ => .inl ⟨⟨conSMo 0⟩, _, ⟨conLEn den⟩, bc_bne (fun _ => trivial) (fun h0 => absurd h0 (by decide))⟩))⟩⟩
  · rw [he] at c1 c2
    have hvz : 0 + zs.length * 2 ≤ (vp zs).length := by rw [vp_length]; omega
    refine .inr ⟨_, _, _, _, ⟨c1⟩, .inr ⟨_, _, _, _, ⟨c2⟩, _, ⟨conRFn den hd⟩, bsame (bc_bne (fun h => absurd rfl h) (fun _ => bc_yes hvz (bc_yes hvz ?_)))⟩⟩
    rw [vp_whole]
    exact .inl ⟨⟨conSM zs dz (by omega)⟩, _, ⟨conLEn den⟩, bc_bne (fun _ => trivial) (fun h0 => absurd h0 (by decide))⟩
end Go.Proofs.G5u

/- GaugeStrings: whatever the input, it returns true, and the input reads as it did. Condition: the listed library tables hold what the text of the program lays (the card ties that to the text). -/
namespace Go.Proofs.YtldjkahfgfpjaaaGreatDoor.K
open Go Go.Abs Go.RowKit Go.ChangeShapes Go.WideShapes Go.ChangeAt Go.Proofs Go.Flat Go.Proofs.G5u
set_option maxRecDepth 100000
namespace GaugeStrings
abbrev shs : List Sh := [.agg [22, 3], .one 9]
theorem shapes : Tryz.f3.params.toList.mapM (argSh Tryz.prog) = some shs := by kernel_rfl
theorem all (ds : List D) (h : ShDs Tryz.prog shs ds) : Con Tryz.prog 3 ds [.val (.bool true)] := by
  cases h with | cons h1 t => cases t with | cons h2 t =>
  cases t
  obtain ⟨s, rfl⟩ := leaf_str Tryz.underlying9 h2
  obtain ⟨ds1, rfl, k1⟩ := h1
  cases k1 with | cons a1 t => cases t with | cons a2 t =>
  cases t
  obtain ⟨den, rfl, hd⟩ := leaf_int Tryz.underlying3 a2
  rcases leaf_prs Tryz.underlying22 (by kernel_rfl) a1 with rfl | ⟨l, rfl, hb⟩
  · exact lawN den hd s
  · exact lawE l den hd hb s
def wArgs : Array Value := #[.agg #[.slice none 0 0, .int .i64 0], .string ⟨#[]⟩]
theorem laid_met (os : Os) : laidMet Tryz.prog Rows.gaugeStringsRow.laid ((laidWorld os).forCall (fun _ _ => 0) ⟨#[], wArgs, []⟩).memory :=
  laidMet_of_run' 8 (by kernel_rfl) (by kernel_rfl)
theorem reads (os : Os) {H : Type} (enc : TypeId × Value → H) : ∃ places, DataW.whole enc Tryz.prog ((laidWorld os).forCall (fun _ _ => 0) ⟨#[], wArgs, []⟩).memory Tryz.f3.params.toList Rows.gaugeStringsSpec.vars false wArgs.toList 8 =
    some ([.agg [.nil, .lit (.int .i64 0)], .lit (.string [])], [], places) :=
  ⟨[], by kernel_rfl⟩
theorem lifted (os : Os) (started : os.Started) (H : Type) (enc : TypeId × Value → H) (F : Stop.Interp) :
    ReturnsInHanded {} Tryz.checked os 3 .any ((OpenSpec.ofChange Rows.gaugeStringsSpec).preRow enc Tryz.prog Tryz.f3 Rows.gaugeStringsRow.domain false Rows.gaugeStringsRow.laid) (((OpenSpec.ofChange Rows.gaugeStringsSpec).at F).post enc Tryz.prog Tryz.f3 false true false false) := by
  obtain ⟨places, hx⟩ := reads os enc
  refine returnsInHanded_of_row (C := Tryz.checked) (s := OpenSpec.ofChange Rows.gaugeStringsSpec) own started (by kernel_rfl) Tryz.func3
    (witness_row_at (enc := enc) (C := Tryz.checked) false (laidWorld os) wArgs rfl (by kernel_rfl) (by kernel_rfl) (by kernel_rfl)
      (OpenSpec.preRow_of_cond 8 hx (by kernel_rfl) (fun k hk => by cases hk) (by kernel_rfl) (laid_met os))) ?_
  intro W base args ds gs before hval hW h1 h2 h3 h4 h5 h6
  have hgood : GoodW Tryz.prog W := good_of (show laidMet _ _ W from h4) h5
  exact law_shapes (tb := 4) (s := Rows.gaugeStringsSpec) shapes all laidP mapsP slicesP (tsP (by kernel_rfl)) rfl Tryz.underlying4 rfl (fun ds h => by
    match ds, h with
    | [_, _], _ => exact ⟨rfl, rfl, rfl⟩) hval hW hgood
theorem said : Rows.GaugeStringsSaid :=
  OpenClaim.holds_of_cond 3 Tryz.f3 rfl rfl rfl rfl rfl rfl rfl ⟨rfl, rfl, rfl, rfl, rfl⟩ rfl rfl rfl rfl rfl (by kernel_rfl) Tryz.func3 (by kernel_rfl)
    (of_decide_eq_true (by kernel_rfl)) (by unfold Func.isWrapper; first | (rw [if_pos (by decide +kernel)]; kernel_rfl) | (rw [if_neg (by decide +kernel)]; exact ⟨rfl, rfl⟩))
    (fun os started H enc _ F => by rw [OpenClaim.pre_eq_preRow]; exact lifted os started H enc F)
theorem plain (f : FuncId) (fn : Func) (hf : Tryz.pinned.checked.prog.funcNamed "cobble/cobblelaw05.GaugeStrings" = some f) (hfn : Tryz.pinned.checked.prog.funcs[f]? = some fn) :
    true = Tryz.pinned.checked.prog.looks [] ∧ ∀ (j : Nat) t, fn.params[j]? = some t → Tryz.pinned.checked.prog.wantsStandIn t = false := by
  obtain rfl : f = 3 := Option.some.inj ((show Tryz.prog.funcNamed "cobble/cobblelaw05.GaugeStrings" = some 3 by kernel_rfl).symm.trans hf) |>.symm
  obtain rfl : fn = Tryz.f3 := (Option.some.inj (Tryz.func3.symm.trans hfn)).symm
  exact ⟨by kernel_rfl, noStand (by kernel_rfl)⟩
theorem card : Rows.GaugeStringsCardSaid :=
  Claim7.holds_tied_plain_at .later [] _ _ _ _ said (fun _ h => by cases h) (by kernel_rfl) (fun _ h => by cases h) gaugeStrings_row_tie rfl ⟨rfl, rfl⟩ (by kernel_rfl) rfl plain (by kernel_rfl)
#print axioms card
end GaugeStrings
end Go.Proofs.YtldjkahfgfpjaaaGreatDoor.K
