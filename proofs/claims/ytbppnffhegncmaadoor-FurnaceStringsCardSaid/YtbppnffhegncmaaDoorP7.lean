/- Texts of the proof, put together: GsSF4, GsSFK. -/
import Derived.Test.YtbppnffhegncmaaDoorP5
import Derived.Test.YtbppnffhegncmaaDoorGsSA
import Derived.Test.YtbppnffhegncmaaDoorP4
/- Chapter 2: the reference's route with a string; routes that are alike; copies; the law of strings. -/
namespace Go.Proofs.G5s
open Go Go.Abs Go.Proofs Go.Str
set_option maxRecDepth 100000
theorem bc_ff {x y : Prop} : bcase false x y = y := rfl
theorem strs_at0 {a : List UInt8} {r : List (List UInt8)} : At (strs (a :: r)) 0 1 [str a] := ⟨by simp, rfl⟩
theorem strs_at1 {a b : List UInt8} {r : List (List UInt8)} : At (strs (a :: b :: r)) 1 1 [str b] := ⟨by simp, rfl⟩
theorem conRP (l : List UInt8) (hl : l.length ≤ 70000) : C5 8 [dS l] [(prs l).1, dI (prs l).2] := by
  generalize hws : cutA 32 [] l = ws
  have hwn : ws.length ≠ 0 := by rw [← hws]; intro e; exact cutA_ne (List.length_eq_zero_iff.1 e)
  have hwl : ws.length ≤ 70001 := by rw [← hws, cutA_len]; have := List.count_le_length (a := (32 : UInt8)) (l := l); omega
  have hwm : ∀ w ∈ ws, w.length ≤ 70000 := fun w hw => by rw [← hws] at hw; have := cutA_le w hw; simp at this; omega
  let inv : Nat × List Pr → Prop := fun x => goes ws x ∧ ¬ 60000 < l.length ∧ l ≠ []
  let st : Nat × List Pr → Slots × Blocks := fun x => match x.2 with
    | [] => zRP2 ws.length x.1 (strs ws)
    | p :: r => zRP4 (p :: r).length ws.length x.1 (vp (p :: r)) (strs ws)
  have hprs : ¬ 60000 < l.length → l ≠ [] → prs l = afterW (words zoneW ws) := by
    intro h1 h2
    unfold prs
    rw [if_neg h1, if_neg h2, hws]
  refine con_of (L := fun _ s b => ∃ x, inv x ∧ st x = (s, b)) hokF mixed Tryd.func8 rfl (by show 0 ≤ 400; omega) rfl (ids := [0]) (by kernel_rfl) rfl (fun caps => ?_) (fun id hid => ?_)
  · show gRP _ _ (bs l) _
    rw [gRP_text]
    simp only [bs_size, empty_beq]
    refine bc_dec (fun h => ?_) (fun h => ?_)
    · unfold prs; rw [if_pos (by omega)]
    · refine bc_dec (fun h2 => ?_) (fun h2 => ?_)
      · unfold prs; rw [if_neg (by omega), if_pos h2]
      · refine .inr ⟨_, _, ⟨conCu l 32 (by omega)⟩, ?_⟩
        rw [hws]
        exact ⟨(0, []), ⟨⟨Nat.zero_le _, rfl, by simp⟩, by omega, h2⟩, rfl⟩
  · obtain rfl := List.mem_singleton.1 hid
    refine ⟨Nat × List Pr, st, inv, fun x => ws.length - x.1, ⟨fun s b h => h, by kernel_rfl, ?_⟩⟩
    rintro ⟨i, out⟩ ⟨hg, h6, hne⟩
    have hp := hprs h6 hne
    have hi := hg.1
    have ho := hg.2.1
    simp only at hi ho
    have bad : ∀ h : i < ws.length, zoneW ws[i] = none → [D.nil, dI 7] = [(prs l).1, dI (prs l).2] := fun h e => by
      rw [hp, (goes_step hg h).1 e]; rfl
    -- one word, whatever follows a zone
    have word : ∀ (h : i < ws.length) (B : Int → Int → Prop), (∀ z, zoneW ws[i] = some z → B z.1 z.2) →
        ((Says C5 26 [dS ws[i], .val (.int .u8 120)] [D.nil] ∧ [D.nil, dI 7] = [(prs l).1, dI (prs l).2]) ∨
        (∃ n1 : Nat, ∃ cs1 : List Value, Says C5 26 [dS ws[i], .val (.int .u8 120)] [.sl n1 1 cs1] ∧
          bcase ((n1 : Int) != 2) ([D.nil, dI 7] = [(prs l).1, dI (prs l).2])
          (bcase (decide (0 < (n1 : Int)))
          (∃ s2 : ByteArray, At cs1 0 1 [.string s2] ∧ ∃ n2 : Int,
            ((Says C5 27 [.val (.string s2), dI 5] [dI n2, .val (.bool true)] ∧
              bcase (decide (1 < (n1 : Int))) (∃ s3 : ByteArray, At cs1 1 1 [.string s3] ∧ ∃ n3 : Int,
                ((Says C5 27 [.val (.string s3), dI 5] [dI n3, .val (.bool true)] ∧
                  bcase (decide (n2 < 0)) ([D.nil, dI 7] = [(prs l).1, dI (prs l).2]) (bcase (decide (n3 < 0)) ([D.nil, dI 7] = [(prs l).1, dI (prs l).2]) (B n2 n3))) ∨
                 (Says C5 27 [.val (.string s3), dI 5] [dI n3, .val (.bool false)] ∧ [D.nil, dI 7] = [(prs l).1, dI (prs l).2]))) False) ∨
             (Says C5 27 [.val (.string s2), dI 5] [dI n2, .val (.bool false)] ∧
              bcase (decide (1 < (n1 : Int))) (∃ s3 : ByteArray, At cs1 1 1 [.string s3] ∧ ∃ n3 : Int,
                ((Says C5 27 [.val (.string s3), dI 5] [dI n3, .val (.bool true)] ∧ [D.nil, dI 7] = [(prs l).1, dI (prs l).2]) ∨
                 (Says C5 27 [.val (.string s3), dI 5] [dI n3, .val (.bool false)] ∧ [D.nil, dI 7] = [(prs l).1, dI (prs l).2]))) False)))
          False))) := by
      intro h B hB
      refine .inr ⟨_, _, ⟨conCu ws[i] 120 (by have := hwm _ (List.getElem_mem h); omega)⟩, ?_⟩
      rcases two_cut (c := 120) (d := 5) (w := ws[i]) (by decide) with ⟨h1, h2⟩ | ⟨a, b, h1, h2⟩
      · refine bc_bne (fun _ => bad h h2) (fun hc => absurd (by omega) h1)
      · have hla : a.length ≤ ws[i].length := by have := cutA_le (c := 120) (acc := []) (l := ws[i]) a (by rw [h1]; simp); simpa using this
        have hlb : b.length ≤ ws[i].length := by have := cutA_le (c := 120) (acc := []) (l := ws[i]) b (by rw [h1]; simp); simpa using this
        have hw := hwm _ (List.getElem_mem h)
        rw [h1]
        refine bc_bne (fun hc => absurd rfl hc) (fun _ => ?_)
        refine bc_yes (by show (0 : Int) < ((2 : Nat) : Int); decide) ?_
        refine ⟨_, strs_at0, _, sayOr2 (conNu a 5 (by decide) (by omega)) (fun ha => ?_) (fun ha => ?_)⟩
        · refine bc_yes (by show (1 : Int) < ((2 : Nat) : Int); decide) ?_
          refine ⟨_, strs_at1, _, sayOr2 (conNu b 5 (by decide) (by omega)) (fun hb => ?_) (fun hb => ?_)⟩
          · by_cases oa : okNum 5 a = true
            · by_cases ob : okNum 5 b = true
              · rw [readNum_ok oa, readNum_ok ob]
                refine bc_no (by have := (numF_pos oa).1; simp only; omega) (bc_no (by have := (numF_pos ob).1; simp only; omega) ?_)
                exact hB (numF 0 a, numF 0 b) (by show two 120 5 _ = _; rw [h2, oa, ob]; rfl)
              · have ob' : okNum 5 b = false := by simpa using ob
                have := readNum_no ob' hb
                refine bc_dec (fun _ => bad h ?_) (fun _ => bc_yes this (bad h ?_)) <;> (show two 120 5 _ = _; rw [h2, ob', Bool.and_false]; rfl)
            · have oa' : okNum 5 a = false := by simpa using oa
              have := readNum_no oa' ha
              refine bc_yes this (bad h ?_)
              show two 120 5 _ = _; rw [h2, oa', Bool.false_and]; rfl
          · refine bad h ?_
            have ob' : okNum 5 b = false := by
              cases hk : okNum 5 b with
              | false => rfl
              | true => rw [readNum_ok hk] at hb; cases hb
            show two 120 5 _ = _; rw [h2, ob', Bool.and_false]; rfl
        · have oa' : okNum 5 a = false := by
            cases hk : okNum 5 a with
            | false => rfl
            | true => rw [readNum_ok hk] at ha; cases ha
          have hz : zoneW ws[i] = none := by show two 120 5 _ = _; rw [h2, oa', Bool.false_and]; rfl
          refine bc_yes (by show (1 : Int) < ((2 : Nat) : Int); decide) ?_
          exact ⟨_, strs_at1, _, sayOr2 (conNu b 5 (by decide) (by omega)) (fun _ => bad h hz) (fun _ => bad h hz)⟩
    cases out with
    | nil =>
      have hi0 : i = 0 := by simpa using ho.symm
      show rRP2 _ _ ws.length i (strs ws) _ _ _
      rw [rRP2_text]
      refine bc_dec (fun h => ?_) (fun h => absurd (show (i : Int) < ws.length by omega) h)
      have hi' : i < ws.length := by omega
      simp only [bc_t (show (0 : Int) ≤ (i : Int) by omega), bc_t h, Int.toNat_natCast, atS (strs_at ws i hi'), wi1 hi' (by omega)]
      exact word hi' _ (fun z hz => ⟨(i + 1, [z]), ⟨(goes_step hg hi').2 _ hz, h6, hne⟩, by show ws.length - (i + 1) < ws.length - i; omega, rfl⟩)
    | cons p r =>
      show rRP4 _ _ (p :: r).length ws.length i (vp (p :: r)) (strs ws) _ _ _
      rw [rRP4_text]
      refine bc_dec (fun h => ?_) (fun h => ?_)
      · have hi' : i < ws.length := by omega
        have hpl : (p :: r).length = i := ho
        simp only [bc_t (show (0 : Int) ≤ (i : Int) by omega), bc_t h, Int.toNat_natCast, atS (strs_at ws i hi'), wi1 hi' (by omega),
          bc_t (Nat.lt_succ_self (p :: r).length), bc_t (show (2 * ((p :: r).length + 1) + 768) * 16 ≤ 281474976710656 by omega), bc_t (show (p :: r).length + 1 ≤ 1099511627776 by omega), bc_t (show 0 + (p :: r).length * 2 ≤ (vp (p :: r)).length by rw [vp_length]; omega), bc_t (show 0 + (p :: r).length * 2 = (vp (p :: r)).length by rw [vp_length]; omega), vp_whole]
        refine word hi' _ (fun z hz => ⟨(i + 1, (p :: r) ++ [z]), ⟨(goes_step hg hi').2 _ hz, h6, hne⟩, by show ws.length - (i + 1) < ws.length - i; omega, ?_⟩)
        show zRP4 ((p :: r) ++ [_]).length ws.length ((i + 1 : Nat) : Int) (vp ((p :: r) ++ [_])) (strs ws) = _
        rw [List.length_append, vp_snoc]
        rfl
      · have hil : i = ws.length := by omega
        subst hil
        have hz := goes_end hg
        rw [hz] at hp
        show nRP5 _ _ (p :: r).length (vp (p :: r)) _
        rw [nRP5_text]
        simp only [vp_whole]
        refine bc_yes (by rw [vp_length]; omega) ⟨_, ⟨conRE (p :: r)⟩, ?_⟩
        refine bc_bne (fun hc => ?_) (fun hc => ?_)
        · rw [hp]; unfold afterW; simp only; rw [if_neg hc]
        · rw [hp]; unfold afterW; simp only; rw [if_pos hc]
          first | rfl | exact ⟨⟨trivial, by rw [vp_length]⟩, rfl⟩
/-! ### alike, copied -/
theorem conSR (l : List Pr) (hlen : l.length ≤ 1000000) : C5 10 [.sl l.length 2 (vp l), .sl l.length 2 (vp l)] [dB true] := by
  let inv : Nat × Nat × Nat → Prop := fun x => x.1 ≤ l.length
  let st : Nat × Nat × Nat → Slots × Blocks := fun x => zSR1 l.length x.2.1 l.length x.2.2 x.1 (vp l) (vp l)
  refine con_of (L := fun _ s b => ∃ x, inv x ∧ st x = (s, b)) hokF mixed Tryd.func10 rfl (by show 2 ≤ 400; omega) rfl (ids := [0]) (by kernel_rfl) rfl (fun caps => ?_) (fun id hid => ?_)
  · show gSR _ _ l.length (caps 500) (vp l) l.length (caps 501) (vp l) _
    rw [gSR_text]
    refine bc_bne (fun h => absurd rfl h) (fun _ => ?_)
    exact ⟨(0, caps 500, caps 501), Nat.zero_le _, rfl⟩
  · obtain rfl := List.mem_singleton.1 hid
    refine ⟨Nat × Nat × Nat, st, inv, fun x => l.length - x.1, ⟨fun s b h => h, by kernel_rfl, ?_⟩⟩
    rintro ⟨i, c1, c2⟩ hi
    have hi : i ≤ l.length := hi
    show rSR1 _ _ l.length c1 l.length c2 i (vp l) (vp l) _ _ _
    rw [rSR1_text]
    refine bc_dec (fun h => ?_) (fun h => ?_)
    · have hi' : i < l.length := by omega
      simp only [bc_t (show (0 : Int) ≤ (i : Int) by omega), bc_t h, Int.toNat_natCast, at2 (vp_two l i hi'), wi1 hi' (by omega), if_true, beq_self_eq_true, Bool.and_self, Bool.not_true, bc_ff, eq_self, true_and, and_true]
      exact ⟨(i + 1, c1, c2), hi', by show l.length - (i + 1) < l.length - i; omega, rfl⟩
    · show (if 0 = 0 then _ else _)
      rw [if_pos rfl]
      show nSR2 _ _ _
      rw [nSR2_text]
theorem conSRo : C5 10 [.nil, .nil] [dB true] := by
  refine con_of (L := fun _ s b => ∃ _x : Unit, True ∧ zSRo1 0 = (s, b)) hokF mixed Tryd.func10 rfl (by show 0 ≤ 400; omega) rfl (ids := [0]) (by kernel_rfl) rfl (fun caps => ?_) (fun id hid => ?_)
  · show gSRo _ _ _
    rw [gSRo_text]
    exact ⟨(), trivial, rfl⟩
  · obtain rfl := List.mem_singleton.1 hid
    refine ⟨Unit, fun _ => zSRo1 0, fun _ => True, fun _ => 0, ⟨fun s b h => h, by kernel_rfl, ?_⟩⟩
    rintro _ _
    show rSRo1 _ _ 0 _ _ _
    rw [rSRo1_text]
    refine bc_no (by decide) ?_
    show (if 0 = 0 then _ else _)
    rw [if_pos rfl]
    show nSRo2 _ _ _
    rw [nSRo2_text]
theorem conSRn : C5 10 [.nil, .sl 0 2 []] [dB true] := by
  refine con_of (L := fun _ s b => ∃ x : Nat, True ∧ zSRn1 0 x 0 [] = (s, b)) hokF mixed Tryd.func10 rfl (by show 1 ≤ 400; omega) rfl (ids := [0]) (by kernel_rfl) rfl (fun caps => ?_) (fun id hid => ?_)
  · show gSRn _ _ 0 (caps 500) [] _
    rw [gSRn_text]
    exact bc_bne (fun h => absurd rfl h) (fun _ => ⟨caps 500, trivial, rfl⟩)
  · obtain rfl := List.mem_singleton.1 hid
    refine ⟨Nat, fun x => zSRn1 0 x 0 [], fun _ => True, fun _ => 0, ⟨fun s b h => h, by kernel_rfl, ?_⟩⟩
    rintro c _
    show rSRn1 _ _ 0 c 0 [] _ _ _
    rw [rSRn1_text]
    refine bc_no (by decide) ?_
    show (if 0 = 0 then _ else _)
    rw [if_pos rfl]
    show nSRn2 _ _ _
    rw [nSRn2_text]
theorem conCY (l : List Pr) (hlen : l.length ≤ 1000000) : C5 6 [.sl l.length 2 (vp l)] [.sl l.length 2 (vp l)] := by
  refine con_flat hokE mixed Tryd.func6 rfl (by show 1 ≤ 400; omega) rfl (by kernel_rfl) (fun caps => ?_)
  show gCY _ _ l.length (caps 500) (vp l) _
  rw [gCY_text, vp_whole]
  refine bc_yes (by rw [vp_length]; omega) (bc_beq (fun h => ?_) (fun h => ?_))
  · have : l = [] := List.length_eq_zero_iff.1 h
    subst this
    exact ⟨⟨rfl, rfl⟩, rfl⟩
  · refine bc_yes (by omega) (bc_yes (by omega) (bc_yes (by omega) ?_))
    rw [Nat.zero_add, List.nil_append]
    exact ⟨⟨rfl, by rw [vp_length]⟩, rfl⟩
theorem conCYn : C5 6 [.nil] [.sl 0 2 []] := by
  refine con_flat hokE mixed Tryd.func6 rfl (by show 0 ≤ 400; omega) rfl (by kernel_rfl) (fun caps => ?_)
  show gCYn _ _ _
  rw [gCYn_text]
  exact ⟨⟨rfl, rfl⟩, rfl⟩
/-! ### what is written is read again -/
theorem itoa_no32 {n : Int} (h : 0 ≤ n) : (32 : UInt8) ∉ Lib.itoa n := by
  rw [itoa_nn h]
  intro hm
  have := List.all_eq_true.1 (dec_all _ _ (Nat.le_refl n.toNat)) 32 hm
  exact absurd this (by decide)
theorem p5 : (10 : Int) ^ 5 = 100000 := by decide
theorem prs_fmt (l : List Pr) (h : (routeE l).2 = 0) : prs (fmt l) = if l = [] then (.nil, 0) else (.sl l.length 2 (vp l), 0) := by
  have h5 : l.length ≤ 5 := by
    rcases Nat.lt_or_ge 5 l.length with h5 | h5
    · unfold routeE at h; rw [if_pos h5] at h; exact absurd h (by decide)
    · exact h5
  have hz : ∀ p ∈ l, zoneOk p := by
    have : routeE l = rtE 0 l := by unfold routeE; rw [if_neg (by omega)]
    rw [this] at h
    exact (rtE_2 l 0).1 h
  have hb : in64 l := fun p hp => by have := hz p hp; unfold zoneOk at this; omega
  have hfl := fmt_len hb
  by_cases hl : l = []
  · subst hl; rfl
  · rw [if_neg hl]
    have hne : fmt l ≠ [] := by
      obtain ⟨p, r, rfl⟩ := List.exists_cons_of_ne_nil hl
      unfold fmt
      rw [List.map_cons, Lib.join_cons]
      simp [wz]
    unfold prs
    rw [if_neg (by omega), if_neg hne]
    have hcut : cutA 32 [] (fmt l) = l.map wz := cutA_join (by simpa using hl) (fun x hx => by
      obtain ⟨p, hp, rfl⟩ := List.mem_map.1 hx
      have := hz p hp
      unfold zoneOk at this
      intro hm
      rw [wz, List.mem_append] at hm
      rcases hm with hm | hm
      · exact itoa_no32 this.1.1 hm
      · rcases List.mem_cons.1 hm with hm | hm
        · exact absurd hm (by decide)
        · exact itoa_no32 this.2.1 hm)
    have hwo : words zoneW (l.map wz) = some l := words_map (fun p hp => by
      have := hz p hp
      unfold zoneOk at this
      exact two_join (c := 120) (d := 5) (by decide) (by decide) ⟨this.1.1, by rw [p5]; omega⟩ ⟨this.2.1, by rw [p5]; omega⟩)
    rw [hcut, hwo]
    unfold afterW
    simp only
    rw [if_pos h]
theorem prs_cases (l : List UInt8) : (∃ e, prs l = (.nil, e)) ∨ ∃ zs : List Pr, prs l = (.sl zs.length 2 (vp zs), 0) ∧ zs.length ≤ 5 := by
  unfold prs
  split
  · exact .inl ⟨_, rfl⟩
  · split
    · exact .inl ⟨_, rfl⟩
    · unfold afterW
      split
      · exact .inl ⟨_, rfl⟩
      · split
        · next h =>
          rename_i zs _
          refine .inr ⟨_, rfl, ?_⟩
          rcases Nat.lt_or_ge 5 zs.length with h5 | h5
          · unfold routeE at h; rw [if_pos h5] at h; exact absurd h (by decide)
          · exact h5
        · exact .inl ⟨_, rfl⟩
theorem guard2 {p q r : Prop} [Decidable p] [Decidable q] [Decidable r] {K T : Prop} (hk : K) (ht : ¬ r → T) : bcase (decide p) (bcase (decide q) K (bcase (decide r) K T)) (bcase (decide r) K T) :=
  bc_dec (fun _ => bc_dec (fun _ => hk) (fun _ => bc_dec (fun _ => hk) ht)) (fun _ => bc_dec (fun _ => hk) ht)
theorem bsame {x : List UInt8} {K T : Prop} (ht : T) : bcase (!x == x) K T := bc_false (by simp) ht
theorem lawE (l : List Pr) (hb : in64 l) (s : List UInt8) : C5 3 [.sl l.length 2 (vp l), dS s] [dB true] := by
  refine con_flat hokF mixed Tryd.func3 rfl (by show 1 ≤ 400; omega) rfl (by kernel_rfl) (fun caps => ?_)
  show gLw _ _ l.length (caps 500) (vp l) (bs s) _
  rw [gLw_text]
  simp only [vp_whole, bs_size]
  refine .inl ⟨⟨conA⟩, bc_dec (fun _ => trivial) (fun h7 => guard2 trivial (fun hs => ?_))⟩
  have h7' : l.length ≤ 7 := by omega
  have hsl : s.length ≤ 70000 := by omega
  have hvp : 0 + l.length * 2 ≤ (vp l).length := by rw [vp_length]; omega
  simp only [bc_t hvp]
  refine ⟨⟨conCY l (by omega)⟩, _, ⟨conFR l hb (by omega)⟩, ?_⟩
  have c1 := conPR s hsl
  have c2 := conRP s hsl
  have hpf : (fmt l).length ≤ 70000 := by have := fmt_len hb; omega
  have c3 := conPR (fmt l) hpf
  rcases prs_cases s with ⟨e, he⟩ | ⟨zs, he, hz5⟩
  · rw [he] at c1 c2
    refine .inl ⟨_, ⟨c1⟩, .inl ⟨_, ⟨c2⟩, _, ⟨conRF l hb (by omega)⟩, bsame (bc_bne (fun h => absurd rfl h) (fun _ => .inl ⟨⟨conSRo⟩, _, ⟨conRE l⟩, bc_bne (fun _ => trivial) (fun h0 => ?_)⟩))⟩⟩
    rw [prs_fmt l h0] at c3
    by_cases hl : l = []
    · rw [if_pos hl] at c3
      subst hl
      exact .inl ⟨_, ⟨c3⟩, bc_beq (fun _ => .inl ⟨⟨conSRn⟩, trivial⟩) (fun h => absurd rfl h)⟩
    · rw [if_neg hl] at c3
      exact .inr ⟨_, _, _, ⟨c3⟩, bc_beq (fun _ => bc_yes hvp (by rw [vp_whole]; exact .inl ⟨⟨conSR l (by omega)⟩, trivial⟩)) (fun h => absurd rfl h)⟩
  · rw [he] at c1 c2
    have hvz : 0 + zs.length * 2 ≤ (vp zs).length := by rw [vp_length]; omega
    refine .inr ⟨_, _, _, ⟨c1⟩, .inr ⟨_, _, _, ⟨c2⟩, _, ⟨conRF l hb (by omega)⟩, bsame (bc_bne (fun h => absurd rfl h) (fun _ => bc_yes hvz (bc_yes hvz ?_)))⟩⟩
    rw [vp_whole]
    refine .inl ⟨⟨conSR zs (by omega)⟩, _, ⟨conRE l⟩, bc_bne (fun _ => trivial) (fun h0 => ?_)⟩
    rw [prs_fmt l h0] at c3
    by_cases hl : l = []
    · rw [if_pos hl] at c3
      subst hl
      exact .inl ⟨_, ⟨c3⟩, bc_beq (fun _ => .inl ⟨⟨conSRn⟩, trivial⟩) (fun h => absurd rfl h)⟩
    · rw [if_neg hl] at c3
      exact .inr ⟨_, _, _, ⟨c3⟩, bc_beq (fun _ => bc_yes hvp (by rw [vp_whole]; exact .inl ⟨⟨conSR l (by omega)⟩, trivial⟩)) (fun h => absurd rfl h)⟩
theorem lawN (s : List UInt8) : C5 3 [.nil, dS s] [dB true] := by
  refine con_flat hokF mixed Tryd.func3 rfl (by show 0 ≤ 400; omega) rfl (by kernel_rfl) (fun caps => ?_)
  show gLwn _ _ (bs s) _
  rw [gLwn_text]
  simp only [bs_size]
  refine .inl ⟨⟨conA⟩, guard2 trivial (fun hs => ?_)⟩
  have hsl : s.length ≤ 70000 := by omega
  have e0 : C5 5 [.sl 0 2 []] [dS []] := conFR [] (fun p hp => by cases hp) (by decide)
  refine ⟨⟨conCYn⟩, _, ⟨e0⟩, ?_⟩
  have c1 := conPR s hsl
  have c2 := conRP s hsl
  have c3 : C5 7 [dS []] [.nil, dI 0] := conPR [] (by decide)
  rcases prs_cases s with ⟨e, he⟩ | ⟨zs, he, hz5⟩
  · rw [he] at c1 c2
    exact .inl ⟨_, ⟨c1⟩, .inl ⟨_, ⟨c2⟩, _, ⟨conRFn⟩, bsame (bc_bne (fun h => absurd rfl h) (fun _ => .inl ⟨⟨conSRo⟩, _, ⟨conREn⟩, bc_bne (fun _ => trivial) (fun h0 =>
      .inl ⟨_, ⟨c3⟩, bc_beq (fun _ => .inl ⟨⟨conSRo⟩, trivial⟩) (fun h => absurd rfl h)⟩)⟩))⟩⟩
  · rw [he] at c1 c2
    have hvz : 0 + zs.length * 2 ≤ (vp zs).length := by rw [vp_length]; omega
    refine .inr ⟨_, _, _, ⟨c1⟩, .inr ⟨_, _, _, ⟨c2⟩, _, ⟨conRFn⟩, bsame (bc_bne (fun h => absurd rfl h) (fun _ => bc_yes hvz (bc_yes hvz ?_)))⟩⟩
    rw [vp_whole]
    exact .inl ⟨⟨conSR zs (by omega)⟩, _, ⟨conREn⟩, bc_bne (fun _ => trivial) (fun h0 =>
      .inl ⟨_, ⟨c3⟩, bc_beq (fun _ => .inl ⟨⟨conSRo⟩, trivial⟩) (fun h => absurd rfl h)⟩)⟩
end Go.Proofs.G5s

/- FurnaceStrings: whatever the input, it returns true, and the input reads as it did. Condition: the listed library tables hold what the text of the program lays (the card ties that to the text). -/
namespace Go.Proofs.YtbppnffhegncmaaDoor.K
open Go Go.Abs Go.RowKit Go.ChangeShapes Go.WideShapes Go.ChangeAt Go.Proofs Go.Flat Go.Proofs.G5s
set_option maxRecDepth 100000
namespace FurnaceStrings
abbrev shs : List Sh := [.one 22, .one 9]
theorem shapes : Tryd.f3.params.toList.mapM (argSh Tryd.prog) = some shs := by kernel_rfl
theorem all (ds : List D) (h : ShDs Tryd.prog shs ds) : Con Tryd.prog 3 ds [.val (.bool true)] := by
  cases h with | cons h1 t => cases t with | cons h2 t =>
  cases t
  obtain ⟨s, rfl⟩ := leaf_str Tryd.underlying9 h2
  rcases leaf_prs Tryd.underlying22 (by kernel_rfl) h1 with rfl | ⟨l, rfl, hb⟩
  · exact lawN s
  · exact lawE l hb s
def wArgs : Array Value := #[.slice none 0 0, .string ⟨#[]⟩]
theorem laid_met (os : Os) : laidMet Tryd.prog Rows.furnaceStringsRow.laid ((laidWorld os).forCall (fun _ _ => 0) ⟨#[], wArgs, []⟩).memory :=
  laidMet_of_run' 8 (by kernel_rfl) (by kernel_rfl)
theorem reads (os : Os) {H : Type} (enc : TypeId × Value → H) : ∃ places, DataW.whole enc Tryd.prog ((laidWorld os).forCall (fun _ _ => 0) ⟨#[], wArgs, []⟩).memory Tryd.f3.params.toList Rows.furnaceStringsSpec.vars false wArgs.toList 8 =
    some ([.nil, .lit (.string [])], [], places) :=
  ⟨[], by kernel_rfl⟩
theorem lifted (os : Os) (started : os.Started) (H : Type) (enc : TypeId × Value → H) (F : Stop.Interp) :
    ReturnsInHanded {} Tryd.checked os 3 .any ((OpenSpec.ofChange Rows.furnaceStringsSpec).preRow enc Tryd.prog Tryd.f3 Rows.furnaceStringsRow.domain false Rows.furnaceStringsRow.laid) (((OpenSpec.ofChange Rows.furnaceStringsSpec).at F).post enc Tryd.prog Tryd.f3 false true false false) := by
  obtain ⟨places, hx⟩ := reads os enc
  refine returnsInHanded_of_row (C := Tryd.checked) (s := OpenSpec.ofChange Rows.furnaceStringsSpec) own started (by kernel_rfl) Tryd.func3
    (witness_row_at (enc := enc) (C := Tryd.checked) false (laidWorld os) wArgs rfl (by kernel_rfl) (by kernel_rfl) (by kernel_rfl)
      (OpenSpec.preRow_of_cond 8 hx (by kernel_rfl) (fun k hk => by cases hk) (by kernel_rfl) (laid_met os))) ?_
  intro W base args ds gs before hval hW h1 h2 h3 h4 h5 h6
  have hgood : GoodW Tryd.prog W := good_of (show laidMet _ _ W from h4) h5
  exact law_shapes (tb := 4) (s := Rows.furnaceStringsSpec) shapes all laidP mapsP slicesP (tsP (by kernel_rfl)) rfl Tryd.underlying4 rfl (fun ds h => by
    match ds, h with
    | [_, _], _ => exact ⟨rfl, rfl, rfl⟩) hval hW hgood
theorem said : Rows.FurnaceStringsSaid :=
  OpenClaim.holds_of_cond 3 Tryd.f3 rfl rfl rfl rfl rfl rfl rfl ⟨rfl, rfl, rfl, rfl, rfl⟩ rfl rfl rfl rfl rfl (by kernel_rfl) Tryd.func3 (by kernel_rfl)
    (of_decide_eq_true (by kernel_rfl)) (by unfold Func.isWrapper; first | (rw [if_pos (by decide +kernel)]; kernel_rfl) | (rw [if_neg (by decide +kernel)]; exact ⟨rfl, rfl⟩))
    (fun os started H enc _ F => by rw [OpenClaim.pre_eq_preRow]; exact lifted os started H enc F)
theorem plain (f : FuncId) (fn : Func) (hf : Tryd.pinned.checked.prog.funcNamed "cobble/cobblelaw02.FurnaceStrings" = some f) (hfn : Tryd.pinned.checked.prog.funcs[f]? = some fn) :
    false = Tryd.pinned.checked.prog.looks [] ∧ ∀ (j : Nat) t, fn.params[j]? = some t → Tryd.pinned.checked.prog.wantsStandIn t = false := by
  obtain rfl : f = 3 := Option.some.inj ((show Tryd.prog.funcNamed "cobble/cobblelaw02.FurnaceStrings" = some 3 by kernel_rfl).symm.trans hf) |>.symm
  obtain rfl : fn = Tryd.f3 := (Option.some.inj (Tryd.func3.symm.trans hfn)).symm
  exact ⟨by kernel_rfl, noStand (by kernel_rfl)⟩
theorem card : Rows.FurnaceStringsCardSaid :=
  Claim7.holds_tied_plain_at .later [] _ _ _ _ said (fun _ h => by cases h) (by kernel_rfl) (fun _ h => by cases h) furnaceStrings_row_tie rfl ⟨rfl, rfl⟩ (by kernel_rfl) rfl plain (by kernel_rfl)
#print axioms card
end FurnaceStrings
end Go.Proofs.YtbppnffhegncmaaDoor.K
