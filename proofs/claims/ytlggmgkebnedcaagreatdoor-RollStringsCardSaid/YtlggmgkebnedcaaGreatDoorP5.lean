/- Texts of the proof, put together: GwSR2, GwSR3. -/
import Derived.Test.YtlggmgkebnedcaaGreatDoorP4
/- Chapter 6: the string of a roll, and the roll with a string, in data. -/
namespace Go.Proofs.G5w
open Go Go.Abs Go.Proofs Go.Str
set_option maxRecDepth 100000
abbrev in64 (n : Int) : Prop := -9223372036854775808 ≤ n ∧ n ≤ 9223372036854775807
theorem empty_beq (l : List UInt8) : (ByteArray.toList (bs l) == ByteArray.toList { data := #[] }) = decide (l = []) := by
  rw [show ({ data := #[] } : ByteArray) = bs [] from rfl, bs_toList, bs_toList]
  cases l <;> rfl
theorem join3 (a b c : List UInt8) : Lib.join [a, b, c] [32] = a ++ 32 :: (b ++ 32 :: c) := by
  rw [show [a, b, c] = [a, b] ++ [c] from rfl, join_snoc (by simp), show [a, b] = [a] ++ [b] from rfl, join_snoc (by simp)]
  simp [Lib.join]
/-- the string of a roll -/
def fmd (l : List UInt8) (p o : Int) : List UInt8 := l ++ 32 :: (Lib.itoa p ++ 32 :: Lib.itoa o)
theorem conFD (l : List UInt8) (p o : Int) (hp : in64 p) (ho : in64 o) (hl : l.length ≤ 1000) : C5 5 [dD l p o] [dS (fmd l p o)] := by
  have w1 := Lib.itoa_length_le p hp.1 hp.2
  have w2 := Lib.itoa_length_le o ho.1 ho.2
  refine con_flat hokG mixed Tryz.func5 rfl (by show 0 ≤ 400; omega) rfl (by kernel_rfl) (fun caps => ?_)
  show gFD _ _ (bs l) p o _
  rw [gFD_text]
  simp only [eq_self, true_and]
  refine ⟨_, ⟨conIt p hp.1 hp.2⟩, _, ⟨conIt o ho.1 ho.2⟩, ?_⟩
  have hJ := conJn [l, Lib.itoa p, Lib.itoa o] 32 (by show 3 ≤ 140737488355328; omega) (by rw [join3]; simp only [List.length_append, List.length_cons]; omega)
  rw [join3] at hJ
  exact ⟨_, ⟨hJ⟩, rfl⟩
theorem conRF (l : List UInt8) (p o : Int) (hp : in64 p) (ho : in64 o) (hl : l.length ≤ 1000) : C5 8 [dD l p o] [dS (fmd l p o)] := by
  have w1 := Lib.itoa_length_le p hp.1 hp.2
  have w2 := Lib.itoa_length_le o ho.1 ho.2
  refine con_flat hokG mixed Tryz.func8 rfl (by show 0 ≤ 400; omega) rfl (by kernel_rfl) (fun caps => ?_)
  show gRF _ _ (bs l) p o _
  rw [gRF_text]
  have b0 : ByteArray.size (bs l) + 1 ≤ 9223372036854775807 := by rw [bs_size]; omega
  simp only [bc_t b0, eq_self, true_and, lit_bs, bs_append]
  refine ⟨_, ⟨conDe p hp.1 hp.2⟩, ?_⟩
  have b1 : ByteArray.size (bs (l ++ [32])) + ByteArray.size (bs (Lib.itoa p)) ≤ 9223372036854775807 := by rw [bs_size, bs_size]; simp; omega
  simp only [bc_t b1, bs_append]
  have b2 : ByteArray.size (bs (l ++ [32] ++ Lib.itoa p)) + 1 ≤ 9223372036854775807 := by rw [bs_size]; simp; omega
  simp only [bc_t b2, true_and]
  refine ⟨_, ⟨conDe o ho.1 ho.2⟩, ?_⟩
  have b3 : ByteArray.size (bs (l ++ [32] ++ Lib.itoa p ++ [32])) + ByteArray.size (bs (Lib.itoa o)) ≤ 9223372036854775807 := by rw [bs_size, bs_size]; simp; omega
  simp only [bc_t b3, bs_append, true_and]
  show [dS _] = [dS (fmd l p o)]
  simp [fmd]
/-- the roll with a string, and the error -/
def prD (l : List UInt8) : (List UInt8 × Int × Int) × Int :=
  match cutA 32 [] l with
  | [a, b, c] => if a = [] then (([], 0, 0), 7) else if okNum 4 b = true ∧ okNum 4 c = true then (if drumE a (numF 0 b) (numF 0 c) = 0 then ((a, numF 0 b, numF 0 c), 0) else (([], 0, 0), drumE a (numF 0 b) (numF 0 c))) else (([], 0, 0), 7)
  | _ => (([], 0, 0), 7)
theorem prD_3 {l a b c : List UInt8} (h : cutA 32 [] l = [a, b, c]) : prD l = if a = [] then (([], 0, 0), 7) else if okNum 4 b = true ∧ okNum 4 c = true then (if drumE a (numF 0 b) (numF 0 c) = 0 then ((a, numF 0 b, numF 0 c), 0) else (([], 0, 0), drumE a (numF 0 b) (numF 0 c))) else (([], 0, 0), 7) := by
  unfold prD; rw [h]
theorem prD_len {l : List UInt8} (h : (cutA 32 [] l).length ≠ 3) : prD l = (([], 0, 0), 7) := by
  unfold prD
  split
  · next e => rw [e] at h; exact absurd rfl h
  · rfl
theorem three {α : Type} : ∀ (ws : List α), ws.length = 3 → ∃ a b c, ws = [a, b, c]
  | [a, b, c], _ => ⟨a, b, c, rfl⟩
abbrev dP (x : List UInt8 × Int × Int) : D := dD x.1 x.2.1 x.2.2
theorem conPD (l : List UInt8) (hl : l.length ≤ 1000) : C5 6 [dS l] [dP (prD l).1, dI (prD l).2] := by
  refine con_flat hokG mixed Tryz.func6 rfl (by show 0 ≤ 400; omega) rfl (by kernel_rfl) (fun caps => ?_)
  show gPD _ _ (bs l) _
  rw [gPD_text]
  refine .inr ⟨_, _, ⟨conSp l 32 (by omega)⟩, ?_⟩
  by_cases h3 : (cutA 32 [] l).length = 3
  · obtain ⟨a, b, c, hw⟩ := three _ h3
    have e := prD_3 hw
    rw [hw]
    have ha : At (strs [a, b, c]) 0 1 [str a] := strs_at [a, b, c] 0 (by simp)
    have hb : At (strs [a, b, c]) 1 1 [str b] := strs_at [a, b, c] 1 (by simp)
    have hc : At (strs [a, b, c]) 2 1 [str c] := strs_at [a, b, c] 2 (by simp)
    simp only [atS ha, atS hb, atS hc, empty_beq]
    refine bc_bne (fun h => absurd rfl h) (fun _ => bc_yes (by show (0 : Int) < 3; decide) (bc_dec (fun h => ?_) (fun h => bc_yes (by show (1 : Int) < 3; decide) ?_)))
    · show [dD [] 0 0, dI 7] = [dP (prD l).1, dI (prD l).2]
      rw [e, if_pos h]
    · have bad : ¬ (okNum 4 b = true ∧ okNum 4 c = true) → [dD [] 0 0, dI 7] = [dP (prD l).1, dI (prD l).2] := fun hn => by rw [e, if_neg h, if_neg hn]
      refine ⟨_, sayOr2 (conRD b) (fun kb => bc_yes (by show (2 : Int) < 3; decide) ⟨_, sayOr2 (conRD c) (fun kc => bc_yes (by show (0 : Int) < 3; decide) ?_) (fun kc => bad (by simp [kc]))⟩)
        (fun kb => bc_yes (by show (2 : Int) < 3; decide) ⟨_, sayOr2 (conRD c) (fun _ => bad (by simp [kb])) (fun _ => bad (by simp [kb]))⟩)⟩
      rw [rdV_ok kb, rdV_ok kc]
      rw [if_neg h, if_pos ⟨kb, kc⟩] at e
      refine ⟨_, ⟨conKD a _ _⟩, bc_bne (fun hd => ?_) (fun hd => ?_)⟩
      · rw [if_neg hd] at e
        show [dD [] 0 0, dI _] = [dP (prD l).1, dI (prD l).2]
        rw [e]
      · rw [if_pos hd] at e
        show [dD a _ _, dI 0] = [dP (prD l).1, dI (prD l).2]
        rw [e]
  · refine bc_bne (fun _ => ?_) (fun h => absurd h (by omega))
    show [dD [] 0 0, dI 7] = [dP (prD l).1, dI (prD l).2]
    rw [prD_len h3]
theorem num_cases (w : List UInt8) : ((readNum 4 w).2 = false ∧ okNum 4 w = false) ∨ ((readNum 4 w).2 = true ∧ ∃ b, w[0]? = some b ∧ (((b.toNat : Int) = 45 ∧ okNum 4 w = false) ∨ ((b.toNat : Int) ≠ 45 ∧ okNum 4 w = true ∧ (readNum 4 w).1 = numF 0 w))) := by
  cases h : okNum 4 w with
  | true =>
    have hr := readNum_ok h
    have h1 := (okNum_inv h).1
    have hm := okNum_mem h (c := 45) (by decide)
    refine .inr ⟨by rw [hr], w[0], by rw [List.getElem?_eq_getElem], .inr ⟨?_, rfl, by rw [hr]⟩⟩
    intro e
    have : w[0] = 45 := by rw [← UInt8.toNat_inj]; show _ = 45; omega
    exact hm (this ▸ List.getElem_mem _)
  | false =>
    cases hr : (readNum 4 w).2 with
    | false => exact .inl ⟨rfl, rfl⟩
    | true =>
      have hlt := readNum_no h hr
      cases w with
      | nil => simp [readNum, okNum_nil] at hr
      | cons b r =>
        refine .inr ⟨rfl, b, rfl, .inl ⟨?_, rfl⟩⟩
        by_cases hb : b = 45
        · subst hb; rfl
        · exfalso
          have hp := readNum_pos (d := 4) (l := b :: r) (by intro e; exact hb (Option.some.inj e))
          rw [hp] at hlt hr
          split at hr
          · cases hr
          split at hr
          · cases hr
          split at hr
          · cases hr
          rw [if_neg (by assumption), if_neg (by assumption), if_neg (by assumption)] at hlt
          unfold rdT at hlt hr
          split at hr
          · next ha =>
            rw [if_pos ha] at hlt
            have := (numF_ge (List.drop 0 (b :: r)) 0 (by decide) ha).1
            simp only [if_neg (show ¬ (0 : Nat) = 1 by decide)] at hlt
            omega
          · cases hr
theorem conRP (l : List UInt8) (hl : l.length ≤ 1000) : C5 7 [dS l] [dP (prD l).1, dI (prD l).2] := by
  obtain ⟨a, b, c, hw⟩ : ∃ a b c, (cutA 32 [] l).length = 3 → cutA 32 [] l = [a, b, c] := by
    by_cases h3 : (cutA 32 [] l).length = 3
    · obtain ⟨a, b, c, h⟩ := three _ h3
      exact ⟨a, b, c, fun _ => h⟩
    · exact ⟨[], [], [], fun h => absurd h h3⟩
  have hlen : cutA 32 [] l = [a, b, c] → a.length ≤ 1000 ∧ b.length ≤ 1000 ∧ c.length ≤ 1000 := fun h => by
    have hm : ∀ w ∈ cutA 32 [] l, w.length ≤ 1000 := fun w hw => by have := cutA_le w hw; simp at this; omega
    rw [h] at hm
    exact ⟨hm a (by simp), hm b (by simp), hm c (by simp)⟩
  let inv : Int × Int × Int → Prop := fun x => cutA 32 [] l = [a, b, c] ∧ a ≠ [] ∧ (x = (1, 0, 0) ∨ (okNum 4 b = true ∧ (x = (2, numF 0 b, 0) ∨ (okNum 4 c = true ∧ x = (3, numF 0 b, numF 0 c)))))
  let st : Int × Int × Int → Slots × Blocks := fun x => zRP1 3 x.1 (bs []) 0 0 (strs [a, b, c]) (bs a) x.2.1 x.2.2
  refine con_of (L := fun _ s b => ∃ x, inv x ∧ st x = (s, b)) hokG mixed Tryz.func7 rfl (by show 0 ≤ 400; omega) rfl (ids := [0]) (by kernel_rfl) rfl (fun caps => ?_) (fun id hid => ?_)
  · show gRP _ _ (bs l) _
    rw [gRP_text]
    refine .inr ⟨_, _, ⟨conCu l 32 (by omega)⟩, ?_⟩
    by_cases h3 : (cutA 32 [] l).length = 3
    · have hw := hw h3
      have e := prD_3 hw
      rw [hw]
      have ha : At (strs [a, b, c]) 0 1 [str a] := strs_at [a, b, c] 0 (by simp)
      simp only [atS ha, empty_beq]
      refine bc_bne (fun h => absurd rfl h) (fun _ => bc_yes (by show (0 : Int) < 3; decide) (bc_dec (fun h => ?_) (fun h => bc_yes (by show (0 : Int) < 3; decide) ?_)))
      · show [dD [] 0 0, dI 7] = [dP (prD l).1, dI (prD l).2]
        rw [e, if_pos h]
      · exact ⟨(1, 0, 0), ⟨hw, h, .inl rfl⟩, rfl⟩
    · refine bc_bne (fun _ => ?_) (fun h => absurd h (by omega))
      show [dD [] 0 0, dI 7] = [dP (prD l).1, dI (prD l).2]
      rw [prD_len h3]
  · obtain rfl := List.mem_singleton.1 hid
    refine ⟨Int × Int × Int, st, inv, fun x => (3 - x.1).toNat, ⟨fun s b h => h, by kernel_rfl, ?_⟩⟩
    rintro ⟨i, x7, x8⟩ ⟨hws, ha, hx⟩
    have e := prD_3 hws
    rw [if_neg ha] at e
    obtain ⟨_, hbl, hcl⟩ := hlen hws
    have bad : ¬ (okNum 4 b = true ∧ okNum 4 c = true) → [dD [] 0 0, dI 7] = [dP (prD l).1, dI (prD l).2] := fun hn => by rw [e, if_neg hn]
    rcases hx with h | ⟨hb, h | ⟨hc, h⟩⟩
    · simp only [Prod.mk.injEq] at h
      obtain ⟨rfl, rfl, rfl⟩ := h
      show rRP1 _ _ 3 1 (bs []) 0 0 (strs [a, b, c]) (bs a) 0 0 _ _ _
      rw [rRP1_text]
      have hat : At (strs [a, b, c]) (0 + Int.toNat 1 * 1) 1 [str b] := strs_at [a, b, c] 1 (by simp)
      simp only [atS hat]
      refine bc_yes (by decide) (bc_yes (by decide) (bc_yes (by decide) ?_))
      rcases num_cases b with ⟨h1, h2⟩ | ⟨h1, b0, h2, h3⟩
      · exact ⟨_, sayOr2 (conNu b 4 (by decide) (by omega)) (fun k => by rw [h1] at k; cases k) (fun _ => bad (by simp [h2]))⟩
      · refine ⟨_, sayOr2 (conNu b 4 (by decide) (by omega)) (fun _ => bc_yes (by decide) (bc_yes (by decide) ?_)) (fun k => by rw [h1] at k; cases k)⟩
        simp only [byte1 h2]
        rcases h3 with ⟨h3, h4⟩ | ⟨h3, h4, h5⟩
        · exact bc_beq (fun _ => bad (by simp [h4])) (fun h => absurd h3 h)
        · rw [h5]
          exact bc_beq (fun h => absurd h h3) (fun _ => bc_beq (fun _ => ⟨(2, numF 0 b, 0), ⟨hws, ha, .inr ⟨h4, .inl rfl⟩⟩, by show (3 - (2 : Int)).toNat < (3 - (1 : Int)).toNat; decide, rfl⟩) (fun h => absurd rfl h))
    · simp only [Prod.mk.injEq] at h
      obtain ⟨rfl, rfl, rfl⟩ := h
      show rRP1 _ _ 3 2 (bs []) 0 0 (strs [a, b, c]) (bs a) (numF 0 b) 0 _ _ _
      rw [rRP1_text]
      have hat : At (strs [a, b, c]) (0 + Int.toNat 2 * 1) 1 [str c] := strs_at [a, b, c] 2 (by simp)
      simp only [atS hat]
      refine bc_yes (by decide) (bc_yes (by decide) (bc_yes (by decide) ?_))
      rcases num_cases c with ⟨h1, h2⟩ | ⟨h1, b0, h2, h3⟩
      · exact ⟨_, sayOr2 (conNu c 4 (by decide) (by omega)) (fun k => by rw [h1] at k; cases k) (fun _ => bad (by simp [h2]))⟩
      · refine ⟨_, sayOr2 (conNu c 4 (by decide) (by omega)) (fun _ => bc_yes (by decide) (bc_yes (by decide) ?_)) (fun k => by rw [h1] at k; cases k)⟩
        simp only [byte1 h2]
        rcases h3 with ⟨h3, h4⟩ | ⟨h3, h4, h5⟩
        · exact bc_beq (fun _ => bad (by simp [h4])) (fun h => absurd h3 h)
        · rw [h5]
          exact bc_beq (fun h => absurd h h3) (fun _ => bc_beq (fun h => absurd h (by decide)) (fun _ => ⟨(3, numF 0 b, numF 0 c), ⟨hws, ha, .inr ⟨hb, .inr ⟨h4, rfl⟩⟩⟩, by show (3 - (3 : Int)).toNat < (3 - (2 : Int)).toNat; decide, rfl⟩))
    · simp only [Prod.mk.injEq] at h
      obtain ⟨rfl, rfl, rfl⟩ := h
      show rRP1 _ _ 3 3 (bs []) 0 0 (strs [a, b, c]) (bs a) (numF 0 b) (numF 0 c) _ _ _
      rw [rRP1_text]
      refine bc_no (by decide) ?_
      show (if 0 = 0 then _ else _)
      rw [if_pos rfl]
      show nRP2 _ _ (bs []) 0 0 (bs a) (numF 0 b) (numF 0 c) _
      rw [nRP2_text]
      rw [if_pos ⟨hb, hc⟩] at e
      refine ⟨_, ⟨conRK a _ _⟩, bc_bne (fun hd => ?_) (fun hd => ?_)⟩
      · rw [if_neg hd] at e
        show [dD [] 0 0, dI _] = [dP (prD l).1, dI (prD l).2]
        rw [e]
      · rw [if_pos hd] at e
        show [dD a _ _, dI 0] = [dP (prD l).1, dI (prD l).2]
        rw [e]
end Go.Proofs.G5w

/- Chapter 6: the law of strings, in data. -/
namespace Go.Proofs.G5w
open Go Go.Abs Go.Proofs Go.Str
set_option maxRecDepth 100000
theorem ba_beq (x : ByteArray) : (x == x) = true := by
  cases x with
  | mk d => show (d == d) = true; simp
theorem bsame {x : List UInt8} {K T : Prop} (ht : T) : bcase (!x == x) K T := bc_false (by simp) ht
theorem itoa_free {n : Int} {c : UInt8} (h1 : isDig c = false) (h2 : c ≠ 45) : c ∉ Lib.itoa n := by
  intro hm
  rcases Int.lt_or_le n 0 with hn | hn
  · rw [itoa_ng hn] at hm
    rcases List.mem_cons.1 hm with e | hm
    · exact h2 e
    · have := List.all_eq_true.1 (dec_all _ _ (Nat.le_refl n.natAbs)) c hm
      rw [h1] at this; cases this
  · rw [itoa_nn hn] at hm
    have := List.all_eq_true.1 (dec_all _ _ (Nat.le_refl n.toNat)) c hm
    rw [h1] at this; cases this
theorem drum0 {l : List UInt8} {p o : Int} (h : drumE l p o = 0) : nameOK l = true ∧ (4 ≤ p ∧ p ≤ 64) ∧ 0 ≤ o ∧ o ≤ p - 1 := by
  unfold drumE at h
  split at h
  · next h1 =>
    split at h
    · next h2 =>
      split at h
      · split at h
        · next h4 => exact ⟨h1, h2, h4⟩
        · cases h
      · cases h
    · cases h
  · cases h
theorem name_free {l : List UInt8} (h : nameOK l = true) : (32 : UInt8) ∉ l ∧ l ≠ [] := by
  unfold nameOK at h
  simp only [Bool.and_eq_true] at h
  constructor
  · intro hm
    have := List.all_eq_true.1 h.2 32 hm
    revert this; decide
  · rintro rfl
    exact absurd h.1.1.1 (by decide)
theorem num_dec {n : Int} (h0 : 0 ≤ n) (h1 : n ≤ 64) : okNum 4 (Lib.itoa n) = true ∧ numF 0 (Lib.itoa n) = n := by
  rw [itoa_nn h0]
  exact ⟨okNum_dec (dec_len 4 _ (by decide) (by omega)), by rw [dec_num _ _ (Nat.le_refl _)]; omega⟩
theorem prD_fmd {l : List UInt8} {p o : Int} (h : drumE l p o = 0) : prD (fmd l p o) = ((l, p, o), 0) := by
  obtain ⟨h1, h2, h3⟩ := drum0 h
  have hn := name_free h1
  have hc : cutA 32 [] (fmd l p o) = [l, Lib.itoa p, Lib.itoa o] := by
    unfold fmd
    rw [← join3]
    refine cutA_join (by simp) (fun x hx => ?_)
    simp only [List.mem_cons, List.not_mem_nil, or_false] at hx
    rcases hx with rfl | rfl | rfl
    · exact hn.1
    · exact itoa_free (by decide) (by decide)
    · exact itoa_free (by decide) (by decide)
  have np := num_dec (n := p) (by omega) (by omega)
  have no := num_dec (n := o) (by omega) (by omega)
  rw [prD_3 hc, if_neg hn.2, if_pos ⟨np.1, no.1⟩, np.2, no.2, if_pos h]
theorem lawR (hA : C5 4 [] [.val (.bool true)]) (l : List UInt8) (p o : Int) (hp : in64 p) (ho : in64 o) (s : List UInt8) : C5 3 [dD l p o, dS s] [dB true] := by
  refine con_flat hokG mixed Tryz.func3 rfl (by show 0 ≤ 400; omega) rfl (by kernel_rfl) (fun caps => ?_)
  show gLw _ _ (bs l) p o (bs s) _
  rw [gLw_text]
  simp only [bs_size]
  refine .inl ⟨⟨hA⟩, bc_dec (fun _ => trivial) (fun h1 => bc_dec (fun _ => trivial) (fun h2 => ?_))⟩
  have hl : l.length ≤ 1000 := by omega
  have hs : s.length ≤ 1000 := by omega
  have w1 := Lib.itoa_length_le p hp.1 hp.2
  have w2 := Lib.itoa_length_le o ho.1 ho.2
  have hf : (fmd l p o).length ≤ 1000 := by simp only [fmd, List.length_append, List.length_cons]; omega
  refine ⟨_, ⟨conFD l p o hp ho hl⟩, _, _, _, _, ⟨conPD s hs⟩, _, _, _, _, ⟨conRP s hs⟩, _, ⟨conRF l p o hp ho hl⟩, ?_⟩
  rw [bs_toList]
  refine bsame (bc_bne (fun h => absurd rfl h) (fun _ => ?_))
  simp only [ba_beq, beq_self_eq_true, Bool.and_self, Bool.not_true]
  refine ⟨_, ⟨conRK l p o⟩, bc_bne (fun _ => trivial) (fun h0 => ?_)⟩
  have c3 := conPD (fmd l p o) hf
  rw [prD_fmd h0] at c3
  refine ⟨_, _, _, _, ⟨c3⟩, bc_beq (fun _ => ?_) (fun h => absurd rfl h)⟩
  simp only [ba_beq, beq_self_eq_true, Bool.and_self]
  exact trivial
end Go.Proofs.G5w
