/- Texts of the proof, put together: GvNC, GvNP, GvND, GvNE, GvNL, GvNF. -/
import Derived.Test.YthpmmiapcjgbmaaGreatDoorP6
import Derived.Test.YthpmmiapcjgbmaaGreatDoorP5
/- Chapter 4, strings: coils, in data. -/
namespace Go.Proofs.G5v
open Go Go.Abs Go.Proofs Go.Abs.MD Go.Str Go.RowKit
set_option maxRecDepth 100000
/-- two numbers with a byte between, read -/
theorem rdPair {c : UInt8} (hc : isDig c = false) (x : List UInt8) (hl : x.length < 1000000) {F F0 : Prop} {OK : ByteArray → ByteArray → Prop} {G1 : Nat → List Value → ByteArray → ByteArray → Prop} {G2 G3 : Nat → List Value → ByteArray → Prop} {G4 G5 : Nat → List Value → Prop}
    (hF : two c 7 x = none → F) (hOK : ∀ a b, two c 7 x = some (numF 0 a, numF 0 b) → OK (bs a) (bs b)) :
    (Says C5 44 [dS x, dS [c]] [.nil] ∧ F0) ∨ ∃ (n : Nat) (cs : List Value), Says C5 44 [dS x, dS [c]] [.sl n 1 cs] ∧
      bcase ((n : Int) != 2) F (bcase (decide (0 < (n : Int))) (bcase (decide (0 < (n : Int))) (∃ s : ByteArray, At cs 0 1 [.string s] ∧
        ((Says C5 83 [.val (.string s)] kT ∧ Says C5 84 [.val (.string s)] [.val (vI (numB s)), .val .nilIface] ∧
          bcase (decide (IntKind.wrap .i64 (0 + 1) < (n : Int))) (bcase (decide (IntKind.wrap .i64 (0 + 1) < (n : Int))) (∃ t : ByteArray, At cs 1 1 [.string t] ∧
            ((Says C5 83 [.val (.string t)] kT ∧ Says C5 84 [.val (.string t)] [.val (vI (numB t)), .val .nilIface] ∧
              bcase (decide (IntKind.wrap .i64 (IntKind.wrap .i64 (0 + 1) + 1) < (n : Int))) (G1 n cs s t) (OK s t)) ∨
             (Says C5 83 [.val (.string t)] kF ∧ F))) (G2 n cs s)) (G3 n cs s)) ∨
         (Says C5 83 [.val (.string s)] kF ∧ F))) (G4 n cs)) (G5 n cs)) := by
  have cS := conSp x c (by omega)
  rcases two_cut (w := x) (d := 7) hc with ⟨h1, h2⟩ | ⟨a, b, h1, h2⟩
  · generalize cutA c [] x = ws at h1 cS
    exact .inr ⟨_, _, ⟨cS⟩, bc_bne (fun _ => hF h2) (fun h => absurd h (by omega))⟩
  · rw [h1] at cS
    have s0 : At (strs [a, b]) 0 1 [Value.string (bs a)] := strs_at [a, b] 0 (by simp)
    have s1 : At (strs [a, b]) 1 1 [Value.string (bs b)] := strs_at [a, b] 1 (by simp)
    have y0 : (0 : Int) < (([a, b].length : Nat) : Int) := show (0 : Int) < ((2 : Nat) : Int) by decide
    have y1 : IntKind.wrap .i64 (0 + 1) < (([a, b].length : Nat) : Int) := show IntKind.wrap .i64 (0 + 1) < ((2 : Nat) : Int) by decide
    have y2 : ¬ IntKind.wrap .i64 (IntKind.wrap .i64 (0 + 1) + 1) < (([a, b].length : Nat) : Int) := show ¬ IntKind.wrap .i64 (IntKind.wrap .i64 (0 + 1) + 1) < ((2 : Nat) : Int) by decide
    refine .inr ⟨_, _, ⟨cS⟩, bc_bne (fun h => absurd rfl h) (fun _ => bc_yes y0 (bc_yes y0 ⟨_, s0, sayOr (conN a) (fun ha => ?_) (fun ha => hF (by rw [h2, ha]; rfl))⟩))⟩
    refine ⟨⟨conAt a ha⟩, bc_yes y1 (bc_yes y1 ⟨_, s1, sayOr (conN b) (fun hb => ?_) (fun hb => hF (by rw [h2, hb, Bool.and_false]; rfl))⟩)⟩
    exact ⟨⟨conAt b hb⟩, bc_no y2 (hOK a b (by rw [h2, ha, hb]; rfl))⟩
theorem vp_snoc : ∀ (l : List (Int × Int)) (p : Int × Int), vp (l ++ [p]) = vp l ++ [vI p.1, vI p.2]
  | [], p => rfl
  | q :: r, p => by simp only [List.cons_append, vp, vp_snoc r p]
theorem empty_beq (l : List UInt8) : (ByteArray.toList (bs l) == ByteArray.toList { data := #[] }) = decide (l = []) := by
  rw [show ({ data := #[] } : ByteArray) = bs [] from rfl, bs_toList, bs_toList]
  cases l <;> rfl
/-- the coil of a string, and the error -/
def coW (w : List UInt8) : Option (List (Int × Int)) → D × Int
  | none => (dCn [], 7)
  | some R => if (coR w R).2 = 0 then (dCo w R, 0) else (dCn [], (coR w R).2)
def clW : List (List UInt8) → D × Int
  | [] => (dCn [], 7)
  | w :: r => if w = [] then (dCn [], 7) else coW w (words (two 64 7) r)
def clP (l : List UInt8) : D × Int := clW (cutA 32 [] l)
theorem coR_nil_ne (nm : List UInt8) : (coR nm []).2 ≠ 0 := by rw [coR_nil]; split <;> decide
theorem conkCn (nm : List UInt8) : C5 50 [dCn nm] (oP (coR nm [])) := by
  refine con_of (L := fun _ _ _ => False) hokL mixed Tryz.func50 rfl (by show 0 ≤ 400; omega) rfl (ids := [0]) (by kernel_rfl) rfl (fun caps => ?_) (fun id hid => ?_)
  · show gkCn _ _ (bs nm) _
    rw [gkCn_text]
    simp only [Qv, eq_self, true_and, and_true]
    refine ⟨_, ⟨concN nm⟩, _, ⟨concC _ _⟩, _, ⟨conFE [nameE nm, cntE 0 12] (by simp)⟩, ?_⟩
    rw [fst0_two]
    cases hn : nameOK nm with
    | false =>
      rw [nameE_bad hn, if_neg (by decide), bc_n (by decide)]
      show _ = oP _; rw [coR, if_pos hn]
    | true =>
      rw [nameE_ok hn, if_pos rfl]
      have hnf : ¬ nameOK nm = false := by rw [hn]; decide
      rw [show cntE 0 12 = 10 from rfl, bc_n (by decide)]
      show _ = oP _; rw [coR, if_neg hnf]; rfl
  · obtain rfl := List.mem_singleton.1 hid
    exact ⟨Empty, fun x => x.elim, fun _ => False, fun _ => 0, ⟨fun s b h => h.elim, by kernel_rfl, fun x => x.elim⟩⟩
theorem conpL (l : List UInt8) (hl : l.length < 100000) : C5 21 [dS l] [(clP l).1, dI (clP l).2] := by
  have cS := conSp l 32 (by omega)
  have hlen : (cutA 32 [] l).length ≤ 100000 := by rw [cutA_len]; have := List.count_le_length (a := (32 : UInt8)) (l := l); omega
  have hmem : ∀ w ∈ cutA 32 [] l, w.length < 100000 := fun w hw => by have := cutA_le w hw; simp at this; omega
  have hne : cutA 32 [] l ≠ [] := cutA_ne
  unfold clP
  generalize cutA 32 [] l = ws at cS hlen hmem hne
  cases ws with
  | nil => exact absurd rfl hne
  | cons w r =>
  have hrl : r.length < 100000 := by simp at hlen; omega
  have hw0 : w ≠ [] → clW (w :: r) = coW w (words (two 64 7) r) := fun h => if_neg h
  let inv : Option (Nat × List (Int × Int)) → Prop := fun x => match x with
    | none => r = [] ∧ w ≠ []
    | some x => goesF (two 64 7) r x ∧ w ≠ []
  let st : Option (Nat × List (Int × Int)) → Slots × Blocks := fun x => match x with
    | none => zpL1 0 0 0 (bs []) (bs w) (strs (w :: r))
    | some (i, []) => zpL2 1 r.length r.length i (bs []) (bs w) (strs (w :: r))
    | some (i, p :: t) => zpL5 1 r.length r.length i (bs []) (bs w) (p :: t).length (strs (w :: r)) (vp (p :: t))
  refine con_of (L := fun _ s b => ∃ x, inv x ∧ st x = (s, b)) hokP mixed Tryz.func21 rfl (by show 0 ≤ 400; omega) rfl (ids := [0]) (by kernel_rfl) rfl (fun caps => ?_) (fun id hid => ?_)
  · show gpL _ _ (bs l) _
    rw [gpL_text]
    have s0 : At (strs (w :: r)) 0 1 [Value.string (bs w)] := strs_at (w :: r) 0 (by simp)
    refine .inr ⟨_, _, ⟨cS⟩, bc_yes (by simp) ⟨_, s0, ?_⟩⟩
    rw [empty_beq]
    refine bc_dec (fun h => ?_) (fun h => bc_yes (by rw [List.length_cons]; omega) (bc_yes (by omega) (bc_beq (fun h1 => ⟨?_, ?_⟩) (fun h1 => ?_))))
    · show _ = _; rw [clW, if_pos h]
    · have hr : r = [] := by simpa using h1
      subst hr
      exact ⟨none, ⟨rfl, h⟩, rfl⟩
    · exact ⟨some (0, []), ⟨goesF_start _ _, h⟩, rfl⟩
    · exact ⟨some (0, []), ⟨goesF_start _ _, h⟩, rfl⟩
  · obtain rfl := List.mem_singleton.1 hid
    refine ⟨_, st, inv, fun x => match x with | none => 0 | some x => r.length - x.1, ⟨fun s b h => h, by kernel_rfl, ?_⟩⟩
    have fin0 : w ≠ [] → r = [] → ∀ n1 n2 : Int, oP (coR w []) = [dI n1, dI n2] → bcase (n2 != 0) ([dCn [], dI n2] = [(clW (w :: r)).1, dI (clW (w :: r)).2]) ([D.agg [dS w, .nil], dI 0] = [(clW (w :: r)).1, dI (clW (w :: r)).2]) := by
      rintro hw rfl n1 n2 e
      have e2 : (coR w []).2 = n2 := by
        have := e
        simp only [List.cons.injEq, D.val.injEq, Value.int.injEq, true_and, and_true] at this
        exact this.2
      have hc := coR_nil_ne w
      refine bc_bne (fun _ => ?_) (fun h => absurd (e2.trans h) hc)
      rw [hw0 hw, show words (two 64 7) ([] : List (List UInt8)) = some [] from rfl, coW, if_neg hc, e2]
    rintro (_ | ⟨i, out⟩) hx
    · obtain ⟨hr, hw⟩ := hx
      show rpL1 _ _ 0 0 0 (bs []) (bs w) (strs (w :: r)) _ _ _
      rw [rpL1_text]
      refine bc_no (by decide) ?_
      show (if 0 = 0 then _ else _)
      rw [if_pos rfl]
      show npL4 _ _ (bs []) (bs w) _
      rw [npL4_text]
      exact ⟨_, _, ⟨conkCn w⟩, fin0 hw hr _ _ rfl⟩
    · obtain ⟨hg, hw⟩ := hx
      have hi : i ≤ r.length := hg.1
      have ho : out.length = i := hg.2.1
      have bad : ∀ h : i < r.length, two 64 7 r[i] = none → [dCn [], dI 7] = [(clW (w :: r)).1, dI (clW (w :: r)).2] := fun h e => by
        rw [hw0 hw, (goesF_step hg h).1 e]; rfl
      have sA : ∀ h : i < r.length, At (strs (w :: r)) (1 + Int.toNat (i : Int) * 1) 1 [Value.string (bs r[i])] := fun h => by
        rw [show 1 + Int.toNat (i : Int) * 1 = 0 + (i + 1) * 1 by omega]
        exact strs_at (w :: r) (i + 1) (by simp; omega)
      have hx : ∀ h : i < r.length, r[i].length < 1000000 := fun h => by have := hmem r[i] (List.mem_cons_of_mem _ (List.getElem_mem h)); omega
      have w4 : IntKind.wrap .i64 ((i : Int) + 1) = ((i + 1 : Nat) : Int) := by rw [w64 (by omega) (by omega)]; omega
      cases out with
      | nil =>
        have hi0 : i = 0 := by simpa using ho.symm
        show rpL2 _ _ 1 r.length r.length i (bs []) (bs w) (strs (w :: r)) _ _ _
        rw [rpL2_text]
        simp only [Qv, eq_self, true_and, and_true]
        refine bc_dec (fun h => ?_) (fun h => ?_)
        · have hi' : i < r.length := by omega
          refine bc_yes (by omega) (bc_yes (by omega) ⟨_, sA hi', rdPair d64 r[i] (hx hi') (bad hi') (fun a b hz => ?_)⟩)
          refine ⟨some (i + 1, [(numF 0 a, numF 0 b)]), ⟨(goesF_step hg hi').2 _ hz, hw⟩, by show r.length - (i + 1) < r.length - i; omega, ?_⟩
          rw [numB_bs, numB_bs, w4]; rfl
        · show npL4 _ _ (bs []) (bs w) _
          rw [npL4_text]
          exact ⟨_, _, ⟨conkCn w⟩, fin0 hw (List.length_eq_zero_iff.1 (by omega)) _ _ rfl⟩
      | cons p t =>
        show rpL5 _ _ 1 r.length r.length i (bs []) (bs w) (p :: t).length (strs (w :: r)) (vp (p :: t)) _ _ _
        rw [rpL5_text]
        simp only [Qv, eq_self, true_and, and_true]
        refine bc_dec (fun h => ?_) (fun h => ?_)
        · have hi' : i < r.length := by omega
          refine bc_yes (by omega) (bc_yes (by omega) ⟨_, sA hi', rdPair d64 r[i] (hx hi') (bad hi') (fun a b hz => ?_)⟩)
          refine bc_yes (Nat.lt_succ_self _) (bc_yes (by omega) (bc_yes (by omega) (bc_yes (by rw [vp_length]; omega) (bc_yes (by rw [vp_length]; omega) ?_))))
          refine ⟨some (i + 1, (p :: t) ++ [(numF 0 a, numF 0 b)]), ⟨(goesF_step hg hi').2 _ hz, hw⟩, by show r.length - (i + 1) < r.length - i; omega, ?_⟩
          show zpL5 1 r.length r.length ((i + 1 : Nat) : Int) (bs []) (bs w) ((p :: t) ++ [_]).length (strs (w :: r)) (vp ((p :: t) ++ [_])) = _
          rw [numB_bs, numB_bs, w4, List.length_append, vp_snoc]
          simp only [Tk, vp_whole]
          rfl
        · have hil : i = r.length := by omega
          show npL6 _ _ (bs []) (bs w) (p :: t).length (vp (p :: t)) _
          rw [npL6_text]
          have hz : words (two 64 7) r = some (p :: t) := by
            subst hil
            exact goesF_end hg
          simp only [Dw, Tk, vp_whole, Qv, eq_self, true_and]
          refine bc_yes (by rw [vp_length]; omega) ⟨_, _, ⟨conkC w (p :: t) (by omega)⟩, ?_⟩
          rw [hw0 hw, hz, coW]
          refine bc_bne (fun hc => ?_) (fun hc => ?_)
          · rw [if_neg hc]
          · rw [if_pos hc]
            exact ⟨by rw [vp_length], rfl⟩
theorem conrL (l : List UInt8) (hl : l.length < 100000) : C5 26 [dS l] [(clP l).1, dI (clP l).2] := by
  have cS := conCu l 32 (by omega)
  have hlen : (cutA 32 [] l).length ≤ 100000 := by rw [cutA_len]; have := List.count_le_length (a := (32 : UInt8)) (l := l); omega
  have hmem : ∀ w ∈ cutA 32 [] l, w.length < 100000 := fun w hw => by have := cutA_le w hw; simp at this; omega
  have hne : cutA 32 [] l ≠ [] := cutA_ne
  unfold clP
  generalize cutA 32 [] l = ws at cS hlen hmem hne
  cases ws with
  | nil => exact absurd rfl hne
  | cons w r =>
  have hrl : r.length < 100000 := by simp at hlen; omega
  have hw0 : w ≠ [] → clW (w :: r) = coW w (words (two 64 7) r) := fun h => if_neg h
  let inv : Nat × List (Int × Int) → Prop := fun x => goesF (two 64 7) r x ∧ w ≠ []
  let st : Nat × List (Int × Int) → Slots × Blocks := fun x => match x with
    | (i, []) => zrL1 7 (w :: r).length ((i + 1 : Nat) : Int) (bs []) (bs []) (strs (w :: r)) (bs w)
    | (i, p :: t) => zrL2 7 (w :: r).length ((i + 1 : Nat) : Int) (bs []) (bs []) (strs (w :: r)) (bs w) (p :: t).length (vp (p :: t))
  refine con_of (L := fun _ s b => ∃ x, inv x ∧ st x = (s, b)) hokS mixed Tryz.func26 rfl (by show 0 ≤ 400; omega) rfl (ids := [0]) (by kernel_rfl) rfl (fun caps => ?_) (fun id hid => ?_)
  · show grL _ _ (bs l) _
    rw [grL_text]
    have s0 : At (strs (w :: r)) 0 1 [Value.string (bs w)] := strs_at (w :: r) 0 (by simp)
    refine .inr ⟨_, _, ⟨cS⟩, bc_yes (by rw [List.length_cons]; omega) ⟨_, s0, ?_⟩⟩
    rw [empty_beq]
    refine bc_dec (fun h => ?_) (fun h => bc_yes (by rw [List.length_cons]; omega) ⟨_, s0, (0, []), ⟨goesF_start _ _, h⟩, rfl⟩)
    show _ = _; rw [clW, if_pos h]
  · obtain rfl := List.mem_singleton.1 hid
    refine ⟨_, st, inv, fun x => r.length - x.1, ⟨fun s b h => h, by kernel_rfl, ?_⟩⟩
    rintro ⟨i, out⟩ ⟨hg, hw⟩
    have hi : i ≤ r.length := hg.1
    have ho : out.length = i := hg.2.1
    have hwl : (w :: r).length = r.length + 1 := rfl
    have bad : ∀ h : i < r.length, two 64 7 r[i] = none → [dCn [], dI 7] = [(clW (w :: r)).1, dI (clW (w :: r)).2] := fun h e => by
      rw [hw0 hw, (goesF_step hg h).1 e]; rfl
    have sA : ∀ h : i < r.length, At (strs (w :: r)) (0 + Int.toNat ((i + 1 : Nat) : Int) * 1) 1 [Value.string (bs r[i])] := fun h => by
      rw [show Int.toNat ((i + 1 : Nat) : Int) = i + 1 by omega]
      exact strs_at (w :: r) (i + 1) (by simp; omega)
    have hx : ∀ h : i < r.length, r[i].length < 1000000 := fun h => by have := hmem r[i] (List.mem_cons_of_mem _ (List.getElem_mem h)); omega
    have w4 : IntKind.wrap .i64 (((i + 1 : Nat) : Int) + 1) = ((i + 1 + 1 : Nat) : Int) := by rw [w64 (by omega) (by omega)]; omega
    have pr : ∀ (h : i < r.length) {F : Prop} {OK : Int → Int → Prop}, (two 64 7 r[i] = none → F) → (∀ p, two 64 7 r[i] = some p → OK p.1 p.2) →
        ∃ n m : Int, (Says C5 52 [dS r[i], .val (.int .u8 64)] [dI n, dI m, .val (.bool true)] ∧ OK n m) ∨ (Says C5 52 [dS r[i], .val (.int .u8 64)] [dI n, dI m, .val (.bool false)] ∧ F) := fun h F OK h1 h2 => by
      refine ⟨_, _, sayOr3 (conqP 64 d64 r[i] (hx h)) (fun hh => ?_) (fun hh => ?_)⟩
      · cases e : two 64 7 r[i] with
        | none => rw [e] at hh; simp at hh
        | some p => rw [pv_two d64 e]; exact h2 p e
      · cases e : two 64 7 r[i] with
        | none => exact h1 e
        | some p => rw [e] at hh; simp at hh
    cases out with
    | nil =>
      have hi0 : i = 0 := by simpa using ho.symm
      show rrL1 _ _ 7 (w :: r).length ((i + 1 : Nat) : Int) (bs []) (bs []) (strs (w :: r)) (bs w) _ _ _
      rw [rrL1_text]
      refine bc_dec (fun h => ?_) (fun h => ?_)
      · have hi' : i < r.length := by omega
        refine bc_yes (by omega) (bc_yes h ⟨_, sA hi', pr hi' (bad hi') (fun p hz => ?_)⟩)
        refine ⟨(i + 1, [p]), ⟨(goesF_step hg hi').2 _ hz, hw⟩, by show r.length - (i + 1) < r.length - i; omega, ?_⟩
        rw [w4]; rfl
      · have hr : r = [] := List.length_eq_zero_iff.1 (by omega)
        subst hr
        show nrL3 _ _ _ _ _ _
        rw [nrL3_text]
        refine ⟨_, ⟨conCen w⟩, ?_⟩
        refine bc_bne (fun hc => ?_) (fun h => absurd h (coR_nil_ne w))
        rw [hw0 hw, show words (two 64 7) ([] : List (List UInt8)) = some [] from rfl, coW, if_neg hc]
    | cons p t =>
      show rrL2 _ _ 7 (w :: r).length ((i + 1 : Nat) : Int) (bs []) (bs []) (strs (w :: r)) (bs w) (p :: t).length (vp (p :: t)) _ _ _
      rw [rrL2_text]
      refine bc_dec (fun h => ?_) (fun h => ?_)
      · have hi' : i < r.length := by omega
        refine bc_yes (by omega) (bc_yes h ⟨_, sA hi', pr hi' (bad hi') (fun q hz => ?_)⟩)
        refine bc_yes (Nat.lt_succ_self _) (bc_yes (by omega) (bc_yes (by omega) (bc_yes (by rw [vp_length]; omega) (bc_yes (by rw [vp_length]; omega) ?_))))
        refine ⟨(i + 1, (p :: t) ++ [q]), ⟨(goesF_step hg hi').2 _ hz, hw⟩, by show r.length - (i + 1) < r.length - i; omega, ?_⟩
        show zrL2 7 (w :: r).length ((i + 1 + 1 : Nat) : Int) (bs []) (bs []) (strs (w :: r)) (bs w) ((p :: t) ++ [_]).length (vp ((p :: t) ++ [_])) = _
        rw [w4, List.length_append, vp_snoc]
        simp only [Tk, vp_whole]
        rfl
      · have hil : i = r.length := by omega
        show nrL4 _ _ _ _ _ (p :: t).length (vp (p :: t)) _
        rw [nrL4_text]
        have hz : words (two 64 7) r = some (p :: t) := by
          subst hil
          exact goesF_end hg
        simp only [Dw, Tk, vp_whole, Qv, eq_self, true_and]
        refine bc_yes (by rw [vp_length]; omega) ⟨_, ⟨conCe w (p :: t) (by omega)⟩, ?_⟩
        rw [hw0 hw, hz, coW]
        refine bc_bne (fun hc => ?_) (fun hc => ?_)
        · rw [if_neg hc]
        · rw [if_pos hc]
          exact ⟨by rw [vp_length], rfl⟩
end Go.Proofs.G5v

/- What is left to show of each function, written out; the kernel reckons it. -/
namespace Go.Proofs.G5v
open Go Go.Abs Go.Proofs
set_option maxRecDepth 100000
set_option linter.unusedVariables false
def gcTn (C : Ct) (L : AtLoop) (k : List D → Prop) : Prop := wpFn Tryz.prog (hL C) L 0 54 #[.slice none 0 0] (heapOf []) (dataK k)
theorem gcTn_text (C : Ct) (L : AtLoop) (k : List D → Prop) : gcTn C L k =
 (∃ n1 : Int,
 ((Says C 88 [(D.val (vI 0)), (D.val (vI 12))] [(D.val (vI n1))]) ∧
 (bcase (n1 != 0)
 (k [(D.val (vI 0)), (D.val (vI n1))])
 (L 0 [(Prod.mk 0 (Value.slice none 0 0)), (Prod.mk 14 (Value.slice none 0 0)), (Prod.mk 15 (vI 0)), (Prod.mk 16 (vI 0))] [])))) := by kernel_rfl
end Go.Proofs.G5v

/- Chapter 4, strings: rules, in data. -/
namespace Go.Proofs.G5v
open Go Go.Abs Go.Proofs Go.Abs.MD Go.Str Go.RowKit
set_option maxRecDepth 100000
/-- one number, read -/
theorem rdOne (x : List UInt8) (hl : x.length < 1000000) {F F0 : Prop} {OK : ByteArray → Prop} {G1 : Nat → List Value → ByteArray → Prop} {G4 G5 : Nat → List Value → Prop}
    (hF : okNum 7 x = false → F) (hOK : okNum 7 x = true → OK (bs x)) :
    (Says C5 44 [dS x, dS [32]] [.nil] ∧ F0) ∨ ∃ (n : Nat) (cs : List Value), Says C5 44 [dS x, dS [32]] [.sl n 1 cs] ∧
      bcase ((n : Int) != 1) F (bcase (decide (0 < (n : Int))) (bcase (decide (0 < (n : Int))) (∃ s : ByteArray, At cs 0 1 [.string s] ∧
        ((Says C5 83 [.val (.string s)] kT ∧ Says C5 84 [.val (.string s)] [.val (vI (numB s)), .val .nilIface] ∧
          bcase (decide (IntKind.wrap .i64 (0 + 1) < (n : Int))) (G1 n cs s) (OK s)) ∨
         (Says C5 83 [.val (.string s)] kF ∧ F))) (G4 n cs)) (G5 n cs)) := by
  have cS := conSp x 32 (by omega)
  by_cases hm : (32 : UInt8) ∈ x
  · have hno : okNum 7 x = false := by
      cases h : okNum 7 x with
      | false => rfl
      | true => exact absurd hm (okNum_mem h d32)
    have hlen : (cutA 32 [] x).length ≠ 1 := by
      rw [cutA_len]
      have := List.count_pos_iff.2 hm
      omega
    generalize cutA 32 [] x = ws at cS hlen
    exact .inr ⟨_, _, ⟨cS⟩, bc_bne (fun _ => hF hno) (fun h => absurd h (by omega))⟩
  · rw [cutA_miss hm, List.nil_append] at cS
    have s0 : At (strs [x]) 0 1 [Value.string (bs x)] := strs_at [x] 0 (by simp)
    have y0 : (0 : Int) < (([x].length : Nat) : Int) := show (0 : Int) < ((1 : Nat) : Int) by decide
    have y1 : ¬ IntKind.wrap .i64 (0 + 1) < (([x].length : Nat) : Int) := show ¬ IntKind.wrap .i64 (0 + 1) < ((1 : Nat) : Int) by decide
    exact .inr ⟨_, _, ⟨cS⟩, bc_bne (fun h => absurd rfl h) (fun _ => bc_yes y0 (bc_yes y0 ⟨_, s0, sayOr (conN x) (fun ha => ⟨⟨conAt x ha⟩, bc_no y1 (hOK ha)⟩) (fun ha => hF ha)⟩))⟩
theorem concTn : C5 54 [.nil] [dI 0, dI 10] := by
  refine con_of (L := fun _ _ _ => False) hokL mixed Tryz.func54 rfl (by show 0 ≤ 400; omega) rfl (ids := [0]) (by kernel_rfl) rfl (fun caps => ?_) (fun id hid => ?_)
  · show gcTn _ _ _
    rw [gcTn_text]
    refine ⟨_, ⟨concC 0 12⟩, ?_⟩
    rw [show cntE 0 12 = 10 from rfl]
    exact bc_bne (fun _ => rfl) (fun h => absurd h (by decide))
  · obtain rfl := List.mem_singleton.1 hid
    exact ⟨Empty, fun x => x.elim, fun _ => False, fun _ => 0, ⟨fun s b h => h.elim, by kernel_rfl, fun x => x.elim⟩⟩
theorem conKRn (a b c d e : Int) : C5 47 [dRn a b c d e] [dI 0, dI 10] := by
  refine con_flat hokL mixed Tryz.func47 rfl (by show 0 ≤ 400; omega) rfl (by kernel_rfl) (fun caps => ?_)
  show gKRn _ _ a b c d e _
  rw [gKRn_text]
  exact ⟨_, _, ⟨concTn⟩, bc_bne (fun _ => rfl) (fun h => absurd h (by decide))⟩
abbrev dR0 : D := dRn 0 0 0 0 0
def rlT (a b c d e : Int) : Option (List (Int × Int)) → D × Int
  | none => (dR0, 7)
  | some T => if (rulR T a b c d e).2 = 0 then (dRu T a b c d e, 0) else (dR0, (rulR T a b c d e).2)
def rlH (p q : Option (Int × Int)) (w : List UInt8) (r : List (List UInt8)) : D × Int := match p, q with
  | some p, some q => if okNum 7 w = true then rlT p.1 p.2 q.1 q.2 (numF 0 w) (words (two 64 7) r) else (dR0, 7)
  | _, _ => (dR0, 7)
def rlW : List (List UInt8) → D × Int
  | u :: v :: w :: r => rlH (two 47 7 u) (two 47 7 v) w r
  | _ => (dR0, 7)
def rlP (l : List UInt8) : D × Int := rlW (cutA 32 [] l)
theorem rlH_1 {q : Option (Int × Int)} {w : List UInt8} {r : List (List UInt8)} : rlH none q w r = (dR0, 7) := rfl
theorem rlH_2 {p : Option (Int × Int)} {w : List UInt8} {r : List (List UInt8)} : rlH p none w r = (dR0, 7) := by cases p <;> rfl
theorem rlH_3 {p q : Option (Int × Int)} {w : List UInt8} {r : List (List UInt8)} (h : okNum 7 w = false) : rlH p q w r = (dR0, 7) := by
  cases p <;> cases q <;> first | rfl | (unfold rlH; simp only; rw [h]; rfl)
theorem two_lt {c : UInt8} {w : List UInt8} (hc : isDig c = false) {p : Int × Int} (h : two c 7 w = some p) : p.1 < 10000000 ∧ p.2 < 10000000 := by
  rcases two_cut (w := w) (d := 7) hc with ⟨_, h2⟩ | ⟨a, b, h1, h2⟩
  · rw [h2] at h; cases h
  · rw [h2] at h
    cases ha : okNum 7 a with
    | false => rw [ha] at h; simp at h
    | true =>
      cases hb : okNum 7 b with
      | false => rw [ha, hb] at h; simp at h
      | true =>
        rw [ha, hb] at h
        obtain rfl := Option.some.inj h
        exact ⟨(numF_pos ha).2, (numF_pos hb).2⟩
theorem nums_of {u v : List UInt8} {a b c d : Int} (h1 : two 47 7 u = some (a, b)) (h2 : two 47 7 v = some (c, d)) : Nums a b c d := by
  have := two_ge d47 h1; have := two_lt d47 h1; have := two_ge d47 h2; have := two_lt d47 h2
  simp only at *
  exact ⟨⟨by omega, by omega⟩, ⟨by omega, by omega⟩, ⟨by omega, by omega⟩, ⟨by omega, by omega⟩⟩
abbrev RlX := Int × Int × Int × Int × Nat × List (Int × Int)
def rlInv : List (List UInt8) → RlX → Prop
  | u :: v :: w :: r, x => two 47 7 u = some (x.1, x.2.1) ∧ two 47 7 v = some (x.2.2.1, x.2.2.2.1) ∧ okNum 7 w = true ∧ goesF (two 64 7) r x.2.2.2.2
  | _, _ => False
theorem rlW_short : ∀ {ws : List (List UInt8)}, ws.length < 3 → rlW ws = (dR0, 7)
  | [], _ => rfl
  | [_], _ => rfl
  | [_, _], _ => rfl
  | _ :: _ :: _ :: _, h => absurd h (by simp)
theorem three : ∀ {ws : List (List UInt8)}, ¬ ws.length < 3 → ∃ u v w r, ws = u :: v :: w :: r
  | [], h => absurd h (by simp)
  | [_], h => absurd h (by simp)
  | [_, _], h => absurd h (by simp)
  | u :: v :: w :: r, _ => ⟨u, v, w, r, rfl⟩
theorem conrR (l : List UInt8) (hl : l.length < 100000) : C5 24 [dS l] [(rlP l).1, dI (rlP l).2] := by
  have cS := conCu l 32 (by omega)
  have hlen : (cutA 32 [] l).length ≤ 100000 := by rw [cutA_len]; have := List.count_le_length (a := (32 : UInt8)) (l := l); omega
  have hmem : ∀ w ∈ cutA 32 [] l, w.length < 100000 := fun w hw => by have := cutA_le w hw; simp at this; omega
  unfold rlP
  generalize cutA 32 [] l = ws at cS hlen hmem
  by_cases hsh : ws.length < 3
  · rw [rlW_short hsh]
    refine con_of (L := fun _ _ _ => False) hokS mixed Tryz.func24 rfl (by show 0 ≤ 400; omega) rfl (ids := [0]) (by kernel_rfl) rfl (fun caps => ?_) (fun id hid => ?_)
    · show grR _ _ (bs l) _
      rw [grR_text]
      exact .inr ⟨_, _, ⟨cS⟩, bc_yes (by omega) rfl⟩
    · obtain rfl := List.mem_singleton.1 hid
      exact ⟨Empty, fun x => x.elim, fun _ => False, fun _ => 0, ⟨fun s b h => h.elim, by kernel_rfl, fun x => x.elim⟩⟩
  obtain ⟨u, v, w, r, rfl⟩ := three hsh
  let ws : List (List UInt8) := u :: v :: w :: r
  let inv : RlX → Prop := rlInv (u :: v :: w :: r)
  let e5 : Int := numF 0 w
  let st : Int × Int × Int × Int × Nat × List (Int × Int) → Slots × Blocks := fun x => match x.2.2.2.2.2 with
    | [] => zrR1 7 ws.length ((x.2.2.2.2.1 + 3 : Nat) : Int) 0 0 0 0 0 0 0 0 0 0 (strs ws) x.1 x.2.1 x.2.2.1 x.2.2.2.1 e5
    | p :: t => zrR2 7 ws.length ((x.2.2.2.2.1 + 3 : Nat) : Int) 0 0 0 0 0 0 0 0 0 0 (strs ws) (p :: t).length x.1 x.2.1 x.2.2.1 x.2.2.2.1 e5 (vp (p :: t))
  refine con_of (L := fun _ s b => ∃ x, inv x ∧ st x = (s, b)) hokS mixed Tryz.func24 rfl (by show 0 ≤ 400; omega) rfl (ids := [0]) (by kernel_rfl) rfl (fun caps => ?_) (fun id hid => ?_)
  · show grR _ _ (bs l) _
    rw [grR_text]
    refine .inr ⟨_, _, ⟨cS⟩, ?_⟩
    · skip
      have hL : (((u :: v :: w :: r).length : Nat) : Int) = (r.length : Int) + 3 := by simp; omega
      have s0 : At (strs (u :: v :: w :: r)) 0 1 [Value.string (bs u)] := strs_at (u :: v :: w :: r) 0 (by simp)
      have s1 : At (strs (u :: v :: w :: r)) 1 1 [Value.string (bs v)] := strs_at (u :: v :: w :: r) 1 (by simp)
      have s2 : At (strs (u :: v :: w :: r)) 2 1 [Value.string (bs w)] := strs_at (u :: v :: w :: r) 2 (by simp)
      have lu : u.length < 1000000 := by have := hmem u (by simp); omega
      have lv : v.length < 1000000 := by have := hmem v (by simp); omega
      have lw : w.length < 1000000 := by have := hmem w (by simp); omega
      have bad : rlH (two 47 7 u) (two 47 7 v) w r = (dR0, 7) → [dR0, dI 7] = [(rlW (u :: v :: w :: r)).1, dI (rlW (u :: v :: w :: r)).2] := fun h => by
        rw [show rlW (u :: v :: w :: r) = _ from h]
      have no : ∀ {o : Option (Int × Int)}, o.isSome = false → o = none := fun {o} h => by cases o <;> simp_all
      refine bc_no (by omega) (bc_yes (by omega) ⟨_, s0, _, _, sayOr3 (conqP 47 d47 u lu) (fun h1 => ?_) (fun h1 => ?_)⟩)
      · refine bc_yes (by omega) ⟨_, s1, _, _, sayOr3 (conqP 47 d47 v lv) (fun h2 => ?_) (fun h2 => ?_)⟩
        · refine bc_yes (by omega) ⟨_, s2, _, sayOr2 (conqN w lw) (fun h3 => ?_) (fun h3 => bad (rlH_3 h3))⟩
          cases e1 : two 47 7 u with
          | none => rw [e1] at h1; simp at h1
          | some p =>
            cases e2 : two 47 7 v with
            | none => rw [e2] at h2; simp at h2
            | some q =>
              rw [pv_two d47 e1, pv_two d47 e2, readNum_ok h3]
              exact ⟨(p.1, p.2, q.1, q.2, 0, []), ⟨e1, e2, h3, goesF_start _ _⟩, rfl⟩
        · refine bc_yes (by omega) ⟨_, s2, _, sayOr2 (conqN w lw) (fun _ => bad ?_) (fun h3 => bad (rlH_3 h3))⟩
          rw [no h2]; exact rlH_2
      · refine bc_yes (by omega) ⟨_, s1, _, _, sayOr3 (conqP 47 d47 v lv) (fun _ => ?_) (fun _ => ?_)⟩
        all_goals
          refine bc_yes (by omega) ⟨_, s2, _, sayOr2 (conqN w lw) (fun _ => bad ?_) (fun h3 => bad (rlH_3 h3))⟩
          rw [no h1]; exact rlH_1
  · obtain rfl := List.mem_singleton.1 hid
    refine ⟨_, st, inv, fun x => r.length - x.2.2.2.2.1, ⟨fun s b h => h, by kernel_rfl, ?_⟩⟩
    rintro ⟨a, b, c, d, i, out⟩ ⟨e1, e2, h3, hg⟩
    simp only at e1 e2 hg
    have hL : (((u :: v :: w :: r).length : Nat) : Int) = (r.length : Int) + 3 := by simp; omega
    have hrl : r.length < 100000 := by simp at hlen; omega
    have hn : Nums a b c d := nums_of e1 e2
    have hi : i ≤ r.length := hg.1
    have ho : out.length = i := hg.2.1
    have hW : rlW (u :: v :: w :: r) = rlT a b c d (numF 0 w) (words (two 64 7) r) := by
      show rlH (two 47 7 u) (two 47 7 v) w r = _
      rw [e1, e2]; unfold rlH; simp only; rw [if_pos h3]
    rw [hW]
    have bad : ∀ h : i < r.length, two 64 7 r[i] = none → [dR0, dI 7] = [(rlT a b c d (numF 0 w) (words (two 64 7) r)).1, dI (rlT a b c d (numF 0 w) (words (two 64 7) r)).2] := fun h e => by
      rw [(goesF_step hg h).1 e]; rfl
    have sA : ∀ h : i < r.length, At (strs (u :: v :: w :: r)) (0 + Int.toNat ((i + 3 : Nat) : Int) * 1) 1 [Value.string (bs r[i])] := fun h => by
      rw [show Int.toNat ((i + 3 : Nat) : Int) = i + 3 by omega]
      exact strs_at (u :: v :: w :: r) (i + 3) (by simp; omega)
    have hx : ∀ h : i < r.length, r[i].length < 1000000 := fun h => by have := hmem r[i] (List.mem_cons_of_mem _ (List.mem_cons_of_mem _ (List.mem_cons_of_mem _ (List.getElem_mem h)))); omega
    have w4 : IntKind.wrap .i64 (((i + 3 : Nat) : Int) + 1) = ((i + 1 + 3 : Nat) : Int) := by rw [w64 (by omega) (by omega)]; omega
    have pr : ∀ (h : i < r.length) {F : Prop} {OK : Int → Int → Prop}, (two 64 7 r[i] = none → F) → (∀ p, two 64 7 r[i] = some p → OK p.1 p.2) →
        ∃ n m : Int, (Says C5 52 [dS r[i], .val (.int .u8 64)] [dI n, dI m, .val (.bool true)] ∧ OK n m) ∨ (Says C5 52 [dS r[i], .val (.int .u8 64)] [dI n, dI m, .val (.bool false)] ∧ F) := fun h F OK h1 h2 => by
      refine ⟨_, _, sayOr3 (conqP 64 d64 r[i] (hx h)) (fun hh => ?_) (fun hh => ?_)⟩
      · cases e : two 64 7 r[i] with
        | none => rw [e] at hh; simp at hh
        | some p => rw [pv_two d64 e]; exact h2 p e
      · cases e : two 64 7 r[i] with
        | none => exact h1 e
        | some p => rw [e] at hh; simp at hh
    cases out with
    | nil =>
      have hi0 : i = 0 := by simpa using ho.symm
      show rrR1 _ _ 7 (u :: v :: w :: r).length ((i + 3 : Nat) : Int) 0 0 0 0 0 0 0 0 0 0 (strs (u :: v :: w :: r)) a b c d (numF 0 w) _ _ _
      rw [rrR1_text]
      refine bc_dec (fun h => ?_) (fun h => ?_)
      · have hi' : i < r.length := by omega
        refine bc_yes (by omega) (bc_yes h ⟨_, sA hi', pr hi' (bad hi') (fun p hz => ?_)⟩)
        refine ⟨(a, b, c, d, i + 1, [p]), ⟨e1, e2, h3, (goesF_step hg hi').2 _ hz⟩, by show r.length - (i + 1) < r.length - i; omega, ?_⟩
        rw [w4]; rfl
      · have hr : r = [] := List.length_eq_zero_iff.1 (by omega)
        subst hr
        show nrR3 _ _ _ _ _ _ _ _ _ _ _ _ _ _ _ _ _ _
        rw [nrR3_text]
        refine ⟨_, ⟨conREn _ _ _ _ _⟩, ?_⟩
        exact bc_bne (fun hc => rfl) (fun h => absurd h (by decide))
    | cons p t =>
      show rrR2 _ _ 7 (u :: v :: w :: r).length ((i + 3 : Nat) : Int) 0 0 0 0 0 0 0 0 0 0 (strs (u :: v :: w :: r)) (p :: t).length a b c d (numF 0 w) (vp (p :: t)) _ _ _
      rw [rrR2_text]
      refine bc_dec (fun h => ?_) (fun h => ?_)
      · have hi' : i < r.length := by omega
        refine bc_yes (by omega) (bc_yes h ⟨_, sA hi', pr hi' (bad hi') (fun q hz => ?_)⟩)
        refine bc_yes (Nat.lt_succ_self _) (bc_yes (by omega) (bc_yes (by omega) (bc_yes (by rw [vp_length]; omega) (bc_yes (by rw [vp_length]; omega) ?_))))
        refine ⟨(a, b, c, d, i + 1, (p :: t) ++ [q]), ⟨e1, e2, h3, (goesF_step hg hi').2 _ hz⟩, by show r.length - (i + 1) < r.length - i; omega, ?_⟩
        show zrR2 7 (u :: v :: w :: r).length ((i + 1 + 3 : Nat) : Int) 0 0 0 0 0 0 0 0 0 0 (strs (u :: v :: w :: r)) ((p :: t) ++ [_]).length a b c d (numF 0 w) (vp ((p :: t) ++ [_])) = _
        rw [w4, List.length_append, vp_snoc]
        simp only [Tk, vp_whole]
        rfl
      · have hil : i = r.length := by omega
        show nrR4 _ _ _ _ _ _ _ _ _ _ _ _ (p :: t).length _ _ _ _ _ (vp (p :: t)) _
        rw [nrR4_text]
        have hz : words (two 64 7) r = some (p :: t) := by
          subst hil
          exact goesF_end hg
        simp only [Dw, Tk, vp_whole, Qv, eq_self, true_and]
        refine bc_yes (by rw [vp_length]; omega) ⟨_, ⟨conRE (p :: t) (by omega) _ hn⟩, ?_⟩
        rw [hz, rlT]
        refine bc_bne (fun hc => ?_) (fun hc => ?_)
        · rw [if_neg hc]
        · rw [if_pos hc]
          exact ⟨by rw [vp_length], rfl⟩
end Go.Proofs.G5v

/- Chapter 4, strings: rules of a string, the program's. -/
namespace Go.Proofs.G5v
open Go Go.Abs Go.Proofs Go.Abs.MD Go.Str Go.RowKit
set_option maxRecDepth 100000
theorem fin3 {a b c d e : Int} {n1 n2 : Int} (e2 : n2 = 10) (h : oP (0, 10) = [dI n1, dI n2]) : bcase (n2 != 0) ([dR0, dI n2] = [(rlT a b c d e (some [])).1, dI (rlT a b c d e (some [])).2]) ([dRn a b c d e, dI 0] = [(rlT a b c d e (some [])).1, dI (rlT a b c d e (some [])).2]) := by
  subst e2
  exact bc_bne (fun _ => rfl) (fun h => absurd h (by decide))
theorem conpR (l : List UInt8) (hl : l.length < 100000) : C5 19 [dS l] [(rlP l).1, dI (rlP l).2] := by
  have cS := conSp l 32 (by omega)
  have hlen : (cutA 32 [] l).length ≤ 100000 := by rw [cutA_len]; have := List.count_le_length (a := (32 : UInt8)) (l := l); omega
  have hmem : ∀ w ∈ cutA 32 [] l, w.length < 100000 := fun w hw => by have := cutA_le w hw; simp at this; omega
  unfold rlP
  generalize cutA 32 [] l = ws at cS hlen hmem
  by_cases hsh : ws.length < 3
  · rw [rlW_short hsh]
    refine con_of (L := fun _ _ _ => False) hokP mixed Tryz.func19 rfl (by show 0 ≤ 400; omega) rfl (ids := [0]) (by kernel_rfl) rfl (fun caps => ?_) (fun id hid => ?_)
    · show gpR _ _ (bs l) _
      rw [gpR_text]
      exact .inr ⟨_, _, ⟨cS⟩, bc_no (by omega) rfl⟩
    · obtain rfl := List.mem_singleton.1 hid
      exact ⟨Empty, fun x => x.elim, fun _ => False, fun _ => 0, ⟨fun s b h => h.elim, by kernel_rfl, fun x => x.elim⟩⟩
  obtain ⟨u, v, w, r, rfl⟩ := three hsh
  have hrl : r.length < 100000 := by simp at hlen; omega
  have hL : (((u :: v :: w :: r).length : Nat) : Int) = (r.length : Int) + 3 := by simp; omega
  let inv : Bool × RlX → Prop := fun x => rlInv (u :: v :: w :: r) x.2 ∧ (x.1 = true → r = [] ∧ x.2.2.2.2.2 = (0, []))
  let st : Bool × RlX → Slots × Blocks := fun x => match x.1, x.2.2.2.2.2.2 with
    | true, _ => zpR1 0 0 0 0 0 0 0 0 x.2.1 x.2.2.1 x.2.2.2.1 x.2.2.2.2.1 (numF 0 w) (strs (u :: v :: w :: r))
    | false, [] => zpR2 3 r.length r.length (x.2.2.2.2.2.1 : Int) 0 0 0 0 0 x.2.1 x.2.2.1 x.2.2.2.1 x.2.2.2.2.1 (numF 0 w) (strs (u :: v :: w :: r))
    | false, p :: t => zpR5 3 r.length r.length (x.2.2.2.2.2.1 : Int) 0 0 0 0 0 (p :: t).length x.2.1 x.2.2.1 x.2.2.2.1 x.2.2.2.2.1 (numF 0 w) (strs (u :: v :: w :: r)) (vp (p :: t))
  have rW : rlW (u :: v :: w :: r) = rlH (two 47 7 u) (two 47 7 v) w r := rfl
  refine con_of (L := fun _ s b => ∃ x, inv x ∧ st x = (s, b)) hokP mixed Tryz.func19 rfl (by show 0 ≤ 400; omega) rfl (ids := [0]) (by kernel_rfl) rfl (fun caps => ?_) (fun id hid => ?_)
  · show gpR _ _ (bs l) _
    rw [gpR_text]
    simp only [Qv, eq_self, true_and, and_true]
    have s0 : At (strs (u :: v :: w :: r)) 0 1 [Value.string (bs u)] := strs_at (u :: v :: w :: r) 0 (by simp)
    have s1 : At (strs (u :: v :: w :: r)) 1 1 [Value.string (bs v)] := strs_at (u :: v :: w :: r) 1 (by simp)
    have s2 : At (strs (u :: v :: w :: r)) 2 1 [Value.string (bs w)] := strs_at (u :: v :: w :: r) 2 (by simp)
    have lu : u.length < 1000000 := by have := hmem u (by simp); omega
    have lv : v.length < 1000000 := by have := hmem v (by simp); omega
    have lw : w.length < 1000000 := by have := hmem w (by simp); omega
    have bad : rlH (two 47 7 u) (two 47 7 v) w r = (dR0, 7) → [dR0, dI 7] = [(rlW (u :: v :: w :: r)).1, dI (rlW (u :: v :: w :: r)).2] := fun h => by
      rw [rW, h]
    refine .inr ⟨_, _, ⟨cS⟩, bc_yes (by omega) (bc_yes (by omega) ⟨_, s0, rdPair d47 u lu (fun h => bad (by rw [h]; exact rlH_1)) (fun a b hu => ?_)⟩)⟩
    refine bc_yes (by omega) ⟨_, s1, rdPair d47 v lv (fun h => bad (by rw [h]; exact rlH_2)) (fun c d hv => ?_)⟩
    refine bc_yes (by omega) ⟨_, s2, rdOne w lw (fun h => bad (rlH_3 h)) (fun h3 => ?_)⟩
    rw [numB_bs, numB_bs, numB_bs, numB_bs, numB_bs]
    refine bc_yes (by omega) (bc_yes (by omega) (bc_beq (fun h => ⟨?_, ?_⟩) (fun h => ?_)))
    · have hr : r = [] := by simpa using h
      subst hr
      exact ⟨(true, numF 0 a, numF 0 b, numF 0 c, numF 0 d, 0, []), ⟨⟨hu, hv, h3, goesF_start _ _⟩, fun _ => ⟨rfl, rfl⟩⟩, rfl⟩
    · exact ⟨(false, numF 0 a, numF 0 b, numF 0 c, numF 0 d, 0, []), ⟨⟨hu, hv, h3, goesF_start _ _⟩, fun h => by cases h⟩, rfl⟩
    · exact ⟨(false, numF 0 a, numF 0 b, numF 0 c, numF 0 d, 0, []), ⟨⟨hu, hv, h3, goesF_start _ _⟩, fun h => by cases h⟩, rfl⟩
  · obtain rfl := List.mem_singleton.1 hid
    refine ⟨_, st, inv, fun x => r.length - x.2.2.2.2.2.1, ⟨fun s b h => h, by kernel_rfl, ?_⟩⟩
    rintro ⟨z, a, b, c, d, i, out⟩ ⟨⟨e1, e2, h3, hg⟩, hz0⟩
    simp only at e1 e2 hg hz0
    have hn : Nums a b c d := nums_of e1 e2
    have hi : i ≤ r.length := hg.1
    have ho : out.length = i := hg.2.1
    have hW : rlW (u :: v :: w :: r) = rlT a b c d (numF 0 w) (words (two 64 7) r) := by
      rw [rW, e1, e2]; unfold rlH; simp only; rw [if_pos h3]
    rw [hW]
    have bad : ∀ h : i < r.length, two 64 7 r[i] = none → [dR0, dI 7] = [(rlT a b c d (numF 0 w) (words (two 64 7) r)).1, dI (rlT a b c d (numF 0 w) (words (two 64 7) r)).2] := fun h e => by
      rw [(goesF_step hg h).1 e]; rfl
    have sA : ∀ h : i < r.length, At (strs (u :: v :: w :: r)) (3 + Int.toNat (i : Int) * 1) 1 [Value.string (bs r[i])] := fun h => by
      rw [show 3 + Int.toNat (i : Int) * 1 = 0 + (i + 3) * 1 by omega]
      exact strs_at (u :: v :: w :: r) (i + 3) (by simp; omega)
    have hx : ∀ h : i < r.length, r[i].length < 1000000 := fun h => by have := hmem r[i] (List.mem_cons_of_mem _ (List.mem_cons_of_mem _ (List.mem_cons_of_mem _ (List.getElem_mem h)))); omega
    have w4 : IntKind.wrap .i64 ((i : Int) + 1) = ((i + 1 : Nat) : Int) := by rw [w64 (by omega) (by omega)]; omega
    cases z with
    | true =>
      obtain ⟨rfl, ho2⟩ := hz0 rfl
      show rpR1 _ _ 0 0 0 0 0 0 0 0 a b c d (numF 0 w) (strs (u :: v :: w :: [])) _ _ _
      rw [rpR1_text]
      refine bc_no (by decide) ?_
      show (if 0 = 0 then _ else _)
      rw [if_pos rfl]
      show npR4 _ _ _ _ _ _ _ _ _ _ _ _ _
      rw [npR4_text]
      exact ⟨_, _, ⟨conKRn _ _ _ _ _⟩, fin3 rfl rfl⟩
    | false =>
      cases out with
      | nil =>
        have hi0 : i = 0 := by simpa using ho.symm
        show rpR2 _ _ 3 r.length r.length (i : Int) 0 0 0 0 0 a b c d (numF 0 w) (strs (u :: v :: w :: r)) _ _ _
        rw [rpR2_text]
        simp only [Qv, eq_self, true_and, and_true]
        refine bc_dec (fun h => ?_) (fun h => ?_)
        · have hi' : i < r.length := by omega
          refine bc_yes (by omega) (bc_yes (by omega) ⟨_, sA hi', rdPair d64 r[i] (hx hi') (bad hi') (fun x y hz => ?_)⟩)
          refine ⟨(false, a, b, c, d, i + 1, [(numF 0 x, numF 0 y)]), ⟨⟨e1, e2, h3, (goesF_step hg hi').2 _ hz⟩, fun h => by cases h⟩, by show r.length - (i + 1) < r.length - i; omega, ?_⟩
          rw [numB_bs, numB_bs, w4]; rfl
        · have hr : r = [] := List.length_eq_zero_iff.1 (by omega)
          subst hr
          show npR4 _ _ _ _ _ _ _ _ _ _ _ _ _
          rw [npR4_text]
          exact ⟨_, _, ⟨conKRn _ _ _ _ _⟩, fin3 rfl rfl⟩
      | cons p t =>
        show rpR5 _ _ 3 r.length r.length (i : Int) 0 0 0 0 0 (p :: t).length a b c d (numF 0 w) (strs (u :: v :: w :: r)) (vp (p :: t)) _ _ _
        rw [rpR5_text]
        simp only [Qv, eq_self, true_and, and_true]
        refine bc_dec (fun h => ?_) (fun h => ?_)
        · have hi' : i < r.length := by omega
          refine bc_yes (by omega) (bc_yes (by omega) ⟨_, sA hi', rdPair d64 r[i] (hx hi') (bad hi') (fun x y hz => ?_)⟩)
          refine bc_yes (Nat.lt_succ_self _) (bc_yes (by omega) (bc_yes (by omega) (bc_yes (by rw [vp_length]; omega) (bc_yes (by rw [vp_length]; omega) ?_))))
          refine ⟨(false, a, b, c, d, i + 1, (p :: t) ++ [(numF 0 x, numF 0 y)]), ⟨⟨e1, e2, h3, (goesF_step hg hi').2 _ hz⟩, fun h => by cases h⟩, by show r.length - (i + 1) < r.length - i; omega, ?_⟩
          show zpR5 3 r.length r.length ((i + 1 : Nat) : Int) 0 0 0 0 0 ((p :: t) ++ [_]).length a b c d (numF 0 w) (strs (u :: v :: w :: r)) (vp ((p :: t) ++ [_])) = _
          rw [numB_bs, numB_bs, w4, List.length_append, vp_snoc]
          simp only [Tk, vp_whole]
          rfl
        · have hil : i = r.length := by omega
          show npR6 _ _ _ _ _ _ _ (p :: t).length _ _ _ _ _ (vp (p :: t)) _
          rw [npR6_text]
          have hz : words (two 64 7) r = some (p :: t) := by
            subst hil
            exact goesF_end hg
          simp only [Dw, Tk, vp_whole, Qv, eq_self, true_and]
          refine bc_yes (by rw [vp_length]; omega) ⟨_, _, ⟨conKR (p :: t) (by omega) _ hn⟩, ?_⟩
          rw [hz, rlT]
          refine bc_bne (fun hc => ?_) (fun hc => ?_)
          · rw [if_neg hc]
          · rw [if_pos hc]
            exact ⟨by rw [vp_length], rfl⟩
end Go.Proofs.G5v

/- What is left to show of each function, written out; the kernel reckons it. -/
namespace Go.Proofs.G5v
open Go Go.Abs Go.Proofs
set_option maxRecDepth 100000
set_option linter.unusedVariables false
def gLp (C : Ct) (L : AtLoop) (s0 : ByteArray) (s1 : ByteArray) (s2 : ByteArray) (k : List D → Prop) : Prop := wpFn Tryz.prog (hS C) L 0 4 #[.string s0, .string s1, .string s2] (heapOf []) (dataK k)
theorem gLp_text (C : Ct) (L : AtLoop) (s0 : ByteArray) (s1 : ByteArray) (s2 : ByteArray) (k : List D → Prop) : gLp C L s0 s1 s2 k =
 (((Says C 5 [] kT) ∧
 (bcase (decide ((↑(ByteArray.size s0) : Int) > 300))
 (k kT)
 (bcase (decide ((↑(ByteArray.size s1) : Int) > 300))
 (k kT)
 (bcase (decide ((↑(ByteArray.size s2) : Int) > 300))
 (k kT)
 ((∃ n1 : Int,
 (∃ n2 : Int,
 (∃ n3 : Int,
 (∃ n4 : Int,
 (∃ n5 : Int,
 (∃ n6 : Int,
 ((Says C 19 [(D.val (Value.string (s0)))] [(D.agg [D.nil, (dI n1), (dI n2), (dI n3), (dI n4), (dI n5)]), (dI n6)]) ∧
 (∃ n7 : Int,
 (∃ n8 : Int,
 (∃ n9 : Int,
 ((Says C 20 [(D.val (Value.string (s1)))] [(D.agg [(dI n7), (dI n8)]), (dI n9)]) ∧
 (∃ s3 : ByteArray,
 ((∃ n10 : Int,
 ((Says C 21 [(D.val (Value.string (s2)))] [(D.agg [(D.val (Value.string (s3))), D.nil]), (dI n10)]) ∧
 ((∃ n11 : Int,
 (∃ n12 : Int,
 (∃ n13 : Int,
 (∃ n14 : Int,
 (∃ n15 : Int,
 (∃ n16 : Int,
 ((Says C 24 [(D.val (Value.string (s0)))] [(D.agg [D.nil, (dI n11), (dI n12), (dI n13), (dI n14), (dI n15)]), (dI n16)]) ∧
 (∃ n17 : Int,
 (∃ n18 : Int,
 (∃ n19 : Int,
 ((Says C 25 [(D.val (Value.string (s1)))] [(D.agg [(dI n17), (dI n18)]), (dI n19)]) ∧
 (∃ s4 : ByteArray,
 ((∃ n20 : Int,
 ((Says C 26 [(D.val (Value.string (s2)))] [(D.agg [(D.val (Value.string (s4))), D.nil]), (dI n20)]) ∧
 (bcase (n6 == n16)
 (((Says C 22 [(D.agg [D.nil, (dI n1), (dI n2), (dI n3), (dI n4), (dI n5)]), (D.agg [D.nil, (dI n11), (dI n12), (dI n13), (dI n14), (dI n15)])] kT) ∧
 (bcase (n9 == n19)
 (bcase (if Bool.false = Bool.true then !(n7 == n17 && (n8 == n18 && Bool.true)) else n7 == n17 && (n8 == n18 && Bool.true))
 (bcase (n10 == n20)
 (((Says C 23 [(D.agg [(D.val (Value.string (s3))), D.nil]), (D.agg [(D.val (Value.string (s4))), D.nil])] kT) ∧
 (k kT)) ∨
 ((Says C 23 [(D.agg [(D.val (Value.string (s3))), D.nil]), (D.agg [(D.val (Value.string (s4))), D.nil])] kF) ∧
 (k kF)))
 (k kF))
 (k kF))
 (k kF))) ∨
 ((Says C 22 [(D.agg [D.nil, (dI n1), (dI n2), (dI n3), (dI n4), (dI n5)]), (D.agg [D.nil, (dI n11), (dI n12), (dI n13), (dI n14), (dI n15)])] kF) ∧
 (k kF)))
 (k kF)))) ∨
 (∃ n20 : Nat,
 (∃ cs1 : List Go.Value,
 (∃ n21 : Int,
 ((Says C 26 [(D.val (Value.string (s2)))] [(D.agg [(D.val (Value.string (s4))), (D.sl (n20) 2 (cs1))]), (dI n21)]) ∧
 (bcase (n6 == n16)
 (((Says C 22 [(D.agg [D.nil, (dI n1), (dI n2), (dI n3), (dI n4), (dI n5)]), (D.agg [D.nil, (dI n11), (dI n12), (dI n13), (dI n14), (dI n15)])] kT) ∧
 (bcase (n9 == n19)
 (bcase (if Bool.false = Bool.true then !(n7 == n17 && (n8 == n18 && Bool.true)) else n7 == n17 && (n8 == n18 && Bool.true))
 (bcase (n10 == n21)
 (bcase (dL n20 2 cs1)
 (((Says C 23 [(D.agg [(D.val (Value.string (s3))), D.nil]), (D.agg [(D.val (Value.string (s4))), (Dw n20 2 cs1)])] kT) ∧
 (k kT)) ∨
 ((Says C 23 [(D.agg [(D.val (Value.string (s3))), D.nil]), (D.agg [(D.val (Value.string (s4))), (Dw n20 2 cs1)])] kF) ∧
 (k kF)))
 False)
 (k kF))
 (k kF))
 (k kF))) ∨
 ((Says C 22 [(D.agg [D.nil, (dI n1), (dI n2), (dI n3), (dI n4), (dI n5)]), (D.agg [D.nil, (dI n11), (dI n12), (dI n13), (dI n14), (dI n15)])] kF) ∧
 (k kF)))
 (k kF))))))))))))))))))) ∨
 (∃ n11 : Nat,
 (∃ cs1 : List Go.Value,
 (∃ n12 : Int,
 (∃ n13 : Int,
 (∃ n14 : Int,
 (∃ n15 : Int,
 (∃ n16 : Int,
 (∃ n17 : Int,
 ((Says C 24 [(D.val (Value.string (s0)))] [(D.agg [(D.sl (n11) 2 (cs1)), (dI n12), (dI n13), (dI n14), (dI n15), (dI n16)]), (dI n17)]) ∧
 (∃ n18 : Int,
 (∃ n19 : Int,
 (∃ n20 : Int,
 ((Says C 25 [(D.val (Value.string (s1)))] [(D.agg [(dI n18), (dI n19)]), (dI n20)]) ∧
 (∃ s4 : ByteArray,
 ((∃ n21 : Int,
 ((Says C 26 [(D.val (Value.string (s2)))] [(D.agg [(D.val (Value.string (s4))), D.nil]), (dI n21)]) ∧
 (bcase (n6 == n17)
 (bcase (dL n11 2 cs1)
 (((Says C 22 [(D.agg [D.nil, (dI n1), (dI n2), (dI n3), (dI n4), (dI n5)]), (D.agg [(Dw n11 2 cs1), (dI n12), (dI n13), (dI n14), (dI n15), (dI n16)])] kT) ∧
 (bcase (n9 == n20)
 (bcase (if Bool.false = Bool.true then !(n7 == n18 && (n8 == n19 && Bool.true)) else n7 == n18 && (n8 == n19 && Bool.true))
 (bcase (n10 == n21)
 (((Says C 23 [(D.agg [(D.val (Value.string (s3))), D.nil]), (D.agg [(D.val (Value.string (s4))), D.nil])] kT) ∧
 (k kT)) ∨
 ((Says C 23 [(D.agg [(D.val (Value.string (s3))), D.nil]), (D.agg [(D.val (Value.string (s4))), D.nil])] kF) ∧
 (k kF)))
 (k kF))
 (k kF))
 (k kF))) ∨
 ((Says C 22 [(D.agg [D.nil, (dI n1), (dI n2), (dI n3), (dI n4), (dI n5)]), (D.agg [(Dw n11 2 cs1), (dI n12), (dI n13), (dI n14), (dI n15), (dI n16)])] kF) ∧
 (k kF)))
 False)
 (k kF)))) ∨
 (∃ n21 : Nat,
 (∃ cs2 : List Go.Value,
 (∃ n22 : Int,
 ((Says C 26 [(D.val (Value.string (s2)))] [(D.agg [(D.val (Value.string (s4))), (D.sl (n21) 2 (cs2))]), (dI n22)]) ∧
 (bcase (n6 == n17)
 (bcase (dL n11 2 cs1)
 (((Says C 22 [(D.agg [D.nil, (dI n1), (dI n2), (dI n3), (dI n4), (dI n5)]), (D.agg [(Dw n11 2 cs1), (dI n12), (dI n13), (dI n14), (dI n15), (dI n16)])] kT) ∧
 (bcase (n9 == n20)
 (bcase (if Bool.false = Bool.true then !(n7 == n18 && (n8 == n19 && Bool.true)) else n7 == n18 && (n8 == n19 && Bool.true))
 (bcase (n10 == n22)
 (bcase (dL n21 2 cs2)
 (((Says C 23 [(D.agg [(D.val (Value.string (s3))), D.nil]), (D.agg [(D.val (Value.string (s4))), (Dw n21 2 cs2)])] kT) ∧
 (k kT)) ∨
 ((Says C 23 [(D.agg [(D.val (Value.string (s3))), D.nil]), (D.agg [(D.val (Value.string (s4))), (Dw n21 2 cs2)])] kF) ∧
 (k kF)))
 False)
 (k kF))
 (k kF))
 (k kF))) ∨
 ((Says C 22 [(D.agg [D.nil, (dI n1), (dI n2), (dI n3), (dI n4), (dI n5)]), (D.agg [(Dw n11 2 cs1), (dI n12), (dI n13), (dI n14), (dI n15), (dI n16)])] kF) ∧
 (k kF)))
 False)
 (k kF)))))))))))))))))))))))) ∨
 (∃ n10 : Nat,
 (∃ cs1 : List Go.Value,
 (∃ n11 : Int,
 ((Says C 21 [(D.val (Value.string (s2)))] [(D.agg [(D.val (Value.string (s3))), (D.sl (n10) 2 (cs1))]), (dI n11)]) ∧
 ((∃ n12 : Int,
 (∃ n13 : Int,
 (∃ n14 : Int,
 (∃ n15 : Int,
 (∃ n16 : Int,
 (∃ n17 : Int,
 ((Says C 24 [(D.val (Value.string (s0)))] [(D.agg [D.nil, (dI n12), (dI n13), (dI n14), (dI n15), (dI n16)]), (dI n17)]) ∧
 (∃ n18 : Int,
 (∃ n19 : Int,
 (∃ n20 : Int,
 ((Says C 25 [(D.val (Value.string (s1)))] [(D.agg [(dI n18), (dI n19)]), (dI n20)]) ∧
 (∃ s4 : ByteArray,
 ((∃ n21 : Int,
 ((Says C 26 [(D.val (Value.string (s2)))] [(D.agg [(D.val (Value.string (s4))), D.nil]), (dI n21)]) ∧
 (bcase (n6 == n17)
 (((Says C 22 [(D.agg [D.nil, (dI n1), (dI n2), (dI n3), (dI n4), (dI n5)]), (D.agg [D.nil, (dI n12), (dI n13), (dI n14), (dI n15), (dI n16)])] kT) ∧
 (bcase (n9 == n20)
 (bcase (if Bool.false = Bool.true then !(n7 == n18 && (n8 == n19 && Bool.true)) else n7 == n18 && (n8 == n19 && Bool.true))
 (bcase (n11 == n21)
 (bcase (dL n10 2 cs1)
 (((Says C 23 [(D.agg [(D.val (Value.string (s3))), (Dw n10 2 cs1)]), (D.agg [(D.val (Value.string (s4))), D.nil])] kT) ∧
 (k kT)) ∨
 ((Says C 23 [(D.agg [(D.val (Value.string (s3))), (Dw n10 2 cs1)]), (D.agg [(D.val (Value.string (s4))), D.nil])] kF) ∧
 (k kF)))
 False)
 (k kF))
 (k kF))
 (k kF))) ∨
 ((Says C 22 [(D.agg [D.nil, (dI n1), (dI n2), (dI n3), (dI n4), (dI n5)]), (D.agg [D.nil, (dI n12), (dI n13), (dI n14), (dI n15), (dI n16)])] kF) ∧
 (k kF)))
 (k kF)))) ∨
 (∃ n21 : Nat,
 (∃ cs2 : List Go.Value,
 (∃ n22 : Int,
 ((Says C 26 [(D.val (Value.string (s2)))] [(D.agg [(D.val (Value.string (s4))), (D.sl (n21) 2 (cs2))]), (dI n22)]) ∧
 (bcase (n6 == n17)
 (((Says C 22 [(D.agg [D.nil, (dI n1), (dI n2), (dI n3), (dI n4), (dI n5)]), (D.agg [D.nil, (dI n12), (dI n13), (dI n14), (dI n15), (dI n16)])] kT) ∧
 (bcase (n9 == n20)
 (bcase (if Bool.false = Bool.true then !(n7 == n18 && (n8 == n19 && Bool.true)) else n7 == n18 && (n8 == n19 && Bool.true))
 (bcase (n11 == n22)
 (bcase (dL n10 2 cs1)
 (bcase (dL n21 2 cs2)
 (((Says C 23 [(D.agg [(D.val (Value.string (s3))), (Dw n10 2 cs1)]), (D.agg [(D.val (Value.string (s4))), (Dw n21 2 cs2)])] kT) ∧
 (k kT)) ∨
 ((Says C 23 [(D.agg [(D.val (Value.string (s3))), (Dw n10 2 cs1)]), (D.agg [(D.val (Value.string (s4))), (Dw n21 2 cs2)])] kF) ∧
 (k kF)))
 False)
 False)
 (k kF))
 (k kF))
 (k kF))) ∨
 ((Says C 22 [(D.agg [D.nil, (dI n1), (dI n2), (dI n3), (dI n4), (dI n5)]), (D.agg [D.nil, (dI n12), (dI n13), (dI n14), (dI n15), (dI n16)])] kF) ∧
 (k kF)))
 (k kF))))))))))))))))))) ∨
 (∃ n12 : Nat,
 (∃ cs2 : List Go.Value,
 (∃ n13 : Int,
 (∃ n14 : Int,
 (∃ n15 : Int,
 (∃ n16 : Int,
 (∃ n17 : Int,
 (∃ n18 : Int,
 ((Says C 24 [(D.val (Value.string (s0)))] [(D.agg [(D.sl (n12) 2 (cs2)), (dI n13), (dI n14), (dI n15), (dI n16), (dI n17)]), (dI n18)]) ∧
 (∃ n19 : Int,
 (∃ n20 : Int,
 (∃ n21 : Int,
 ((Says C 25 [(D.val (Value.string (s1)))] [(D.agg [(dI n19), (dI n20)]), (dI n21)]) ∧
 (∃ s4 : ByteArray,
 ((∃ n22 : Int,
 ((Says C 26 [(D.val (Value.string (s2)))] [(D.agg [(D.val (Value.string (s4))), D.nil]), (dI n22)]) ∧
 (bcase (n6 == n18)
 (bcase (dL n12 2 cs2)
 (((Says C 22 [(D.agg [D.nil, (dI n1), (dI n2), (dI n3), (dI n4), (dI n5)]), (D.agg [(Dw n12 2 cs2), (dI n13), (dI n14), (dI n15), (dI n16), (dI n17)])] kT) ∧
 (bcase (n9 == n21)
 (bcase (if Bool.false = Bool.true then !(n7 == n19 && (n8 == n20 && Bool.true)) else n7 == n19 && (n8 == n20 && Bool.true))
 (bcase (n11 == n22)
 (bcase (dL n10 2 cs1)
 (((Says C 23 [(D.agg [(D.val (Value.string (s3))), (Dw n10 2 cs1)]), (D.agg [(D.val (Value.string (s4))), D.nil])] kT) ∧
 (k kT)) ∨
 ((Says C 23 [(D.agg [(D.val (Value.string (s3))), (Dw n10 2 cs1)]), (D.agg [(D.val (Value.string (s4))), D.nil])] kF) ∧
 (k kF)))
 False)
 (k kF))
 (k kF))
 (k kF))) ∨
 ((Says C 22 [(D.agg [D.nil, (dI n1), (dI n2), (dI n3), (dI n4), (dI n5)]), (D.agg [(Dw n12 2 cs2), (dI n13), (dI n14), (dI n15), (dI n16), (dI n17)])] kF) ∧
 (k kF)))
 False)
 (k kF)))) ∨
 (∃ n22 : Nat,
 (∃ cs3 : List Go.Value,
 (∃ n23 : Int,
 ((Says C 26 [(D.val (Value.string (s2)))] [(D.agg [(D.val (Value.string (s4))), (D.sl (n22) 2 (cs3))]), (dI n23)]) ∧
 (bcase (n6 == n18)
 (bcase (dL n12 2 cs2)
 (((Says C 22 [(D.agg [D.nil, (dI n1), (dI n2), (dI n3), (dI n4), (dI n5)]), (D.agg [(Dw n12 2 cs2), (dI n13), (dI n14), (dI n15), (dI n16), (dI n17)])] kT) ∧
 (bcase (n9 == n21)
 (bcase (if Bool.false = Bool.true then !(n7 == n19 && (n8 == n20 && Bool.true)) else n7 == n19 && (n8 == n20 && Bool.true))
 (bcase (n11 == n23)
 (bcase (dL n10 2 cs1)
 (bcase (dL n22 2 cs3)
 (((Says C 23 [(D.agg [(D.val (Value.string (s3))), (Dw n10 2 cs1)]), (D.agg [(D.val (Value.string (s4))), (Dw n22 2 cs3)])] kT) ∧
 (k kT)) ∨
 ((Says C 23 [(D.agg [(D.val (Value.string (s3))), (Dw n10 2 cs1)]), (D.agg [(D.val (Value.string (s4))), (Dw n22 2 cs3)])] kF) ∧
 (k kF)))
 False)
 False)
 (k kF))
 (k kF))
 (k kF))) ∨
 ((Says C 22 [(D.agg [D.nil, (dI n1), (dI n2), (dI n3), (dI n4), (dI n5)]), (D.agg [(Dw n12 2 cs2), (dI n13), (dI n14), (dI n15), (dI n16), (dI n17)])] kF) ∧
 (k kF)))
 False)
 (k kF))))))))))))))))))))))))))))))))))))))) ∨
 (∃ n1 : Nat,
 (∃ cs1 : List Go.Value,
 (∃ n2 : Int,
 (∃ n3 : Int,
 (∃ n4 : Int,
 (∃ n5 : Int,
 (∃ n6 : Int,
 (∃ n7 : Int,
 ((Says C 19 [(D.val (Value.string (s0)))] [(D.agg [(D.sl (n1) 2 (cs1)), (dI n2), (dI n3), (dI n4), (dI n5), (dI n6)]), (dI n7)]) ∧
 (∃ n8 : Int,
 (∃ n9 : Int,
 (∃ n10 : Int,
 ((Says C 20 [(D.val (Value.string (s1)))] [(D.agg [(dI n8), (dI n9)]), (dI n10)]) ∧
 (∃ s3 : ByteArray,
 ((∃ n11 : Int,
 ((Says C 21 [(D.val (Value.string (s2)))] [(D.agg [(D.val (Value.string (s3))), D.nil]), (dI n11)]) ∧
 ((∃ n12 : Int,
 (∃ n13 : Int,
 (∃ n14 : Int,
 (∃ n15 : Int,
 (∃ n16 : Int,
 (∃ n17 : Int,
 ((Says C 24 [(D.val (Value.string (s0)))] [(D.agg [D.nil, (dI n12), (dI n13), (dI n14), (dI n15), (dI n16)]), (dI n17)]) ∧
 (∃ n18 : Int,
 (∃ n19 : Int,
 (∃ n20 : Int,
 ((Says C 25 [(D.val (Value.string (s1)))] [(D.agg [(dI n18), (dI n19)]), (dI n20)]) ∧
 (∃ s4 : ByteArray,
 ((∃ n21 : Int,
 ((Says C 26 [(D.val (Value.string (s2)))] [(D.agg [(D.val (Value.string (s4))), D.nil]), (dI n21)]) ∧
 (bcase (n7 == n17)
 (bcase (dL n1 2 cs1)
 (((Says C 22 [(D.agg [(Dw n1 2 cs1), (dI n2), (dI n3), (dI n4), (dI n5), (dI n6)]), (D.agg [D.nil, (dI n12), (dI n13), (dI n14), (dI n15), (dI n16)])] kT) ∧
 (bcase (n10 == n20)
 (bcase (if Bool.false = Bool.true then !(n8 == n18 && (n9 == n19 && Bool.true)) else n8 == n18 && (n9 == n19 && Bool.true))
 (bcase (n11 == n21)
 (((Says C 23 [(D.agg [(D.val (Value.string (s3))), D.nil]), (D.agg [(D.val (Value.string (s4))), D.nil])] kT) ∧
 (k kT)) ∨
 ((Says C 23 [(D.agg [(D.val (Value.string (s3))), D.nil]), (D.agg [(D.val (Value.string (s4))), D.nil])] kF) ∧
 (k kF)))
 (k kF))
 (k kF))
 (k kF))) ∨
 ((Says C 22 [(D.agg [(Dw n1 2 cs1), (dI n2), (dI n3), (dI n4), (dI n5), (dI n6)]), (D.agg [D.nil, (dI n12), (dI n13), (dI n14), (dI n15), (dI n16)])] kF) ∧
 (k kF)))
 False)
 (k kF)))) ∨
 (∃ n21 : Nat,
 (∃ cs2 : List Go.Value,
 (∃ n22 : Int,
 ((Says C 26 [(D.val (Value.string (s2)))] [(D.agg [(D.val (Value.string (s4))), (D.sl (n21) 2 (cs2))]), (dI n22)]) ∧
 (bcase (n7 == n17)
 (bcase (dL n1 2 cs1)
 (((Says C 22 [(D.agg [(Dw n1 2 cs1), (dI n2), (dI n3), (dI n4), (dI n5), (dI n6)]), (D.agg [D.nil, (dI n12), (dI n13), (dI n14), (dI n15), (dI n16)])] kT) ∧
 (bcase (n10 == n20)
 (bcase (if Bool.false = Bool.true then !(n8 == n18 && (n9 == n19 && Bool.true)) else n8 == n18 && (n9 == n19 && Bool.true))
 (bcase (n11 == n22)
 (bcase (dL n21 2 cs2)
 (((Says C 23 [(D.agg [(D.val (Value.string (s3))), D.nil]), (D.agg [(D.val (Value.string (s4))), (Dw n21 2 cs2)])] kT) ∧
 (k kT)) ∨
 ((Says C 23 [(D.agg [(D.val (Value.string (s3))), D.nil]), (D.agg [(D.val (Value.string (s4))), (Dw n21 2 cs2)])] kF) ∧
 (k kF)))
 False)
 (k kF))
 (k kF))
 (k kF))) ∨
 ((Says C 22 [(D.agg [(Dw n1 2 cs1), (dI n2), (dI n3), (dI n4), (dI n5), (dI n6)]), (D.agg [D.nil, (dI n12), (dI n13), (dI n14), (dI n15), (dI n16)])] kF) ∧
 (k kF)))
 False)
 (k kF))))))))))))))))))) ∨
 (∃ n12 : Nat,
 (∃ cs2 : List Go.Value,
 (∃ n13 : Int,
 (∃ n14 : Int,
 (∃ n15 : Int,
 (∃ n16 : Int,
 (∃ n17 : Int,
 (∃ n18 : Int,
 ((Says C 24 [(D.val (Value.string (s0)))] [(D.agg [(D.sl (n12) 2 (cs2)), (dI n13), (dI n14), (dI n15), (dI n16), (dI n17)]), (dI n18)]) ∧
 (∃ n19 : Int,
 (∃ n20 : Int,
 (∃ n21 : Int,
 ((Says C 25 [(D.val (Value.string (s1)))] [(D.agg [(dI n19), (dI n20)]), (dI n21)]) ∧
 (∃ s4 : ByteArray,
 ((∃ n22 : Int,
 ((Says C 26 [(D.val (Value.string (s2)))] [(D.agg [(D.val (Value.string (s4))), D.nil]), (dI n22)]) ∧
 (bcase (n7 == n18)
 (bcase (dL n1 2 cs1)
 (bcase (dL n12 2 cs2)
 (((Says C 22 [(D.agg [(Dw n1 2 cs1), (dI n2), (dI n3), (dI n4), (dI n5), (dI n6)]), (D.agg [(Dw n12 2 cs2), (dI n13), (dI n14), (dI n15), (dI n16), (dI n17)])] kT) ∧
 (bcase (n10 == n21)
 (bcase (if Bool.false = Bool.true then !(n8 == n19 && (n9 == n20 && Bool.true)) else n8 == n19 && (n9 == n20 && Bool.true))
 (bcase (n11 == n22)
 (((Says C 23 [(D.agg [(D.val (Value.string (s3))), D.nil]), (D.agg [(D.val (Value.string (s4))), D.nil])] kT) ∧
 (k kT)) ∨
 ((Says C 23 [(D.agg [(D.val (Value.string (s3))), D.nil]), (D.agg [(D.val (Value.string (s4))), D.nil])] kF) ∧
 (k kF)))
 (k kF))
 (k kF))
 (k kF))) ∨
 ((Says C 22 [(D.agg [(Dw n1 2 cs1), (dI n2), (dI n3), (dI n4), (dI n5), (dI n6)]), (D.agg [(Dw n12 2 cs2), (dI n13), (dI n14), (dI n15), (dI n16), (dI n17)])] kF) ∧
 (k kF)))
 False)
 False)
 (k kF)))) ∨
 (∃ n22 : Nat,
 (∃ cs3 : List Go.Value,
 (∃ n23 : Int,
 ((Says C 26 [(D.val (Value.string (s2)))] [(D.agg [(D.val (Value.string (s4))), (D.sl (n22) 2 (cs3))]), (dI n23)]) ∧
 (bcase (n7 == n18)
 (bcase (dL n1 2 cs1)
 (bcase (dL n12 2 cs2)
 (((Says C 22 [(D.agg [(Dw n1 2 cs1), (dI n2), (dI n3), (dI n4), (dI n5), (dI n6)]), (D.agg [(Dw n12 2 cs2), (dI n13), (dI n14), (dI n15), (dI n16), (dI n17)])] kT) ∧
 (bcase (n10 == n21)
 (bcase (if Bool.false = Bool.true then !(n8 == n19 && (n9 == n20 && Bool.true)) else n8 == n19 && (n9 == n20 && Bool.true))
 (bcase (n11 == n23)
 (bcase (dL n22 2 cs3)
 (((Says C 23 [(D.agg [(D.val (Value.string (s3))), D.nil]), (D.agg [(D.val (Value.string (s4))), (Dw n22 2 cs3)])] kT) ∧
 (k kT)) ∨
 ((Says C 23 [(D.agg [(D.val (Value.string (s3))), D.nil]), (D.agg [(D.val (Value.string (s4))), (Dw n22 2 cs3)])] kF) ∧
 (k kF)))
 False)
 (k kF))
 (k kF))
 (k kF))) ∨
 ((Says C 22 [(D.agg [(Dw n1 2 cs1), (dI n2), (dI n3), (dI n4), (dI n5), (dI n6)]), (D.agg [(Dw n12 2 cs2), (dI n13), (dI n14), (dI n15), (dI n16), (dI n17)])] kF) ∧
 (k kF)))
 False)
 False)
 (k kF)))))))))))))))))))))))) ∨
 (∃ n11 : Nat,
 (∃ cs2 : List Go.Value,
 (∃ n12 : Int,
 ((Says C 21 [(D.val (Value.string (s2)))] [(D.agg [(D.val (Value.string (s3))), (D.sl (n11) 2 (cs2))]), (dI n12)]) ∧
 ((∃ n13 : Int,
 (∃ n14 : Int,
 (∃ n15 : Int,
 (∃ n16 : Int,
 (∃ n17 : Int,
 (∃ n18 : Int,
 ((Says C 24 [(D.val (Value.string (s0)))] [(D.agg [D.nil, (dI n13), (dI n14), (dI n15), (dI n16), (dI n17)]), (dI n18)]) ∧
 (∃ n19 : Int,
 (∃ n20 : Int,
 (∃ n21 : Int,
 ((Says C 25 [(D.val (Value.string (s1)))] [(D.agg [(dI n19), (dI n20)]), (dI n21)]) ∧
 (∃ s4 : ByteArray,
 ((∃ n22 : Int,
 ((Says C 26 [(D.val (Value.string (s2)))] [(D.agg [(D.val (Value.string (s4))), D.nil]), (dI n22)]) ∧
 (bcase (n7 == n18)
 (bcase (dL n1 2 cs1)
 (((Says C 22 [(D.agg [(Dw n1 2 cs1), (dI n2), (dI n3), (dI n4), (dI n5), (dI n6)]), (D.agg [D.nil, (dI n13), (dI n14), (dI n15), (dI n16), (dI n17)])] kT) ∧
 (bcase (n10 == n21)
 (bcase (if Bool.false = Bool.true then !(n8 == n19 && (n9 == n20 && Bool.true)) else n8 == n19 && (n9 == n20 && Bool.true))
 (bcase (n12 == n22)
 (bcase (dL n11 2 cs2)
 (((Says C 23 [(D.agg [(D.val (Value.string (s3))), (Dw n11 2 cs2)]), (D.agg [(D.val (Value.string (s4))), D.nil])] kT) ∧
 (k kT)) ∨
 ((Says C 23 [(D.agg [(D.val (Value.string (s3))), (Dw n11 2 cs2)]), (D.agg [(D.val (Value.string (s4))), D.nil])] kF) ∧
 (k kF)))
 False)
 (k kF))
 (k kF))
 (k kF))) ∨
 ((Says C 22 [(D.agg [(Dw n1 2 cs1), (dI n2), (dI n3), (dI n4), (dI n5), (dI n6)]), (D.agg [D.nil, (dI n13), (dI n14), (dI n15), (dI n16), (dI n17)])] kF) ∧
 (k kF)))
 False)
 (k kF)))) ∨
 (∃ n22 : Nat,
 (∃ cs3 : List Go.Value,
 (∃ n23 : Int,
 ((Says C 26 [(D.val (Value.string (s2)))] [(D.agg [(D.val (Value.string (s4))), (D.sl (n22) 2 (cs3))]), (dI n23)]) ∧
 (bcase (n7 == n18)
 (bcase (dL n1 2 cs1)
 (((Says C 22 [(D.agg [(Dw n1 2 cs1), (dI n2), (dI n3), (dI n4), (dI n5), (dI n6)]), (D.agg [D.nil, (dI n13), (dI n14), (dI n15), (dI n16), (dI n17)])] kT) ∧
 (bcase (n10 == n21)
 (bcase (if Bool.false = Bool.true then !(n8 == n19 && (n9 == n20 && Bool.true)) else n8 == n19 && (n9 == n20 && Bool.true))
 (bcase (n12 == n23)
 (bcase (dL n11 2 cs2)
 (bcase (dL n22 2 cs3)
 (((Says C 23 [(D.agg [(D.val (Value.string (s3))), (Dw n11 2 cs2)]), (D.agg [(D.val (Value.string (s4))), (Dw n22 2 cs3)])] kT) ∧
 (k kT)) ∨
 ((Says C 23 [(D.agg [(D.val (Value.string (s3))), (Dw n11 2 cs2)]), (D.agg [(D.val (Value.string (s4))), (Dw n22 2 cs3)])] kF) ∧
 (k kF)))
 False)
 False)
 (k kF))
 (k kF))
 (k kF))) ∨
 ((Says C 22 [(D.agg [(Dw n1 2 cs1), (dI n2), (dI n3), (dI n4), (dI n5), (dI n6)]), (D.agg [D.nil, (dI n13), (dI n14), (dI n15), (dI n16), (dI n17)])] kF) ∧
 (k kF)))
 False)
 (k kF))))))))))))))))))) ∨
 (∃ n13 : Nat,
 (∃ cs3 : List Go.Value,
 (∃ n14 : Int,
 (∃ n15 : Int,
 (∃ n16 : Int,
 (∃ n17 : Int,
 (∃ n18 : Int,
 (∃ n19 : Int,
 ((Says C 24 [(D.val (Value.string (s0)))] [(D.agg [(D.sl (n13) 2 (cs3)), (dI n14), (dI n15), (dI n16), (dI n17), (dI n18)]), (dI n19)]) ∧
 (∃ n20 : Int,
 (∃ n21 : Int,
 (∃ n22 : Int,
 ((Says C 25 [(D.val (Value.string (s1)))] [(D.agg [(dI n20), (dI n21)]), (dI n22)]) ∧
 (∃ s4 : ByteArray,
 ((∃ n23 : Int,
 ((Says C 26 [(D.val (Value.string (s2)))] [(D.agg [(D.val (Value.string (s4))), D.nil]), (dI n23)]) ∧
 (bcase (n7 == n19)
 (bcase (dL n1 2 cs1)
 (bcase (dL n13 2 cs3)
 (((Says C 22 [(D.agg [(Dw n1 2 cs1), (dI n2), (dI n3), (dI n4), (dI n5), (dI n6)]), (D.agg [(Dw n13 2 cs3), (dI n14), (dI n15), (dI n16), (dI n17), (dI n18)])] kT) ∧
 (bcase (n10 == n22)
 (bcase (if Bool.false = Bool.true then !(n8 == n20 && (n9 == n21 && Bool.true)) else n8 == n20 && (n9 == n21 && Bool.true))
 (bcase (n12 == n23)
 (bcase (dL n11 2 cs2)
 (((Says C 23 [(D.agg [(D.val (Value.string (s3))), (Dw n11 2 cs2)]), (D.agg [(D.val (Value.string (s4))), D.nil])] kT) ∧
 (k kT)) ∨
 ((Says C 23 [(D.agg [(D.val (Value.string (s3))), (Dw n11 2 cs2)]), (D.agg [(D.val (Value.string (s4))), D.nil])] kF) ∧
 (k kF)))
 False)
 (k kF))
 (k kF))
 (k kF))) ∨
 ((Says C 22 [(D.agg [(Dw n1 2 cs1), (dI n2), (dI n3), (dI n4), (dI n5), (dI n6)]), (D.agg [(Dw n13 2 cs3), (dI n14), (dI n15), (dI n16), (dI n17), (dI n18)])] kF) ∧
 (k kF)))
 False)
 False)
 (k kF)))) ∨
 (∃ n23 : Nat,
 (∃ cs4 : List Go.Value,
 (∃ n24 : Int,
 ((Says C 26 [(D.val (Value.string (s2)))] [(D.agg [(D.val (Value.string (s4))), (D.sl (n23) 2 (cs4))]), (dI n24)]) ∧
 (bcase (n7 == n19)
 (bcase (dL n1 2 cs1)
 (bcase (dL n13 2 cs3)
 (((Says C 22 [(D.agg [(Dw n1 2 cs1), (dI n2), (dI n3), (dI n4), (dI n5), (dI n6)]), (D.agg [(Dw n13 2 cs3), (dI n14), (dI n15), (dI n16), (dI n17), (dI n18)])] kT) ∧
 (bcase (n10 == n22)
 (bcase (if Bool.false = Bool.true then !(n8 == n20 && (n9 == n21 && Bool.true)) else n8 == n20 && (n9 == n21 && Bool.true))
 (bcase (n12 == n24)
 (bcase (dL n11 2 cs2)
 (bcase (dL n23 2 cs4)
 (((Says C 23 [(D.agg [(D.val (Value.string (s3))), (Dw n11 2 cs2)]), (D.agg [(D.val (Value.string (s4))), (Dw n23 2 cs4)])] kT) ∧
 (k kT)) ∨
 ((Says C 23 [(D.agg [(D.val (Value.string (s3))), (Dw n11 2 cs2)]), (D.agg [(D.val (Value.string (s4))), (Dw n23 2 cs4)])] kF) ∧
 (k kF)))
 False)
 False)
 (k kF))
 (k kF))
 (k kF))) ∨
 ((Says C 22 [(D.agg [(Dw n1 2 cs1), (dI n2), (dI n3), (dI n4), (dI n5), (dI n6)]), (D.agg [(Dw n13 2 cs3), (dI n14), (dI n15), (dI n16), (dI n17), (dI n18)])] kF) ∧
 (k kF)))
 False)
 False)
 (k kF)))))))))))))))))))))))))))))))))))))))))))))) ∨
 ((Says C 5 [] kF) ∧
 (k kF))) := by kernel_rfl
end Go.Proofs.G5v

/- ModelParses in data. -/
namespace Go.Proofs.G5v
open Go Go.Abs Go.Proofs Go.Abs.MD Go.Str Go.RowKit
set_option maxRecDepth 100000
theorem conSRs (T : List (Int × Int)) (hl : T.length ≤ 1000000) (a b c d e : Int) : C5 22 [dRu T a b c d e, dRu T a b c d e] [dB true] := by
  let inv : Nat × Nat × Nat → Prop := fun x => x.1 ≤ T.length
  let st : Nat × Nat × Nat → Slots × Blocks := fun x => zSR1 (x.1 : Int) T.length x.2.1 a b c d e T.length x.2.2 a b c d e (vp T) (vp T)
  refine con_of (L := fun _ s b => ∃ x, inv x ∧ st x = (s, b)) hokS mixed Tryz.func22 rfl (by show 2 ≤ 400; omega) rfl (ids := [0]) (by kernel_rfl) rfl (fun caps => ?_) (fun id hid => ?_)
  · show gSR _ _ T.length (caps 500) (vp T) a b c d e T.length (caps 501) (vp T) a b c d e _
    rw [gSR_text]
    refine bc_false (by simp) (bc_false (by simp) (bc_false (by simp) (bc_false (by simp) ?_)))
    exact ⟨(0, caps 500, caps 501), Nat.zero_le _, rfl⟩
  · obtain rfl := List.mem_singleton.1 hid
    refine ⟨Nat × Nat × Nat, st, inv, fun x => T.length - x.1, ⟨fun s b h => h, by kernel_rfl, ?_⟩⟩
    rintro ⟨i, c1, c2⟩ hi
    have hi : i ≤ T.length := hi
    show rSR1 _ _ (i : Int) T.length c1 a b c d e T.length c2 a b c d e (vp T) (vp T) _ _ _
    rw [rSR1_text]
    refine bc_dec (fun h => ?_) (fun h => ?_)
    · have hi' : i < T.length := by omega
      have w4 : IntKind.wrap .i64 ((i : Int) + 1) = ((i + 1 : Nat) : Int) := by rw [w64 (by omega) (by omega)]; omega
      simp only [Qv, bc_t (show (0 : Int) ≤ (i : Int) by omega), bc_t h, Int.toNat_natCast, at2 (vp_two T i hi'), w4, if_true, beq_self_eq_true, Bool.and_self, Bool.not_true, bcF, eq_self, true_and, and_true]
      exact ⟨(i + 1, c1, c2), hi', by show T.length - (i + 1) < T.length - i; omega, rfl⟩
    · show (if 0 = 0 then _ else _)
      rw [if_pos rfl]
      show nSR2 _ _ _
      rw [nSR2_text]
theorem conSLs (w : List UInt8) (R : List (Int × Int)) (hl : R.length ≤ 1000000) : C5 23 [dCo w R, dCo w R] [dB true] := by
  let inv : Nat × Nat × Nat → Prop := fun x => x.1 ≤ R.length
  let st : Nat × Nat × Nat → Slots × Blocks := fun x => zSL1 (x.1 : Int) (bs w) R.length x.2.1 (bs w) R.length x.2.2 (vp R) (vp R)
  refine con_of (L := fun _ s b => ∃ x, inv x ∧ st x = (s, b)) hokS mixed Tryz.func23 rfl (by show 2 ≤ 400; omega) rfl (ids := [0]) (by kernel_rfl) rfl (fun caps => ?_) (fun id hid => ?_)
  · show gSL _ _ (bs w) R.length (caps 500) (vp R) (bs w) R.length (caps 501) (vp R) _
    rw [gSL_text]
    refine bc_false (by simp) (bc_false (by simp) ?_)
    exact ⟨(0, caps 500, caps 501), Nat.zero_le _, rfl⟩
  · obtain rfl := List.mem_singleton.1 hid
    refine ⟨Nat × Nat × Nat, st, inv, fun x => R.length - x.1, ⟨fun s b h => h, by kernel_rfl, ?_⟩⟩
    rintro ⟨i, c1, c2⟩ hi
    have hi : i ≤ R.length := hi
    show rSL1 _ _ (i : Int) (bs w) R.length c1 (bs w) R.length c2 (vp R) (vp R) _ _ _
    rw [rSL1_text]
    refine bc_dec (fun h => ?_) (fun h => ?_)
    · have hi' : i < R.length := by omega
      have w4 : IntKind.wrap .i64 ((i : Int) + 1) = ((i + 1 : Nat) : Int) := by rw [w64 (by omega) (by omega)]; omega
      simp only [Qv, bc_t (show (0 : Int) ≤ (i : Int) by omega), bc_t h, Int.toNat_natCast, at2 (vp_two R i hi'), w4, if_true, beq_self_eq_true, Bool.and_self, Bool.not_true, bcF, eq_self, true_and, and_true]
      exact ⟨(i + 1, c1, c2), hi', by show R.length - (i + 1) < R.length - i; omega, rfl⟩
    · show (if 0 = 0 then _ else _)
      rw [if_pos rfl]
      show nSL2 _ _ _
      rw [nSL2_text]
theorem conSRo (a b c d e : Int) : C5 22 [dRn a b c d e, dRn a b c d e] [dB true] := by
  let inv : Unit → Prop := fun _ => True
  let st : Unit → Slots × Blocks := fun _ => zSRo1 0 a b c d e a b c d e
  refine con_of (L := fun _ s b => ∃ x, inv x ∧ st x = (s, b)) hokS mixed Tryz.func22 rfl (by show 0 ≤ 400; omega) rfl (ids := [0]) (by kernel_rfl) rfl (fun caps => ?_) (fun id hid => ?_)
  · show gSRo _ _ a b c d e a b c d e _
    rw [gSRo_text]
    exact bc_false (by simp) (bc_false (by simp) (bc_false (by simp) ⟨(), trivial, rfl⟩))
  · obtain rfl := List.mem_singleton.1 hid
    refine ⟨Unit, st, inv, fun _ => 0, ⟨fun s b h => h, by kernel_rfl, ?_⟩⟩
    rintro ⟨⟩ -
    show rSRo1 _ _ 0 a b c d e a b c d e _ _ _
    rw [rSRo1_text]
    refine bc_no (by decide) ?_
    show (if 0 = 0 then _ else _)
    rw [if_pos rfl]
    show nSRo2 _ _ _
    rw [nSRo2_text]
theorem conSLo (w : List UInt8) : C5 23 [dCn w, dCn w] [dB true] := by
  let inv : Unit → Prop := fun _ => True
  let st : Unit → Slots × Blocks := fun _ => zSLo1 0 (bs w) (bs w)
  refine con_of (L := fun _ s b => ∃ x, inv x ∧ st x = (s, b)) hokS mixed Tryz.func23 rfl (by show 0 ≤ 400; omega) rfl (ids := [0]) (by kernel_rfl) rfl (fun caps => ?_) (fun id hid => ?_)
  · show gSLo _ _ (bs w) (bs w) _
    rw [gSLo_text]
    exact bc_false (by simp) ⟨(), trivial, rfl⟩
  · obtain rfl := List.mem_singleton.1 hid
    refine ⟨Unit, st, inv, fun _ => 0, ⟨fun s b h => h, by kernel_rfl, ?_⟩⟩
    rintro ⟨⟩ -
    show rSLo1 _ _ 0 (bs w) (bs w) _ _ _
    rw [rSLo1_text]
    refine bc_no (by decide) ?_
    show (if 0 = 0 then _ else _)
    rw [if_pos rfl]
    show nSLo2 _ _ _
    rw [nSLo2_text]
theorem rlT_cases (a b c d e : Int) (o : Option (List (Int × Int))) : (∃ n, rlT a b c d e o = (dR0, n)) ∨ ∃ T, T.length ≤ 12 ∧ rlT a b c d e o = (dRu T a b c d e, 0) := by
  cases o with
  | none => exact .inl ⟨7, rfl⟩
  | some T =>
    unfold rlT
    simp only
    by_cases h : (rulR T a b c d e).2 = 0
    · exact .inr ⟨T, (tab_ok (rul_ok h).1.tabz).few, if_pos h⟩
    · exact .inl ⟨_, if_neg h⟩
theorem rlP_cases (l : List UInt8) : (∃ n, rlP l = (dR0, n)) ∨ ∃ T a b c d e, T.length ≤ 12 ∧ rlP l = (dRu T a b c d e, 0) := by
  unfold rlP
  generalize cutA 32 [] l = ws
  by_cases hsh : ws.length < 3
  · exact .inl ⟨7, rlW_short hsh⟩
  · obtain ⟨u, v, w, r, rfl⟩ := three hsh
    show (∃ n, rlH _ _ w r = _) ∨ ∃ T a b c d e, _ ∧ rlH _ _ w r = _
    cases two 47 7 u with
    | none => exact .inl ⟨7, rfl⟩
    | some p =>
      cases two 47 7 v with
      | none => exact .inl ⟨7, rfl⟩
      | some q =>
        cases h : okNum 7 w with
        | false => exact .inl ⟨7, rlH_3 h⟩
        | true =>
          have e : rlH (some p) (some q) w r = rlT p.1 p.2 q.1 q.2 (numF 0 w) (words (two 64 7) r) := by unfold rlH; simp only; rw [if_pos h]
          rw [e]
          rcases rlT_cases p.1 p.2 q.1 q.2 (numF 0 w) (words (two 64 7) r) with h | ⟨T, h1, h2⟩
          · exact .inl h
          · exact .inr ⟨T, _, _, _, _, _, h1, h2⟩
theorem clP_cases (l : List UInt8) : (∃ n, clP l = (dCn [], n)) ∨ ∃ w R, R.length ≤ 12 ∧ clP l = (dCo w R, 0) := by
  unfold clP
  generalize cutA 32 [] l = ws
  cases ws with
  | nil => exact .inl ⟨7, rfl⟩
  | cons w r =>
    by_cases hw : w = []
    · exact .inl ⟨7, if_pos hw⟩
    · rw [show clW (w :: r) = coW w (words (two 64 7) r) from if_neg hw]
      cases words (two 64 7) r with
      | none => exact .inl ⟨7, rfl⟩
      | some R =>
        unfold coW
        simp only
        by_cases h : (coR w R).2 = 0
        · exact .inr ⟨w, R, (co_ok h).1.len, if_pos h⟩
        · exact .inl ⟨_, if_neg h⟩
theorem lawP (conA : C5 5 [] [.val (.bool true)]) (l m n : List UInt8) : C5 4 [dS l, dS m, dS n] [.val (.bool true)] := by
  refine con_flat hokS mixed Tryz.func4 rfl (by show 0 ≤ 400; omega) rfl (by kernel_rfl) (fun caps => ?_)
  show gLp _ _ (bs l) (bs m) (bs n) _
  rw [gLp_text]
  simp only [bs_size]
  refine .inl ⟨⟨conA⟩, bc_dec (fun _ => trivial) (fun h1 => bc_dec (fun _ => trivial) (fun h2 => bc_dec (fun _ => trivial) (fun h3 => ?_)))⟩
  have cR := conpR l (by omega)
  have dR := conrR l (by omega)
  have cC := conpC m (by omega)
  have dC := conrC m (by omega)
  have cL := conpL n (by omega)
  have dL' := conrL n (by omega)
  rcases rlP_cases l with ⟨x, hr⟩ | ⟨T, a, b, c, d, e, hT, hr⟩ <;> rcases clP_cases n with ⟨y, hc⟩ | ⟨w, R, hR, hc⟩ <;> rw [hr] at cR dR <;> rw [hc] at cL dL'
  · refine .inl ⟨_, _, _, _, _, _, ⟨cR⟩, _, _, _, ⟨cC⟩, _, .inl ⟨_, ⟨cL⟩, .inl ⟨_, _, _, _, _, _, ⟨dR⟩, _, _, _, ⟨dC⟩, _, .inl ⟨_, ⟨dL'⟩, ?_⟩⟩⟩⟩
    exact bc_true (by simp) (.inl ⟨⟨conSRo _ _ _ _ _⟩, bc_true (by simp) (bc_true (by simp) (bc_true (by simp) (.inl ⟨⟨conSLo _⟩, trivial⟩)))⟩)
  · refine .inl ⟨_, _, _, _, _, _, ⟨cR⟩, _, _, _, ⟨cC⟩, _, .inr ⟨_, _, _, ⟨cL⟩, .inl ⟨_, _, _, _, _, _, ⟨dR⟩, _, _, _, ⟨dC⟩, _, .inr ⟨_, _, _, ⟨dL'⟩, ?_⟩⟩⟩⟩
    simp only [Dw, Tk, vp_whole]
    refine bc_true (by simp) (.inl ⟨⟨conSRo _ _ _ _ _⟩, bc_true (by simp) (bc_true (by simp) (bc_true (by simp) ?_))⟩)
    repeat' refine bc_yes (by simp) ?_
    exact .inl ⟨⟨conSLs w R (by omega)⟩, trivial⟩
  · refine .inr ⟨_, _, _, _, _, _, _, _, ⟨cR⟩, _, _, _, ⟨cC⟩, _, .inl ⟨_, ⟨cL⟩, .inr ⟨_, _, _, _, _, _, _, _, ⟨dR⟩, _, _, _, ⟨dC⟩, _, .inl ⟨_, ⟨dL'⟩, ?_⟩⟩⟩⟩
    simp only [Dw, Tk, vp_whole]
    refine bc_true (by simp) ?_
    repeat' refine bc_yes (by simp) ?_
    exact .inl ⟨⟨conSRs T (by omega) _ _ _ _ _⟩, bc_true (by simp) (bc_true (by simp) (bc_true (by simp) (.inl ⟨⟨conSLo _⟩, trivial⟩)))⟩
  · refine .inr ⟨_, _, _, _, _, _, _, _, ⟨cR⟩, _, _, _, ⟨cC⟩, _, .inr ⟨_, _, _, ⟨cL⟩, .inr ⟨_, _, _, _, _, _, _, _, ⟨dR⟩, _, _, _, ⟨dC⟩, _, .inr ⟨_, _, _, ⟨dL'⟩, ?_⟩⟩⟩⟩
    simp only [Dw, Tk, vp_whole]
    refine bc_true (by simp) ?_
    repeat' refine bc_yes (by simp) ?_
    refine .inl ⟨⟨conSRs T (by omega) _ _ _ _ _⟩, bc_true (by simp) (bc_true (by simp) (bc_true (by simp) ?_))⟩
    repeat' refine bc_yes (by simp) ?_
    exact .inl ⟨⟨conSLs w R (by omega)⟩, trivial⟩
end Go.Proofs.G5v
