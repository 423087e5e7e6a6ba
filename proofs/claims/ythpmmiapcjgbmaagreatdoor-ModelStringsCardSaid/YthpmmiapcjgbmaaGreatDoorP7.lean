/- Texts of the proof, put together: GvNC, GvNP, GvND, GvNE, GvNL, GvNF, GvNG, GvNH, GvNI, GvNM, GvNJ. -/
import Derived.Test.YthpmmiapcjgbmaaGreatDoorP6
import Derived.Test.YthpmmiapcjgbmaaGreatDoorP5
/- Chapter 4, strings: coils, in data. -/
namespace Go.Proofs.G5v
open Go Go.Abs Go.Proofs Go.Abs.MD Go.Str Go.RowKit
set_option maxRecDepth 100000
/-- two numbers with a byte between, read -/
theorem rdPair {c : UInt8} (hc : isDig c = false) (x : List UInt8) (hl : x.length < 1000000) {F F0 : Prop} {OK : ByteArray → ByteArray → Prop} {G1 : Nat → List Value → ByteArray → ByteArray → Prop} {G2 G3 : Nat → List Value → ByteArray → Prop} {G4 G5 : Nat → List Value → Prop}
    (hF : two c 7 x = none → F) (hOK : ∀ a b, two c 7 x = some (numF 0 a, numF 0 b) → OK (bs a) (bs b)) :
    (Says C5 44 [dS x, dS [c]] [.nil] ∧ F0) ∨ ∃ (n : Nat) (cs : List Value), Says C5 44 [dS x, dS [c]] [.sl n 1 cs] ∧
      bcase ((n : Int) != 2) F (bcase (decide (0 < (n : Int))) (bcase (decide (0 < (n : Int))) (∃ s : ByteArray, At cs 0 1 [.string s] ∧
        ((Says C5 83 [.val (.string s)] kT ∧ Says C5 84 [.val (.string s)] [.val (vI (numB s)), .val .nilIface] ∧
          bcase (decide (IntKind.wrap .i64 (0 + 1) < (n : Int))) (bcase (decide (IntKind.wrap .i64 (0 + 1) < (n : Int))) (∃ t : ByteArray, At cs 1 1 [.string t] ∧
            ((Says C5 83 [.val (.string t)] kT ∧ Says C5 84 [.val (.string t)] [.val (vI (numB t)), .val .nilIface] ∧
              bcase (decide (IntKind.wrap .i64 (IntKind.wrap .i64 (0 + 1) + 1) < (n : Int))) (G1 n cs s t) (OK s t)) ∨
             (Says C5 83 [.val (.string t)] kF ∧ F))) (G2 n cs s)) (G3 n cs s)) ∨
         (Says C5 83 [.val (.string s)] kF ∧ F))) (G4 n cs)) (G5 n cs)) := by
  have cS := conSp x c (by omega)
  rcases two_cut (w := x) (d := 7) hc with ⟨h1, h2⟩ | ⟨a, b, h1, h2⟩
  · generalize cutA c [] x = ws at h1 cS
    exact .inr ⟨_, _, ⟨cS⟩, bc_bne (fun _ => hF h2) (fun h => absurd h (by omega))⟩
  · rw [h1] at cS
    have s0 : At (strs [a, b]) 0 1 [Value.string (bs a)] := strs_at [a, b] 0 (by simp)
    have s1 : At (strs [a, b]) 1 1 [Value.string (bs b)] := strs_at [a, b] 1 (by simp)
    have y0 : (0 : Int) < (([a, b].length : Nat) : Int) := show (0 : Int) < ((2 : Nat) : Int) by decide
    have y1 : IntKind.wrap .i64 (0 + 1) < (([a, b].length : Nat) : Int) := show IntKind.wrap .i64 (0 + 1) < ((2 : Nat) : Int) by decide
    have y2 : ¬ IntKind.wrap .i64 (IntKind.wrap .i64 (0 + 1) + 1) < (([a, b].length : Nat) : Int) := show ¬ IntKind.wrap .i64 (IntKind.wrap .i64 (0 + 1) + 1) < ((2 : Nat) : Int) by decide
    refine .inr ⟨_, _, ⟨cS⟩, bc_bne (fun h => absurd rfl h) (fun _ => bc_yes y0 (bc_yes y0 ⟨_, s0, sayOr (conN a) (fun ha => ?_) (fun ha => hF (by rw [h2, ha]; rfl))⟩))⟩
    refine ⟨⟨conAt a ha⟩, bc_yes y1 (bc_yes y1 ⟨_, s1, sayOr (conN b) (fun hb => ?_) (fun hb => hF (by rw [h2, hb, Bool.and_false]; rfl))⟩)⟩
    exact ⟨⟨conAt b hb⟩, bc_no y2 (hOK a b (by rw [h2, ha, hb]; rfl))⟩
theorem vp_snoc : ∀ (l : List (Int × Int)) (p : Int × Int), vp (l ++ [p]) = vp l ++ [vI p.1, vI p.2]
  | [], p => rfl
  | q :: r, p => by simp only [List.cons_append, vp, vp_snoc r p]
theorem empty_beq (l : List UInt8) : (ByteArray.toList (bs l) == ByteArray.toList { data := #[] }) = decide (l = []) := by
  rw [show ({ data := #[] } : ByteArray) = bs [] from rfl, bs_toList, bs_toList]
  cases l <;> rfl
/-- the coil of a string, and the error -/
def coW (w : List UInt8) : Option (List (Int × Int)) → D × Int
  | none => (dCn [], 7)
  | some R => if (coR w R).2 = 0 then (dCo w R, 0) else (dCn [], (coR w R).2)
def clW : List (List UInt8) → D × Int
  | [] => (dCn [], 7)
  | w :: r => if w = [] then (dCn [], 7) else coW w (words (two 64 7) r)
def clP (l : List UInt8) : D × Int := clW (cutA 32 [] l)
theorem coR_nil_ne (nm : List UInt8) : (coR nm []).2 ≠ 0 := by rw [coR_nil]; split <;> decide
theorem conkCn (nm : List UInt8) : C5 50 [dCn nm] (oP (coR nm [])) := by
  refine con_of (L := fun _ _ _ => False) hokL mixed Tryz.func50 rfl (by show 0 ≤ 400; omega) rfl (ids := [0]) (by kernel_rfl) rfl (fun caps => ?_) (fun id hid => ?_)
  · show gkCn _ _ (bs nm) _
    rw [gkCn_text]
    simp only [Qv, eq_self, true_and, and_true]
    refine ⟨_, ⟨concN nm⟩, _, ⟨concC _ _⟩, _, ⟨conFE [nameE nm, cntE 0 12] (by simp)⟩, ?_⟩
    rw [fst0_two]
    cases hn : nameOK nm with
    | false =>
      rw [nameE_bad hn, if_neg (by decide), bc_n (by decide)]
      show _ = oP _; rw [coR, if_pos hn]
    | true =>
      rw [nameE_ok hn, if_pos rfl]
      have hnf : ¬ nameOK nm = false := by rw [hn]; decide
      rw [show cntE 0 12 = 10 from rfl, bc_n (by decide)]
      show _ = oP _; rw [coR, if_neg hnf]; rfl
  · obtain rfl := List.mem_singleton.1 hid
    exact ⟨Empty, fun x => x.elim, fun _ => False, fun _ => 0, ⟨fun s b h => h.elim, by kernel_rfl, fun x => x.elim⟩⟩
theorem conpL (l : List UInt8) (hl : l.length < 100000) : C5 21 [dS l] [(clP l).1, dI (clP l).2] := by
  have cS := conSp l 32 (by omega)
  have hlen : (cutA 32 [] l).length ≤ 100000 := by rw [cutA_len]; have := List.count_le_length (a := (32 : UInt8)) (l := l); omega
  have hmem : ∀ w ∈ cutA 32 [] l, w.length < 100000 := fun w hw => by have := cutA_le w hw; simp at this; omega
  have hne : cutA 32 [] l ≠ [] := cutA_ne
  unfold clP
  generalize cutA 32 [] l = ws at cS hlen hmem hne
  cases ws with
  | nil => exact absurd rfl hne
  | cons w r =>
  have hrl : r.length < 100000 := by simp at hlen; omega
  have hw0 : w ≠ [] → clW (w :: r) = coW w (words (two 64 7) r) := fun h => if_neg h
  let inv : Option (Nat × List (Int × Int)) → Prop := fun x => match x with
    | none => r = [] ∧ w ≠ []
    | some x => goesF (two 64 7) r x ∧ w ≠ []
  let st : Option (Nat × List (Int × Int)) → Slots × Blocks := fun x => match x with
    | none => zpL1 0 0 0 (bs []) (bs w) (strs (w :: r))
    | some (i, []) => zpL2 1 r.length r.length i (bs []) (bs w) (strs (w :: r))
    | some (i, p :: t) => zpL5 1 r.length r.length i (bs []) (bs w) (p :: t).length (strs (w :: r)) (vp (p :: t))
  refine con_of (L := fun _ s b => ∃ x, inv x ∧ st x = (s, b)) hokP mixed Tryz.func21 rfl (by show 0 ≤ 400; omega) rfl (ids := [0]) (by kernel_rfl) rfl (fun caps => ?_) (fun id hid => ?_)
  · show gpL _ _ (bs l) _
    rw [gpL_text]
    have s0 : At (strs (w :: r)) 0 1 [Value.string (bs w)] := strs_at (w :: r) 0 (by simp)
    refine .inr ⟨_, _, ⟨cS⟩, bc_yes (by simp) ⟨_, s0, ?_⟩⟩
    rw [empty_beq]
    refine bc_dec (fun h => ?_) (fun h => bc_yes (by rw [List.length_cons]; omega) (bc_yes (by omega) (bc_beq (fun h1 => ⟨?_, ?_⟩) (fun h1 => ?_))))
    · show _ = _; rw [clW, if_pos h]
    · have hr : r = [] := by simpa using h1
      subst hr
      exact ⟨none, ⟨rfl, h⟩, rfl⟩
    · exact ⟨some (0, []), ⟨goesF_start _ _, h⟩, rfl⟩
    · exact ⟨some (0, []), ⟨goesF_start _ _, h⟩, rfl⟩
  · obtain rfl := List.mem_singleton.1 hid
    refine ⟨_, st, inv, fun x => match x with | none => 0 | some x => r.length - x.1, ⟨fun s b h => h, by kernel_rfl, ?_⟩⟩
    have fin0 : w ≠ [] → r = [] → ∀ n1 n2 : Int, oP (coR w []) = [dI n1, dI n2] → bcase (n2 != 0) ([dCn [], dI n2] = [(clW (w :: r)).1, dI (clW (w :: r)).2]) ([D.agg [dS w, .nil], dI 0] = [(clW (w :: r)).1, dI (clW (w :: r)).2]) := by
      rintro hw rfl n1 n2 e
      have e2 : (coR w []).2 = n2 := by
        have := e
        simp only [List.cons.injEq, D.val.injEq, Value.int.injEq, true_and, and_true] at this
        exact this.2
      have hc := coR_nil_ne w
      refine bc_bne (fun _ => ?_) (fun h => absurd (e2.trans h) hc)
      rw [hw0 hw, show words (two 64 7) ([] : List (List UInt8)) = some [] from rfl, coW, if_neg hc, e2]
    rintro (_ | ⟨i, out⟩) hx
    · obtain ⟨hr, hw⟩ := hx
      show rpL1 _ _ 0 0 0 (bs []) (bs w) (strs (w :: r)) _ _ _
      rw [rpL1_text]
      refine bc_no (by decide) ?_
      show (if 0 = 0 then _ else _)
      rw [if_pos rfl]
      show npL4 _ _ (bs []) (bs w) _
      rw [npL4_text]
      exact ⟨_, _, ⟨conkCn w⟩, fin0 hw hr _ _ rfl⟩
    · obtain ⟨hg, hw⟩ := hx
      have hi : i ≤ r.length := hg.1
      have ho : out.length = i := hg.2.1
      have bad : ∀ h : i < r.length, two 64 7 r[i] = none → [dCn [], dI 7] = [(clW (w :: r)).1, dI (clW (w :: r)).2] := fun h e => by
        rw [hw0 hw, (goesF_step hg h).1 e]; rfl
      have sA : ∀ h : i < r.length, At (strs (w :: r)) (1 + Int.toNat (i : Int) * 1) 1 [Value.string (bs r[i])] := fun h => by
        rw [show 1 + Int.toNat (i : Int) * 1 = 0 + (i + 1) * 1 by omega]
        exact strs_at (w :: r) (i + 1) (by simp; omega)
      have hx : ∀ h : i < r.length, r[i].length < 1000000 := fun h => by have := hmem r[i] (List.mem_cons_of_mem _ (List.getElem_mem h)); omega
      have w4 : IntKind.wrap .i64 ((i : Int) + 1) = ((i + 1 : Nat) : Int) := by rw [w64 (by omega) (by omega)]; omega
      cases out with
      | nil =>
        have hi0 : i = 0 := by simpa using ho.symm
        show rpL2 _ _ 1 r.length r.length i (bs []) (bs w) (strs (w :: r)) _ _ _
        rw [rpL2_text]
        simp only [Qv, eq_self, true_and, and_true]
        refine bc_dec (fun h => ?_) (fun h => ?_)
        · have hi' : i < r.length := by omega
          refine bc_yes (by omega) (bc_yes (by omega) ⟨_, sA hi', rdPair d64 r[i] (hx hi') (bad hi') (fun a b hz => ?_)⟩)
          refine ⟨some (i + 1, [(numF 0 a, numF 0 b)]), ⟨(goesF_step hg hi').2 _ hz, hw⟩, by show r.length - (i + 1) < r.length - i; omega, ?_⟩
          rw [numB_bs, numB_bs, w4]; rfl
        · show npL4 _ _ (bs []) (bs w) _
          rw [npL4_text]
          exact ⟨_, _, ⟨conkCn w⟩, fin0 hw (List.length_eq_zero_iff.1 (by omega)) _ _ rfl⟩
      | cons p t =>
        show rpL5 _ _ 1 r.length r.length i (bs []) (bs w) (p :: t).length (strs (w :: r)) (vp (p :: t)) _ _ _
        rw [rpL5_text]
        simp only [Qv, eq_self, true_and, and_true]
        refine bc_dec (fun h => ?_) (fun h => ?_)
        · have hi' : i < r.length := by omega
          refine bc_yes (by omega) (bc_yes (by omega) ⟨_, sA hi', rdPair d64 r[i] (hx hi') (bad hi') (fun a b hz => ?_)⟩)
          refine bc_yes (Nat.lt_succ_self _) (bc_yes (by omega) (bc_yes (by omega) (bc_yes (by rw [vp_length]; omega) (bc_yes (by rw [vp_length]; omega) ?_))))
          refine ⟨some (i + 1, (p :: t) ++ [(numF 0 a, numF 0 b)]), ⟨(goesF_step hg hi').2 _ hz, hw⟩, by show r.length - (i + 1) < r.length - i; omega, ?_⟩
          show zpL5 1 r.length r.length ((i + 1 : Nat) : Int) (bs []) (bs w) ((p :: t) ++ [_]).length (strs (w :: r)) (vp ((p :: t) ++ [_])) = _
          rw [numB_bs, numB_bs, w4, List.length_append, vp_snoc]
          simp only [Tk, vp_whole]
          rfl
        · have hil : i = r.length := by omega
          show npL6 _ _ (bs []) (bs w) (p :: t).length (vp (p :: t)) _
          rw [npL6_text]
          have hz : words (two 64 7) r = some (p :: t) := by
            subst hil
            exact goesF_end hg
          simp only [Dw, Tk, vp_whole, Qv, eq_self, true_and]
          refine bc_yes (by rw [vp_length]; omega) ⟨_, _, ⟨conkC w (p :: t) (by omega)⟩, ?_⟩
          rw [hw0 hw, hz, coW]
          refine bc_bne (fun hc => ?_) (fun hc => ?_)
          · rw [if_neg hc]
          · rw [if_pos hc]
            exact ⟨by rw [vp_length], rfl⟩
end Go.Proofs.G5v

/- What is left to show of each function, written out; the kernel reckons it. -/
namespace Go.Proofs.G5v
open Go Go.Abs Go.Proofs
set_option maxRecDepth 100000
set_option linter.unusedVariables false
def gcTn (C : Ct) (L : AtLoop) (k : List D → Prop) : Prop := wpFn Tryz.prog (hL C) L 0 54 #[.slice none 0 0] (heapOf []) (dataK k)
theorem gcTn_text (C : Ct) (L : AtLoop) (k : List D → Prop) : gcTn C L k =
 (∃ n1 : Int,
 ((Says C 88 [(D.val (vI 0)), (D.val (vI 12))] [(D.val (vI n1))]) ∧
 (bcase (n1 != 0)
 (k [(D.val (vI 0)), (D.val (vI n1))])
 (L 0 [(Prod.mk 0 (Value.slice none 0 0)), (Prod.mk 14 (Value.slice none 0 0)), (Prod.mk 15 (vI 0)), (Prod.mk 16 (vI 0))] [])))) := by kernel_rfl
end Go.Proofs.G5v

/- Chapter 4, strings: rules, in data. -/
namespace Go.Proofs.G5v
open Go Go.Abs Go.Proofs Go.Abs.MD Go.Str Go.RowKit
set_option maxRecDepth 100000
/-- one number, read -/
theorem rdOne (x : List UInt8) (hl : x.length < 1000000) {F F0 : Prop} {OK : ByteArray → Prop} {G1 : Nat → List Value → ByteArray → Prop} {G4 G5 : Nat → List Value → Prop}
    (hF : okNum 7 x = false → F) (hOK : okNum 7 x = true → OK (bs x)) :
    (Says C5 44 [dS x, dS [32]] [.nil] ∧ F0) ∨ ∃ (n : Nat) (cs : List Value), Says C5 44 [dS x, dS [32]] [.sl n 1 cs] ∧
      bcase ((n : Int) != 1) F (bcase (decide (0 < (n : Int))) (bcase (decide (0 < (n : Int))) (∃ s : ByteArray, At cs 0 1 [.string s] ∧
        ((Says C5 83 [.val (.string s)] kT ∧ Says C5 84 [.val (.string s)] [.val (vI (numB s)), .val .nilIface] ∧
          bcase (decide (IntKind.wrap .i64 (0 + 1) < (n : Int))) (G1 n cs s) (OK s)) ∨
         (Says C5 83 [.val (.string s)] kF ∧ F))) (G4 n cs)) (G5 n cs)) := by
  have cS := conSp x 32 (by omega)
  by_cases hm : (32 : UInt8) ∈ x
  · have hno : okNum 7 x = false := by
      cases h : okNum 7 x with
      | false => rfl
      | true => exact absurd hm (okNum_mem h d32)
    have hlen : (cutA 32 [] x).length ≠ 1 := by
      rw [cutA_len]
      have := List.count_pos_iff.2 hm
      omega
    generalize cutA 32 [] x = ws at cS hlen
    exact .inr ⟨_, _, ⟨cS⟩, bc_bne (fun _ => hF hno) (fun h => absurd h (by omega))⟩
  · rw [cutA_miss hm, List.nil_append] at cS
    have s0 : At (strs [x]) 0 1 [Value.string (bs x)] := strs_at [x] 0 (by simp)
    have y0 : (0 : Int) < (([x].length : Nat) : Int) := show (0 : Int) < ((1 : Nat) : Int) by decide
    have y1 : ¬ IntKind.wrap .i64 (0 + 1) < (([x].length : Nat) : Int) := show ¬ IntKind.wrap .i64 (0 + 1) < ((1 : Nat) : Int) by decide
    exact .inr ⟨_, _, ⟨cS⟩, bc_bne (fun h => absurd rfl h) (fun _ => bc_yes y0 (bc_yes y0 ⟨_, s0, sayOr (conN x) (fun ha => ⟨⟨conAt x ha⟩, bc_no y1 (hOK ha)⟩) (fun ha => hF ha)⟩))⟩
theorem concTn : C5 54 [.nil] [dI 0, dI 10] := by
  refine con_of (L := fun _ _ _ => False) hokL mixed Tryz.func54 rfl (by show 0 ≤ 400; omega) rfl (ids := [0]) (by kernel_rfl) rfl (fun caps => ?_) (fun id hid => ?_)
  · show gcTn _ _ _
    rw [gcTn_text]
    refine ⟨_, ⟨concC 0 12⟩, ?_⟩
    rw [show cntE 0 12 = 10 from rfl]
    exact bc_bne (fun _ => rfl) (fun h => absurd h (by decide))
  · obtain rfl := List.mem_singleton.1 hid
    exact ⟨Empty, fun x => x.elim, fun _ => False, fun _ => 0, ⟨fun s b h => h.elim, by kernel_rfl, fun x => x.elim⟩⟩
theorem conKRn (a b c d e : Int) : C5 47 [dRn a b c d e] [dI 0, dI 10] := by
  refine con_flat hokL mixed Tryz.func47 rfl (by show 0 ≤ 400; omega) rfl (by kernel_rfl) (fun caps => ?_)
  show gKRn _ _ a b c d e _
  rw [gKRn_text]
  exact ⟨_, _, ⟨concTn⟩, bc_bne (fun _ => rfl) (fun h => absurd h (by decide))⟩
abbrev dR0 : D := dRn 0 0 0 0 0
def rlT (a b c d e : Int) : Option (List (Int × Int)) → D × Int
  | none => (dR0, 7)
  | some T => if (rulR T a b c d e).2 = 0 then (dRu T a b c d e, 0) else (dR0, (rulR T a b c d e).2)
def rlH (p q : Option (Int × Int)) (w : List UInt8) (r : List (List UInt8)) : D × Int := match p, q with
  | some p, some q => if okNum 7 w = true then rlT p.1 p.2 q.1 q.2 (numF 0 w) (words (two 64 7) r) else (dR0, 7)
  | _, _ => (dR0, 7)
def rlW : List (List UInt8) → D × Int
  | u :: v :: w :: r => rlH (two 47 7 u) (two 47 7 v) w r
  | _ => (dR0, 7)
def rlP (l : List UInt8) : D × Int := rlW (cutA 32 [] l)
theorem rlH_1 {q : Option (Int × Int)} {w : List UInt8} {r : List (List UInt8)} : rlH none q w r = (dR0, 7) := rfl
theorem rlH_2 {p : Option (Int × Int)} {w : List UInt8} {r : List (List UInt8)} : rlH p none w r = (dR0, 7) := by cases p <;> rfl
theorem rlH_3 {p q : Option (Int × Int)} {w : List UInt8} {r : List (List UInt8)} (h : okNum 7 w = false) : rlH p q w r = (dR0, 7) := by
  cases p <;> cases q <;> first | rfl | (unfold rlH; simp only; rw [h]; rfl)
theorem two_lt {c : UInt8} {w : List UInt8} (hc : isDig c = false) {p : Int × Int} (h : two c 7 w = some p) : p.1 < 10000000 ∧ p.2 < 10000000 := by
  rcases two_cut (w := w) (d := 7) hc with ⟨_, h2⟩ | ⟨a, b, h1, h2⟩
  · rw [h2] at h; cases h
  · rw [h2] at h
    cases ha : okNum 7 a with
    | false => rw [ha] at h; simp at h
    | true =>
      cases hb : okNum 7 b with
      | false => rw [ha, hb] at h; simp at h
      | true =>
        rw [ha, hb] at h
        obtain rfl := Option.some.inj h
        exact ⟨(numF_pos ha).2, (numF_pos hb).2⟩
theorem nums_of {u v : List UInt8} {a b c d : Int} (h1 : two 47 7 u = some (a, b)) (h2 : two 47 7 v = some (c, d)) : Nums a b c d := by
  have := two_ge d47 h1; have := two_lt d47 h1; have := two_ge d47 h2; have := two_lt d47 h2
  simp only at *
  exact ⟨⟨by omega, by omega⟩, ⟨by omega, by omega⟩, ⟨by omega, by omega⟩, ⟨by omega, by omega⟩⟩
abbrev RlX := Int × Int × Int × Int × Nat × List (Int × Int)
def rlInv : List (List UInt8) → RlX → Prop
  | u :: v :: w :: r, x => two 47 7 u = some (x.1, x.2.1) ∧ two 47 7 v = some (x.2.2.1, x.2.2.2.1) ∧ okNum 7 w = true ∧ goesF (two 64 7) r x.2.2.2.2
  | _, _ => False
theorem rlW_short : ∀ {ws : List (List UInt8)}, ws.length < 3 → rlW ws = (dR0, 7)
  | [], _ => rfl
  | [_], _ => rfl
  | [_, _], _ => rfl
  | _ :: _ :: _ :: _, h => absurd h (by simp)
theorem three : ∀ {ws : List (List UInt8)}, ¬ ws.length < 3 → ∃ u v w r, ws = u :: v :: w :: r
  | [], h => absurd h (by simp)
  | [_], h => absurd h (by simp)
  | [_, _], h => absurd h (by simp)
  | u :: v :: w :: r, _ => ⟨u, v, w, r, rfl⟩
end Go.Proofs.G5v

/- Chapter 4, strings: rules of a string, the program's. -/
namespace Go.Proofs.G5v
open Go Go.Abs Go.Proofs Go.Abs.MD Go.Str Go.RowKit
set_option maxRecDepth 100000
theorem fin3 {a b c d e : Int} {n1 n2 : Int} (e2 : n2 = 10) (h : oP (0, 10) = [dI n1, dI n2]) : bcase (n2 != 0) ([dR0, dI n2] = [(rlT a b c d e (some [])).1, dI (rlT a b c d e (some [])).2]) ([dRn a b c d e, dI 0] = [(rlT a b c d e (some [])).1, dI (rlT a b c d e (some [])).2]) := by
  subst e2
  exact bc_bne (fun _ => rfl) (fun h => absurd h (by decide))
theorem conpR (l : List UInt8) (hl : l.length < 100000) : C5 19 [dS l] [(rlP l).1, dI (rlP l).2] := by
  have cS := conSp l 32 (by omega)
  have hlen : (cutA 32 [] l).length ≤ 100000 := by rw [cutA_len]; have := List.count_le_length (a := (32 : UInt8)) (l := l); omega
  have hmem : ∀ w ∈ cutA 32 [] l, w.length < 100000 := fun w hw => by have := cutA_le w hw; simp at this; omega
  unfold rlP
  generalize cutA 32 [] l = ws at cS hlen hmem
  by_cases hsh : ws.length < 3
  · rw [rlW_short hsh]
    refine con_of (L := fun _ _ _ => False) hokP mixed Tryz.func19 rfl (by show 0 ≤ 400; omega) rfl (ids := [0]) (by kernel_rfl) rfl (fun caps => ?_) (fun id hid => ?_)
    · show gpR _ _ (bs l) _
      rw [gpR_text]
      exact .inr ⟨_, _, ⟨cS⟩, bc_no (by omega) rfl⟩
    · obtain rfl := List.mem_singleton.1 hid
      exact ⟨Empty, fun x => x.elim, fun _ => False, fun _ => 0, ⟨fun s b h => h.elim, by kernel_rfl, fun x => x.elim⟩⟩
  obtain ⟨u, v, w, r, rfl⟩ := three hsh
  have hrl : r.length < 100000 := by simp at hlen; omega
  have hL : (((u :: v :: w :: r).length : Nat) : Int) = (r.length : Int) + 3 := by simp; omega
  let inv : Bool × RlX → Prop := fun x => rlInv (u :: v :: w :: r) x.2 ∧ (x.1 = true → r = [] ∧ x.2.2.2.2.2 = (0, []))
  let st : Bool × RlX → Slots × Blocks := fun x => match x.1, x.2.2.2.2.2.2 with
    | true, _ => zpR1 0 0 0 0 0 0 0 0 x.2.1 x.2.2.1 x.2.2.2.1 x.2.2.2.2.1 (numF 0 w) (strs (u :: v :: w :: r))
    | false, [] => zpR2 3 r.length r.length (x.2.2.2.2.2.1 : Int) 0 0 0 0 0 x.2.1 x.2.2.1 x.2.2.2.1 x.2.2.2.2.1 (numF 0 w) (strs (u :: v :: w :: r))
    | false, p :: t => zpR5 3 r.length r.length (x.2.2.2.2.2.1 : Int) 0 0 0 0 0 (p :: t).length x.2.1 x.2.2.1 x.2.2.2.1 x.2.2.2.2.1 (numF 0 w) (strs (u :: v :: w :: r)) (vp (p :: t))
  have rW : rlW (u :: v :: w :: r) = rlH (two 47 7 u) (two 47 7 v) w r := rfl
  refine con_of (L := fun _ s b => ∃ x, inv x ∧ st x = (s, b)) hokP mixed Tryz.func19 rfl (by show 0 ≤ 400; omega) rfl (ids := [0]) (by kernel_rfl) rfl (fun caps => ?_) (fun id hid => ?_)
  · show gpR _ _ (bs l) _
    rw [gpR_text]
    simp only [Qv, eq_self, true_and, and_true]
    have s0 : At (strs (u :: v :: w :: r)) 0 1 [Value.string (bs u)] := strs_at (u :: v :: w :: r) 0 (by simp)
    have s1 : At (strs (u :: v :: w :: r)) 1 1 [Value.string (bs v)] := strs_at (u :: v :: w :: r) 1 (by simp)
    have s2 : At (strs (u :: v :: w :: r)) 2 1 [Value.string (bs w)] := strs_at (u :: v :: w :: r) 2 (by simp)
    have lu : u.length < 1000000 := by have := hmem u (by simp); omega
    have lv : v.length < 1000000 := by have := hmem v (by simp); omega
    have lw : w.length < 1000000 := by have := hmem w (by simp); omega
    have bad : rlH (two 47 7 u) (two 47 7 v) w r = (dR0, 7) → [dR0, dI 7] = [(rlW (u :: v :: w :: r)).1, dI (rlW (u :: v :: w :: r)).2] := fun h => by
      rw [rW, h]
    refine .inr ⟨_, _, ⟨cS⟩, bc_yes (by omega) (bc_yes (by omega) ⟨_, s0, rdPair d47 u lu (fun h => bad (by rw [h]; exact rlH_1)) (fun a b hu => ?_)⟩)⟩
    refine bc_yes (by omega) ⟨_, s1, rdPair d47 v lv (fun h => bad (by rw [h]; exact rlH_2)) (fun c d hv => ?_)⟩
    refine bc_yes (by omega) ⟨_, s2, rdOne w lw (fun h => bad (rlH_3 h)) (fun h3 => ?_)⟩
    rw [numB_bs, numB_bs, numB_bs, numB_bs, numB_bs]
    refine bc_yes (by omega) (bc_yes (by omega) (bc_beq (fun h => ⟨?_, ?_⟩) (fun h => ?_)))
    · have hr : r = [] := by simpa using h
      subst hr
      exact ⟨(true, numF 0 a, numF 0 b, numF 0 c, numF 0 d, 0, []), ⟨⟨hu, hv, h3, goesF_start _ _⟩, fun _ => ⟨rfl, rfl⟩⟩, rfl⟩
    · exact ⟨(false, numF 0 a, numF 0 b, numF 0 c, numF 0 d, 0, []), ⟨⟨hu, hv, h3, goesF_start _ _⟩, fun h => by cases h⟩, rfl⟩
    · exact ⟨(false, numF 0 a, numF 0 b, numF 0 c, numF 0 d, 0, []), ⟨⟨hu, hv, h3, goesF_start _ _⟩, fun h => by cases h⟩, rfl⟩
  · obtain rfl := List.mem_singleton.1 hid
    refine ⟨_, st, inv, fun x => r.length - x.2.2.2.2.2.1, ⟨fun s b h => h, by kernel_rfl, ?_⟩⟩
    rintro ⟨z, a, b, c, d, i, out⟩ ⟨⟨e1, e2, h3, hg⟩, hz0⟩
    simp only at e1 e2 hg hz0
    have hn : Nums a b c d := nums_of e1 e2
    have hi : i ≤ r.length := hg.1
    have ho : out.length = i := hg.2.1
    have hW : rlW (u :: v :: w :: r) = rlT a b c d (numF 0 w) (words (two 64 7) r) := by
      rw [rW, e1, e2]; unfold rlH; simp only; rw [if_pos h3]
    rw [hW]
    have bad : ∀ h : i < r.length, two 64 7 r[i] = none → [dR0, dI 7] = [(rlT a b c d (numF 0 w) (words (two 64 7) r)).1, dI (rlT a b c d (numF 0 w) (words (two 64 7) r)).2] := fun h e => by
      rw [(goesF_step hg h).1 e]; rfl
    have sA : ∀ h : i < r.length, At (strs (u :: v :: w :: r)) (3 + Int.toNat (i : Int) * 1) 1 [Value.string (bs r[i])] := fun h => by
      rw [show 3 + Int.toNat (i : Int) * 1 = 0 + (i + 3) * 1 by omega]
      exact strs_at (u :: v :: w :: r) (i + 3) (by simp; omega)
    have hx : ∀ h : i < r.length, r[i].length < 1000000 := fun h => by have := hmem r[i] (List.mem_cons_of_mem _ (List.mem_cons_of_mem _ (List.mem_cons_of_mem _ (List.getElem_mem h)))); omega
    have w4 : IntKind.wrap .i64 ((i : Int) + 1) = ((i + 1 : Nat) : Int) := by rw [w64 (by omega) (by omega)]; omega
    cases z with
    | true =>
      obtain ⟨rfl, ho2⟩ := hz0 rfl
      show rpR1 _ _ 0 0 0 0 0 0 0 0 a b c d (numF 0 w) (strs (u :: v :: w :: [])) _ _ _
      rw [rpR1_text]
      refine bc_no (by decide) ?_
      show (if 0 = 0 then _ else _)
      rw [if_pos rfl]
      show npR4 _ _ _ _ _ _ _ _ _ _ _ _ _
      rw [npR4_text]
      exact ⟨_, _, ⟨conKRn _ _ _ _ _⟩, fin3 rfl rfl⟩
    | false =>
      cases out with
      | nil =>
        have hi0 : i = 0 := by simpa using ho.symm
        show rpR2 _ _ 3 r.length r.length (i : Int) 0 0 0 0 0 a b c d (numF 0 w) (strs (u :: v :: w :: r)) _ _ _
        rw [rpR2_text]
        simp only [Qv, eq_self, true_and, and_true]
        refine bc_dec (fun h => ?_) (fun h => ?_)
        · have hi' : i < r.length := by omega
          refine bc_yes (by omega) (bc_yes (by omega) ⟨_, sA hi', rdPair d64 r[i] (hx hi') (bad hi') (fun x y hz => ?_)⟩)
          refine ⟨(false, a, b, c, d, i + 1, [(numF 0 x, numF 0 y)]), ⟨⟨e1, e2, h3, (goesF_step hg hi').2 _ hz⟩, fun h => by cases h⟩, by show r.length - (i + 1) < r.length - i; omega, ?_⟩
          rw [numB_bs, numB_bs, w4]; rfl
        · have hr : r = [] := List.length_eq_zero_iff.1 (by omega)
          subst hr
          show npR4 _ _ _ _ _ _ _ _ _ _ _ _ _
          rw [npR4_text]
          exact ⟨_, _, ⟨conKRn _ _ _ _ _⟩, fin3 rfl rfl⟩
      | cons p t =>
        show rpR5 _ _ 3 r.length r.length (i : Int) 0 0 0 0 0 (p :: t).length a b c d (numF 0 w) (strs (u :: v :: w :: r)) (vp (p :: t)) _ _ _
        rw [rpR5_text]
        simp only [Qv, eq_self, true_and, and_true]
        refine bc_dec (fun h => ?_) (fun h => ?_)
        · have hi' : i < r.length := by omega
          refine bc_yes (by omega) (bc_yes (by omega) ⟨_, sA hi', rdPair d64 r[i] (hx hi') (bad hi') (fun x y hz => ?_)⟩)
          refine bc_yes (Nat.lt_succ_self _) (bc_yes (by omega) (bc_yes (by omega) (bc_yes (by rw [vp_length]; omega) (bc_yes (by rw [vp_length]; omega) ?_))))
          refine ⟨(false, a, b, c, d, i + 1, (p :: t) ++ [(numF 0 x, numF 0 y)]), ⟨⟨e1, e2, h3, (goesF_step hg hi').2 _ hz⟩, fun h => by cases h⟩, by show r.length - (i + 1) < r.length - i; omega, ?_⟩
          show zpR5 3 r.length r.length ((i + 1 : Nat) : Int) 0 0 0 0 0 ((p :: t) ++ [_]).length a b c d (numF 0 w) (strs (u :: v :: w :: r)) (vp ((p :: t) ++ [_])) = _
          rw [numB_bs, numB_bs, w4, List.length_append, vp_snoc]
          simp only [Tk, vp_whole]
          rfl
        · have hil : i = r.length := by omega
          show npR6 _ _ _ _ _ _ _ (p :: t).length _ _ _ _ _ (vp (p :: t)) _
          rw [npR6_text]
          have hz : words (two 64 7) r = some (p :: t) := by
            subst hil
            exact goesF_end hg
          simp only [Dw, Tk, vp_whole, Qv, eq_self, true_and]
          refine bc_yes (by rw [vp_length]; omega) ⟨_, _, ⟨conKR (p :: t) (by omega) _ hn⟩, ?_⟩
          rw [hz, rlT]
          refine bc_bne (fun hc => ?_) (fun hc => ?_)
          · rw [if_neg hc]
          · rw [if_pos hc]
            exact ⟨by rw [vp_length], rfl⟩
end Go.Proofs.G5v

/- What is left to show of each function, written out; the kernel reckons it. -/
namespace Go.Proofs.G5v
open Go Go.Abs Go.Proofs
set_option maxRecDepth 100000
set_option linter.unusedVariables false
end Go.Proofs.G5v

/- ModelParses in data. -/
namespace Go.Proofs.G5v
open Go Go.Abs Go.Proofs Go.Abs.MD Go.Str Go.RowKit
set_option maxRecDepth 100000
theorem conSRs (T : List (Int × Int)) (hl : T.length ≤ 1000000) (a b c d e : Int) : C5 22 [dRu T a b c d e, dRu T a b c d e] [dB true] := by
  let inv : Nat × Nat × Nat → Prop := fun x => x.1 ≤ T.length
  let st : Nat × Nat × Nat → Slots × Blocks := fun x => zSR1 (x.1 : Int) T.length x.2.1 a b c d e T.length x.2.2 a b c d e (vp T) (vp T)
  refine con_of (L := fun _ s b => ∃ x, inv x ∧ st x = (s, b)) hokS mixed Tryz.func22 rfl (by show 2 ≤ 400; omega) rfl (ids := [0]) (by kernel_rfl) rfl (fun caps => ?_) (fun id hid => ?_)
  · show gSR _ _ T.length (caps 500) (vp T) a b c d e T.length (caps 501) (vp T) a b c d e _
    rw [gSR_text]
    refine bc_false (by simp) (bc_false (by simp) (bc_false (by simp) (bc_false (by simp) ?_)))
    exact ⟨(0, caps 500, caps 501), Nat.zero_le _, rfl⟩
  · obtain rfl := List.mem_singleton.1 hid
    refine ⟨Nat × Nat × Nat, st, inv, fun x => T.length - x.1, ⟨fun s b h => h, by kernel_rfl, ?_⟩⟩
    rintro ⟨i, c1, c2⟩ hi
    have hi : i ≤ T.length := hi
    show rSR1 _ _ (i : Int) T.length c1 a b c d e T.length c2 a b c d e (vp T) (vp T) _ _ _
    rw [rSR1_text]
    refine bc_dec (fun h => ?_) (fun h => ?_)
    · have hi' : i < T.length := by omega
      have w4 : IntKind.wrap .i64 ((i : Int) + 1) = ((i + 1 : Nat) : Int) := by rw [w64 (by omega) (by omega)]; omega
      simp only [Qv, bc_t (show (0 : Int) ≤ (i : Int) by omega), bc_t h, Int.toNat_natCast, at2 (vp_two T i hi'), w4, if_true, beq_self_eq_true, Bool.and_self, Bool.not_true, bcF, eq_self, true_and, and_true]
      exact ⟨(i + 1, c1, c2), hi', by show T.length - (i + 1) < T.length - i; omega, rfl⟩
    · show (if 0 = 0 then _ else _)
      rw [if_pos rfl]
      show nSR2 _ _ _
      rw [nSR2_text]
theorem conSLs (w : List UInt8) (R : List (Int × Int)) (hl : R.length ≤ 1000000) : C5 23 [dCo w R, dCo w R] [dB true] := by
  let inv : Nat × Nat × Nat → Prop := fun x => x.1 ≤ R.length
  let st : Nat × Nat × Nat → Slots × Blocks := fun x => zSL1 (x.1 : Int) (bs w) R.length x.2.1 (bs w) R.length x.2.2 (vp R) (vp R)
  refine con_of (L := fun _ s b => ∃ x, inv x ∧ st x = (s, b)) hokS mixed Tryz.func23 rfl (by show 2 ≤ 400; omega) rfl (ids := [0]) (by kernel_rfl) rfl (fun caps => ?_) (fun id hid => ?_)
  · show gSL _ _ (bs w) R.length (caps 500) (vp R) (bs w) R.length (caps 501) (vp R) _
    rw [gSL_text]
    refine bc_false (by simp) (bc_false (by simp) ?_)
    exact ⟨(0, caps 500, caps 501), Nat.zero_le _, rfl⟩
  · obtain rfl := List.mem_singleton.1 hid
    refine ⟨Nat × Nat × Nat, st, inv, fun x => R.length - x.1, ⟨fun s b h => h, by kernel_rfl, ?_⟩⟩
    rintro ⟨i, c1, c2⟩ hi
    have hi : i ≤ R.length := hi
    show rSL1 _ _ (i : Int) (bs w) R.length c1 (bs w) R.length c2 (vp R) (vp R) _ _ _
    rw [rSL1_text]
    refine bc_dec (fun h => ?_) (fun h => ?_)
    · have hi' : i < R.length := by omega
      have w4 : IntKind.wrap .i64 ((i : Int) + 1) = ((i + 1 : Nat) : Int) := by rw [w64 (by omega) (by omega)]; omega
      simp only [Qv, bc_t (show (0 : Int) ≤ (i : Int) by omega), bc_t h, Int.toNat_natCast, at2 (vp_two R i hi'), w4, if_true, beq_self_eq_true, Bool.and_self, Bool.not_true, bcF, eq_self, true_and, and_true]
      exact ⟨(i + 1, c1, c2), hi', by show R.length - (i + 1) < R.length - i; omega, rfl⟩
    · show (if 0 = 0 then _ else _)
      rw [if_pos rfl]
      show nSL2 _ _ _
      rw [nSL2_text]
end Go.Proofs.G5v

/- Chapter 4, strings: what is formatted, in data. -/
namespace Go.Proofs.G5v
open Go Go.Abs Go.Proofs Go.Abs.MD Go.Str Go.RowKit
set_option maxRecDepth 100000
theorem lit_bs (b : UInt8) : ({ data := #[b] } : ByteArray) = bs [b] := rfl
def in64 (l : List (Int × Int)) : Prop := ∀ p ∈ l, (-9223372036854775808 ≤ p.1 ∧ p.1 ≤ 9223372036854775807) ∧ -9223372036854775808 ≤ p.2 ∧ p.2 ≤ 9223372036854775807
/-- two numbers with a byte between -/
def wk (c : UInt8) (p : Int × Int) : List UInt8 := Lib.itoa p.1 ++ c :: Lib.itoa p.2
theorem join2 (a b : List UInt8) (c : UInt8) : Lib.join [a, b] [c] = a ++ c :: b := by
  have := join_snoc (c := c) (xs := [a]) (y := b) (by simp)
  rw [Lib.join_one] at this
  exact this
theorem conJ2 (a b : List UInt8) (c : UInt8) (ha : a.length ≤ 100) (hb : b.length ≤ 100) : C5 38 [.sl 2 1 [.string (bs a), .string (bs b)], dS [c]] [dS (a ++ c :: b)] := by
  have := conJn [a, b] c (by simp) (by rw [join2]; simp; omega)
  rw [join2] at this
  exact this
theorem wk_len {c : UInt8} {p : Int × Int} (h : (-9223372036854775808 ≤ p.1 ∧ p.1 ≤ 9223372036854775807) ∧ -9223372036854775808 ≤ p.2 ∧ p.2 ≤ 9223372036854775807) : (Lib.itoa p.1).length ≤ 21 ∧ (Lib.itoa p.2).length ≤ 21 ∧ (wk c p).length ≤ 43 := by
  have h1 := Lib.itoa_length_le p.1 h.1.1 h.1.2
  have h2 := Lib.itoa_length_le p.2 h.2.1 h.2.2
  simp [wk]; omega
theorem conwC (v t : Int) (hv : -9223372036854775808 ≤ v ∧ v ≤ 9223372036854775807) (ht : -9223372036854775808 ≤ t ∧ t ≤ 9223372036854775807) : C5 10 [dCc v t] [dS (wk 32 (v, t))] := by
  refine con_flat hokS mixed Tryz.func10 rfl (by show 0 ≤ 400; omega) rfl (by kernel_rfl) (fun caps => ?_)
  show gwC _ _ v t _
  rw [gwC_text]
  have hl := wk_len (c := 32) (p := (v, t)) ⟨hv, ht⟩
  simp only at hl
  exact ⟨_, ⟨conIt v hv.1 hv.2⟩, _, ⟨conIt t ht.1 ht.2⟩, _, ⟨conJ2 _ _ 32 (by omega) (by omega)⟩, rfl⟩
theorem confC (v t : Int) (hv : -9223372036854775808 ≤ v ∧ v ≤ 9223372036854775807) (ht : -9223372036854775808 ≤ t ∧ t ≤ 9223372036854775807) : C5 14 [dCc v t] [dS (wk 32 (v, t))] := by
  refine con_flat hokS mixed Tryz.func14 rfl (by show 0 ≤ 400; omega) rfl (by kernel_rfl) (fun caps => ?_)
  show gfC _ _ v t _
  rw [gfC_text]
  have hl := wk_len (c := 32) (p := (v, t)) ⟨hv, ht⟩
  simp only [Qv, eq_self, true_and, and_true]
  refine ⟨_, ⟨conDe v hv.1 hv.2⟩, ?_⟩
  have b1 : ByteArray.size (bs (Lib.itoa v)) + 1 ≤ 9223372036854775807 := by rw [bs_size]; simp only at hl; omega
  simp only [bc_t b1, true_and, lit_bs, bs_append]
  refine ⟨_, ⟨conDe t ht.1 ht.2⟩, ?_⟩
  have b2 : ByteArray.size (bs (Lib.itoa v ++ [32])) + ByteArray.size (bs (Lib.itoa t)) ≤ 9223372036854775807 := by rw [bs_size, bs_size]; simp only [List.length_append, List.length_cons, List.length_nil] at hl ⊢; omega
  simp only [bc_t b2, true_and, bs_append]
  rw [wk, List.append_assoc]; rfl
theorem vp_sndC (l : List (Int × Int)) (i : Nat) (h : i < l.length) : At (vp l) (Addr.off { block := 500, off := 0 + i * 2 } + 1) 1 [vI l[i].2] := vp_snd l i h
/-- a coil's string -/
def fmC (w : List UInt8) (R : List (Int × Int)) : List UInt8 := Lib.join (w :: R.map (wk 64)) [32]
theorem in64_take {l : List (Int × Int)} (h : in64 l) (i : Nat) : in64 (l.take i) := fun p hp => h p (List.mem_of_mem_take hp)
theorem fmC_len {w : List UInt8} {R : List (Int × Int)} (h : in64 R) (hw : w.length ≤ 43) : (fmC w R).length ≤ 44 * (R.length + 1) := by
  have := join_le (c := 32) (k := 43) (xs := w :: R.map (wk 64)) (fun x hx => by
    rcases List.mem_cons.1 hx with rfl | hx
    · exact hw
    · obtain ⟨p, hp, rfl⟩ := List.mem_map.1 hx
      exact (wk_len (h p hp)).2.2)
  simpa [fmC] using this
theorem confL (w : List UInt8) (R : List (Int × Int)) (hb : in64 R) (hw : w.length ≤ 43) (hl : R.length ≤ 1000) : C5 15 [dCo w R] [dS (fmC w R)] := by
  let inv : Nat × Nat → Prop := fun x => x.1 ≤ R.length
  let st : Nat × Nat → Slots × Blocks := fun x => zfL1 (bs (fmC w (R.take x.1))) (x.1 : Int) (bs w) R.length x.2 (vp R)
  refine con_of (L := fun _ s b => ∃ x, inv x ∧ st x = (s, b)) hokS mixed Tryz.func15 rfl (by show 1 ≤ 400; omega) rfl (ids := [0]) (by kernel_rfl) rfl (fun caps => ?_) (fun id hid => ?_)
  · show gfL _ _ (bs w) R.length (caps 500) (vp R) _
    rw [gfL_text]
    refine ⟨(0, caps 500), Nat.zero_le _, ?_⟩
    show zfL1 (bs (Lib.join [w] [32])) 0 (bs w) R.length (caps 500) (vp R) = _
    rw [Lib.join_one]
  · obtain rfl := List.mem_singleton.1 hid
    refine ⟨Nat × Nat, st, inv, fun x => R.length - x.1, ⟨fun s b h => h, by kernel_rfl, ?_⟩⟩
    rintro ⟨i, cap⟩ hi
    have hi : i ≤ R.length := hi
    show rfL1 _ _ (bs (fmC w (R.take i))) (i : Int) (bs w) R.length cap (vp R) _ _ _
    rw [rfL1_text]
    have hfl := fmC_len (in64_take hb i) hw
    rw [List.length_take] at hfl
    refine bc_dec (fun h => ?_) (fun h => ?_)
    · have hi' : i < R.length := by omega
      have hp := hb R[i] (List.getElem_mem hi')
      have hk := wk_len (c := 64) hp
      have w4 : IntKind.wrap .i64 ((i : Int) + 1) = ((i + 1 : Nat) : Int) := by rw [w64 (by omega) (by omega)]; omega
      have b0 : ByteArray.size (bs (fmC w (R.take i))) + 1 ≤ 9223372036854775807 := by rw [bs_size]; omega
      simp only [Qv, bc_t b0, bc_t (show (0 : Int) ≤ (i : Int) by omega), bc_t h, Int.toNat_natCast, at1 (vp_one R i hi'), at1 (vp_sndC R i hi'), eq_self, true_and, and_true, w4, lit_bs, bs_append]
      refine ⟨_, ⟨conDe R[i].1 hp.1.1 hp.1.2⟩, ?_⟩
      have b1 : ByteArray.size (bs (fmC w (R.take i) ++ [32])) + ByteArray.size (bs (Lib.itoa R[i].1)) ≤ 9223372036854775807 := by rw [bs_size, bs_size]; simp only [List.length_append, List.length_cons, List.length_nil]; omega
      have b2 : ByteArray.size (bs (fmC w (R.take i) ++ [32] ++ Lib.itoa R[i].1)) + 1 ≤ 9223372036854775807 := by rw [bs_size]; simp only [List.length_append, List.length_cons, List.length_nil]; omega
      simp only [bc_t b1, true_and, bs_append, bc_t b2]
      refine ⟨_, ⟨conDe R[i].2 hp.2.1 hp.2.2⟩, ?_⟩
      have b3 : ByteArray.size (bs (fmC w (R.take i) ++ [32] ++ Lib.itoa R[i].1 ++ [64])) + ByteArray.size (bs (Lib.itoa R[i].2)) ≤ 9223372036854775807 := by rw [bs_size, bs_size]; simp only [List.length_append, List.length_cons, List.length_nil]; omega
      simp only [bc_t b3, true_and, bs_append]
      refine ⟨(i + 1, cap), hi', by show R.length - (i + 1) < R.length - i; omega, ?_⟩
      have hs : fmC w (R.take (i + 1)) = fmC w (R.take i) ++ [32] ++ Lib.itoa R[i].1 ++ [64] ++ Lib.itoa R[i].2 := by
        unfold fmC
        rw [List.take_succ_eq_append_getElem hi', List.map_append, ← List.cons_append, List.map_cons, List.map_nil, join_snoc (by simp)]
        simp [wk]
      show zfL1 (bs (fmC w (R.take (i + 1)))) ((i + 1 : Nat) : Int) (bs w) R.length cap (vp R) = _
      rw [hs]
    · show (if 0 = 0 then _ else _)
      rw [if_pos rfl]
      show nfL2 _ _ _ _
      rw [nfL2_text]
      have : i = R.length := by omega
      rw [this, List.take_length]
theorem confLn (w : List UInt8) : C5 15 [dCn w] [dS (fmC w [])] := by
  let inv : Unit → Prop := fun _ => True
  let st : Unit → Slots × Blocks := fun _ => zfLn1 (bs w) 0 (bs w)
  refine con_of (L := fun _ s b => ∃ x, inv x ∧ st x = (s, b)) hokS mixed Tryz.func15 rfl (by show 0 ≤ 400; omega) rfl (ids := [0]) (by kernel_rfl) rfl (fun caps => ?_) (fun id hid => ?_)
  · show gfLn _ _ (bs w) _
    rw [gfLn_text]
    exact ⟨(), trivial, rfl⟩
  · obtain rfl := List.mem_singleton.1 hid
    refine ⟨Unit, st, inv, fun _ => 0, ⟨fun s b h => h, by kernel_rfl, ?_⟩⟩
    rintro ⟨⟩ -
    show rfLn1 _ _ (bs w) 0 (bs w) _ _ _
    rw [rfLn1_text]
    refine bc_no (by decide) ?_
    show (if 0 = 0 then _ else _)
    rw [if_pos rfl]
    show nfLn2 _ _ _ _
    rw [nfLn2_text]
    show _ = [dS (Lib.join [w] [32])]
    rw [Lib.join_one]
end Go.Proofs.G5v

/- Chapter 4, strings: what the program formats, in data. -/
namespace Go.Proofs.G5v
open Go Go.Abs Go.Proofs Go.Abs.MD Go.Str Go.RowKit
set_option maxRecDepth 100000
theorem conJ1 (a : List UInt8) (c : UInt8) (ha : a.length ≤ 100) : C5 38 [.sl 1 1 [.string (bs a)], dS [c]] [dS a] := by
  have := conJn [a] c (by simp) (by rw [Lib.join_one]; omega)
  rw [Lib.join_one] at this
  exact this
/-- the string of rules -/
def fmR (a b c d e : Int) (T : List (Int × Int)) : List UInt8 := Lib.join (wk 47 (a, b) :: wk 47 (c, d) :: Lib.itoa e :: T.map (wk 64)) [32]
theorem conwL (w : List UInt8) (R : List (Int × Int)) (hb : in64 R) (hw : w.length ≤ 43) (hl : R.length ≤ 1000) : C5 11 [dCo w R] [dS (fmC w R)] := by
  have hF := fmC_len hb hw
  let inv : Nat × Nat → Prop := fun x => x.1 ≤ R.length
  let W : Nat → List (List UInt8) := fun i => w :: (R.take i).map (wk 64)
  let st : Nat × Nat → Slots × Blocks := fun x => match x.1 with
    | 0 => zwL1 1 R.length x.2 R.length 0 (bs w) (vp R)
    | i + 1 => zwL2 (i + 1 + 1) R.length x.2 R.length ((i + 1 : Nat) : Int) (strs (W (i + 1))) (vp R)
  refine con_of (L := fun _ s b => ∃ x, inv x ∧ st x = (s, b)) hokS mixed Tryz.func11 rfl (by show 1 ≤ 400; omega) rfl (ids := [0]) (by kernel_rfl) rfl (fun caps => ?_) (fun id hid => ?_)
  · show gwL _ _ (bs w) R.length (caps 500) (vp R) _
    rw [gwL_text]
    exact ⟨(0, caps 500), Nat.zero_le _, rfl⟩
  · obtain rfl := List.mem_singleton.1 hid
    refine ⟨Nat × Nat, st, inv, fun x => R.length - x.1, ⟨fun s b h => h, by kernel_rfl, ?_⟩⟩
    rintro ⟨i, cap⟩ hi
    have hi : i ≤ R.length := hi
    cases i with
    | zero =>
      show rwL1 _ _ 1 R.length cap R.length 0 (bs w) (vp R) _ _ _
      rw [rwL1_text]
      refine bc_dec (fun h => ?_) (fun h => ?_)
      · have hi' : 0 < R.length := by omega
        have hp := hb R[0] (List.getElem_mem hi')
        have hk := wk_len (c := 64) hp
        refine bc_yes (by decide) (bc_yes h ⟨_, _, vp_two R 0 hi', _, ⟨conIt _ hp.1.1 hp.1.2⟩, _, ⟨conIt _ hp.2.1 hp.2.2⟩, _, ⟨conJ2 _ _ 64 (by omega) (by omega)⟩, ?_⟩)
        refine bc_yes (by decide) (bc_yes (by decide) (bc_yes (by decide) (bc_yes (by simp) (bc_true rfl ?_))))
        refine ⟨(1, cap), hi', by show R.length - 1 < R.length - 0; omega, ?_⟩
        show zwL2 (0 + 1 + 1) R.length cap R.length 1 (strs (w :: (R.take 1).map (wk 64))) (vp R) = _
        rw [show R.take 1 = [R[0]] by rw [List.take_succ_eq_append_getElem hi']; rfl]
        rfl
      · show (if 0 = 0 then _ else _)
        rw [if_pos rfl]
        have hr : R = [] := List.length_eq_zero_iff.1 (by omega)
        subst hr
        show nwL3 _ _ 1 (bs w) _
        rw [nwL3_text]
        exact bc_yes (by simp) (bc_true rfl ⟨_, ⟨conJn ([w]) 32 (by simp) (Nat.le_trans (show (Lib.join [w] [32]).length ≤ _ from hF) (by decide))⟩, rfl⟩)
    | succ i =>
      show rwL2 _ _ (i + 1 + 1) R.length cap R.length ((i + 1 : Nat) : Int) (strs (W (i + 1))) (vp R) _ _ _
      rw [rwL2_text]
      have hsl : (W (i + 1)).length = i + 1 + 1 := by show (w :: (R.take (i + 1)).map (wk 64)).length = _; simp; omega
      have hw : List.take ((i + 1 + 1) * 1) (List.drop 0 (strs (W (i + 1)))) = strs (W (i + 1)) := by
        have := strs_whole (W (i + 1)); rw [hsl] at this; exact this
      have hwT : Tk (i + 1 + 1) 1 (strs (W (i + 1))) = strs (W (i + 1)) := hw
      have hq1 : 0 + (i + 1 + 1) * 1 ≤ (strs (W (i + 1))).length := by rw [strs_length, hsl]; omega
      have hq2 : 0 + (i + 1 + 1) * 1 = (strs (W (i + 1))).length := by rw [strs_length, hsl]; omega
      refine bc_dec (fun h => ?_) (fun h => ?_)
      · have hi' : i + 1 < R.length := by omega
        have hp := hb R[i + 1] (List.getElem_mem hi')
        have hk := wk_len (c := 64) hp
        have w4 : IntKind.wrap .i64 (((i + 1 : Nat) : Int) + 1) = ((i + 1 + 1 : Nat) : Int) := by rw [w64 (by omega) (by omega)]; omega
        refine bc_yes (by omega) (bc_yes h ⟨_, _, vp_two R (i + 1) hi', _, ⟨conIt _ hp.1.1 hp.1.2⟩, _, ⟨conIt _ hp.2.1 hp.2.2⟩, _, ⟨conJ2 _ _ 64 (by omega) (by omega)⟩, ?_⟩)
        refine bc_yes (Nat.lt_succ_self _) (bc_yes (by omega) (bc_yes (by omega) (bc_yes hq1 (bc_yes hq2 ?_))))
        refine ⟨(i + 1 + 1, cap), hi', by show R.length - (i + 1 + 1) < R.length - (i + 1); omega, ?_⟩
        show zwL2 (i + 1 + 1 + 1) R.length cap R.length ((i + 1 + 1 : Nat) : Int) (strs (w :: (R.take (i + 1 + 1)).map (wk 64))) (vp R) = _
        rw [hwT, w4, show i + 1 + 1 + 1 = i + 1 + 1 + 1 by omega, List.take_succ_eq_append_getElem hi', List.map_append]
        show zwL2 (i + 1 + 1 + 1) R.length cap R.length ((i + 1 + 1 : Nat) : Int) (strs (w :: ((R.take (i + 1)).map (wk 64) ++ [wk 64 R[i + 1]]))) (vp R) = zwL2 (i + 1 + 1 + 1) R.length cap R.length ((i + 1 + 1 : Nat) : Int) (strs (w :: (R.take (i + 1)).map (wk 64)) ++ [Value.string (bs (wk 64 R[i + 1]))]) (vp R)
        simp only [strs, List.map_append, List.map_cons, List.map_nil, List.cons_append]
      · show (if 0 = 0 then _ else _)
        rw [if_pos rfl]
        show nwL4 _ _ (i + 1 + 1) (strs (W (i + 1))) _
        rw [nwL4_text]
        simp only [Dw, Tk, hw]
        have hil : i + 1 = R.length := by omega
        have hJ := conJn (W (i + 1)) 32 (by rw [hsl]; omega) (by show (Lib.join (w :: (R.take (i + 1)).map (wk 64)) [32]).length ≤ _; rw [hil, List.take_length]; exact Nat.le_trans hF (by omega))
        rw [show dSs (W (i + 1)) = D.sl (i + 1 + 1) 1 (strs (W (i + 1))) by rw [← hsl]] at hJ
        refine bc_yes hq1 ⟨_, ⟨hJ⟩, ?_⟩
        show [dS (Lib.join (w :: (R.take (i + 1)).map (wk 64)) [32])] = _
        rw [hil, List.take_length]; rfl
theorem fmR_len {a b c d e : Int} {T : List (Int × Int)} (h1 : in64 [(a, b), (c, d)]) (he : -9223372036854775808 ≤ e ∧ e ≤ 9223372036854775807) (hb : in64 T) : (fmR a b c d e T).length ≤ 44 * (T.length + 3) := by
  have := join_le (c := 32) (k := 43) (xs := wk 47 (a, b) :: wk 47 (c, d) :: Lib.itoa e :: T.map (wk 64)) (fun x hx => by
    simp only [List.mem_cons] at hx
    rcases hx with rfl | rfl | rfl | hx
    · exact (wk_len (h1 (a, b) (by simp))).2.2
    · exact (wk_len (h1 (c, d) (by simp))).2.2
    · have := Lib.itoa_length_le e he.1 he.2; omega
    · obtain ⟨p, hp, rfl⟩ := List.mem_map.1 hx
      exact (wk_len (hb p hp)).2.2)
  simpa [fmR] using this
theorem conwR (a b c d e : Int) (h1 : in64 [(a, b), (c, d)]) (he : -9223372036854775808 ≤ e ∧ e ≤ 9223372036854775807) (T : List (Int × Int)) (hb : in64 T) (hl : T.length ≤ 1000) : C5 8 [dRu T a b c d e] [dS (fmR a b c d e T)] := by
  have hF := fmR_len h1 he hb
  let inv : Nat × Nat → Prop := fun x => x.1 ≤ T.length
  let W : Nat → List (List UInt8) := fun i => wk 47 (a, b) :: wk 47 (c, d) :: Lib.itoa e :: (T.take i).map (wk 64)
  let st : Nat × Nat → Slots × Blocks := fun x => match x.1 with
    | 0 => zwR1 3 T.length x.2 T.length 0 (bs (wk 47 (a, b))) (bs (wk 47 (c, d))) (bs (Lib.itoa e)) (vp T)
    | i + 1 => zwR2 (i + 1 + 3) T.length x.2 T.length ((i + 1 : Nat) : Int) (strs (W (i + 1))) (vp T)
  refine con_of (L := fun _ s b => ∃ x, inv x ∧ st x = (s, b)) hokS mixed Tryz.func8 rfl (by show 1 ≤ 400; omega) rfl (ids := [0]) (by kernel_rfl) rfl (fun caps => ?_) (fun id hid => ?_)
  · show gwR _ _ T.length (caps 500) (vp T) a b c d e _
    rw [gwR_text]
    simp only [Qv, eq_self, true_and, and_true]
    have q1 := h1 (a, b) (by simp)
    have q2 := h1 (c, d) (by simp)
    have k1 := wk_len (c := 47) q1
    have k2 := wk_len (c := 47) q2
    have k3 := Lib.itoa_length_le e he.1 he.2
    simp only at q1 q2 k1 k2
    exact ⟨_, ⟨conIt a q1.1.1 q1.1.2⟩, _, ⟨conIt b q1.2.1 q1.2.2⟩, _, ⟨conJ2 _ _ 47 (by omega) (by omega)⟩, _, ⟨conIt c q2.1.1 q2.1.2⟩, _, ⟨conIt d q2.2.1 q2.2.2⟩, _, ⟨conJ2 _ _ 47 (by omega) (by omega)⟩, _, ⟨conIt e he.1 he.2⟩, _, ⟨conJ1 _ 32 (by omega)⟩, (0, caps 500), Nat.zero_le _, rfl⟩
  · obtain rfl := List.mem_singleton.1 hid
    refine ⟨Nat × Nat, st, inv, fun x => T.length - x.1, ⟨fun s b h => h, by kernel_rfl, ?_⟩⟩
    rintro ⟨i, cap⟩ hi
    have hi : i ≤ T.length := hi
    cases i with
    | zero =>
      show rwR1 _ _ 3 T.length cap T.length 0 (bs (wk 47 (a, b))) (bs (wk 47 (c, d))) (bs (Lib.itoa e)) (vp T) _ _ _
      rw [rwR1_text]
      refine bc_dec (fun h => ?_) (fun h => ?_)
      · have hi' : 0 < T.length := by omega
        have hp := hb T[0] (List.getElem_mem hi')
        have hk := wk_len (c := 64) hp
        refine bc_yes (by decide) (bc_yes h ⟨_, _, vp_two T 0 hi', _, ⟨conIt _ hp.1.1 hp.1.2⟩, _, ⟨conIt _ hp.2.1 hp.2.2⟩, _, ⟨conJ2 _ _ 64 (by omega) (by omega)⟩, ?_⟩)
        refine bc_yes (by decide) (bc_yes (by decide) (bc_yes (by decide) (bc_yes (by simp) (bc_true rfl ?_))))
        refine ⟨(1, cap), hi', by show T.length - 1 < T.length - 0; omega, ?_⟩
        show zwR2 (0 + 1 + 3) T.length cap T.length 1 (strs (wk 47 (a, b) :: wk 47 (c, d) :: Lib.itoa e :: (T.take 1).map (wk 64))) (vp T) = _
        rw [show T.take 1 = [T[0]] by rw [List.take_succ_eq_append_getElem hi']; rfl]
        rfl
      · show (if 0 = 0 then _ else _)
        rw [if_pos rfl]
        have hr : T = [] := List.length_eq_zero_iff.1 (by omega)
        subst hr
        show nwR3 _ _ 3 (bs (wk 47 (a, b))) (bs (wk 47 (c, d))) (bs (Lib.itoa e)) _
        rw [nwR3_text]
        exact bc_yes (by simp) (bc_true rfl ⟨_, ⟨conJn ([wk 47 (a, b), wk 47 (c, d), Lib.itoa e]) 32 (by simp) (Nat.le_trans (show (Lib.join [wk 47 (a, b), wk 47 (c, d), Lib.itoa e] [32]).length ≤ _ from hF) (by decide))⟩, rfl⟩)
    | succ i =>
      show rwR2 _ _ (i + 1 + 3) T.length cap T.length ((i + 1 : Nat) : Int) (strs (W (i + 1))) (vp T) _ _ _
      rw [rwR2_text]
      have hsl : (W (i + 1)).length = i + 1 + 3 := by show (wk 47 (a, b) :: wk 47 (c, d) :: Lib.itoa e :: (T.take (i + 1)).map (wk 64)).length = _; simp; omega
      have hw : List.take ((i + 1 + 3) * 1) (List.drop 0 (strs (W (i + 1)))) = strs (W (i + 1)) := by
        have := strs_whole (W (i + 1)); rw [hsl] at this; exact this
      have hwT : Tk (i + 1 + 3) 1 (strs (W (i + 1))) = strs (W (i + 1)) := hw
      have hq1 : 0 + (i + 1 + 3) * 1 ≤ (strs (W (i + 1))).length := by rw [strs_length, hsl]; omega
      have hq2 : 0 + (i + 1 + 3) * 1 = (strs (W (i + 1))).length := by rw [strs_length, hsl]; omega
      refine bc_dec (fun h => ?_) (fun h => ?_)
      · have hi' : i + 1 < T.length := by omega
        have hp := hb T[i + 1] (List.getElem_mem hi')
        have hk := wk_len (c := 64) hp
        have w4 : IntKind.wrap .i64 (((i + 1 : Nat) : Int) + 1) = ((i + 1 + 1 : Nat) : Int) := by rw [w64 (by omega) (by omega)]; omega
        refine bc_yes (by omega) (bc_yes h ⟨_, _, vp_two T (i + 1) hi', _, ⟨conIt _ hp.1.1 hp.1.2⟩, _, ⟨conIt _ hp.2.1 hp.2.2⟩, _, ⟨conJ2 _ _ 64 (by omega) (by omega)⟩, ?_⟩)
        refine bc_yes (Nat.lt_succ_self _) (bc_yes (by omega) (bc_yes (by omega) (bc_yes hq1 (bc_yes hq2 ?_))))
        refine ⟨(i + 1 + 1, cap), hi', by show T.length - (i + 1 + 1) < T.length - (i + 1); omega, ?_⟩
        show zwR2 (i + 1 + 1 + 3) T.length cap T.length ((i + 1 + 1 : Nat) : Int) (strs (wk 47 (a, b) :: wk 47 (c, d) :: Lib.itoa e :: (T.take (i + 1 + 1)).map (wk 64))) (vp T) = _
        rw [hwT, w4, show i + 1 + 1 + 3 = i + 1 + 3 + 1 by omega, List.take_succ_eq_append_getElem hi', List.map_append]
        show zwR2 (i + 1 + 3 + 1) T.length cap T.length ((i + 1 + 1 : Nat) : Int) (strs (wk 47 (a, b) :: wk 47 (c, d) :: Lib.itoa e :: ((T.take (i + 1)).map (wk 64) ++ [wk 64 T[i + 1]]))) (vp T) = zwR2 (i + 1 + 3 + 1) T.length cap T.length ((i + 1 + 1 : Nat) : Int) (strs (wk 47 (a, b) :: wk 47 (c, d) :: Lib.itoa e :: (T.take (i + 1)).map (wk 64)) ++ [Value.string (bs (wk 64 T[i + 1]))]) (vp T)
        simp only [strs, List.map_append, List.map_cons, List.map_nil, List.cons_append]
      · show (if 0 = 0 then _ else _)
        rw [if_pos rfl]
        show nwR4 _ _ (i + 1 + 3) (strs (W (i + 1))) _
        rw [nwR4_text]
        simp only [Dw, Tk, hw]
        have hil : i + 1 = T.length := by omega
        have hJ := conJn (W (i + 1)) 32 (by rw [hsl]; omega) (by show (Lib.join (wk 47 (a, b) :: wk 47 (c, d) :: Lib.itoa e :: (T.take (i + 1)).map (wk 64)) [32]).length ≤ _; rw [hil, List.take_length]; exact Nat.le_trans hF (by omega))
        rw [show dSs (W (i + 1)) = D.sl (i + 1 + 3) 1 (strs (W (i + 1))) by rw [← hsl]] at hJ
        refine bc_yes hq1 ⟨_, ⟨hJ⟩, ?_⟩
        show [dS (Lib.join (wk 47 (a, b) :: wk 47 (c, d) :: Lib.itoa e :: (T.take (i + 1)).map (wk 64)) [32])] = _
        rw [hil, List.take_length]; rfl
end Go.Proofs.G5v

/- Chapter 4, strings: rules formatted by the reference; what was formatted is parsed again. -/
namespace Go.Proofs.G5v
open Go Go.Abs Go.Proofs Go.Abs.MD Go.Str Go.RowKit
set_option maxRecDepth 100000
theorem fmR_0 (a b c d e : Int) : fmR a b c d e [] = Lib.itoa a ++ [47] ++ Lib.itoa b ++ [32] ++ Lib.itoa c ++ [47] ++ Lib.itoa d ++ [32] ++ Lib.itoa e := by
  have h := join_snoc (c := 32) (xs := [wk 47 (a, b), wk 47 (c, d)]) (y := Lib.itoa e) (by simp)
  rw [join2] at h
  show Lib.join ([wk 47 (a, b), wk 47 (c, d)] ++ [Lib.itoa e]) [32] = _
  rw [h]; simp [wk]
theorem confR (a b c d e : Int) (h1 : in64 [(a, b), (c, d)]) (he : -9223372036854775808 ≤ e ∧ e ≤ 9223372036854775807) (T : List (Int × Int)) (hb : in64 T) (hl : T.length ≤ 1000) : C5 13 [dRu T a b c d e] [dS (fmR a b c d e T)] := by
  let inv : Nat × Nat → Prop := fun x => x.1 ≤ T.length
  let st : Nat × Nat → Slots × Blocks := fun x => zfR1 (bs (fmR a b c d e (T.take x.1))) (x.1 : Int) T.length x.2 a b c d e (vp T)
  have q1 := h1 (a, b) (by simp)
  have q2 := h1 (c, d) (by simp)
  have k1 := wk_len (c := 47) q1
  have k2 := wk_len (c := 47) q2
  have k3 := Lib.itoa_length_le e he.1 he.2
  simp only at q1 q2 k1 k2
  refine con_of (L := fun _ s b => ∃ x, inv x ∧ st x = (s, b)) hokS mixed Tryz.func13 rfl (by show 1 ≤ 400; omega) rfl (ids := [0]) (by kernel_rfl) rfl (fun caps => ?_) (fun id hid => ?_)
  · show gfR _ _ T.length (caps 500) (vp T) a b c d e _
    rw [gfR_text]
    simp only [Qv, eq_self, true_and, and_true]
    have go : ∃ x, inv x ∧ st x = zfR1 (bs (Lib.itoa a) ++ { data := #[47] } ++ bs (Lib.itoa b) ++ { data := #[32] } ++ bs (Lib.itoa c) ++ { data := #[47] } ++ bs (Lib.itoa d) ++ { data := #[32] } ++ bs (Lib.itoa e)) 0 T.length (caps 500) a b c d e (vp T) := by
      refine ⟨(0, caps 500), Nat.zero_le _, ?_⟩
      show zfR1 (bs (fmR a b c d e [])) 0 T.length (caps 500) a b c d e (vp T) = _
      rw [fmR_0]
      simp only [lit_bs, bs_append]
    refine ⟨_, ⟨conDe a q1.1.1 q1.1.2⟩, ?_⟩
    repeat' first
      | exact trivial
      | refine bc_yes (by rw [bs_size]; omega) ?_
      | refine And.intro ?_ ?_
    refine ⟨_, ⟨conDe b q1.2.1 q1.2.2⟩, ?_⟩
    repeat' first
      | exact trivial
      | refine bc_yes (by simp only [lit_bs, bs_append, bs_size, List.length_append, List.length_cons, List.length_nil]; omega) ?_
      | refine And.intro ?_ ?_
    refine ⟨_, ⟨conDe c q2.1.1 q2.1.2⟩, ?_⟩
    repeat' first
      | exact trivial
      | refine bc_yes (by simp only [lit_bs, bs_append, bs_size, List.length_append, List.length_cons, List.length_nil]; omega) ?_
      | refine And.intro ?_ ?_
    refine ⟨_, ⟨conDe d q2.2.1 q2.2.2⟩, ?_⟩
    repeat' first
      | exact trivial
      | refine bc_yes (by simp only [lit_bs, bs_append, bs_size, List.length_append, List.length_cons, List.length_nil]; omega) ?_
      | refine And.intro ?_ ?_
    refine ⟨_, ⟨conDe e he.1 he.2⟩, ?_⟩
    repeat' first
      | exact trivial
      | refine bc_yes (by simp only [lit_bs, bs_append, bs_size, List.length_append, List.length_cons, List.length_nil]; omega) ?_
      | refine And.intro ?_ ?_
    exact go
  · obtain rfl := List.mem_singleton.1 hid
    refine ⟨Nat × Nat, st, inv, fun x => T.length - x.1, ⟨fun s b h => h, by kernel_rfl, ?_⟩⟩
    rintro ⟨i, cap⟩ hi
    have hi : i ≤ T.length := hi
    show rfR1 _ _ (bs (fmR a b c d e (T.take i))) (i : Int) T.length cap a b c d e (vp T) _ _ _
    rw [rfR1_text]
    have hfl := fmR_len h1 he (in64_take hb i)
    rw [List.length_take] at hfl
    refine bc_dec (fun h => ?_) (fun h => ?_)
    · have hi' : i < T.length := by omega
      have hp := hb T[i] (List.getElem_mem hi')
      have hk := wk_len (c := 64) hp
      have w4 : IntKind.wrap .i64 ((i : Int) + 1) = ((i + 1 : Nat) : Int) := by rw [w64 (by omega) (by omega)]; omega
      have b0 : ByteArray.size (bs (fmR a b c d e (T.take i))) + 1 ≤ 9223372036854775807 := by rw [bs_size]; omega
      simp only [Qv, bc_t b0, bc_t (show (0 : Int) ≤ (i : Int) by omega), bc_t h, Int.toNat_natCast, at1 (vp_one T i hi'), at1 (vp_sndC T i hi'), eq_self, true_and, and_true, w4, lit_bs, bs_append]
      refine ⟨_, ⟨conDe T[i].1 hp.1.1 hp.1.2⟩, ?_⟩
      have b1 : ByteArray.size (bs (fmR a b c d e (T.take i) ++ [32])) + ByteArray.size (bs (Lib.itoa T[i].1)) ≤ 9223372036854775807 := by rw [bs_size, bs_size]; simp only [List.length_append, List.length_cons, List.length_nil]; omega
      have b2 : ByteArray.size (bs (fmR a b c d e (T.take i) ++ [32] ++ Lib.itoa T[i].1)) + 1 ≤ 9223372036854775807 := by rw [bs_size]; simp only [List.length_append, List.length_cons, List.length_nil]; omega
      simp only [bc_t b1, true_and, bs_append, bc_t b2]
      refine ⟨_, ⟨conDe T[i].2 hp.2.1 hp.2.2⟩, ?_⟩
      have b3 : ByteArray.size (bs (fmR a b c d e (T.take i) ++ [32] ++ Lib.itoa T[i].1 ++ [64])) + ByteArray.size (bs (Lib.itoa T[i].2)) ≤ 9223372036854775807 := by rw [bs_size, bs_size]; simp only [List.length_append, List.length_cons, List.length_nil]; omega
      simp only [bc_t b3, true_and, bs_append]
      refine ⟨(i + 1, cap), hi', by show T.length - (i + 1) < T.length - i; omega, ?_⟩
      have hs : fmR a b c d e (T.take (i + 1)) = fmR a b c d e (T.take i) ++ [32] ++ Lib.itoa T[i].1 ++ [64] ++ Lib.itoa T[i].2 := by
        unfold fmR
        rw [List.take_succ_eq_append_getElem hi', List.map_append, ← List.cons_append, ← List.cons_append, ← List.cons_append, List.map_cons, List.map_nil, join_snoc (by simp)]
        simp [wk]
      show zfR1 (bs (fmR a b c d e (T.take (i + 1)))) ((i + 1 : Nat) : Int) T.length cap a b c d e (vp T) = _
      rw [hs]
    · show (if 0 = 0 then _ else _)
      rw [if_pos rfl]
      show nfR2 _ _ _ _
      rw [nfR2_text]
      have : i = T.length := by omega
      rw [this, List.take_length]
theorem confRn (a b c d e : Int) (h1 : in64 [(a, b), (c, d)]) (he : -9223372036854775808 ≤ e ∧ e ≤ 9223372036854775807) : C5 13 [dRn a b c d e] [dS (fmR a b c d e [])] := by
  let inv : Unit → Prop := fun _ => True
  let st : Unit → Slots × Blocks := fun _ => zfRn1 (bs (fmR a b c d e [])) 0 a b c d e
  have q1 := h1 (a, b) (by simp)
  have q2 := h1 (c, d) (by simp)
  have k1 := wk_len (c := 47) q1
  have k2 := wk_len (c := 47) q2
  have k3 := Lib.itoa_length_le e he.1 he.2
  simp only at q1 q2 k1 k2
  refine con_of (L := fun _ s b => ∃ x, inv x ∧ st x = (s, b)) hokS mixed Tryz.func13 rfl (by show 0 ≤ 400; omega) rfl (ids := [0]) (by kernel_rfl) rfl (fun caps => ?_) (fun id hid => ?_)
  · show gfRn _ _ a b c d e _
    rw [gfRn_text]
    simp only [Qv, eq_self, true_and, and_true]
    have go : ∃ x, inv x ∧ st x = zfRn1 (bs (Lib.itoa a) ++ { data := #[47] } ++ bs (Lib.itoa b) ++ { data := #[32] } ++ bs (Lib.itoa c) ++ { data := #[47] } ++ bs (Lib.itoa d) ++ { data := #[32] } ++ bs (Lib.itoa e)) 0 a b c d e := by
      refine ⟨(), trivial, ?_⟩
      show zfRn1 (bs (fmR a b c d e [])) 0 a b c d e = _
      rw [fmR_0]
      simp only [lit_bs, bs_append]
    refine ⟨_, ⟨conDe a q1.1.1 q1.1.2⟩, ?_⟩
    repeat' first
      | exact trivial
      | refine bc_yes (by rw [bs_size]; omega) ?_
      | refine And.intro ?_ ?_
    refine ⟨_, ⟨conDe b q1.2.1 q1.2.2⟩, ?_⟩
    repeat' first
      | exact trivial
      | refine bc_yes (by simp only [lit_bs, bs_append, bs_size, List.length_append, List.length_cons, List.length_nil]; omega) ?_
      | refine And.intro ?_ ?_
    refine ⟨_, ⟨conDe c q2.1.1 q2.1.2⟩, ?_⟩
    repeat' first
      | exact trivial
      | refine bc_yes (by simp only [lit_bs, bs_append, bs_size, List.length_append, List.length_cons, List.length_nil]; omega) ?_
      | refine And.intro ?_ ?_
    refine ⟨_, ⟨conDe d q2.2.1 q2.2.2⟩, ?_⟩
    repeat' first
      | exact trivial
      | refine bc_yes (by simp only [lit_bs, bs_append, bs_size, List.length_append, List.length_cons, List.length_nil]; omega) ?_
      | refine And.intro ?_ ?_
    refine ⟨_, ⟨conDe e he.1 he.2⟩, ?_⟩
    repeat' first
      | exact trivial
      | refine bc_yes (by simp only [lit_bs, bs_append, bs_size, List.length_append, List.length_cons, List.length_nil]; omega) ?_
      | refine And.intro ?_ ?_
    exact go
  · obtain rfl := List.mem_singleton.1 hid
    refine ⟨Unit, st, inv, fun _ => 0, ⟨fun s b h => h, by kernel_rfl, ?_⟩⟩
    rintro ⟨⟩ -
    show rfRn1 _ _ (bs (fmR a b c d e [])) 0 a b c d e _ _ _
    rw [rfRn1_text]
    refine bc_no (by decide) ?_
    show (if 0 = 0 then _ else _)
    rw [if_pos rfl]
    show nfRn2 _ _ _ _
    rw [nfRn2_text]
end Go.Proofs.G5v

/- What is left to show of each function, written out; the kernel reckons it. -/
namespace Go.Proofs.G5v
open Go Go.Abs Go.Proofs
set_option maxRecDepth 100000
set_option linter.unusedVariables false
def gLs (C : Ct) (L : AtLoop) (n0 : Nat) (c0 : Nat) (l0 : List Value) (x1 : Int) (x2 : Int) (x3 : Int) (x4 : Int) (x5 : Int) (x6 : Int) (x7 : Int) (s8 : ByteArray) (n9 : Nat) (c9 : Nat) (l9 : List Value) (k : List D → Prop) : Prop := wpFn Tryz.prog (hS C) L 0 3 #[.agg #[.slice (some ⟨500, 0, none⟩) n0 c0, .int .i64 x1, .int .i64 x2, .int .i64 x3, .int .i64 x4, .int .i64 x5], .agg #[.int .i64 x6, .int .i64 x7], .agg #[.string s8, .slice (some ⟨501, 0, none⟩) n9 c9]] (heapOf [(500, .sym l0 false 2), (501, .sym l9 false 2)]) (dataK k)
theorem gLs_text (C : Ct) (L : AtLoop) (n0 : Nat) (c0 : Nat) (l0 : List Go.Value) (x1 : Int) (x2 : Int) (x3 : Int) (x4 : Int) (x5 : Int) (x6 : Int) (x7 : Int) (s8 : ByteArray) (n9 : Nat) (c9 : Nat) (l9 : List Go.Value) (k : List D → Prop) : gLs C L n0 c0 l0 x1 x2 x3 x4 x5 x6 x7 s8 n9 c9 l9 k =
 (((Says C 5 [] kT) ∧
 (bcase (decide ((↑n0 : Int) ≤ 14))
 (bcase (decide ((↑n9 : Int) ≤ 14))
 (bcase (decide ((↑(ByteArray.size s8) : Int) ≤ 30))
 (((Qv (Value.agg [(Value.string (s8)), (Sl 501 (n9) (c9))].toArray)) ∧
 ((Qv (Value.agg [(vI x6), (vI x7)].toArray)) ∧
 ((Qv (Value.agg [(Sl 500 (n0) (c0)), (vI x1), (vI x2), (vI x3), (vI x4), (vI x5)].toArray)) ∧
 True))) ∧
 (bcase (dL n0 2 l0)
 ((Says C 9 [(D.agg [(Dw n0 2 l0), (dI x1), (dI x2), (dI x3), (dI x4), (dI x5)])] [(D.agg [(Dw n0 2 l0), (dI x1), (dI x2), (dI x3), (dI x4), (dI x5)])]) ∧
 (((Qv (Value.agg [(Value.string (s8)), (Sl 501 (n9) (c9))].toArray)) ∧
 ((Qv (Value.agg [(vI x6), (vI x7)].toArray)) ∧
 True)) ∧
 (bcase (dL n0 2 (Tk n0 2 l0))
 (∃ s1 : ByteArray,
 ((Says C 8 [(D.agg [(Dw n0 2 (Tk n0 2 l0)), (dI x1), (dI x2), (dI x3), (dI x4), (dI x5)])] [(D.val (Value.string (s1)))]) ∧
 (((Qv (Value.agg [(Value.string (s8)), (Sl 501 (n9) (c9))].toArray)) ∧
 ((Qv (Value.agg [(vI x6), (vI x7)].toArray)) ∧
 True)) ∧
 (∃ s2 : ByteArray,
 ((Says C 10 [(D.agg [(dI x6), (dI x7)])] [(D.val (Value.string (s2)))]) ∧
 (((Qv (Value.agg [(Value.string (s8)), (Sl 501 (n9) (c9))].toArray)) ∧
 True) ∧
 (bcase (dL n9 2 l9)
 ((Says C 12 [(D.agg [(D.val (Value.string (s8))), (Dw n9 2 l9)])] [(D.agg [(D.val (Value.string (s8))), (Dw n9 2 l9)])]) ∧
 (True ∧
 (bcase (dL n9 2 (Tk n9 2 l9))
 (∃ s3 : ByteArray,
 ((Says C 11 [(D.agg [(D.val (Value.string (s8))), (Dw n9 2 (Tk n9 2 l9))])] [(D.val (Value.string (s3)))]) ∧
 (True ∧
 (True ∧
 (True ∧
 (True ∧
 (bcase (dL n0 2 l0)
 (∃ s4 : ByteArray,
 ((Says C 13 [(D.agg [(Dw n0 2 l0), (dI x1), (dI x2), (dI x3), (dI x4), (dI x5)])] [(D.val (Value.string (s4)))]) ∧
 (bcase (!ByteArray.toList s1 == ByteArray.toList s4)
 (k kF)
 (∃ s5 : ByteArray,
 ((Says C 14 [(D.agg [(dI x6), (dI x7)])] [(D.val (Value.string (s5)))]) ∧
 (bcase (!ByteArray.toList s2 == ByteArray.toList s5)
 (k kF)
 (bcase (dL n9 2 l9)
 (∃ s6 : ByteArray,
 ((Says C 15 [(D.agg [(D.val (Value.string (s8))), (Dw n9 2 l9)])] [(D.val (Value.string (s6)))]) ∧
 (bcase (!ByteArray.toList s3 == ByteArray.toList s6)
 (k kF)
 (bcase (dL n0 2 l0)
 (∃ n1 : Int,
 ((Says C 16 [(D.agg [(Dw n0 2 l0), (dI x1), (dI x2), (dI x3), (dI x4), (dI x5)])] [(dI n1)]) ∧
 (bcase (n1 != 0)
 (k kT)
 (bcase (dL n0 2 l0)
 (∃ n2 : Int,
 ((Says C 17 [(D.agg [(Dw n0 2 l0), (dI x1), (dI x2), (dI x3), (dI x4), (dI x5)]), (D.agg [(dI x6), (dI x7)])] [(dI n2)]) ∧
 (bcase (n2 != 0)
 (k kT)
 (bcase (dL n9 2 l9)
 (∃ n3 : Int,
 ((Says C 18 [(D.agg [(D.val (Value.string (s8))), (Dw n9 2 l9)])] [(dI n3)]) ∧
 (bcase (n3 != 0)
 (k kT)
 ((∃ n4 : Int,
 (∃ n5 : Int,
 (∃ n6 : Int,
 (∃ n7 : Int,
 (∃ n8 : Int,
 (∃ n10 : Int,
 ((Says C 19 [(D.val (Value.string (s1)))] [(D.agg [D.nil, (dI n4), (dI n5), (dI n6), (dI n7), (dI n8)]), (dI n10)]) ∧
 (∃ n11 : Int,
 (∃ n12 : Int,
 (∃ n13 : Int,
 ((Says C 20 [(D.val (Value.string (s2)))] [(D.agg [(dI n11), (dI n12)]), (dI n13)]) ∧
 (∃ s7 : ByteArray,
 ((∃ n14 : Int,
 ((Says C 21 [(D.val (Value.string (s3)))] [(D.agg [(D.val (Value.string (s7))), D.nil]), (dI n14)]) ∧
 (bcase (n10 == 0)
 (bcase (dL n0 2 l0)
 (((Says C 22 [(D.agg [D.nil, (dI n4), (dI n5), (dI n6), (dI n7), (dI n8)]), (D.agg [(Dw n0 2 l0), (dI x1), (dI x2), (dI x3), (dI x4), (dI x5)])] kT) ∧
 (bcase (n13 == 0)
 (bcase (if Bool.false = Bool.true then !(n11 == x6 && (n12 == x7 && Bool.true)) else n11 == x6 && (n12 == x7 && Bool.true))
 (bcase (n14 == 0)
 (bcase (dL n9 2 l9)
 (((Says C 23 [(D.agg [(D.val (Value.string (s7))), D.nil]), (D.agg [(D.val (Value.string (s8))), (Dw n9 2 l9)])] kT) ∧
 (k kT)) ∨
 ((Says C 23 [(D.agg [(D.val (Value.string (s7))), D.nil]), (D.agg [(D.val (Value.string (s8))), (Dw n9 2 l9)])] kF) ∧
 (k kF)))
 False)
 (k kF))
 (k kF))
 (k kF))) ∨
 ((Says C 22 [(D.agg [D.nil, (dI n4), (dI n5), (dI n6), (dI n7), (dI n8)]), (D.agg [(Dw n0 2 l0), (dI x1), (dI x2), (dI x3), (dI x4), (dI x5)])] kF) ∧
 (k kF)))
 False)
 (k kF)))) ∨
 (∃ n14 : Nat,
 (∃ cs1 : List Go.Value,
 (∃ n15 : Int,
 ((Says C 21 [(D.val (Value.string (s3)))] [(D.agg [(D.val (Value.string (s7))), (D.sl (n14) 2 (cs1))]), (dI n15)]) ∧
 (bcase (n10 == 0)
 (bcase (dL n0 2 l0)
 (((Says C 22 [(D.agg [D.nil, (dI n4), (dI n5), (dI n6), (dI n7), (dI n8)]), (D.agg [(Dw n0 2 l0), (dI x1), (dI x2), (dI x3), (dI x4), (dI x5)])] kT) ∧
 (bcase (n13 == 0)
 (bcase (if Bool.false = Bool.true then !(n11 == x6 && (n12 == x7 && Bool.true)) else n11 == x6 && (n12 == x7 && Bool.true))
 (bcase (n15 == 0)
 (bcase (dL n14 2 cs1)
 (bcase (dL n9 2 l9)
 (((Says C 23 [(D.agg [(D.val (Value.string (s7))), (Dw n14 2 cs1)]), (D.agg [(D.val (Value.string (s8))), (Dw n9 2 l9)])] kT) ∧
 (k kT)) ∨
 ((Says C 23 [(D.agg [(D.val (Value.string (s7))), (Dw n14 2 cs1)]), (D.agg [(D.val (Value.string (s8))), (Dw n9 2 l9)])] kF) ∧
 (k kF)))
 False)
 False)
 (k kF))
 (k kF))
 (k kF))) ∨
 ((Says C 22 [(D.agg [D.nil, (dI n4), (dI n5), (dI n6), (dI n7), (dI n8)]), (D.agg [(Dw n0 2 l0), (dI x1), (dI x2), (dI x3), (dI x4), (dI x5)])] kF) ∧
 (k kF)))
 False)
 (k kF))))))))))))))))))) ∨
 (∃ n4 : Nat,
 (∃ cs1 : List Go.Value,
 (∃ n5 : Int,
 (∃ n6 : Int,
 (∃ n7 : Int,
 (∃ n8 : Int,
 (∃ n10 : Int,
 (∃ n11 : Int,
 ((Says C 19 [(D.val (Value.string (s1)))] [(D.agg [(D.sl (n4) 2 (cs1)), (dI n5), (dI n6), (dI n7), (dI n8), (dI n10)]), (dI n11)]) ∧
 (∃ n12 : Int,
 (∃ n13 : Int,
 (∃ n14 : Int,
 ((Says C 20 [(D.val (Value.string (s2)))] [(D.agg [(dI n12), (dI n13)]), (dI n14)]) ∧
 (∃ s7 : ByteArray,
 ((∃ n15 : Int,
 ((Says C 21 [(D.val (Value.string (s3)))] [(D.agg [(D.val (Value.string (s7))), D.nil]), (dI n15)]) ∧
 (bcase (n11 == 0)
 (bcase (dL n4 2 cs1)
 (bcase (dL n0 2 l0)
 (((Says C 22 [(D.agg [(Dw n4 2 cs1), (dI n5), (dI n6), (dI n7), (dI n8), (dI n10)]), (D.agg [(Dw n0 2 l0), (dI x1), (dI x2), (dI x3), (dI x4), (dI x5)])] kT) ∧
 (bcase (n14 == 0)
 (bcase (if Bool.false = Bool.true then !(n12 == x6 && (n13 == x7 && Bool.true)) else n12 == x6 && (n13 == x7 && Bool.true))
 (bcase (n15 == 0)
 (bcase (dL n9 2 l9)
 (((Says C 23 [(D.agg [(D.val (Value.string (s7))), D.nil]), (D.agg [(D.val (Value.string (s8))), (Dw n9 2 l9)])] kT) ∧
 (k kT)) ∨
 ((Says C 23 [(D.agg [(D.val (Value.string (s7))), D.nil]), (D.agg [(D.val (Value.string (s8))), (Dw n9 2 l9)])] kF) ∧
 (k kF)))
 False)
 (k kF))
 (k kF))
 (k kF))) ∨
 ((Says C 22 [(D.agg [(Dw n4 2 cs1), (dI n5), (dI n6), (dI n7), (dI n8), (dI n10)]), (D.agg [(Dw n0 2 l0), (dI x1), (dI x2), (dI x3), (dI x4), (dI x5)])] kF) ∧
 (k kF)))
 False)
 False)
 (k kF)))) ∨
 (∃ n15 : Nat,
 (∃ cs2 : List Go.Value,
 (∃ n16 : Int,
 ((Says C 21 [(D.val (Value.string (s3)))] [(D.agg [(D.val (Value.string (s7))), (D.sl (n15) 2 (cs2))]), (dI n16)]) ∧
 (bcase (n11 == 0)
 (bcase (dL n4 2 cs1)
 (bcase (dL n0 2 l0)
 (((Says C 22 [(D.agg [(Dw n4 2 cs1), (dI n5), (dI n6), (dI n7), (dI n8), (dI n10)]), (D.agg [(Dw n0 2 l0), (dI x1), (dI x2), (dI x3), (dI x4), (dI x5)])] kT) ∧
 (bcase (n14 == 0)
 (bcase (if Bool.false = Bool.true then !(n12 == x6 && (n13 == x7 && Bool.true)) else n12 == x6 && (n13 == x7 && Bool.true))
 (bcase (n16 == 0)
 (bcase (dL n15 2 cs2)
 (bcase (dL n9 2 l9)
 (((Says C 23 [(D.agg [(D.val (Value.string (s7))), (Dw n15 2 cs2)]), (D.agg [(D.val (Value.string (s8))), (Dw n9 2 l9)])] kT) ∧
 (k kT)) ∨
 ((Says C 23 [(D.agg [(D.val (Value.string (s7))), (Dw n15 2 cs2)]), (D.agg [(D.val (Value.string (s8))), (Dw n9 2 l9)])] kF) ∧
 (k kF)))
 False)
 False)
 (k kF))
 (k kF))
 (k kF))) ∨
 ((Says C 22 [(D.agg [(Dw n4 2 cs1), (dI n5), (dI n6), (dI n7), (dI n8), (dI n10)]), (D.agg [(Dw n0 2 l0), (dI x1), (dI x2), (dI x3), (dI x4), (dI x5)])] kF) ∧
 (k kF)))
 False)
 False)
 (k kF)))))))))))))))))))))))))
 False))))
 False))))
 False))))
 False)))))))
 False)))))))
 False)))
 False)))))))
 False)))
 False))
 (k kT))
 (k kT))
 (k kT))) ∨
 ((Says C 5 [] kF) ∧
 (k kF))) := by kernel_rfl
def gLs1 (C : Ct) (L : AtLoop) (n0 : Nat) (c0 : Nat) (l0 : List Value) (x1 : Int) (x2 : Int) (x3 : Int) (x4 : Int) (x5 : Int) (x6 : Int) (x7 : Int) (s8 : ByteArray) (k : List D → Prop) : Prop := wpFn Tryz.prog (hS C) L 0 3 #[.agg #[.slice (some ⟨500, 0, none⟩) n0 c0, .int .i64 x1, .int .i64 x2, .int .i64 x3, .int .i64 x4, .int .i64 x5], .agg #[.int .i64 x6, .int .i64 x7], .agg #[.string s8, .slice none 0 0]] (heapOf [(500, .sym l0 false 2)]) (dataK k)
theorem gLs1_text (C : Ct) (L : AtLoop) (n0 : Nat) (c0 : Nat) (l0 : List Go.Value) (x1 : Int) (x2 : Int) (x3 : Int) (x4 : Int) (x5 : Int) (x6 : Int) (x7 : Int) (s8 : ByteArray) (k : List D → Prop) : gLs1 C L n0 c0 l0 x1 x2 x3 x4 x5 x6 x7 s8 k =
 (((Says C 5 [] kT) ∧
 (bcase (decide ((↑n0 : Int) ≤ 14))
 (bcase (decide ((↑(ByteArray.size s8) : Int) ≤ 30))
 (((Qv (Value.agg [(Value.string (s8)), (Value.slice none 0 0)].toArray)) ∧
 ((Qv (Value.agg [(vI x6), (vI x7)].toArray)) ∧
 ((Qv (Value.agg [(Sl 500 (n0) (c0)), (vI x1), (vI x2), (vI x3), (vI x4), (vI x5)].toArray)) ∧
 True))) ∧
 (bcase (dL n0 2 l0)
 ((Says C 9 [(D.agg [(Dw n0 2 l0), (dI x1), (dI x2), (dI x3), (dI x4), (dI x5)])] [(D.agg [(Dw n0 2 l0), (dI x1), (dI x2), (dI x3), (dI x4), (dI x5)])]) ∧
 (((Qv (Value.agg [(Value.string (s8)), (Value.slice none 0 0)].toArray)) ∧
 ((Qv (Value.agg [(vI x6), (vI x7)].toArray)) ∧
 True)) ∧
 (bcase (dL n0 2 (Tk n0 2 l0))
 (∃ s1 : ByteArray,
 ((Says C 8 [(D.agg [(Dw n0 2 (Tk n0 2 l0)), (dI x1), (dI x2), (dI x3), (dI x4), (dI x5)])] [(D.val (Value.string (s1)))]) ∧
 (((Qv (Value.agg [(Value.string (s8)), (Value.slice none 0 0)].toArray)) ∧
 ((Qv (Value.agg [(vI x6), (vI x7)].toArray)) ∧
 True)) ∧
 (∃ s2 : ByteArray,
 ((Says C 10 [(D.agg [(dI x6), (dI x7)])] [(D.val (Value.string (s2)))]) ∧
 (((Qv (Value.agg [(Value.string (s8)), (Value.slice none 0 0)].toArray)) ∧
 True) ∧
 ((Says C 12 [(D.agg [(D.val (Value.string (s8))), D.nil])] [(D.agg [(D.val (Value.string (s8))), (D.sl 0 2 [])])]) ∧
 (True ∧
 (∃ s3 : ByteArray,
 ((Says C 11 [(D.agg [(D.val (Value.string (s8))), (D.sl 0 2 [])])] [(D.val (Value.string (s3)))]) ∧
 (True ∧
 (True ∧
 (True ∧
 (True ∧
 (bcase (dL n0 2 l0)
 (∃ s4 : ByteArray,
 ((Says C 13 [(D.agg [(Dw n0 2 l0), (dI x1), (dI x2), (dI x3), (dI x4), (dI x5)])] [(D.val (Value.string (s4)))]) ∧
 (bcase (!ByteArray.toList s1 == ByteArray.toList s4)
 (k kF)
 (∃ s5 : ByteArray,
 ((Says C 14 [(D.agg [(dI x6), (dI x7)])] [(D.val (Value.string (s5)))]) ∧
 (bcase (!ByteArray.toList s2 == ByteArray.toList s5)
 (k kF)
 (∃ s6 : ByteArray,
 ((Says C 15 [(D.agg [(D.val (Value.string (s8))), D.nil])] [(D.val (Value.string (s6)))]) ∧
 (bcase (!ByteArray.toList s3 == ByteArray.toList s6)
 (k kF)
 (bcase (dL n0 2 l0)
 (∃ n1 : Int,
 ((Says C 16 [(D.agg [(Dw n0 2 l0), (dI x1), (dI x2), (dI x3), (dI x4), (dI x5)])] [(dI n1)]) ∧
 (bcase (n1 != 0)
 (k kT)
 (bcase (dL n0 2 l0)
 (∃ n2 : Int,
 ((Says C 17 [(D.agg [(Dw n0 2 l0), (dI x1), (dI x2), (dI x3), (dI x4), (dI x5)]), (D.agg [(dI x6), (dI x7)])] [(dI n2)]) ∧
 (bcase (n2 != 0)
 (k kT)
 (∃ n3 : Int,
 ((Says C 18 [(D.agg [(D.val (Value.string (s8))), D.nil])] [(dI n3)]) ∧
 (bcase (n3 != 0)
 (k kT)
 ((∃ n4 : Int,
 (∃ n5 : Int,
 (∃ n6 : Int,
 (∃ n7 : Int,
 (∃ n8 : Int,
 (∃ n9 : Int,
 ((Says C 19 [(D.val (Value.string (s1)))] [(D.agg [D.nil, (dI n4), (dI n5), (dI n6), (dI n7), (dI n8)]), (dI n9)]) ∧
 (∃ n10 : Int,
 (∃ n11 : Int,
 (∃ n12 : Int,
 ((Says C 20 [(D.val (Value.string (s2)))] [(D.agg [(dI n10), (dI n11)]), (dI n12)]) ∧
 (∃ s7 : ByteArray,
 ((∃ n13 : Int,
 ((Says C 21 [(D.val (Value.string (s3)))] [(D.agg [(D.val (Value.string (s7))), D.nil]), (dI n13)]) ∧
 (bcase (n9 == 0)
 (bcase (dL n0 2 l0)
 (((Says C 22 [(D.agg [D.nil, (dI n4), (dI n5), (dI n6), (dI n7), (dI n8)]), (D.agg [(Dw n0 2 l0), (dI x1), (dI x2), (dI x3), (dI x4), (dI x5)])] kT) ∧
 (bcase (n12 == 0)
 (bcase (if Bool.false = Bool.true then !(n10 == x6 && (n11 == x7 && Bool.true)) else n10 == x6 && (n11 == x7 && Bool.true))
 (bcase (n13 == 0)
 (((Says C 23 [(D.agg [(D.val (Value.string (s7))), D.nil]), (D.agg [(D.val (Value.string (s8))), D.nil])] kT) ∧
 (k kT)) ∨
 ((Says C 23 [(D.agg [(D.val (Value.string (s7))), D.nil]), (D.agg [(D.val (Value.string (s8))), D.nil])] kF) ∧
 (k kF)))
 (k kF))
 (k kF))
 (k kF))) ∨
 ((Says C 22 [(D.agg [D.nil, (dI n4), (dI n5), (dI n6), (dI n7), (dI n8)]), (D.agg [(Dw n0 2 l0), (dI x1), (dI x2), (dI x3), (dI x4), (dI x5)])] kF) ∧
 (k kF)))
 False)
 (k kF)))) ∨
 (∃ n13 : Nat,
 (∃ cs1 : List Go.Value,
 (∃ n14 : Int,
 ((Says C 21 [(D.val (Value.string (s3)))] [(D.agg [(D.val (Value.string (s7))), (D.sl (n13) 2 (cs1))]), (dI n14)]) ∧
 (bcase (n9 == 0)
 (bcase (dL n0 2 l0)
 (((Says C 22 [(D.agg [D.nil, (dI n4), (dI n5), (dI n6), (dI n7), (dI n8)]), (D.agg [(Dw n0 2 l0), (dI x1), (dI x2), (dI x3), (dI x4), (dI x5)])] kT) ∧
 (bcase (n12 == 0)
 (bcase (if Bool.false = Bool.true then !(n10 == x6 && (n11 == x7 && Bool.true)) else n10 == x6 && (n11 == x7 && Bool.true))
 (bcase (n14 == 0)
 (bcase (dL n13 2 cs1)
 (((Says C 23 [(D.agg [(D.val (Value.string (s7))), (Dw n13 2 cs1)]), (D.agg [(D.val (Value.string (s8))), D.nil])] kT) ∧
 (k kT)) ∨
 ((Says C 23 [(D.agg [(D.val (Value.string (s7))), (Dw n13 2 cs1)]), (D.agg [(D.val (Value.string (s8))), D.nil])] kF) ∧
 (k kF)))
 False)
 (k kF))
 (k kF))
 (k kF))) ∨
 ((Says C 22 [(D.agg [D.nil, (dI n4), (dI n5), (dI n6), (dI n7), (dI n8)]), (D.agg [(Dw n0 2 l0), (dI x1), (dI x2), (dI x3), (dI x4), (dI x5)])] kF) ∧
 (k kF)))
 False)
 (k kF))))))))))))))))))) ∨
 (∃ n4 : Nat,
 (∃ cs1 : List Go.Value,
 (∃ n5 : Int,
 (∃ n6 : Int,
 (∃ n7 : Int,
 (∃ n8 : Int,
 (∃ n9 : Int,
 (∃ n10 : Int,
 ((Says C 19 [(D.val (Value.string (s1)))] [(D.agg [(D.sl (n4) 2 (cs1)), (dI n5), (dI n6), (dI n7), (dI n8), (dI n9)]), (dI n10)]) ∧
 (∃ n11 : Int,
 (∃ n12 : Int,
 (∃ n13 : Int,
 ((Says C 20 [(D.val (Value.string (s2)))] [(D.agg [(dI n11), (dI n12)]), (dI n13)]) ∧
 (∃ s7 : ByteArray,
 ((∃ n14 : Int,
 ((Says C 21 [(D.val (Value.string (s3)))] [(D.agg [(D.val (Value.string (s7))), D.nil]), (dI n14)]) ∧
 (bcase (n10 == 0)
 (bcase (dL n4 2 cs1)
 (bcase (dL n0 2 l0)
 (((Says C 22 [(D.agg [(Dw n4 2 cs1), (dI n5), (dI n6), (dI n7), (dI n8), (dI n9)]), (D.agg [(Dw n0 2 l0), (dI x1), (dI x2), (dI x3), (dI x4), (dI x5)])] kT) ∧
 (bcase (n13 == 0)
 (bcase (if Bool.false = Bool.true then !(n11 == x6 && (n12 == x7 && Bool.true)) else n11 == x6 && (n12 == x7 && Bool.true))
 (bcase (n14 == 0)
 (((Says C 23 [(D.agg [(D.val (Value.string (s7))), D.nil]), (D.agg [(D.val (Value.string (s8))), D.nil])] kT) ∧
 (k kT)) ∨
 ((Says C 23 [(D.agg [(D.val (Value.string (s7))), D.nil]), (D.agg [(D.val (Value.string (s8))), D.nil])] kF) ∧
 (k kF)))
 (k kF))
 (k kF))
 (k kF))) ∨
 ((Says C 22 [(D.agg [(Dw n4 2 cs1), (dI n5), (dI n6), (dI n7), (dI n8), (dI n9)]), (D.agg [(Dw n0 2 l0), (dI x1), (dI x2), (dI x3), (dI x4), (dI x5)])] kF) ∧
 (k kF)))
 False)
 False)
 (k kF)))) ∨
 (∃ n14 : Nat,
 (∃ cs2 : List Go.Value,
 (∃ n15 : Int,
 ((Says C 21 [(D.val (Value.string (s3)))] [(D.agg [(D.val (Value.string (s7))), (D.sl (n14) 2 (cs2))]), (dI n15)]) ∧
 (bcase (n10 == 0)
 (bcase (dL n4 2 cs1)
 (bcase (dL n0 2 l0)
 (((Says C 22 [(D.agg [(Dw n4 2 cs1), (dI n5), (dI n6), (dI n7), (dI n8), (dI n9)]), (D.agg [(Dw n0 2 l0), (dI x1), (dI x2), (dI x3), (dI x4), (dI x5)])] kT) ∧
 (bcase (n13 == 0)
 (bcase (if Bool.false = Bool.true then !(n11 == x6 && (n12 == x7 && Bool.true)) else n11 == x6 && (n12 == x7 && Bool.true))
 (bcase (n15 == 0)
 (bcase (dL n14 2 cs2)
 (((Says C 23 [(D.agg [(D.val (Value.string (s7))), (Dw n14 2 cs2)]), (D.agg [(D.val (Value.string (s8))), D.nil])] kT) ∧
 (k kT)) ∨
 ((Says C 23 [(D.agg [(D.val (Value.string (s7))), (Dw n14 2 cs2)]), (D.agg [(D.val (Value.string (s8))), D.nil])] kF) ∧
 (k kF)))
 False)
 (k kF))
 (k kF))
 (k kF))) ∨
 ((Says C 22 [(D.agg [(Dw n4 2 cs1), (dI n5), (dI n6), (dI n7), (dI n8), (dI n9)]), (D.agg [(Dw n0 2 l0), (dI x1), (dI x2), (dI x3), (dI x4), (dI x5)])] kF) ∧
 (k kF)))
 False)
 False)
 (k kF))))))))))))))))))))))))))))
 False))))
 False))))))))))
 False)))))))))))))))
 False)))
 False))
 (k kT))
 (k kT))) ∨
 ((Says C 5 [] kF) ∧
 (k kF))) := by kernel_rfl
def gLs2 (C : Ct) (L : AtLoop) (x1 : Int) (x2 : Int) (x3 : Int) (x4 : Int) (x5 : Int) (x6 : Int) (x7 : Int) (s8 : ByteArray) (n9 : Nat) (c9 : Nat) (l9 : List Value) (k : List D → Prop) : Prop := wpFn Tryz.prog (hS C) L 0 3 #[.agg #[.slice none 0 0, .int .i64 x1, .int .i64 x2, .int .i64 x3, .int .i64 x4, .int .i64 x5], .agg #[.int .i64 x6, .int .i64 x7], .agg #[.string s8, .slice (some ⟨500, 0, none⟩) n9 c9]] (heapOf [(500, .sym l9 false 2)]) (dataK k)
theorem gLs2_text (C : Ct) (L : AtLoop) (x1 : Int) (x2 : Int) (x3 : Int) (x4 : Int) (x5 : Int) (x6 : Int) (x7 : Int) (s8 : ByteArray) (n9 : Nat) (c9 : Nat) (l9 : List Go.Value) (k : List D → Prop) : gLs2 C L x1 x2 x3 x4 x5 x6 x7 s8 n9 c9 l9 k =
 (((Says C 5 [] kT) ∧
 (bcase (decide ((↑n9 : Int) ≤ 14))
 (bcase (decide ((↑(ByteArray.size s8) : Int) ≤ 30))
 (((Qv (Value.agg [(Value.string (s8)), (Sl 500 (n9) (c9))].toArray)) ∧
 ((Qv (Value.agg [(vI x6), (vI x7)].toArray)) ∧
 ((Qv (Value.agg [(Value.slice none 0 0), (vI x1), (vI x2), (vI x3), (vI x4), (vI x5)].toArray)) ∧
 True))) ∧
 ((Says C 9 [(D.agg [D.nil, (dI x1), (dI x2), (dI x3), (dI x4), (dI x5)])] [(D.agg [(D.sl 0 2 []), (dI x1), (dI x2), (dI x3), (dI x4), (dI x5)])]) ∧
 (((Qv (Value.agg [(Value.string (s8)), (Sl 500 (n9) (c9))].toArray)) ∧
 ((Qv (Value.agg [(vI x6), (vI x7)].toArray)) ∧
 True)) ∧
 (∃ s1 : ByteArray,
 ((Says C 8 [(D.agg [(D.sl 0 2 []), (dI x1), (dI x2), (dI x3), (dI x4), (dI x5)])] [(D.val (Value.string (s1)))]) ∧
 (((Qv (Value.agg [(Value.string (s8)), (Sl 500 (n9) (c9))].toArray)) ∧
 ((Qv (Value.agg [(vI x6), (vI x7)].toArray)) ∧
 True)) ∧
 (∃ s2 : ByteArray,
 ((Says C 10 [(D.agg [(dI x6), (dI x7)])] [(D.val (Value.string (s2)))]) ∧
 (((Qv (Value.agg [(Value.string (s8)), (Sl 500 (n9) (c9))].toArray)) ∧
 True) ∧
 (bcase (dL n9 2 l9)
 ((Says C 12 [(D.agg [(D.val (Value.string (s8))), (Dw n9 2 l9)])] [(D.agg [(D.val (Value.string (s8))), (Dw n9 2 l9)])]) ∧
 (True ∧
 (bcase (dL n9 2 (Tk n9 2 l9))
 (∃ s3 : ByteArray,
 ((Says C 11 [(D.agg [(D.val (Value.string (s8))), (Dw n9 2 (Tk n9 2 l9))])] [(D.val (Value.string (s3)))]) ∧
 (True ∧
 (True ∧
 (True ∧
 (True ∧
 (∃ s4 : ByteArray,
 ((Says C 13 [(D.agg [D.nil, (dI x1), (dI x2), (dI x3), (dI x4), (dI x5)])] [(D.val (Value.string (s4)))]) ∧
 (bcase (!ByteArray.toList s1 == ByteArray.toList s4)
 (k kF)
 (∃ s5 : ByteArray,
 ((Says C 14 [(D.agg [(dI x6), (dI x7)])] [(D.val (Value.string (s5)))]) ∧
 (bcase (!ByteArray.toList s2 == ByteArray.toList s5)
 (k kF)
 (bcase (dL n9 2 l9)
 (∃ s6 : ByteArray,
 ((Says C 15 [(D.agg [(D.val (Value.string (s8))), (Dw n9 2 l9)])] [(D.val (Value.string (s6)))]) ∧
 (bcase (!ByteArray.toList s3 == ByteArray.toList s6)
 (k kF)
 (∃ n1 : Int,
 ((Says C 16 [(D.agg [D.nil, (dI x1), (dI x2), (dI x3), (dI x4), (dI x5)])] [(dI n1)]) ∧
 (bcase (n1 != 0)
 (k kT)
 (∃ n2 : Int,
 ((Says C 17 [(D.agg [D.nil, (dI x1), (dI x2), (dI x3), (dI x4), (dI x5)]), (D.agg [(dI x6), (dI x7)])] [(dI n2)]) ∧
 (bcase (n2 != 0)
 (k kT)
 (bcase (dL n9 2 l9)
 (∃ n3 : Int,
 ((Says C 18 [(D.agg [(D.val (Value.string (s8))), (Dw n9 2 l9)])] [(dI n3)]) ∧
 (bcase (n3 != 0)
 (k kT)
 ((∃ n4 : Int,
 (∃ n5 : Int,
 (∃ n6 : Int,
 (∃ n7 : Int,
 (∃ n8 : Int,
 (∃ n10 : Int,
 ((Says C 19 [(D.val (Value.string (s1)))] [(D.agg [D.nil, (dI n4), (dI n5), (dI n6), (dI n7), (dI n8)]), (dI n10)]) ∧
 (∃ n11 : Int,
 (∃ n12 : Int,
 (∃ n13 : Int,
 ((Says C 20 [(D.val (Value.string (s2)))] [(D.agg [(dI n11), (dI n12)]), (dI n13)]) ∧
 (∃ s7 : ByteArray,
 ((∃ n14 : Int,
 ((Says C 21 [(D.val (Value.string (s3)))] [(D.agg [(D.val (Value.string (s7))), D.nil]), (dI n14)]) ∧
 (bcase (n10 == 0)
 (((Says C 22 [(D.agg [D.nil, (dI n4), (dI n5), (dI n6), (dI n7), (dI n8)]), (D.agg [D.nil, (dI x1), (dI x2), (dI x3), (dI x4), (dI x5)])] kT) ∧
 (bcase (n13 == 0)
 (bcase (if Bool.false = Bool.true then !(n11 == x6 && (n12 == x7 && Bool.true)) else n11 == x6 && (n12 == x7 && Bool.true))
 (bcase (n14 == 0)
 (bcase (dL n9 2 l9)
 (((Says C 23 [(D.agg [(D.val (Value.string (s7))), D.nil]), (D.agg [(D.val (Value.string (s8))), (Dw n9 2 l9)])] kT) ∧
 (k kT)) ∨
 ((Says C 23 [(D.agg [(D.val (Value.string (s7))), D.nil]), (D.agg [(D.val (Value.string (s8))), (Dw n9 2 l9)])] kF) ∧
 (k kF)))
 False)
 (k kF))
 (k kF))
 (k kF))) ∨
 ((Says C 22 [(D.agg [D.nil, (dI n4), (dI n5), (dI n6), (dI n7), (dI n8)]), (D.agg [D.nil, (dI x1), (dI x2), (dI x3), (dI x4), (dI x5)])] kF) ∧
 (k kF)))
 (k kF)))) ∨
 (∃ n14 : Nat,
 (∃ cs1 : List Go.Value,
 (∃ n15 : Int,
 ((Says C 21 [(D.val (Value.string (s3)))] [(D.agg [(D.val (Value.string (s7))), (D.sl (n14) 2 (cs1))]), (dI n15)]) ∧
 (bcase (n10 == 0)
 (((Says C 22 [(D.agg [D.nil, (dI n4), (dI n5), (dI n6), (dI n7), (dI n8)]), (D.agg [D.nil, (dI x1), (dI x2), (dI x3), (dI x4), (dI x5)])] kT) ∧
 (bcase (n13 == 0)
 (bcase (if Bool.false = Bool.true then !(n11 == x6 && (n12 == x7 && Bool.true)) else n11 == x6 && (n12 == x7 && Bool.true))
 (bcase (n15 == 0)
 (bcase (dL n14 2 cs1)
 (bcase (dL n9 2 l9)
 (((Says C 23 [(D.agg [(D.val (Value.string (s7))), (Dw n14 2 cs1)]), (D.agg [(D.val (Value.string (s8))), (Dw n9 2 l9)])] kT) ∧
 (k kT)) ∨
 ((Says C 23 [(D.agg [(D.val (Value.string (s7))), (Dw n14 2 cs1)]), (D.agg [(D.val (Value.string (s8))), (Dw n9 2 l9)])] kF) ∧
 (k kF)))
 False)
 False)
 (k kF))
 (k kF))
 (k kF))) ∨
 ((Says C 22 [(D.agg [D.nil, (dI n4), (dI n5), (dI n6), (dI n7), (dI n8)]), (D.agg [D.nil, (dI x1), (dI x2), (dI x3), (dI x4), (dI x5)])] kF) ∧
 (k kF)))
 (k kF))))))))))))))))))) ∨
 (∃ n4 : Nat,
 (∃ cs1 : List Go.Value,
 (∃ n5 : Int,
 (∃ n6 : Int,
 (∃ n7 : Int,
 (∃ n8 : Int,
 (∃ n10 : Int,
 (∃ n11 : Int,
 ((Says C 19 [(D.val (Value.string (s1)))] [(D.agg [(D.sl (n4) 2 (cs1)), (dI n5), (dI n6), (dI n7), (dI n8), (dI n10)]), (dI n11)]) ∧
 (∃ n12 : Int,
 (∃ n13 : Int,
 (∃ n14 : Int,
 ((Says C 20 [(D.val (Value.string (s2)))] [(D.agg [(dI n12), (dI n13)]), (dI n14)]) ∧
 (∃ s7 : ByteArray,
 ((∃ n15 : Int,
 ((Says C 21 [(D.val (Value.string (s3)))] [(D.agg [(D.val (Value.string (s7))), D.nil]), (dI n15)]) ∧
 (bcase (n11 == 0)
 (bcase (dL n4 2 cs1)
 (((Says C 22 [(D.agg [(Dw n4 2 cs1), (dI n5), (dI n6), (dI n7), (dI n8), (dI n10)]), (D.agg [D.nil, (dI x1), (dI x2), (dI x3), (dI x4), (dI x5)])] kT) ∧
 (bcase (n14 == 0)
 (bcase (if Bool.false = Bool.true then !(n12 == x6 && (n13 == x7 && Bool.true)) else n12 == x6 && (n13 == x7 && Bool.true))
 (bcase (n15 == 0)
 (bcase (dL n9 2 l9)
 (((Says C 23 [(D.agg [(D.val (Value.string (s7))), D.nil]), (D.agg [(D.val (Value.string (s8))), (Dw n9 2 l9)])] kT) ∧
 (k kT)) ∨
 ((Says C 23 [(D.agg [(D.val (Value.string (s7))), D.nil]), (D.agg [(D.val (Value.string (s8))), (Dw n9 2 l9)])] kF) ∧
 (k kF)))
 False)
 (k kF))
 (k kF))
 (k kF))) ∨
 ((Says C 22 [(D.agg [(Dw n4 2 cs1), (dI n5), (dI n6), (dI n7), (dI n8), (dI n10)]), (D.agg [D.nil, (dI x1), (dI x2), (dI x3), (dI x4), (dI x5)])] kF) ∧
 (k kF)))
 False)
 (k kF)))) ∨
 (∃ n15 : Nat,
 (∃ cs2 : List Go.Value,
 (∃ n16 : Int,
 ((Says C 21 [(D.val (Value.string (s3)))] [(D.agg [(D.val (Value.string (s7))), (D.sl (n15) 2 (cs2))]), (dI n16)]) ∧
 (bcase (n11 == 0)
 (bcase (dL n4 2 cs1)
 (((Says C 22 [(D.agg [(Dw n4 2 cs1), (dI n5), (dI n6), (dI n7), (dI n8), (dI n10)]), (D.agg [D.nil, (dI x1), (dI x2), (dI x3), (dI x4), (dI x5)])] kT) ∧
 (bcase (n14 == 0)
 (bcase (if Bool.false = Bool.true then !(n12 == x6 && (n13 == x7 && Bool.true)) else n12 == x6 && (n13 == x7 && Bool.true))
 (bcase (n16 == 0)
 (bcase (dL n15 2 cs2)
 (bcase (dL n9 2 l9)
 (((Says C 23 [(D.agg [(D.val (Value.string (s7))), (Dw n15 2 cs2)]), (D.agg [(D.val (Value.string (s8))), (Dw n9 2 l9)])] kT) ∧
 (k kT)) ∨
 ((Says C 23 [(D.agg [(D.val (Value.string (s7))), (Dw n15 2 cs2)]), (D.agg [(D.val (Value.string (s8))), (Dw n9 2 l9)])] kF) ∧
 (k kF)))
 False)
 False)
 (k kF))
 (k kF))
 (k kF))) ∨
 ((Says C 22 [(D.agg [(Dw n4 2 cs1), (dI n5), (dI n6), (dI n7), (dI n8), (dI n10)]), (D.agg [D.nil, (dI x1), (dI x2), (dI x3), (dI x4), (dI x5)])] kF) ∧
 (k kF)))
 False)
 (k kF)))))))))))))))))))))))))
 False))))))))))
 False)))))))))))))
 False)))
 False))))))))))
 (k kT))
 (k kT))) ∨
 ((Says C 5 [] kF) ∧
 (k kF))) := by kernel_rfl
def gLs3 (C : Ct) (L : AtLoop) (x1 : Int) (x2 : Int) (x3 : Int) (x4 : Int) (x5 : Int) (x6 : Int) (x7 : Int) (s8 : ByteArray) (k : List D → Prop) : Prop := wpFn Tryz.prog (hS C) L 0 3 #[.agg #[.slice none 0 0, .int .i64 x1, .int .i64 x2, .int .i64 x3, .int .i64 x4, .int .i64 x5], .agg #[.int .i64 x6, .int .i64 x7], .agg #[.string s8, .slice none 0 0]] (heapOf []) (dataK k)
theorem gLs3_text (C : Ct) (L : AtLoop) (x1 : Int) (x2 : Int) (x3 : Int) (x4 : Int) (x5 : Int) (x6 : Int) (x7 : Int) (s8 : ByteArray) (k : List D → Prop) : gLs3 C L x1 x2 x3 x4 x5 x6 x7 s8 k =
 (((Says C 5 [] kT) ∧
 (bcase (decide ((↑(ByteArray.size s8) : Int) ≤ 30))
 (((Qv (Value.agg [(Value.string (s8)), (Value.slice none 0 0)].toArray)) ∧
 ((Qv (Value.agg [(vI x6), (vI x7)].toArray)) ∧
 ((Qv (Value.agg [(Value.slice none 0 0), (vI x1), (vI x2), (vI x3), (vI x4), (vI x5)].toArray)) ∧
 True))) ∧
 ((Says C 9 [(D.agg [D.nil, (dI x1), (dI x2), (dI x3), (dI x4), (dI x5)])] [(D.agg [(D.sl 0 2 []), (dI x1), (dI x2), (dI x3), (dI x4), (dI x5)])]) ∧
 (((Qv (Value.agg [(Value.string (s8)), (Value.slice none 0 0)].toArray)) ∧
 ((Qv (Value.agg [(vI x6), (vI x7)].toArray)) ∧
 True)) ∧
 (∃ s1 : ByteArray,
 ((Says C 8 [(D.agg [(D.sl 0 2 []), (dI x1), (dI x2), (dI x3), (dI x4), (dI x5)])] [(D.val (Value.string (s1)))]) ∧
 (((Qv (Value.agg [(Value.string (s8)), (Value.slice none 0 0)].toArray)) ∧
 ((Qv (Value.agg [(vI x6), (vI x7)].toArray)) ∧
 True)) ∧
 (∃ s2 : ByteArray,
 ((Says C 10 [(D.agg [(dI x6), (dI x7)])] [(D.val (Value.string (s2)))]) ∧
 (((Qv (Value.agg [(Value.string (s8)), (Value.slice none 0 0)].toArray)) ∧
 True) ∧
 ((Says C 12 [(D.agg [(D.val (Value.string (s8))), D.nil])] [(D.agg [(D.val (Value.string (s8))), (D.sl 0 2 [])])]) ∧
 (True ∧
 (∃ s3 : ByteArray,
 ((Says C 11 [(D.agg [(D.val (Value.string (s8))), (D.sl 0 2 [])])] [(D.val (Value.string (s3)))]) ∧
 (True ∧
 (True ∧
 (True ∧
 (True ∧
 (∃ s4 : ByteArray,
 ((Says C 13 [(D.agg [D.nil, (dI x1), (dI x2), (dI x3), (dI x4), (dI x5)])] [(D.val (Value.string (s4)))]) ∧
 (bcase (!ByteArray.toList s1 == ByteArray.toList s4)
 (k kF)
 (∃ s5 : ByteArray,
 ((Says C 14 [(D.agg [(dI x6), (dI x7)])] [(D.val (Value.string (s5)))]) ∧
 (bcase (!ByteArray.toList s2 == ByteArray.toList s5)
 (k kF)
 (∃ s6 : ByteArray,
 ((Says C 15 [(D.agg [(D.val (Value.string (s8))), D.nil])] [(D.val (Value.string (s6)))]) ∧
 (bcase (!ByteArray.toList s3 == ByteArray.toList s6)
 (k kF)
 (∃ n1 : Int,
 ((Says C 16 [(D.agg [D.nil, (dI x1), (dI x2), (dI x3), (dI x4), (dI x5)])] [(dI n1)]) ∧
 (bcase (n1 != 0)
 (k kT)
 (∃ n2 : Int,
 ((Says C 17 [(D.agg [D.nil, (dI x1), (dI x2), (dI x3), (dI x4), (dI x5)]), (D.agg [(dI x6), (dI x7)])] [(dI n2)]) ∧
 (bcase (n2 != 0)
 (k kT)
 (∃ n3 : Int,
 ((Says C 18 [(D.agg [(D.val (Value.string (s8))), D.nil])] [(dI n3)]) ∧
 (bcase (n3 != 0)
 (k kT)
 ((∃ n4 : Int,
 (∃ n5 : Int,
 (∃ n6 : Int,
 (∃ n7 : Int,
 (∃ n8 : Int,
 (∃ n9 : Int,
 ((Says C 19 [(D.val (Value.string (s1)))] [(D.agg [D.nil, (dI n4), (dI n5), (dI n6), (dI n7), (dI n8)]), (dI n9)]) ∧
 (∃ n10 : Int,
 (∃ n11 : Int,
 (∃ n12 : Int,
 ((Says C 20 [(D.val (Value.string (s2)))] [(D.agg [(dI n10), (dI n11)]), (dI n12)]) ∧
 (∃ s7 : ByteArray,
 ((∃ n13 : Int,
 ((Says C 21 [(D.val (Value.string (s3)))] [(D.agg [(D.val (Value.string (s7))), D.nil]), (dI n13)]) ∧
 (bcase (n9 == 0)
 (((Says C 22 [(D.agg [D.nil, (dI n4), (dI n5), (dI n6), (dI n7), (dI n8)]), (D.agg [D.nil, (dI x1), (dI x2), (dI x3), (dI x4), (dI x5)])] kT) ∧
 (bcase (n12 == 0)
 (bcase (if Bool.false = Bool.true then !(n10 == x6 && (n11 == x7 && Bool.true)) else n10 == x6 && (n11 == x7 && Bool.true))
 (bcase (n13 == 0)
 (((Says C 23 [(D.agg [(D.val (Value.string (s7))), D.nil]), (D.agg [(D.val (Value.string (s8))), D.nil])] kT) ∧
 (k kT)) ∨
 ((Says C 23 [(D.agg [(D.val (Value.string (s7))), D.nil]), (D.agg [(D.val (Value.string (s8))), D.nil])] kF) ∧
 (k kF)))
 (k kF))
 (k kF))
 (k kF))) ∨
 ((Says C 22 [(D.agg [D.nil, (dI n4), (dI n5), (dI n6), (dI n7), (dI n8)]), (D.agg [D.nil, (dI x1), (dI x2), (dI x3), (dI x4), (dI x5)])] kF) ∧
 (k kF)))
 (k kF)))) ∨
 (∃ n13 : Nat,
 (∃ cs1 : List Go.Value,
 (∃ n14 : Int,
 ((Says C 21 [(D.val (Value.string (s3)))] [(D.agg [(D.val (Value.string (s7))), (D.sl (n13) 2 (cs1))]), (dI n14)]) ∧
 (bcase (n9 == 0)
 (((Says C 22 [(D.agg [D.nil, (dI n4), (dI n5), (dI n6), (dI n7), (dI n8)]), (D.agg [D.nil, (dI x1), (dI x2), (dI x3), (dI x4), (dI x5)])] kT) ∧
 (bcase (n12 == 0)
 (bcase (if Bool.false = Bool.true then !(n10 == x6 && (n11 == x7 && Bool.true)) else n10 == x6 && (n11 == x7 && Bool.true))
 (bcase (n14 == 0)
 (bcase (dL n13 2 cs1)
 (((Says C 23 [(D.agg [(D.val (Value.string (s7))), (Dw n13 2 cs1)]), (D.agg [(D.val (Value.string (s8))), D.nil])] kT) ∧
 (k kT)) ∨
 ((Says C 23 [(D.agg [(D.val (Value.string (s7))), (Dw n13 2 cs1)]), (D.agg [(D.val (Value.string (s8))), D.nil])] kF) ∧
 (k kF)))
 False)
 (k kF))
 (k kF))
 (k kF))) ∨
 ((Says C 22 [(D.agg [D.nil, (dI n4), (dI n5), (dI n6), (dI n7), (dI n8)]), (D.agg [D.nil, (dI x1), (dI x2), (dI x3), (dI x4), (dI x5)])] kF) ∧
 (k kF)))
 (k kF))))))))))))))))))) ∨
 (∃ n4 : Nat,
 (∃ cs1 : List Go.Value,
 (∃ n5 : Int,
 (∃ n6 : Int,
 (∃ n7 : Int,
 (∃ n8 : Int,
 (∃ n9 : Int,
 (∃ n10 : Int,
 ((Says C 19 [(D.val (Value.string (s1)))] [(D.agg [(D.sl (n4) 2 (cs1)), (dI n5), (dI n6), (dI n7), (dI n8), (dI n9)]), (dI n10)]) ∧
 (∃ n11 : Int,
 (∃ n12 : Int,
 (∃ n13 : Int,
 ((Says C 20 [(D.val (Value.string (s2)))] [(D.agg [(dI n11), (dI n12)]), (dI n13)]) ∧
 (∃ s7 : ByteArray,
 ((∃ n14 : Int,
 ((Says C 21 [(D.val (Value.string (s3)))] [(D.agg [(D.val (Value.string (s7))), D.nil]), (dI n14)]) ∧
 (bcase (n10 == 0)
 (bcase (dL n4 2 cs1)
 (((Says C 22 [(D.agg [(Dw n4 2 cs1), (dI n5), (dI n6), (dI n7), (dI n8), (dI n9)]), (D.agg [D.nil, (dI x1), (dI x2), (dI x3), (dI x4), (dI x5)])] kT) ∧
 (bcase (n13 == 0)
 (bcase (if Bool.false = Bool.true then !(n11 == x6 && (n12 == x7 && Bool.true)) else n11 == x6 && (n12 == x7 && Bool.true))
 (bcase (n14 == 0)
 (((Says C 23 [(D.agg [(D.val (Value.string (s7))), D.nil]), (D.agg [(D.val (Value.string (s8))), D.nil])] kT) ∧
 (k kT)) ∨
 ((Says C 23 [(D.agg [(D.val (Value.string (s7))), D.nil]), (D.agg [(D.val (Value.string (s8))), D.nil])] kF) ∧
 (k kF)))
 (k kF))
 (k kF))
 (k kF))) ∨
 ((Says C 22 [(D.agg [(Dw n4 2 cs1), (dI n5), (dI n6), (dI n7), (dI n8), (dI n9)]), (D.agg [D.nil, (dI x1), (dI x2), (dI x3), (dI x4), (dI x5)])] kF) ∧
 (k kF)))
 False)
 (k kF)))) ∨
 (∃ n14 : Nat,
 (∃ cs2 : List Go.Value,
 (∃ n15 : Int,
 ((Says C 21 [(D.val (Value.string (s3)))] [(D.agg [(D.val (Value.string (s7))), (D.sl (n14) 2 (cs2))]), (dI n15)]) ∧
 (bcase (n10 == 0)
 (bcase (dL n4 2 cs1)
 (((Says C 22 [(D.agg [(Dw n4 2 cs1), (dI n5), (dI n6), (dI n7), (dI n8), (dI n9)]), (D.agg [D.nil, (dI x1), (dI x2), (dI x3), (dI x4), (dI x5)])] kT) ∧
 (bcase (n13 == 0)
 (bcase (if Bool.false = Bool.true then !(n11 == x6 && (n12 == x7 && Bool.true)) else n11 == x6 && (n12 == x7 && Bool.true))
 (bcase (n15 == 0)
 (bcase (dL n14 2 cs2)
 (((Says C 23 [(D.agg [(D.val (Value.string (s7))), (Dw n14 2 cs2)]), (D.agg [(D.val (Value.string (s8))), D.nil])] kT) ∧
 (k kT)) ∨
 ((Says C 23 [(D.agg [(D.val (Value.string (s7))), (Dw n14 2 cs2)]), (D.agg [(D.val (Value.string (s8))), D.nil])] kF) ∧
 (k kF)))
 False)
 (k kF))
 (k kF))
 (k kF))) ∨
 ((Says C 22 [(D.agg [(Dw n4 2 cs1), (dI n5), (dI n6), (dI n7), (dI n8), (dI n9)]), (D.agg [D.nil, (dI x1), (dI x2), (dI x3), (dI x4), (dI x5)])] kF) ∧
 (k kF)))
 False)
 (k kF)))))))))))))))))))))))))))))))))))))))))))))))))))))))))
 (k kT))) ∨
 ((Says C 5 [] kF) ∧
 (k kF))) := by kernel_rfl
end Go.Proofs.G5v

/- ModelStrings in data. -/
namespace Go.Proofs.G5v
open Go Go.Abs Go.Proofs Go.Abs.MD Go.Str Go.RowKit
set_option maxRecDepth 100000
theorem conYr (T : List (Int × Int)) (hl : T.length ≤ 1000000) (a b c d e : Int) : C5 9 [dRu T a b c d e] [dRu T a b c d e] := by
  refine con_flat hokE mixed Tryz.func9 rfl (by show 1 ≤ 400; omega) rfl (by kernel_rfl) (fun caps => ?_)
  show gYr _ _ T.length (caps 500) (vp T) a b c d e _
  rw [gYr_text]
  try simp only [eq_self, true_and, and_true]
  refine bc_yes (by simp) (bc_beq (fun h0 => ?_) (fun h0 => bc_yes (by omega) (bc_yes (by omega) (bc_yes (by omega) ⟨by simp, ?_⟩))))
  · obtain rfl : T = [] := List.length_eq_zero_iff.1 h0
    rfl
  · rw [vp_whole, Nat.zero_add, List.nil_append]
theorem conYrn (a b c d e : Int) : C5 9 [dRn a b c d e] [dRu [] a b c d e] := by
  refine con_flat hokE mixed Tryz.func9 rfl (by show 0 ≤ 400; omega) rfl (by kernel_rfl) (fun caps => ?_)
  show gYrn _ _ a b c d e _
  rw [gYrn_text]
  simp only [eq_self, true_and, and_true]
  all_goals rfl
theorem conYc (nm : List UInt8) (R : List (Int × Int)) (hl : R.length ≤ 1000000) : C5 12 [dCo nm R] [dCo nm R] := by
  refine con_flat hokE mixed Tryz.func12 rfl (by show 1 ≤ 400; omega) rfl (by kernel_rfl) (fun caps => ?_)
  show gYc _ _ (bs nm) R.length (caps 500) (vp R) _
  rw [gYc_text]
  try simp only [eq_self, true_and, and_true]
  refine bc_yes (by simp) (bc_beq (fun h0 => ?_) (fun h0 => bc_yes (by omega) (bc_yes (by omega) (bc_yes (by omega) ⟨by simp, ?_⟩))))
  · obtain rfl : R = [] := List.length_eq_zero_iff.1 h0
    rfl
  · rw [vp_whole, Nat.zero_add, List.nil_append]
theorem conYcn (nm : List UInt8) : C5 12 [dCn nm] [dCo nm []] := by
  refine con_flat hokE mixed Tryz.func12 rfl (by show 0 ≤ 400; omega) rfl (by kernel_rfl) (fun caps => ?_)
  show gYcn _ _ (bs nm) _
  rw [gYcn_text]
  simp only [eq_self, true_and, and_true]
  all_goals rfl
/-- the four results when the rules are wrong -/
theorem ok_itoa {n : Int} (h : 0 ≤ n ∧ n < 10000000) : okNum 7 (Lib.itoa n) = true := by
  rw [itoa_nn h.1]
  exact okNum_dec (dec_len 7 _ (by omega) (by omega))
theorem numF_itoa {n : Int} (h : 0 ≤ n ∧ n < 10000000) : numF 0 (Lib.itoa n) = n := by
  have h1 := readNum_ok (ok_itoa h)
  have h2 := readNum_itoa (d := 7) (n := n) (by omega) (by omega)
  rw [h1] at h2
  exact congrArg Prod.fst h2
theorem two_wk {c : UInt8} (hc : isDig c = false) {p : Int × Int} (h1 : 0 ≤ p.1 ∧ p.1 < 10000000) (h2 : 0 ≤ p.2 ∧ p.2 < 10000000) : two c 7 (wk c p) = some p :=
  two_join hc (by omega) h1 h2
theorem free_wk {c : UInt8} (hc : c ≠ 32) {p : Int × Int} (h1 : 0 ≤ p.1 ∧ p.1 < 10000000) (h2 : 0 ≤ p.2 ∧ p.2 < 10000000) : (32 : UInt8) ∉ wk c p := by
  intro h
  rcases List.mem_append.1 h with h | h
  · exact okNum_mem (ok_itoa h1) d32 h
  · rcases List.mem_cons.1 h with h | h
    · exact hc h.symm
    · exact okNum_mem (ok_itoa h2) d32 h
theorem crP_ok {e v t : Int} (he : e ≤ 900) (h : corE e v t = 0) : crP (wk 32 (v, t)) = ((v, t), 0) := by
  obtain ⟨hv, ht⟩ := cor_ok h
  unfold crP
  rw [two_wk d32 (p := (v, t)) ⟨hv.1, by show v < 10000000; omega⟩ ⟨ht.1, by show t < 10000000; omega⟩]
  exact if_pos ⟨hv.2, by show t ≤ 900; omega⟩
theorem name_free {w : List UInt8} (h : nameOK w = true) : (32 : UInt8) ∉ w ∧ w ≠ [] := by
  unfold nameOK at h
  simp only [Bool.and_eq_true, decide_eq_true_eq] at h
  refine ⟨fun hm => ?_, fun e => by rw [e] at h; simp at h⟩
  have := List.all_eq_true.1 h.2 _ hm
  revert this; decide
theorem co_name {w : List UInt8} {R : List (Int × Int)} (h : (coR w R).2 = 0) : nameOK w = true := by
  cases hn : nameOK w with
  | true => rfl
  | false => rw [coR, if_pos hn] at h; simp at h
theorem clP_ok {w : List UInt8} {R : List (Int × Int)} (h : (coR w R).2 = 0) : clP (fmC w R) = (dCo w R, 0) := by
  obtain ⟨h1, h2⟩ := name_free (co_name h)
  have hR := (co_ok h).1.all
  have q : ∀ p ∈ R, (0 ≤ p.1 ∧ p.1 < 10000000) ∧ 0 ≤ p.2 ∧ p.2 < 10000000 := fun p hp => by have := hR p hp; omega
  unfold clP fmC
  rw [cutA_join (by simp) (fun x hx => by
    rcases List.mem_cons.1 hx with rfl | hx
    · exact h1
    · obtain ⟨p, hp, rfl⟩ := List.mem_map.1 hx
      exact free_wk (by decide) (q p hp).1 (q p hp).2)]
  rw [show clW (w :: R.map (wk 64)) = coW w (words (two 64 7) (R.map (wk 64))) from if_neg h2]
  rw [words_map (fun p hp => two_wk d64 (q p hp).1 (q p hp).2), coW, if_pos h]
theorem rlP_ok {a b c d e : Int} {T : List (Int × Int)} (h : (rulR T a b c d e).2 = 0) : rlP (fmR a b c d e T) = (dRu T a b c d e, 0) := by
  have ok := (rul_ok h).1
  have vt := tab_ok ok.tabz
  have az := ok.az; have bz := ok.bz; have cz := ok.cz; have dz := ok.dz; have ez := ok.ez
  have q : ∀ p ∈ T, (0 ≤ p.1 ∧ p.1 < 10000000) ∧ 0 ≤ p.2 ∧ p.2 < 10000000 := fun p hp => by have := vt.lo p hp; have := vt.val p hp; omega
  have p1 : (0 ≤ (a, b).1 ∧ (a, b).1 < 10000000) ∧ 0 ≤ (a, b).2 ∧ (a, b).2 < 10000000 := by simp only; omega
  have p2 : (0 ≤ (c, d).1 ∧ (c, d).1 < 10000000) ∧ 0 ≤ (c, d).2 ∧ (c, d).2 < 10000000 := by simp only; omega
  have p3 : 0 ≤ e ∧ e < 10000000 := by omega
  unfold rlP fmR
  rw [cutA_join (by simp) (fun x hx => by
    simp only [List.mem_cons] at hx
    rcases hx with rfl | rfl | rfl | hx
    · exact free_wk (by decide) p1.1 p1.2
    · exact free_wk (by decide) p2.1 p2.2
    · exact okNum_mem (ok_itoa p3) d32
    · obtain ⟨p, hp, rfl⟩ := List.mem_map.1 hx
      exact free_wk (by decide) (q p hp).1 (q p hp).2)]
  show rlH (two 47 7 (wk 47 (a, b))) (two 47 7 (wk 47 (c, d))) (Lib.itoa e) (T.map (wk 64)) = _
  rw [two_wk d47 p1.1 p1.2, two_wk d47 p2.1 p2.2]
  unfold rlH
  simp only
  rw [if_pos (ok_itoa p3), numF_itoa p3, words_map (fun p hp => two_wk d64 (q p hp).1 (q p hp).2), rlT, if_pos h]
theorem sz_le {w : List UInt8} {n : Nat} (h : ((ByteArray.size (bs w) : Nat) : Int) ≤ n) : w.length ≤ n := by rw [bs_size] at h; omega
theorem lawS (conA : C5 5 [] [.val (.bool true)]) (T : List (Int × Int)) (hT : in64 T) (a b c d e v t : Int) (hn : Nums a b c d) (he : -9223372036854775808 ≤ e ∧ e ≤ 9223372036854775807) (hv : -9223372036854775808 ≤ v ∧ v ≤ 9223372036854775807) (ht : -9223372036854775808 ≤ t ∧ t ≤ 9223372036854775807) (nm : List UInt8) (R : List (Int × Int)) (hR : in64 R) : C5 3 [dRu T a b c d e, dCc v t, dCo nm R] [.val (.bool true)] := by
  refine con_flat hokS mixed Tryz.func3 rfl (by show 2 ≤ 400; omega) rfl (by kernel_rfl) (fun caps => ?_)
  show gLs _ _ T.length (caps 500) (vp T) a b c d e v t (bs nm) R.length (caps 501) (vp R) _
  rw [gLs_text]
  refine .inl ⟨⟨conA⟩, bc_dec (fun h12 => bc_dec (fun h10 => bc_dec (fun h30 => ?_) (fun _ => rfl)) (fun _ => rfl)) (fun _ => rfl)⟩
  have hw : nm.length ≤ 43 := by have := sz_le (n := 30) h30; omega
  have hq : in64 [(a, b), (c, d)] := fun p hp => by
    simp only [List.mem_cons, List.not_mem_nil, or_false] at hp
    rcases hp with rfl | rfl
    · exact ⟨hn.na, hn.nb⟩
    · exact ⟨hn.nc, hn.nd⟩
  simp only [Qv, Dw, Tk, vp_whole, bc_t (v2le T), bc_t (v2le R), eq_self, true_and, and_true]
  refine ⟨⟨conYr T (by omega) a b c d e⟩, _, ⟨conwR a b c d e hq he T hT (by omega)⟩, _, ⟨conwC v t hv ht⟩, ⟨conYc nm R (by omega)⟩, _, ⟨conwL nm R hR hw (by omega)⟩, _, ⟨confR a b c d e hq he T hT (by omega)⟩, bc_false (by simp) ⟨_, ⟨confC v t hv ht⟩, bc_false (by simp) ⟨_, ⟨confL nm R hR hw (by omega)⟩, bc_false (by simp) ?_⟩⟩⟩
  refine ⟨_, ⟨conRE T (by omega) e hn⟩, bc_bne (fun _ => trivial) (fun hr => ⟨_, ⟨conCE T a b c d e v t⟩, bc_bne (fun _ => trivial) (fun hx => ⟨_, ⟨conCe nm R (by omega)⟩, bc_bne (fun _ => trivial) (fun hc => ?_)⟩)⟩)⟩
  have lF := fmR_len hq he hT
  have lC := fmC_len hR hw
  have lW := (wk_len (c := 32) (p := (v, t)) ⟨hv, ht⟩).2.2
  have cR := conpR (fmR a b c d e T) (by omega)
  have cC := conpC (wk 32 (v, t)) (by omega)
  have cL := conpL (fmC nm R) (by omega)
  rw [rlP_ok hr] at cR
  rw [crP_ok (rul_ok hr).1.ez.2 hx] at cC
  rw [clP_ok hc] at cL
  refine .inr ⟨_, _, _, _, _, _, _, _, ⟨cR⟩, _, _, _, ⟨cC⟩, _, .inr ⟨_, _, _, ⟨cL⟩, ?_⟩⟩
  simp only [vp_whole]
  refine bc_true (by simp) ?_
  repeat' refine bc_yes (by simp) ?_
  refine .inl ⟨⟨conSRs T (by omega) _ _ _ _ _⟩, bc_true (by simp) (bc_true (by simp) (bc_true (by simp) ?_))⟩
  repeat' refine bc_yes (by simp) ?_
  exact .inl ⟨conSLs nm R (by omega)⟩
theorem lawS1 (conA : C5 5 [] [.val (.bool true)]) (T : List (Int × Int)) (hT : in64 T) (a b c d e v t : Int) (hn : Nums a b c d) (he : -9223372036854775808 ≤ e ∧ e ≤ 9223372036854775807) (hv : -9223372036854775808 ≤ v ∧ v ≤ 9223372036854775807) (ht : -9223372036854775808 ≤ t ∧ t ≤ 9223372036854775807) (nm : List UInt8) : C5 3 [dRu T a b c d e, dCc v t, dCn nm] [.val (.bool true)] := by
  refine con_flat hokS mixed Tryz.func3 rfl (by show 1 ≤ 400; omega) rfl (by kernel_rfl) (fun caps => ?_)
  show gLs1 _ _ T.length (caps 500) (vp T) a b c d e v t (bs nm) _
  rw [gLs1_text]
  refine .inl ⟨⟨conA⟩, bc_dec (fun h12 => bc_dec (fun h30 => ?_) (fun _ => rfl)) (fun _ => rfl)⟩
  have hw : nm.length ≤ 43 := by have := sz_le (n := 30) h30; omega
  have hq : in64 [(a, b), (c, d)] := fun p hp => by
    simp only [List.mem_cons, List.not_mem_nil, or_false] at hp
    rcases hp with rfl | rfl
    · exact ⟨hn.na, hn.nb⟩
    · exact ⟨hn.nc, hn.nd⟩
  simp only [Qv, Dw, Tk, vp_whole, bc_t (v2le T), eq_self, true_and, and_true]
  refine ⟨⟨conYr T (by omega) a b c d e⟩, _, ⟨conwR a b c d e hq he T hT (by omega)⟩, _, ⟨conwC v t hv ht⟩, ⟨conYcn nm⟩, _, ⟨conwL nm [] (fun _ h => by cases h) hw (by simp)⟩, _, ⟨confR a b c d e hq he T hT (by omega)⟩, bc_false (by simp) ⟨_, ⟨confC v t hv ht⟩, bc_false (by simp) ⟨_, ⟨confLn nm⟩, bc_false (by simp) ?_⟩⟩⟩
  refine ⟨_, ⟨conRE T (by omega) e hn⟩, bc_bne (fun _ => trivial) (fun hr => ⟨_, ⟨conCE T a b c d e v t⟩, bc_bne (fun _ => trivial) (fun hx => ⟨_, ⟨conCen nm⟩, bc_bne (fun _ => trivial) (fun hc => ?_)⟩)⟩)⟩
  exact absurd hc (coR_nil_ne nm)
theorem lawS2 (conA : C5 5 [] [.val (.bool true)]) (a b c d e v t : Int) (hn : Nums a b c d) (he : -9223372036854775808 ≤ e ∧ e ≤ 9223372036854775807) (hv : -9223372036854775808 ≤ v ∧ v ≤ 9223372036854775807) (ht : -9223372036854775808 ≤ t ∧ t ≤ 9223372036854775807) (nm : List UInt8) (R : List (Int × Int)) (hR : in64 R) : C5 3 [dRn a b c d e, dCc v t, dCo nm R] [.val (.bool true)] := by
  refine con_flat hokS mixed Tryz.func3 rfl (by show 1 ≤ 400; omega) rfl (by kernel_rfl) (fun caps => ?_)
  show gLs2 _ _ a b c d e v t (bs nm) R.length (caps 500) (vp R) _
  rw [gLs2_text]
  refine .inl ⟨⟨conA⟩, bc_dec (fun h10 => bc_dec (fun h30 => ?_) (fun _ => rfl)) (fun _ => rfl)⟩
  have hw : nm.length ≤ 43 := by have := sz_le (n := 30) h30; omega
  have hq : in64 [(a, b), (c, d)] := fun p hp => by
    simp only [List.mem_cons, List.not_mem_nil, or_false] at hp
    rcases hp with rfl | rfl
    · exact ⟨hn.na, hn.nb⟩
    · exact ⟨hn.nc, hn.nd⟩
  simp only [Qv, Dw, Tk, vp_whole, bc_t (v2le R), eq_self, true_and, and_true]
  refine ⟨⟨conYrn a b c d e⟩, _, ⟨conwR a b c d e hq he [] (fun _ h => by cases h) (by simp)⟩, _, ⟨conwC v t hv ht⟩, ⟨conYc nm R (by omega)⟩, _, ⟨conwL nm R hR hw (by omega)⟩, _, ⟨confRn a b c d e hq he⟩, bc_false (by simp) ⟨_, ⟨confC v t hv ht⟩, bc_false (by simp) ⟨_, ⟨confL nm R hR hw (by omega)⟩, bc_false (by simp) ?_⟩⟩⟩
  exact ⟨_, ⟨conREn a b c d e⟩, bc_bne (fun _ => trivial) (fun h => absurd h (by decide))⟩
theorem lawS3 (conA : C5 5 [] [.val (.bool true)]) (a b c d e v t : Int) (hn : Nums a b c d) (he : -9223372036854775808 ≤ e ∧ e ≤ 9223372036854775807) (hv : -9223372036854775808 ≤ v ∧ v ≤ 9223372036854775807) (ht : -9223372036854775808 ≤ t ∧ t ≤ 9223372036854775807) (nm : List UInt8) : C5 3 [dRn a b c d e, dCc v t, dCn nm] [.val (.bool true)] := by
  refine con_flat hokS mixed Tryz.func3 rfl (by show 0 ≤ 400; omega) rfl (by kernel_rfl) (fun caps => ?_)
  show gLs3 _ _ a b c d e v t (bs nm) _
  rw [gLs3_text]
  refine .inl ⟨⟨conA⟩, bc_dec (fun h30 => ?_) (fun _ => rfl)⟩
  have hw : nm.length ≤ 43 := by have := sz_le (n := 30) h30; omega
  have hq : in64 [(a, b), (c, d)] := fun p hp => by
    simp only [List.mem_cons, List.not_mem_nil, or_false] at hp
    rcases hp with rfl | rfl
    · exact ⟨hn.na, hn.nb⟩
    · exact ⟨hn.nc, hn.nd⟩
  simp only [Qv, Dw, Tk, eq_self, true_and, and_true]
  refine ⟨⟨conYrn a b c d e⟩, _, ⟨conwR a b c d e hq he [] (fun _ h => by cases h) (by simp)⟩, _, ⟨conwC v t hv ht⟩, ⟨conYcn nm⟩, _, ⟨conwL nm [] (fun _ h => by cases h) hw (by simp)⟩, _, ⟨confRn a b c d e hq he⟩, bc_false (by simp) ⟨_, ⟨confC v t hv ht⟩, bc_false (by simp) ⟨_, ⟨confLn nm⟩, bc_false (by simp) ?_⟩⟩⟩
  exact ⟨_, ⟨conREn a b c d e⟩, bc_bne (fun _ => trivial) (fun h => absurd h (by decide))⟩
end Go.Proofs.G5v
