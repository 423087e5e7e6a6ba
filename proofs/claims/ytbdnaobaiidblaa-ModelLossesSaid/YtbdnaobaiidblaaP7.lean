/- Texts of the proof, put together: GlML8, AbsGood, GlMLK0, GlMV1, GlMV2, GlMV3, GlML9, GlMLK. -/
import Derived.Test.YtbdnaobaiidblaaP6
import Derived.Test.YtbdnaobaiidblaaP3
import Derived.Test.YtbdnaobaiidblaaGlMT
import Derived.Lib.LaidTab
import Derived.Lib.ItoaNum
import Derived.Test.YtbdnaobaiidblaaRows
import Derived.Handed
import Derived.JoinedCond
/- ModelLosses in data. -/
namespace Go.Proofs.G5l
open Go Go.Abs Go.Proofs Go.Abs.MD Go.Str
set_option maxRecDepth 100000
theorem conYr (T : List (Int × Int)) (hl : T.length ≤ 1000000) (a b c d e : Int) : C5 9 [dRu T a b c d e] [dRu T a b c d e] := by
  refine con_flat hokE mixed Try.func9 rfl (by show 1 ≤ 400; omega) rfl (by kernel_rfl) (fun caps => ?_)
  show gYr _ _ T.length (caps 500) (vp T) a b c d e _
  rw [gYr_text]
  try simp only [eq_self, true_and, and_true]
  refine bc_yes (by simp) (bc_beq (fun h0 => ?_) (fun h0 => bc_yes (by omega) (bc_yes (by omega) (bc_yes (by omega) ⟨by simp, ?_⟩))))
  · obtain rfl : T = [] := List.length_eq_zero_iff.1 h0
    rfl
  · rw [vp_whole, Nat.zero_add, List.nil_append]
theorem conYrn (a b c d e : Int) : C5 9 [dRn a b c d e] [dRu [] a b c d e] := by
  refine con_flat hokE mixed Try.func9 rfl (by show 0 ≤ 400; omega) rfl (by kernel_rfl) (fun caps => ?_)
  show gYrn _ _ a b c d e _
  rw [gYrn_text]
  simp only [eq_self, true_and, and_true]
  all_goals rfl
theorem conYc (nm : List UInt8) (R : List (Int × Int)) (hl : R.length ≤ 1000000) : C5 10 [dCo nm R] [dCo nm R] := by
  refine con_flat hokE mixed Try.func10 rfl (by show 1 ≤ 400; omega) rfl (by kernel_rfl) (fun caps => ?_)
  show gYc _ _ (bs nm) R.length (caps 500) (vp R) _
  rw [gYc_text]
  try simp only [eq_self, true_and, and_true]
  refine bc_yes (by simp) (bc_beq (fun h0 => ?_) (fun h0 => bc_yes (by omega) (bc_yes (by omega) (bc_yes (by omega) ⟨by simp, ?_⟩))))
  · obtain rfl : R = [] := List.length_eq_zero_iff.1 h0
    rfl
  · rw [vp_whole, Nat.zero_add, List.nil_append]
theorem conYcn (nm : List UInt8) : C5 10 [dCn nm] [dCo nm []] := by
  refine con_flat hokE mixed Try.func10 rfl (by show 0 ≤ 400; omega) rfl (by kernel_rfl) (fun caps => ?_)
  show gYcn _ _ (bs nm) _
  rw [gYcn_text]
  simp only [eq_self, true_and, and_true]
  all_goals rfl
/-- the four results when the rules are wrong -/
theorem bad_rul {T : List (Int × Int)} {a b c d e v t : Int} {nm : List UInt8} {R : List (Int × Int)} (h : (rulR T a b c d e).2 ≠ 0) :
    loR T a b c d e v t nm R = [dF (0, 0), dI (rulR T a b c d e).2] ∧ leR T a b c d e v t nm R = [dCc 0 0, dI (rulR T a b c d e).2] ∧ bfR T a b c d e nm R = [dCc 0 0, dI (rulR T a b c d e).2] := by
  have g : grE T a b c d e v t = (rulR T a b c d e).2 := if_pos h
  have k : kcE T a b c d e nm R = (rulR T a b c d e).2 := if_neg h
  refine ⟨?_, ?_, ?_⟩
  · rw [loR, fst0_two, g, if_neg h, if_neg h]
  · have e1 : leE T a b c d e v t nm R = (rulR T a b c d e).2 := by rw [leE, fst0_three, g, if_neg h]
    rw [leR, e1, if_neg h]
  · rw [bfR, k, if_neg h]
/-- when a correction or a coil is wrong -/
def corco (e v t : Int) (co : Int) : Int := if corE e v t ≠ 0 then corE e v t else co
theorem bad_co {T : List (Int × Int)} {a b c d e v t : Int} {nm : List UInt8} {R : List (Int × Int)} (h : (rulR T a b c d e).2 = 0) (hc : corco e v t (coR nm R).2 ≠ 0) :
    loR T a b c d e v t nm R = [dF (0, 0), dI (corco e v t (coR nm R).2)] ∧ leR T a b c d e v t nm R = [dCc 0 0, dI (corco e v t (coR nm R).2)] := by
  have g : grE T a b c d e v t = corE e v t := if_neg (by omega)
  have c1 : fst0 [grE T a b c d e v t, (coR nm R).2] = corco e v t (coR nm R).2 := by
    rw [g, fst0_two, corco]
    by_cases h1 : corE e v t = 0
    · rw [if_pos h1, if_neg (by omega)]
    · rw [if_neg h1, if_pos h1]
  have c2 : leE T a b c d e v t nm R = corco e v t (coR nm R).2 := by
    unfold corco at hc ⊢
    rw [leE, g, fst0_three]
    by_cases h1 : corE e v t = 0
    · rw [if_pos h1, if_neg (show ¬ corE e v t ≠ 0 by omega)]
      rw [if_neg (show ¬ corE e v t ≠ 0 by omega)] at hc
      rw [if_neg hc]
    · rw [if_neg h1, if_pos h1]
  refine ⟨?_, ?_⟩
  · rw [loR, c1, if_neg hc]
  · rw [leR, c2, if_neg hc]
theorem lawMM (T : List (Int × Int)) {a b c d : Int} (e : Int) (hn : Nums a b c d) (v t : Int) (nm : List UInt8) (R : List (Int × Int)) : C5 3 [dRu T a b c d e, dCc v t, dCo nm R] [.val (.bool true)] := by
  refine con_flat hokM mixed Try.func3 rfl (by show 2 ≤ 400; omega) rfl (by kernel_rfl) (fun caps => ?_)
  show gLo0 _ _ T.length (caps 500) (vp T) a b c d e v t (bs nm) R.length (caps 501) (vp R) _
  rw [gLo0_text]
  refine .inl ⟨⟨conA⟩, bc_dec (fun h12 => bc_dec (fun h10 => bc_dec (fun _ => ?_) (fun _ => rfl)) (fun _ => rfl)) (fun _ => rfl)⟩
  have cYr := conYr T (by omega) a b c d e
  have cYc := conYc nm R (by omega)
  have cKC := conKC T (by omega) e hn nm R (by omega)
  have cLO := conLO T (by omega) e hn v t nm R (by omega)
  have cLE := conLE T (by omega) e hn v t nm R (by omega)
  have cBF := conBF T (by omega) e hn nm R (by omega)
  have cRE := conRE T (by omega) e hn
  have cRC := conRC nm R (by omega)
  have cCE := conCE T a b c d e v t
  simp only [Dw, Tk, vp_whole, bc_t (v2le T), bc_t (v2le R), eq_self, true_and, and_true]
  by_cases hr : (rulR T a b c d e).2 = 0
  · rw [if_pos hr] at cKC
    rw [hr] at cRE
    by_cases hc : (coR nm R).2 = 0
    · have ok := (rul_ok hr).1
      have hRd := (co_ok hc).1
      have q3 : bfR T a b c d e nm R = [dCc 0 (best (loss T a b c d R) (upto (e.toNat + 1))), dI 0] := by rw [bfR, if_pos (by rw [kcE, if_pos hr]; exact hc)]
      have cRB := conRB ok hRd nm
      have cKC : C5 8 [dRu T a b c d e, dCo nm R] [dI (coR nm R).1, dI 0] := by rw [← hc]; exact cKC
      have cRC : C5 15 [dCo nm R] [dI (coR nm R).1, dI 0] := by rw [← hc]; exact cRC
      rw [q3] at cBF
      by_cases hx : corE e v t = 0
      · obtain ⟨hv, ht⟩ := cor_ok hx
        have g : grE T a b c d e v t = 0 := by rw [grE, if_neg (by omega)]; exact hx
        have cRL := conRL ok hRd (v := v) ht nm
        have cRQ := conRQ ok hRd hv ht nm
        rw [hx] at cCE
        have q1 : loR T a b c d e v t nm R = if sm (low (loss T a b c d R t) (gD b d)) then [dF (low (loss T a b c d R t) (gD b d)), dI 0] else [dF (0, 0), dI 8] := by
          rw [loR, if_pos (by rw [g, hc]; rfl)]
        have q2 : leR T a b c d e v t nm R = if v ≥ 1000000 then [dCc 0 0, dI 8] else [dCc (v + 1) (lrn (loss T a b c d R) e t), dI 0] := by
          have e1 : leE T a b c d e v t nm R = if v ≥ 1000000 then 8 else 0 := by
            rw [leE, g, hc, grow, w64 (by omega) (by omega)]
            by_cases hv2 : v ≥ 1000000
            · rw [if_pos hv2, if_pos (by omega)]; rfl
            · rw [if_neg hv2, if_neg (by omega)]; rfl
          rw [leR, e1]
          by_cases hv2 : v ≥ 1000000
          · rw [if_pos hv2, if_pos hv2]; rfl
          · rw [if_neg hv2, if_neg hv2]; rfl
        rw [q1] at cLO
        rw [q2] at cLE
        by_cases hs : sm (low (loss T a b c d R t) (gD b d))
        · rw [if_pos hs] at cLO
          rw [decide_eq_true hs] at cRL
          by_cases hv2 : v ≥ 1000000
          · rw [if_pos hv2] at cLE cRQ
            refine ⟨⟨cYr⟩, ⟨cYc⟩, _, _, ⟨cKC⟩, ⟨cYr⟩, ⟨cYc⟩, _, _, _, ⟨cLO⟩, ⟨cYr⟩, ⟨cYc⟩, _, _, _, ⟨cLE⟩, ⟨cYr⟩, ⟨cYc⟩, _, _, _, ⟨cBF⟩, _, ⟨cRE⟩, ?_⟩
            simp only [bc_nf, true_and]
            refine ⟨_, _, ⟨cRC⟩, ?_⟩
            simp only [bc_nf, bc_qt, true_and, and_true]
            refine ⟨_, _, ⟨cRB⟩, ?_⟩
            simp only [beq_self_eq_true, Bool.and_self, Bool.not_true, if_true, bcF, true_and]
            refine ⟨_, ⟨cCE⟩, ?_⟩
            try simp only [bc_nf, beq_self_eq_true, if_false, Bool.false_eq_true, bcT, and_true]
            refine ⟨_, _, .inl ⟨⟨cRL⟩, ?_⟩⟩
            try simp only [beq_self_eq_true, Bool.and_self, Bool.not_true, bcF]
            first
            | exact ⟨_, _, .inr ⟨cRQ⟩⟩
            | (refine ⟨_, _, .inr ⟨⟨cRQ⟩, ?_⟩⟩; simp only [bc_nf, bc_qt, beq_self_eq_true, Bool.and_self, Bool.not_true, if_true, if_false, Bool.false_eq_true, bcF, bcT, true_and, and_true])
          · rw [if_neg hv2] at cLE cRQ
            refine ⟨⟨cYr⟩, ⟨cYc⟩, _, _, ⟨cKC⟩, ⟨cYr⟩, ⟨cYc⟩, _, _, _, ⟨cLO⟩, ⟨cYr⟩, ⟨cYc⟩, _, _, _, ⟨cLE⟩, ⟨cYr⟩, ⟨cYc⟩, _, _, _, ⟨cBF⟩, _, ⟨cRE⟩, ?_⟩
            simp only [bc_nf, true_and]
            refine ⟨_, _, ⟨cRC⟩, ?_⟩
            simp only [bc_nf, bc_qt, true_and, and_true]
            refine ⟨_, _, ⟨cRB⟩, ?_⟩
            simp only [beq_self_eq_true, Bool.and_self, Bool.not_true, if_true, bcF, true_and]
            refine ⟨_, ⟨cCE⟩, ?_⟩
            try simp only [bc_nf, beq_self_eq_true, if_false, Bool.false_eq_true, bcT]
            refine ⟨_, _, .inl ⟨⟨cRL⟩, ?_⟩⟩
            try simp only [beq_self_eq_true, Bool.and_self, Bool.not_true, bcF]
            refine ⟨_, _, .inl ⟨⟨cRQ⟩, ?_⟩⟩
            try simp only [beq_self_eq_true, Bool.and_self, bcT]
        · rw [if_neg hs] at cLO
          rw [decide_eq_false hs] at cRL
          by_cases hv2 : v ≥ 1000000
          · rw [if_pos hv2] at cLE cRQ
            refine ⟨⟨cYr⟩, ⟨cYc⟩, _, _, ⟨cKC⟩, ⟨cYr⟩, ⟨cYc⟩, _, _, _, ⟨cLO⟩, ⟨cYr⟩, ⟨cYc⟩, _, _, _, ⟨cLE⟩, ⟨cYr⟩, ⟨cYc⟩, _, _, _, ⟨cBF⟩, _, ⟨cRE⟩, ?_⟩
            simp only [bc_nf, true_and]
            refine ⟨_, _, ⟨cRC⟩, ?_⟩
            simp only [bc_nf, bc_qt, true_and, and_true]
            refine ⟨_, _, ⟨cRB⟩, ?_⟩
            simp only [beq_self_eq_true, Bool.and_self, Bool.not_true, if_true, bcF, true_and]
            refine ⟨_, ⟨cCE⟩, ?_⟩
            try simp only [bc_nf, if_false, Bool.false_eq_true, bcT, and_true]
            refine ⟨_, _, .inr ⟨⟨cRL⟩, ?_⟩⟩
            try simp only [bc_nf, bc_qt, beq_self_eq_true, Bool.and_self, Bool.not_true, if_true, if_false, Bool.false_eq_true, bcF, bcT, true_and, and_true]
            first
            | exact ⟨_, _, .inr ⟨cRQ⟩⟩
            | (refine ⟨_, _, .inr ⟨⟨cRQ⟩, ?_⟩⟩; simp only [bc_nf, bc_qt, beq_self_eq_true, Bool.and_self, Bool.not_true, if_true, if_false, Bool.false_eq_true, bcF, bcT, true_and, and_true])
          · rw [if_neg hv2] at cLE cRQ
            refine ⟨⟨cYr⟩, ⟨cYc⟩, _, _, ⟨cKC⟩, ⟨cYr⟩, ⟨cYc⟩, _, _, _, ⟨cLO⟩, ⟨cYr⟩, ⟨cYc⟩, _, _, _, ⟨cLE⟩, ⟨cYr⟩, ⟨cYc⟩, _, _, _, ⟨cBF⟩, _, ⟨cRE⟩, ?_⟩
            simp only [bc_nf, true_and]
            refine ⟨_, _, ⟨cRC⟩, ?_⟩
            simp only [bc_nf, bc_qt, true_and, and_true]
            refine ⟨_, _, ⟨cRB⟩, ?_⟩
            simp only [beq_self_eq_true, Bool.and_self, Bool.not_true, if_true, bcF, true_and]
            refine ⟨_, ⟨cCE⟩, ?_⟩
            try simp only [bc_nf, beq_self_eq_true, if_false, Bool.false_eq_true, bcT]
            refine ⟨_, _, .inr ⟨⟨cRL⟩, ?_⟩⟩
            try simp only [bc_nf, bc_qt, beq_self_eq_true, Bool.and_self, Bool.not_true, if_true, if_false, Bool.false_eq_true, bcF, bcT, true_and, and_true]
            refine ⟨_, _, .inl ⟨⟨cRQ⟩, ?_⟩⟩
            try simp only [beq_self_eq_true, Bool.and_self, bcT]
      · have hk : corco e v t (coR nm R).2 = corE e v t := by rw [corco, if_pos hx]
        obtain ⟨q1, q2⟩ := bad_co (v := v) (t := t) (nm := nm) (R := R) hr (by rw [hk]; exact hx)
        rw [hk] at q1 q2
        rw [q1] at cLO
        rw [q2] at cLE
        refine ⟨⟨cYr⟩, ⟨cYc⟩, _, _, ⟨cKC⟩, ⟨cYr⟩, ⟨cYc⟩, _, _, _, ⟨cLO⟩, ⟨cYr⟩, ⟨cYc⟩, _, _, _, ⟨cLE⟩, ⟨cYr⟩, ⟨cYc⟩, _, _, _, ⟨cBF⟩, _, ⟨cRE⟩, ?_⟩
        simp only [bc_nf, true_and]
        refine ⟨_, _, ⟨cRC⟩, ?_⟩
        simp only [bc_nf, bc_qt, true_and, and_true]
        refine ⟨_, _, ⟨cRB⟩, ?_⟩
        simp only [beq_self_eq_true, Bool.and_self, Bool.not_true, if_true, bcF, true_and]
        refine ⟨_, ⟨cCE⟩, ?_⟩
        simp only [bc_n hx, bc_q hx, beq_self_eq_true, if_false, Bool.false_eq_true, bcT]
    · have hcc : corco e v t (coR nm R).2 ≠ 0 := by unfold corco; split <;> assumption
      obtain ⟨q1, q2⟩ := bad_co (v := v) (t := t) hr hcc
      have q3 : bfR T a b c d e nm R = [dCc 0 0, dI (coR nm R).2] := by rw [bfR, show kcE T a b c d e nm R = (coR nm R).2 from if_pos hr, if_neg hc]
      rw [q1] at cLO
      rw [q2] at cLE
      rw [q3] at cBF
      refine ⟨⟨cYr⟩, ⟨cYc⟩, _, _, ⟨cKC⟩, ⟨cYr⟩, ⟨cYc⟩, _, _, _, ⟨cLO⟩, ⟨cYr⟩, ⟨cYc⟩, _, _, _, ⟨cLE⟩, ⟨cYr⟩, ⟨cYc⟩, _, _, _, ⟨cBF⟩, _, ⟨cRE⟩, ?_⟩
      simp only [bc_nf]
      refine ⟨_, _, ⟨cRC⟩, ?_⟩
      simp only [bc_nf, bc_n hc, bc_q hc, beq_self_eq_true, Bool.and_self, Bool.not_true, if_true, bcF, true_and, and_true]
      refine ⟨_, ⟨cCE⟩, ?_⟩
      by_cases hx : corE e v t = 0
      · have hk : corco e v t (coR nm R).2 = (coR nm R).2 := by rw [corco, if_neg (by omega)]
        rw [hk, hx]
        simp only [bc_nf, bc_n hc, bc_q hc, beq_self_eq_true, if_false, Bool.false_eq_true, bcT]
      · have hk : corco e v t (coR nm R).2 = corE e v t := by rw [corco, if_pos hx]
        rw [hk]
        simp only [bc_n hx, bc_q hx, beq_self_eq_true, if_false, Bool.false_eq_true, bcT]
  · obtain ⟨q1, q2, q3⟩ := bad_rul (v := v) (t := t) (nm := nm) (R := R) hr
    rw [if_neg hr] at cKC
    rw [q1] at cLO
    rw [q2] at cLE
    rw [q3] at cBF
    refine ⟨⟨cYr⟩, ⟨cYc⟩, _, _, ⟨cKC⟩, ⟨cYr⟩, ⟨cYc⟩, _, _, _, ⟨cLO⟩, ⟨cYr⟩, ⟨cYc⟩, _, _, _, ⟨cLE⟩, ⟨cYr⟩, ⟨cYc⟩, _, _, _, ⟨cBF⟩, _, ⟨cRE⟩, ?_⟩
    simp only [bc_n hr, beq_self_eq_true, Bool.and_self, bcT, if_false, Bool.false_eq_true]
end Go.Proofs.G5l

/- What a good world's variables hold, as the library's contracts ask it. -/
namespace Go.Abs
variable {P : Program} {w : World}
end Go.Abs

/- Chapter 4, losses: what the frames of the laws share. -/
namespace Go.Proofs.Ytbdnaobaiidblaa.K
open Go Go.Abs Go.RowKit Go.ChangeShapes Go.WideShapes Go.ChangeAt Go.Proofs Go.Flat
set_option maxRecDepth 100000
theorem own : ownKnob Try.prog.godebug = none := by kernel_rfl
theorem laidP : laidOutB Try.prog = true := by kernel_rfl
theorem mapsP : mapsRowed Try.prog = true := by kernel_rfl
theorem slicesP : ∀ t e, t < Try.prog.types.size → Try.prog.underlying t = some (.slice e) → 0 < Try.prog.cellsOf e := slices_full_of Try.prog (by kernel_rfl)
theorem tsP {l : List TypeId} (h : l.all (fun t => decide (t < Try.prog.types.size)) = true) : ∀ t ∈ l, t < Try.prog.types.size := fun t ht => of_decide_eq_true (List.all_eq_true.1 h t ht)
theorem leaf_int {t : TypeId} {d : D} (ht : Try.prog.underlying t = some (.int .i64)) (h : LeafD Try.prog t d) : ∃ n : Int, d = dI n ∧ (-9223372036854775808 ≤ n ∧ n ≤ 9223372036854775807) := by
  unfold LeafD at h
  rw [ht] at h
  obtain ⟨n, rfl, hw⟩ := h
  exact ⟨n, rfl, wf64 hw⟩
end Go.Proofs.Ytbdnaobaiidblaa.K
namespace Go.Proofs.Ytbdnaobaiidblaa.K
open Go Go.Abs Go.RowKit Go.ChangeShapes Go.WideShapes Go.ChangeAt Go.Proofs Go.Flat
set_option maxRecDepth 100000
theorem flat_vp : ∀ l : List (Int × Int), (l.flatMap fun p => [Value.int .i64 p.1, Value.int .i64 p.2]) = vp l
  | [] => rfl
  | a :: r => by rw [List.flatMap_cons, flat_vp r]; rfl
/-- lists of pairs of whole numbers, each of them of 64 bits -/
theorem leaf_prs {t e : TypeId} {d : D} (ht : Try.prog.underlying t = some (.slice e)) (he : leaves Try.prog 10 e = some [.int .i64, .int .i64]) (h : LeafD Try.prog t d) : d = .nil ∨ ∃ l : List (Int × Int), d = .sl l.length 2 (vp l) ∧ ∀ f ∈ l, (-9223372036854775808 ≤ f.1 ∧ f.1 ≤ 9223372036854775807) ∧ (-9223372036854775808 ≤ f.2 ∧ f.2 ≤ 9223372036854775807) := by
  unfold LeafD at h
  rw [ht] at h
  simp only at h
  rcases h with h | ⟨n, cs, L, rfl, hL, hn, hl, hc⟩
  · exact .inl h
  · rw [he] at hL
    obtain rfl := Option.some.inj hL
    simp only [List.length_cons, List.length_nil, Nat.zero_add] at hl hc ⊢
    have hc2 : ∀ i, i < n → ∃ p : Int × Int, (cs.drop (i * 2)).take 2 = [Value.int .i64 p.1, Value.int .i64 p.2] ∧ (-9223372036854775808 ≤ p.1 ∧ p.1 ≤ 9223372036854775807) ∧ (-9223372036854775808 ≤ p.2 ∧ p.2 ≤ 9223372036854775807) := by
      intro i hi
      have := hc i hi
      generalize (cs.drop (i * 2)).take 2 = x at this ⊢
      cases this with
      | cons h1 t =>
        cases t with
        | cons h2 t =>
          cases t
          obtain ⟨a, rfl, ha⟩ := h1
          obtain ⟨b, rfl, hb⟩ := h2
          exact ⟨(a, b), rfl, wf64 ha, wf64 hb⟩
    obtain ⟨ps, hp, rfl⟩ := chunks_of (f := fun p : Int × Int => [Value.int .i64 p.1, Value.int .i64 p.2]) (k := 2) (fun _ => rfl) n cs hl (fun i hi => by
      obtain ⟨p, hp, _⟩ := hc2 i hi
      exact ⟨p, hp⟩)
    refine .inr ⟨ps, by rw [hp, flat_vp], ?_⟩
    intro f hf
    obtain ⟨i, hi, rfl⟩ := List.mem_iff_getElem.1 hf
    obtain ⟨p, hp2, hw⟩ := hc2 i (by omega)
    rw [flat_vp] at hp2
    have := vp_two ps i hi
    rw [Nat.zero_add] at this
    have e := this.eq.symm.trans hp2
    simp only [List.cons.injEq, Value.int.injEq, true_and, and_true] at e
    rw [e.1, e.2]; exact hw
open Go.Str in
theorem leaf_str {t : TypeId} {d : D} (ht : Try.prog.underlying t = some .string) (h : LeafD Try.prog t d) : ∃ s : List UInt8, d = dS s := by
  unfold LeafD at h
  rw [ht] at h
  obtain ⟨s, rfl, _⟩ := h
  exact ⟨s.data.toList, by rw [dS, str, Go.Str.bs_data]⟩
theorem good0 (W : World) : GoodW Try.prog W := fun p hp => by
  rw [show varsOf Try.prog = [] by kernel_rfl] at hp
  cases hp
end Go.Proofs.Ytbdnaobaiidblaa.K

/- What is left to show of each function, written out; the kernel reckons it. -/
namespace Go.Proofs.G5l
open Go Go.Abs Go.Proofs
set_option maxRecDepth 100000
set_option linter.unusedVariables false
def gLo1 (C : Ct) (L : AtLoop) (n0 : Nat) (c0 : Nat) (l0 : List Value) (x1 : Int) (x2 : Int) (x3 : Int) (x4 : Int) (x5 : Int) (x6 : Int) (x7 : Int) (s8 : ByteArray) (k : List D → Prop) : Prop := wpFn Try.prog (hM C) L 0 3 #[.agg #[.slice (some ⟨500, 0, none⟩) n0 c0, .int .i64 x1, .int .i64 x2, .int .i64 x3, .int .i64 x4, .int .i64 x5], .agg #[.int .i64 x6, .int .i64 x7], .agg #[.string s8, .slice none 0 0]] (heapOf [(500, .sym l0 false 2)]) (dataK k)
theorem gLo1_text (C : Ct) (L : AtLoop) (n0 : Nat) (c0 : Nat) (l0 : List Go.Value) (x1 : Int) (x2 : Int) (x3 : Int) (x4 : Int) (x5 : Int) (x6 : Int) (x7 : Int) (s8 : ByteArray) (k : List D → Prop) : gLo1 C L n0 c0 l0 x1 x2 x3 x4 x5 x6 x7 s8 k =
 (((Says C 5 [] kT) ∧
 (bcase (decide ((↑n0 : Int) ≤ 14))
 (bcase (decide ((↑(ByteArray.size s8) : Int) ≤ 30))
 (((Qv (Value.agg [(Value.string (s8)), (Value.slice none 0 0)].toArray)) ∧
 ((Qv (Value.agg [(Sl 500 (n0) (c0)), (vI x1), (vI x2), (vI x3), (vI x4), (vI x5)].toArray)) ∧
 True)) ∧
 (bcase (dL n0 2 l0)
 ((Says C 9 [(D.agg [(Dw n0 2 l0), (dI x1), (dI x2), (dI x3), (dI x4), (dI x5)])] [(D.agg [(Dw n0 2 l0), (dI x1), (dI x2), (dI x3), (dI x4), (dI x5)])]) ∧
 (((Qv (Value.agg [(Value.string (s8)), (Value.slice none 0 0)].toArray)) ∧
 True) ∧
 ((Says C 10 [(D.agg [(D.val (Value.string (s8))), D.nil])] [(D.agg [(D.val (Value.string (s8))), (D.sl 0 2 [])])]) ∧
 (True ∧
 (bcase (dL n0 2 (Tk n0 2 l0))
 (∃ n1 : Int,
 (∃ n2 : Int,
 ((Says C 8 [(D.agg [(Dw n0 2 (Tk n0 2 l0)), (dI x1), (dI x2), (dI x3), (dI x4), (dI x5)]), (D.agg [(D.val (Value.string (s8))), (D.sl 0 2 [])])] [(dI n1), (dI n2)]) ∧
 (((Qv (vI n2)) ∧
 ((Qv (vI n1)) ∧
 ((Qv (Value.tuple [(vI n1), (vI n2)].toArray)) ∧
 True))) ∧
 (((Qv (vI n2)) ∧
 True) ∧
 (True ∧
 ((((Qv (Pt 1007 0)) ∧
 (Qv (some (AObj.cells [(vI 0), (vI 0)] 24 false 2)))) ∧
 ((Qv (Value.agg [(Value.string (s8)), (Value.slice none 0 0)].toArray)) ∧
 ((Qv (Value.agg [(vI x6), (vI x7)].toArray)) ∧
 ((Qv (Value.agg [(Sl 500 (n0) (c0)), (vI x1), (vI x2), (vI x3), (vI x4), (vI x5)].toArray)) ∧
 True)))) ∧
 (bcase (dL n0 2 l0)
 ((Says C 9 [(D.agg [(Dw n0 2 l0), (dI x1), (dI x2), (dI x3), (dI x4), (dI x5)])] [(D.agg [(Dw n0 2 l0), (dI x1), (dI x2), (dI x3), (dI x4), (dI x5)])]) ∧
 ((((Qv (Pt 1007 0)) ∧
 (Qv (some (AObj.cells [(vI 0), (vI 0)] 24 false 2)))) ∧
 ((Qv (Value.agg [(Value.string (s8)), (Value.slice none 0 0)].toArray)) ∧
 ((Qv (Value.agg [(vI x6), (vI x7)].toArray)) ∧
 True))) ∧
 ((Says C 10 [(D.agg [(D.val (Value.string (s8))), D.nil])] [(D.agg [(D.val (Value.string (s8))), (D.sl 0 2 [])])]) ∧
 ((((Qv (Pt 1007 0)) ∧
 (Qv (some (AObj.cells [(vI 0), (vI 0)] 24 false 2)))) ∧
 ((Qv (Value.agg [(vI x6), (vI x7)].toArray)) ∧
 True)) ∧
 (bcase (dL n0 2 (Tk n0 2 l0))
 (∃ n3 : Int,
 (∃ n4 : Int,
 (∃ n5 : Int,
 ((Says C 11 [(D.agg [(Dw n0 2 (Tk n0 2 l0)), (dI x1), (dI x2), (dI x3), (dI x4), (dI x5)]), (D.agg [(dI x6), (dI x7)]), (D.agg [(D.val (Value.string (s8))), (D.sl 0 2 [])])] [(D.agg [(dI n3), (dI n4)]), (dI n5)]) ∧
 (((Qv (vI n5)) ∧
 ((Qv (Value.agg [(vI n3), (vI n4)].toArray)) ∧
 ((Qv (Value.tuple [(Value.agg [(vI n3), (vI n4)].toArray), (vI n5)].toArray)) ∧
 (((Qv (Pt 1007 0)) ∧
 (Qv (some (AObj.cells [(vI 0), (vI 0)] 24 false 2)))) ∧
 True)))) ∧
 (((Qv (vI n5)) ∧
 True) ∧
 (True ∧
 ((((Qv (Pt 1010 0)) ∧
 (Qv (some (AObj.cells [(vI 0), (vI 0)] 28 false 2)))) ∧
 ((Qv (Value.agg [(Value.string (s8)), (Value.slice none 0 0)].toArray)) ∧
 ((Qv (Value.agg [(vI x6), (vI x7)].toArray)) ∧
 ((Qv (Value.agg [(Sl 500 (n0) (c0)), (vI x1), (vI x2), (vI x3), (vI x4), (vI x5)].toArray)) ∧
 True)))) ∧
 (bcase (dL n0 2 l0)
 ((Says C 9 [(D.agg [(Dw n0 2 l0), (dI x1), (dI x2), (dI x3), (dI x4), (dI x5)])] [(D.agg [(Dw n0 2 l0), (dI x1), (dI x2), (dI x3), (dI x4), (dI x5)])]) ∧
 ((((Qv (Pt 1010 0)) ∧
 (Qv (some (AObj.cells [(vI 0), (vI 0)] 28 false 2)))) ∧
 ((Qv (Value.agg [(Value.string (s8)), (Value.slice none 0 0)].toArray)) ∧
 ((Qv (Value.agg [(vI x6), (vI x7)].toArray)) ∧
 True))) ∧
 ((Says C 10 [(D.agg [(D.val (Value.string (s8))), D.nil])] [(D.agg [(D.val (Value.string (s8))), (D.sl 0 2 [])])]) ∧
 ((((Qv (Pt 1010 0)) ∧
 (Qv (some (AObj.cells [(vI 0), (vI 0)] 28 false 2)))) ∧
 ((Qv (Value.agg [(vI x6), (vI x7)].toArray)) ∧
 True)) ∧
 (bcase (dL n0 2 (Tk n0 2 l0))
 (∃ n6 : Int,
 (∃ n7 : Int,
 (∃ n8 : Int,
 ((Says C 12 [(D.agg [(Dw n0 2 (Tk n0 2 l0)), (dI x1), (dI x2), (dI x3), (dI x4), (dI x5)]), (D.agg [(dI x6), (dI x7)]), (D.agg [(D.val (Value.string (s8))), (D.sl 0 2 [])])] [(D.agg [(dI n6), (dI n7)]), (dI n8)]) ∧
 (((Qv (vI n8)) ∧
 ((Qv (Value.agg [(vI n6), (vI n7)].toArray)) ∧
 ((Qv (Value.tuple [(Value.agg [(vI n6), (vI n7)].toArray), (vI n8)].toArray)) ∧
 (((Qv (Pt 1010 0)) ∧
 (Qv (some (AObj.cells [(vI 0), (vI 0)] 28 false 2)))) ∧
 True)))) ∧
 (((Qv (vI n8)) ∧
 True) ∧
 (True ∧
 ((((Qv (Pt 1013 0)) ∧
 (Qv (some (AObj.cells [(vI 0), (vI 0)] 28 false 2)))) ∧
 ((Qv (Value.agg [(Value.string (s8)), (Value.slice none 0 0)].toArray)) ∧
 ((Qv (Value.agg [(Sl 500 (n0) (c0)), (vI x1), (vI x2), (vI x3), (vI x4), (vI x5)].toArray)) ∧
 True))) ∧
 (bcase (dL n0 2 l0)
 ((Says C 9 [(D.agg [(Dw n0 2 l0), (dI x1), (dI x2), (dI x3), (dI x4), (dI x5)])] [(D.agg [(Dw n0 2 l0), (dI x1), (dI x2), (dI x3), (dI x4), (dI x5)])]) ∧
 ((((Qv (Pt 1013 0)) ∧
 (Qv (some (AObj.cells [(vI 0), (vI 0)] 28 false 2)))) ∧
 ((Qv (Value.agg [(Value.string (s8)), (Value.slice none 0 0)].toArray)) ∧
 True)) ∧
 ((Says C 10 [(D.agg [(D.val (Value.string (s8))), D.nil])] [(D.agg [(D.val (Value.string (s8))), (D.sl 0 2 [])])]) ∧
 ((((Qv (Pt 1013 0)) ∧
 (Qv (some (AObj.cells [(vI 0), (vI 0)] 28 false 2)))) ∧
 True) ∧
 (bcase (dL n0 2 (Tk n0 2 l0))
 (∃ n9 : Int,
 (∃ n10 : Int,
 (∃ n11 : Int,
 ((Says C 13 [(D.agg [(Dw n0 2 (Tk n0 2 l0)), (dI x1), (dI x2), (dI x3), (dI x4), (dI x5)]), (D.agg [(D.val (Value.string (s8))), (D.sl 0 2 [])])] [(D.agg [(dI n9), (dI n10)]), (dI n11)]) ∧
 (((Qv (vI n11)) ∧
 ((Qv (Value.agg [(vI n9), (vI n10)].toArray)) ∧
 ((Qv (Value.tuple [(Value.agg [(vI n9), (vI n10)].toArray), (vI n11)].toArray)) ∧
 (((Qv (Pt 1013 0)) ∧
 (Qv (some (AObj.cells [(vI 0), (vI 0)] 28 false 2)))) ∧
 True)))) ∧
 (((Qv (vI n11)) ∧
 True) ∧
 (True ∧
 (bcase (dL n0 2 l0)
 (∃ n12 : Int,
 ((Says C 14 [(D.agg [(Dw n0 2 l0), (dI x1), (dI x2), (dI x3), (dI x4), (dI x5)])] [(dI n12)]) ∧
 (bcase (n12 != 0)
 (bcase (n2 == n12)
 (bcase (n5 == n12)
 (bcase (n8 == n12)
 (bcase (n11 == n12)
 (bcase (n1 == 0)
 (bcase (if Bool.false = Bool.true then !(n3 == 0 && (n4 == 0 && Bool.true)) else n3 == 0 && (n4 == 0 && Bool.true))
 (bcase (if Bool.false = Bool.true then !(n6 == 0 && (n7 == 0 && Bool.true)) else n6 == 0 && (n7 == 0 && Bool.true))
 (bcase (if Bool.false = Bool.true then !(n9 == 0 && (n10 == 0 && Bool.true)) else n9 == 0 && (n10 == 0 && Bool.true))
 (k kT)
 (k kF))
 (k kF))
 (k kF))
 (k kF))
 (k kF))
 (k kF))
 (k kF))
 (k kF))
 (∃ n13 : Int,
 (∃ n14 : Int,
 ((Says C 15 [(D.agg [(D.val (Value.string (s8))), D.nil])] [(dI n13), (dI n14)]) ∧
 (bcase (n2 != n14)
 (k kF)
 (bcase (n1 != n13)
 (k kF)
 (bcase (n14 != 0)
 (bcase (n11 != n14)
 ((Qu ∧
 (Qu ∧
 (Qu ∧
 (Qu ∧
 (Qu ∧
 (Qu ∧
 (Qu ∧
 (Qu ∧
 (Qu ∧
 (Qb ∧
 (Qb ∧
 (Qb ∧
 (Qu ∧
 (Qu ∧
 (Qu ∧
 (Qb ∧
 ((bcase (n11 != n14)
 Qb
 Qft) ∧
 ((Qv (vI n14)) ∧
 ((Qv (vI n11)) ∧
 (Qb ∧
 ((bcase (n14 != 0)
 Qb
 Qft) ∧
 ((Qv (vI n14)) ∧
 True)))))))))))))))))))))) ∧
 ((Qb ∧
 (Qu ∧
 (Qu ∧
 (Qu ∧
 (Qu ∧
 (Qu ∧
 (Qu ∧
 (Qu ∧
 (Qu ∧
 (Qu ∧
 (Qb ∧
 (Qb ∧
 (Qb ∧
 (Qu ∧
 (Qu ∧
 (Qu ∧
 (Qb ∧
 ((bcase (n11 != n14)
 Qb
 Qft) ∧
 ((Qv (vI n14)) ∧
 ((Qv (vI n11)) ∧
 (Qb ∧
 ((bcase (n14 != 0)
 Qb
 Qft) ∧
 ((Qv (vI n14)) ∧
 True))))))))))))))))))))))) ∧
 (k kF)))
 (bcase (if Bool.true = Bool.true then !(n9 == 0 && (n10 == 0 && Bool.true)) else n9 == 0 && (n10 == 0 && Bool.true))
 ((Qu ∧
 (Qu ∧
 (Qu ∧
 (Qu ∧
 (Qu ∧
 (Qu ∧
 (Qu ∧
 (Qu ∧
 (Qu ∧
 (Qb ∧
 (Qb ∧
 (Qb ∧
 ((bcase (if Bool.true = Bool.true then !(n9 == 0 && (n10 == 0 && Bool.true)) else n9 == 0 && (n10 == 0 && Bool.true))
 Qb
 Qft) ∧
 ((Qv (Value.agg [(vI 0), (vI 0)].toArray)) ∧
 ((Qv (Value.agg [(vI n9), (vI n10)].toArray)) ∧
 (Qf ∧
 ((bcase (n11 != n14)
 Qtf
 Qf) ∧
 ((Qv (vI n14)) ∧
 ((Qv (vI n11)) ∧
 (Qb ∧
 ((bcase (n14 != 0)
 Qb
 Qft) ∧
 ((Qv (vI n14)) ∧
 True)))))))))))))))))))))) ∧
 ((Qb ∧
 (Qu ∧
 (Qu ∧
 (Qu ∧
 (Qu ∧
 (Qu ∧
 (Qu ∧
 (Qu ∧
 (Qu ∧
 (Qu ∧
 (Qb ∧
 (Qb ∧
 (Qb ∧
 ((bcase (if Bool.true = Bool.true then !(n9 == 0 && (n10 == 0 && Bool.true)) else n9 == 0 && (n10 == 0 && Bool.true))
 Qb
 Qft) ∧
 ((Qv (Value.agg [(vI 0), (vI 0)].toArray)) ∧
 ((Qv (Value.agg [(vI n9), (vI n10)].toArray)) ∧
 (Qf ∧
 ((bcase (n11 != n14)
 Qtf
 Qf) ∧
 ((Qv (vI n14)) ∧
 ((Qv (vI n11)) ∧
 (Qb ∧
 ((bcase (n14 != 0)
 Qb
 Qft) ∧
 ((Qv (vI n14)) ∧
 True))))))))))))))))))))))) ∧
 (k kF)))
 (bcase (n14 == 0)
 (bcase (n11 != 0)
 ((Qu ∧
 (Qu ∧
 (Qu ∧
 (Qb ∧
 ((bcase (n11 != 0)
 Qb
 Qft) ∧
 ((Qv (vI n11)) ∧
 (Qb ∧
 ((bcase (n14 == 0)
 Qb
 Qft) ∧
 ((Qv (vI n14)) ∧
 (Qf ∧
 (Qf ∧
 (Qf ∧
 ((bcase (if Bool.true = Bool.true then !(n9 == 0 && (n10 == 0 && Bool.true)) else n9 == 0 && (n10 == 0 && Bool.true))
 Qtf
 Qf) ∧
 ((Qv (Value.agg [(vI 0), (vI 0)].toArray)) ∧
 ((Qv (Value.agg [(vI n9), (vI n10)].toArray)) ∧
 (Qf ∧
 ((bcase (n11 != n14)
 Qtf
 Qf) ∧
 ((Qv (vI n14)) ∧
 ((Qv (vI n11)) ∧
 (Qb ∧
 ((bcase (n14 != 0)
 Qb
 Qft) ∧
 ((Qv (vI n14)) ∧
 True)))))))))))))))))))))) ∧
 ((Qb ∧
 (Qb ∧
 (Qb ∧
 (Qu ∧
 (Qu ∧
 ((bcase (n11 != 0)
 Qb
 Qft) ∧
 ((Qv (vI n11)) ∧
 (Qb ∧
 ((bcase (n14 == 0)
 Qb
 Qft) ∧
 ((Qv (vI n14)) ∧
 (Qf ∧
 (Qf ∧
 (Qf ∧
 ((bcase (if Bool.true = Bool.true then !(n9 == 0 && (n10 == 0 && Bool.true)) else n9 == 0 && (n10 == 0 && Bool.true))
 Qtf
 Qf) ∧
 ((Qv (Value.agg [(vI 0), (vI 0)].toArray)) ∧
 ((Qv (Value.agg [(vI n9), (vI n10)].toArray)) ∧
 (Qf ∧
 ((bcase (n11 != n14)
 Qtf
 Qf) ∧
 ((Qv (vI n14)) ∧
 ((Qv (vI n11)) ∧
 (Qb ∧
 ((bcase (n14 != 0)
 Qb
 Qft) ∧
 ((Qv (vI n14)) ∧
 True))))))))))))))))))))))) ∧
 (k kF)))
 (((Qv (Value.agg [(Value.string (s8)), (Value.slice none 0 0)].toArray)) ∧
 ((Qv (Value.agg [(Sl 500 (n0) (c0)), (vI x1), (vI x2), (vI x3), (vI x4), (vI x5)].toArray)) ∧
 ((Qv (Value.agg [(vI n9), (vI n10)].toArray)) ∧
 (Qf ∧
 ((bcase (n11 != 0)
 Qtf
 Qf) ∧
 ((Qv (vI n11)) ∧
 (Qb ∧
 ((bcase (n14 == 0)
 Qb
 Qft) ∧
 ((Qv (vI n14)) ∧
 (Qf ∧
 (Qf ∧
 (Qf ∧
 ((bcase (if Bool.true = Bool.true then !(n9 == 0 && (n10 == 0 && Bool.true)) else n9 == 0 && (n10 == 0 && Bool.true))
 Qtf
 Qf) ∧
 ((Qv (Value.agg [(vI 0), (vI 0)].toArray)) ∧
 ((Qv (Value.agg [(vI n9), (vI n10)].toArray)) ∧
 (Qf ∧
 ((bcase (n11 != n14)
 Qtf
 Qf) ∧
 ((Qv (vI n14)) ∧
 ((Qv (vI n11)) ∧
 (Qb ∧
 ((bcase (n14 != 0)
 Qb
 Qft) ∧
 ((Qv (vI n14)) ∧
 True)))))))))))))))))))))) ∧
 (bcase (dL n0 2 l0)
 (∃ n15 : Int,
 (∃ n16 : Int,
 ((Says C 16 [(D.agg [(Dw n0 2 l0), (dI x1), (dI x2), (dI x3), (dI x4), (dI x5)]), (D.agg [(D.val (Value.string (s8))), D.nil])] [(D.agg [(dI n15), (dI n16)])]) ∧
 (bcase (if Bool.true = Bool.true then !(n9 == n15 && (n10 == n16 && Bool.true)) else n9 == n15 && (n10 == n16 && Bool.true))
 ((Qb ∧
 (Qb ∧
 (Qb ∧
 ((bcase (if Bool.true = Bool.true then !(n9 == n15 && (n10 == n16 && Bool.true)) else n9 == n15 && (n10 == n16 && Bool.true))
 Qb
 Qft) ∧
 ((Qv (Value.agg [(vI n9), (vI n10)].toArray)) ∧
 ((bcase (n11 != 0)
 Qtf
 Qf) ∧
 ((Qv (vI n11)) ∧
 (Qb ∧
 ((bcase (n14 == 0)
 Qb
 Qft) ∧
 ((Qv (vI n14)) ∧
 (Qf ∧
 (Qf ∧
 (Qf ∧
 ((bcase (if Bool.true = Bool.true then !(n9 == 0 && (n10 == 0 && Bool.true)) else n9 == 0 && (n10 == 0 && Bool.true))
 Qtf
 Qf) ∧
 ((Qv (Value.agg [(vI 0), (vI 0)].toArray)) ∧
 ((Qv (Value.agg [(vI n9), (vI n10)].toArray)) ∧
 (Qf ∧
 ((bcase (n11 != n14)
 Qtf
 Qf) ∧
 ((Qv (vI n14)) ∧
 ((Qv (vI n11)) ∧
 (Qb ∧
 ((bcase (n14 != 0)
 Qb
 Qft) ∧
 ((Qv (vI n14)) ∧
 True))))))))))))))))))))))) ∧
 (k kF))
 ((Qf ∧
 (Qf ∧
 (Qf ∧
 ((bcase (if Bool.true = Bool.true then !(n9 == n15 && (n10 == n16 && Bool.true)) else n9 == n15 && (n10 == n16 && Bool.true))
 Qtf
 Qf) ∧
 ((Qv (Value.agg [(vI n9), (vI n10)].toArray)) ∧
 ((bcase (n11 != 0)
 Qtf
 Qf) ∧
 ((Qv (vI n11)) ∧
 (Qb ∧
 ((bcase (n14 == 0)
 Qb
 Qft) ∧
 ((Qv (vI n14)) ∧
 (Qf ∧
 (Qf ∧
 (Qf ∧
 ((bcase (if Bool.true = Bool.true then !(n9 == 0 && (n10 == 0 && Bool.true)) else n9 == 0 && (n10 == 0 && Bool.true))
 Qtf
 Qf) ∧
 ((Qv (Value.agg [(vI 0), (vI 0)].toArray)) ∧
 ((Qv (Value.agg [(vI n9), (vI n10)].toArray)) ∧
 (Qf ∧
 ((bcase (n11 != n14)
 Qtf
 Qf) ∧
 ((Qv (vI n14)) ∧
 ((Qv (vI n11)) ∧
 (Qb ∧
 ((bcase (n14 != 0)
 Qb
 Qft) ∧
 ((Qv (vI n14)) ∧
 True))))))))))))))))))))))) ∧
 (bcase (dL n0 2 l0)
 (∃ n17 : Int,
 ((Says C 17 [(D.agg [(Dw n0 2 l0), (dI x1), (dI x2), (dI x3), (dI x4), (dI x5)]), (D.agg [(dI x6), (dI x7)])] [(dI n17)]) ∧
 (bcase (n17 != 0)
 (bcase (n17 != 0)
 (bcase (n5 == n17)
 (bcase (n8 == n17)
 (bcase (if Bool.false = Bool.true then !(n3 == 0 && (n4 == 0 && Bool.true)) else n3 == 0 && (n4 == 0 && Bool.true))
 (bcase (if Bool.false = Bool.true then !(n6 == 0 && (n7 == 0 && Bool.true)) else n6 == 0 && (n7 == 0 && Bool.true))
 (k kT)
 (k kF))
 (k kF))
 (k kF))
 (k kF))
 (bcase (dL n0 2 l0)
 (∃ n18 : Int,
 (∃ n19 : Int,
 (((Says C 18 [(D.agg [(Dw n0 2 l0), (dI x1), (dI x2), (dI x3), (dI x4), (dI x5)]), (D.agg [(dI x6), (dI x7)]), (D.agg [(D.val (Value.string (s8))), D.nil])] [(D.agg [(dI n18), (dI n19)]), (D.val (Value.bool true))]) ∧
 (bcase (n5 != 0)
 (k kF)
 (bcase (if Bool.true = Bool.true then !(n3 == n18 && (n4 == n19 && Bool.true)) else n3 == n18 && (n4 == n19 && Bool.true))
 (k kF)
 (bcase (dL n0 2 l0)
 (∃ n20 : Int,
 (∃ n21 : Int,
 (((Says C 19 [(D.agg [(Dw n0 2 l0), (dI x1), (dI x2), (dI x3), (dI x4), (dI x5)]), (D.agg [(dI x6), (dI x7)]), (D.agg [(D.val (Value.string (s8))), D.nil])] [(D.agg [(dI n20), (dI n21)]), (D.val (Value.bool true))]) ∧
 (bcase (n8 == 0)
 (bcase (if Bool.false = Bool.true then !(n6 == n20 && (n7 == n21 && Bool.true)) else n6 == n20 && (n7 == n21 && Bool.true))
 (k kT)
 (k kF))
 (k kF))) ∨
 ((Says C 19 [(D.agg [(Dw n0 2 l0), (dI x1), (dI x2), (dI x3), (dI x4), (dI x5)]), (D.agg [(dI x6), (dI x7)]), (D.agg [(D.val (Value.string (s8))), D.nil])] [(D.agg [(dI n20), (dI n21)]), (D.val (Value.bool false))]) ∧
 (bcase (n8 == 8)
 (bcase (if Bool.false = Bool.true then !(n6 == 0 && (n7 == 0 && Bool.true)) else n6 == 0 && (n7 == 0 && Bool.true))
 (k kT)
 (k kF))
 (k kF))))))
 False)))) ∨
 ((Says C 18 [(D.agg [(Dw n0 2 l0), (dI x1), (dI x2), (dI x3), (dI x4), (dI x5)]), (D.agg [(dI x6), (dI x7)]), (D.agg [(D.val (Value.string (s8))), D.nil])] [(D.agg [(dI n18), (dI n19)]), (D.val (Value.bool false))]) ∧
 (bcase (n5 != 8)
 (k kF)
 (bcase (if Bool.true = Bool.true then !(n3 == 0 && (n4 == 0 && Bool.true)) else n3 == 0 && (n4 == 0 && Bool.true))
 (k kF)
 (bcase (dL n0 2 l0)
 (∃ n20 : Int,
 (∃ n21 : Int,
 (((Says C 19 [(D.agg [(Dw n0 2 l0), (dI x1), (dI x2), (dI x3), (dI x4), (dI x5)]), (D.agg [(dI x6), (dI x7)]), (D.agg [(D.val (Value.string (s8))), D.nil])] [(D.agg [(dI n20), (dI n21)]), (D.val (Value.bool true))]) ∧
 (bcase (n8 == 0)
 (bcase (if Bool.false = Bool.true then !(n6 == n20 && (n7 == n21 && Bool.true)) else n6 == n20 && (n7 == n21 && Bool.true))
 (k kT)
 (k kF))
 (k kF))) ∨
 ((Says C 19 [(D.agg [(Dw n0 2 l0), (dI x1), (dI x2), (dI x3), (dI x4), (dI x5)]), (D.agg [(dI x6), (dI x7)]), (D.agg [(D.val (Value.string (s8))), D.nil])] [(D.agg [(dI n20), (dI n21)]), (D.val (Value.bool false))]) ∧
 (bcase (n8 == 8)
 (bcase (if Bool.false = Bool.true then !(n6 == 0 && (n7 == 0 && Bool.true)) else n6 == 0 && (n7 == 0 && Bool.true))
 (k kT)
 (k kF))
 (k kF))))))
 False)))))))
 False))
 (bcase (n14 != 0)
 (bcase (n5 == n14)
 (bcase (n8 == n14)
 (bcase (if Bool.false = Bool.true then !(n3 == 0 && (n4 == 0 && Bool.true)) else n3 == 0 && (n4 == 0 && Bool.true))
 (bcase (if Bool.false = Bool.true then !(n6 == 0 && (n7 == 0 && Bool.true)) else n6 == 0 && (n7 == 0 && Bool.true))
 (k kT)
 (k kF))
 (k kF))
 (k kF))
 (k kF))
 (bcase (dL n0 2 l0)
 (∃ n18 : Int,
 (∃ n19 : Int,
 (((Says C 18 [(D.agg [(Dw n0 2 l0), (dI x1), (dI x2), (dI x3), (dI x4), (dI x5)]), (D.agg [(dI x6), (dI x7)]), (D.agg [(D.val (Value.string (s8))), D.nil])] [(D.agg [(dI n18), (dI n19)]), (D.val (Value.bool true))]) ∧
 (bcase (n5 != 0)
 (k kF)
 (bcase (if Bool.true = Bool.true then !(n3 == n18 && (n4 == n19 && Bool.true)) else n3 == n18 && (n4 == n19 && Bool.true))
 (k kF)
 (bcase (dL n0 2 l0)
 (∃ n20 : Int,
 (∃ n21 : Int,
 (((Says C 19 [(D.agg [(Dw n0 2 l0), (dI x1), (dI x2), (dI x3), (dI x4), (dI x5)]), (D.agg [(dI x6), (dI x7)]), (D.agg [(D.val (Value.string (s8))), D.nil])] [(D.agg [(dI n20), (dI n21)]), (D.val (Value.bool true))]) ∧
 (bcase (n8 == 0)
 (bcase (if Bool.false = Bool.true then !(n6 == n20 && (n7 == n21 && Bool.true)) else n6 == n20 && (n7 == n21 && Bool.true))
 (k kT)
 (k kF))
 (k kF))) ∨
 ((Says C 19 [(D.agg [(Dw n0 2 l0), (dI x1), (dI x2), (dI x3), (dI x4), (dI x5)]), (D.agg [(dI x6), (dI x7)]), (D.agg [(D.val (Value.string (s8))), D.nil])] [(D.agg [(dI n20), (dI n21)]), (D.val (Value.bool false))]) ∧
 (bcase (n8 == 8)
 (bcase (if Bool.false = Bool.true then !(n6 == 0 && (n7 == 0 && Bool.true)) else n6 == 0 && (n7 == 0 && Bool.true))
 (k kT)
 (k kF))
 (k kF))))))
 False)))) ∨
 ((Says C 18 [(D.agg [(Dw n0 2 l0), (dI x1), (dI x2), (dI x3), (dI x4), (dI x5)]), (D.agg [(dI x6), (dI x7)]), (D.agg [(D.val (Value.string (s8))), D.nil])] [(D.agg [(dI n18), (dI n19)]), (D.val (Value.bool false))]) ∧
 (bcase (n5 != 8)
 (k kF)
 (bcase (if Bool.true = Bool.true then !(n3 == 0 && (n4 == 0 && Bool.true)) else n3 == 0 && (n4 == 0 && Bool.true))
 (k kF)
 (bcase (dL n0 2 l0)
 (∃ n20 : Int,
 (∃ n21 : Int,
 (((Says C 19 [(D.agg [(Dw n0 2 l0), (dI x1), (dI x2), (dI x3), (dI x4), (dI x5)]), (D.agg [(dI x6), (dI x7)]), (D.agg [(D.val (Value.string (s8))), D.nil])] [(D.agg [(dI n20), (dI n21)]), (D.val (Value.bool true))]) ∧
 (bcase (n8 == 0)
 (bcase (if Bool.false = Bool.true then !(n6 == n20 && (n7 == n21 && Bool.true)) else n6 == n20 && (n7 == n21 && Bool.true))
 (k kT)
 (k kF))
 (k kF))) ∨
 ((Says C 19 [(D.agg [(Dw n0 2 l0), (dI x1), (dI x2), (dI x3), (dI x4), (dI x5)]), (D.agg [(dI x6), (dI x7)]), (D.agg [(D.val (Value.string (s8))), D.nil])] [(D.agg [(dI n20), (dI n21)]), (D.val (Value.bool false))]) ∧
 (bcase (n8 == 8)
 (bcase (if Bool.false = Bool.true then !(n6 == 0 && (n7 == 0 && Bool.true)) else n6 == 0 && (n7 == 0 && Bool.true))
 (k kT)
 (k kF))
 (k kF))))))
 False)))))))
 False)))))
 False))))))
 False)))
 ((Qu ∧
 (Qu ∧
 (Qu ∧
 (Qu ∧
 (Qu ∧
 (Qu ∧
 (Qf ∧
 ((bcase (n14 == 0)
 Qtf
 Qf) ∧
 ((Qv (vI n14)) ∧
 (Qf ∧
 (Qf ∧
 (Qf ∧
 ((bcase (if Bool.true = Bool.true then !(n9 == 0 && (n10 == 0 && Bool.true)) else n9 == 0 && (n10 == 0 && Bool.true))
 Qtf
 Qf) ∧
 ((Qv (Value.agg [(vI 0), (vI 0)].toArray)) ∧
 ((Qv (Value.agg [(vI n9), (vI n10)].toArray)) ∧
 (Qf ∧
 ((bcase (n11 != n14)
 Qtf
 Qf) ∧
 ((Qv (vI n14)) ∧
 ((Qv (vI n11)) ∧
 (Qb ∧
 ((bcase (n14 != 0)
 Qb
 Qft) ∧
 ((Qv (vI n14)) ∧
 True)))))))))))))))))))))) ∧
 ((Qf ∧
 (Qf ∧
 (Qu ∧
 (Qu ∧
 (Qu ∧
 (Qu ∧
 (Qu ∧
 (Qf ∧
 ((bcase (n14 == 0)
 Qtf
 Qf) ∧
 ((Qv (vI n14)) ∧
 (Qf ∧
 (Qf ∧
 (Qf ∧
 ((bcase (if Bool.true = Bool.true then !(n9 == 0 && (n10 == 0 && Bool.true)) else n9 == 0 && (n10 == 0 && Bool.true))
 Qtf
 Qf) ∧
 ((Qv (Value.agg [(vI 0), (vI 0)].toArray)) ∧
 ((Qv (Value.agg [(vI n9), (vI n10)].toArray)) ∧
 (Qf ∧
 ((bcase (n11 != n14)
 Qtf
 Qf) ∧
 ((Qv (vI n14)) ∧
 ((Qv (vI n11)) ∧
 (Qb ∧
 ((bcase (n14 != 0)
 Qb
 Qft) ∧
 ((Qv (vI n14)) ∧
 True))))))))))))))))))))))) ∧
 (bcase (dL n0 2 l0)
 (∃ n15 : Int,
 ((Says C 17 [(D.agg [(Dw n0 2 l0), (dI x1), (dI x2), (dI x3), (dI x4), (dI x5)]), (D.agg [(dI x6), (dI x7)])] [(dI n15)]) ∧
 (bcase (n15 != 0)
 (bcase (n15 != 0)
 (bcase (n5 == n15)
 (bcase (n8 == n15)
 (bcase (if Bool.false = Bool.true then !(n3 == 0 && (n4 == 0 && Bool.true)) else n3 == 0 && (n4 == 0 && Bool.true))
 (bcase (if Bool.false = Bool.true then !(n6 == 0 && (n7 == 0 && Bool.true)) else n6 == 0 && (n7 == 0 && Bool.true))
 (k kT)
 (k kF))
 (k kF))
 (k kF))
 (k kF))
 (bcase (dL n0 2 l0)
 (∃ n16 : Int,
 (∃ n17 : Int,
 (((Says C 18 [(D.agg [(Dw n0 2 l0), (dI x1), (dI x2), (dI x3), (dI x4), (dI x5)]), (D.agg [(dI x6), (dI x7)]), (D.agg [(D.val (Value.string (s8))), D.nil])] [(D.agg [(dI n16), (dI n17)]), (D.val (Value.bool true))]) ∧
 (bcase (n5 != 0)
 (k kF)
 (bcase (if Bool.true = Bool.true then !(n3 == n16 && (n4 == n17 && Bool.true)) else n3 == n16 && (n4 == n17 && Bool.true))
 (k kF)
 (bcase (dL n0 2 l0)
 (∃ n18 : Int,
 (∃ n19 : Int,
 (((Says C 19 [(D.agg [(Dw n0 2 l0), (dI x1), (dI x2), (dI x3), (dI x4), (dI x5)]), (D.agg [(dI x6), (dI x7)]), (D.agg [(D.val (Value.string (s8))), D.nil])] [(D.agg [(dI n18), (dI n19)]), (D.val (Value.bool true))]) ∧
 (bcase (n8 == 0)
 (bcase (if Bool.false = Bool.true then !(n6 == n18 && (n7 == n19 && Bool.true)) else n6 == n18 && (n7 == n19 && Bool.true))
 (k kT)
 (k kF))
 (k kF))) ∨
 ((Says C 19 [(D.agg [(Dw n0 2 l0), (dI x1), (dI x2), (dI x3), (dI x4), (dI x5)]), (D.agg [(dI x6), (dI x7)]), (D.agg [(D.val (Value.string (s8))), D.nil])] [(D.agg [(dI n18), (dI n19)]), (D.val (Value.bool false))]) ∧
 (bcase (n8 == 8)
 (bcase (if Bool.false = Bool.true then !(n6 == 0 && (n7 == 0 && Bool.true)) else n6 == 0 && (n7 == 0 && Bool.true))
 (k kT)
 (k kF))
 (k kF))))))
 False)))) ∨
 ((Says C 18 [(D.agg [(Dw n0 2 l0), (dI x1), (dI x2), (dI x3), (dI x4), (dI x5)]), (D.agg [(dI x6), (dI x7)]), (D.agg [(D.val (Value.string (s8))), D.nil])] [(D.agg [(dI n16), (dI n17)]), (D.val (Value.bool false))]) ∧
 (bcase (n5 != 8)
 (k kF)
 (bcase (if Bool.true = Bool.true then !(n3 == 0 && (n4 == 0 && Bool.true)) else n3 == 0 && (n4 == 0 && Bool.true))
 (k kF)
 (bcase (dL n0 2 l0)
 (∃ n18 : Int,
 (∃ n19 : Int,
 (((Says C 19 [(D.agg [(Dw n0 2 l0), (dI x1), (dI x2), (dI x3), (dI x4), (dI x5)]), (D.agg [(dI x6), (dI x7)]), (D.agg [(D.val (Value.string (s8))), D.nil])] [(D.agg [(dI n18), (dI n19)]), (D.val (Value.bool true))]) ∧
 (bcase (n8 == 0)
 (bcase (if Bool.false = Bool.true then !(n6 == n18 && (n7 == n19 && Bool.true)) else n6 == n18 && (n7 == n19 && Bool.true))
 (k kT)
 (k kF))
 (k kF))) ∨
 ((Says C 19 [(D.agg [(Dw n0 2 l0), (dI x1), (dI x2), (dI x3), (dI x4), (dI x5)]), (D.agg [(dI x6), (dI x7)]), (D.agg [(D.val (Value.string (s8))), D.nil])] [(D.agg [(dI n18), (dI n19)]), (D.val (Value.bool false))]) ∧
 (bcase (n8 == 8)
 (bcase (if Bool.false = Bool.true then !(n6 == 0 && (n7 == 0 && Bool.true)) else n6 == 0 && (n7 == 0 && Bool.true))
 (k kT)
 (k kF))
 (k kF))))))
 False)))))))
 False))
 (bcase (n14 != 0)
 (bcase (n5 == n14)
 (bcase (n8 == n14)
 (bcase (if Bool.false = Bool.true then !(n3 == 0 && (n4 == 0 && Bool.true)) else n3 == 0 && (n4 == 0 && Bool.true))
 (bcase (if Bool.false = Bool.true then !(n6 == 0 && (n7 == 0 && Bool.true)) else n6 == 0 && (n7 == 0 && Bool.true))
 (k kT)
 (k kF))
 (k kF))
 (k kF))
 (k kF))
 (bcase (dL n0 2 l0)
 (∃ n16 : Int,
 (∃ n17 : Int,
 (((Says C 18 [(D.agg [(Dw n0 2 l0), (dI x1), (dI x2), (dI x3), (dI x4), (dI x5)]), (D.agg [(dI x6), (dI x7)]), (D.agg [(D.val (Value.string (s8))), D.nil])] [(D.agg [(dI n16), (dI n17)]), (D.val (Value.bool true))]) ∧
 (bcase (n5 != 0)
 (k kF)
 (bcase (if Bool.true = Bool.true then !(n3 == n16 && (n4 == n17 && Bool.true)) else n3 == n16 && (n4 == n17 && Bool.true))
 (k kF)
 (bcase (dL n0 2 l0)
 (∃ n18 : Int,
 (∃ n19 : Int,
 (((Says C 19 [(D.agg [(Dw n0 2 l0), (dI x1), (dI x2), (dI x3), (dI x4), (dI x5)]), (D.agg [(dI x6), (dI x7)]), (D.agg [(D.val (Value.string (s8))), D.nil])] [(D.agg [(dI n18), (dI n19)]), (D.val (Value.bool true))]) ∧
 (bcase (n8 == 0)
 (bcase (if Bool.false = Bool.true then !(n6 == n18 && (n7 == n19 && Bool.true)) else n6 == n18 && (n7 == n19 && Bool.true))
 (k kT)
 (k kF))
 (k kF))) ∨
 ((Says C 19 [(D.agg [(Dw n0 2 l0), (dI x1), (dI x2), (dI x3), (dI x4), (dI x5)]), (D.agg [(dI x6), (dI x7)]), (D.agg [(D.val (Value.string (s8))), D.nil])] [(D.agg [(dI n18), (dI n19)]), (D.val (Value.bool false))]) ∧
 (bcase (n8 == 8)
 (bcase (if Bool.false = Bool.true then !(n6 == 0 && (n7 == 0 && Bool.true)) else n6 == 0 && (n7 == 0 && Bool.true))
 (k kT)
 (k kF))
 (k kF))))))
 False)))) ∨
 ((Says C 18 [(D.agg [(Dw n0 2 l0), (dI x1), (dI x2), (dI x3), (dI x4), (dI x5)]), (D.agg [(dI x6), (dI x7)]), (D.agg [(D.val (Value.string (s8))), D.nil])] [(D.agg [(dI n16), (dI n17)]), (D.val (Value.bool false))]) ∧
 (bcase (n5 != 8)
 (k kF)
 (bcase (if Bool.true = Bool.true then !(n3 == 0 && (n4 == 0 && Bool.true)) else n3 == 0 && (n4 == 0 && Bool.true))
 (k kF)
 (bcase (dL n0 2 l0)
 (∃ n18 : Int,
 (∃ n19 : Int,
 (((Says C 19 [(D.agg [(Dw n0 2 l0), (dI x1), (dI x2), (dI x3), (dI x4), (dI x5)]), (D.agg [(dI x6), (dI x7)]), (D.agg [(D.val (Value.string (s8))), D.nil])] [(D.agg [(dI n18), (dI n19)]), (D.val (Value.bool true))]) ∧
 (bcase (n8 == 0)
 (bcase (if Bool.false = Bool.true then !(n6 == n18 && (n7 == n19 && Bool.true)) else n6 == n18 && (n7 == n19 && Bool.true))
 (k kT)
 (k kF))
 (k kF))) ∨
 ((Says C 19 [(D.agg [(Dw n0 2 l0), (dI x1), (dI x2), (dI x3), (dI x4), (dI x5)]), (D.agg [(dI x6), (dI x7)]), (D.agg [(D.val (Value.string (s8))), D.nil])] [(D.agg [(dI n18), (dI n19)]), (D.val (Value.bool false))]) ∧
 (bcase (n8 == 8)
 (bcase (if Bool.false = Bool.true then !(n6 == 0 && (n7 == 0 && Bool.true)) else n6 == 0 && (n7 == 0 && Bool.true))
 (k kT)
 (k kF))
 (k kF))))))
 False)))))))
 False)))))
 False))))))
 (bcase (n14 == 0)
 (bcase (n11 != 0)
 ((Qu ∧
 (Qu ∧
 (Qu ∧
 (Qb ∧
 ((bcase (n11 != 0)
 Qb
 Qft) ∧
 ((Qv (vI n11)) ∧
 (Qb ∧
 ((bcase (n14 == 0)
 Qb
 Qft) ∧
 ((Qv (vI n14)) ∧
 (Qf ∧
 (Qf ∧
 (Qu ∧
 (Qu ∧
 (Qu ∧
 (Qu ∧
 (Qu ∧
 (Qu ∧
 (Qu ∧
 (Qu ∧
 (Qf ∧
 ((bcase (n14 != 0)
 Qtf
 Qf) ∧
 ((Qv (vI n14)) ∧
 True)))))))))))))))))))))) ∧
 ((Qb ∧
 (Qb ∧
 (Qb ∧
 (Qu ∧
 (Qu ∧
 ((bcase (n11 != 0)
 Qb
 Qft) ∧
 ((Qv (vI n11)) ∧
 (Qb ∧
 ((bcase (n14 == 0)
 Qb
 Qft) ∧
 ((Qv (vI n14)) ∧
 (Qf ∧
 (Qf ∧
 (Qu ∧
 (Qu ∧
 (Qu ∧
 (Qu ∧
 (Qu ∧
 (Qu ∧
 (Qu ∧
 (Qu ∧
 (Qf ∧
 ((bcase (n14 != 0)
 Qtf
 Qf) ∧
 ((Qv (vI n14)) ∧
 True))))))))))))))))))))))) ∧
 (k kF)))
 (((Qv (Value.agg [(Value.string (s8)), (Value.slice none 0 0)].toArray)) ∧
 ((Qv (Value.agg [(Sl 500 (n0) (c0)), (vI x1), (vI x2), (vI x3), (vI x4), (vI x5)].toArray)) ∧
 ((Qv (Value.agg [(vI n9), (vI n10)].toArray)) ∧
 (Qf ∧
 ((bcase (n11 != 0)
 Qtf
 Qf) ∧
 ((Qv (vI n11)) ∧
 (Qb ∧
 ((bcase (n14 == 0)
 Qb
 Qft) ∧
 ((Qv (vI n14)) ∧
 (Qf ∧
 (Qf ∧
 (Qu ∧
 (Qu ∧
 (Qu ∧
 (Qu ∧
 (Qu ∧
 (Qu ∧
 (Qu ∧
 (Qu ∧
 (Qf ∧
 ((bcase (n14 != 0)
 Qtf
 Qf) ∧
 ((Qv (vI n14)) ∧
 True)))))))))))))))))))))) ∧
 (bcase (dL n0 2 l0)
 (∃ n15 : Int,
 (∃ n16 : Int,
 ((Says C 16 [(D.agg [(Dw n0 2 l0), (dI x1), (dI x2), (dI x3), (dI x4), (dI x5)]), (D.agg [(D.val (Value.string (s8))), D.nil])] [(D.agg [(dI n15), (dI n16)])]) ∧
 (bcase (if Bool.true = Bool.true then !(n9 == n15 && (n10 == n16 && Bool.true)) else n9 == n15 && (n10 == n16 && Bool.true))
 ((Qb ∧
 (Qb ∧
 (Qb ∧
 ((bcase (if Bool.true = Bool.true then !(n9 == n15 && (n10 == n16 && Bool.true)) else n9 == n15 && (n10 == n16 && Bool.true))
 Qb
 Qft) ∧
 ((Qv (Value.agg [(vI n9), (vI n10)].toArray)) ∧
 ((bcase (n11 != 0)
 Qtf
 Qf) ∧
 ((Qv (vI n11)) ∧
 (Qb ∧
 ((bcase (n14 == 0)
 Qb
 Qft) ∧
 ((Qv (vI n14)) ∧
 (Qf ∧
 (Qf ∧
 (Qu ∧
 (Qu ∧
 (Qu ∧
 (Qu ∧
 (Qu ∧
 (Qu ∧
 (Qu ∧
 (Qu ∧
 (Qf ∧
 ((bcase (n14 != 0)
 Qtf
 Qf) ∧
 ((Qv (vI n14)) ∧
 True))))))))))))))))))))))) ∧
 (k kF))
 ((Qf ∧
 (Qf ∧
 (Qf ∧
 ((bcase (if Bool.true = Bool.true then !(n9 == n15 && (n10 == n16 && Bool.true)) else n9 == n15 && (n10 == n16 && Bool.true))
 Qtf
 Qf) ∧
 ((Qv (Value.agg [(vI n9), (vI n10)].toArray)) ∧
 ((bcase (n11 != 0)
 Qtf
 Qf) ∧
 ((Qv (vI n11)) ∧
 (Qb ∧
 ((bcase (n14 == 0)
 Qb
 Qft) ∧
 ((Qv (vI n14)) ∧
 (Qf ∧
 (Qf ∧
 (Qu ∧
 (Qu ∧
 (Qu ∧
 (Qu ∧
 (Qu ∧
 (Qu ∧
 (Qu ∧
 (Qu ∧
 (Qf ∧
 ((bcase (n14 != 0)
 Qtf
 Qf) ∧
 ((Qv (vI n14)) ∧
 True))))))))))))))))))))))) ∧
 (bcase (dL n0 2 l0)
 (∃ n17 : Int,
 ((Says C 17 [(D.agg [(Dw n0 2 l0), (dI x1), (dI x2), (dI x3), (dI x4), (dI x5)]), (D.agg [(dI x6), (dI x7)])] [(dI n17)]) ∧
 (bcase (n17 != 0)
 (bcase (n17 != 0)
 (bcase (n5 == n17)
 (bcase (n8 == n17)
 (bcase (if Bool.false = Bool.true then !(n3 == 0 && (n4 == 0 && Bool.true)) else n3 == 0 && (n4 == 0 && Bool.true))
 (bcase (if Bool.false = Bool.true then !(n6 == 0 && (n7 == 0 && Bool.true)) else n6 == 0 && (n7 == 0 && Bool.true))
 (k kT)
 (k kF))
 (k kF))
 (k kF))
 (k kF))
 (bcase (dL n0 2 l0)
 (∃ n18 : Int,
 (∃ n19 : Int,
 (((Says C 18 [(D.agg [(Dw n0 2 l0), (dI x1), (dI x2), (dI x3), (dI x4), (dI x5)]), (D.agg [(dI x6), (dI x7)]), (D.agg [(D.val (Value.string (s8))), D.nil])] [(D.agg [(dI n18), (dI n19)]), (D.val (Value.bool true))]) ∧
 (bcase (n5 != 0)
 (k kF)
 (bcase (if Bool.true = Bool.true then !(n3 == n18 && (n4 == n19 && Bool.true)) else n3 == n18 && (n4 == n19 && Bool.true))
 (k kF)
 (bcase (dL n0 2 l0)
 (∃ n20 : Int,
 (∃ n21 : Int,
 (((Says C 19 [(D.agg [(Dw n0 2 l0), (dI x1), (dI x2), (dI x3), (dI x4), (dI x5)]), (D.agg [(dI x6), (dI x7)]), (D.agg [(D.val (Value.string (s8))), D.nil])] [(D.agg [(dI n20), (dI n21)]), (D.val (Value.bool true))]) ∧
 (bcase (n8 == 0)
 (bcase (if Bool.false = Bool.true then !(n6 == n20 && (n7 == n21 && Bool.true)) else n6 == n20 && (n7 == n21 && Bool.true))
 (k kT)
 (k kF))
 (k kF))) ∨
 ((Says C 19 [(D.agg [(Dw n0 2 l0), (dI x1), (dI x2), (dI x3), (dI x4), (dI x5)]), (D.agg [(dI x6), (dI x7)]), (D.agg [(D.val (Value.string (s8))), D.nil])] [(D.agg [(dI n20), (dI n21)]), (D.val (Value.bool false))]) ∧
 (bcase (n8 == 8)
 (bcase (if Bool.false = Bool.true then !(n6 == 0 && (n7 == 0 && Bool.true)) else n6 == 0 && (n7 == 0 && Bool.true))
 (k kT)
 (k kF))
 (k kF))))))
 False)))) ∨
 ((Says C 18 [(D.agg [(Dw n0 2 l0), (dI x1), (dI x2), (dI x3), (dI x4), (dI x5)]), (D.agg [(dI x6), (dI x7)]), (D.agg [(D.val (Value.string (s8))), D.nil])] [(D.agg [(dI n18), (dI n19)]), (D.val (Value.bool false))]) ∧
 (bcase (n5 != 8)
 (k kF)
 (bcase (if Bool.true = Bool.true then !(n3 == 0 && (n4 == 0 && Bool.true)) else n3 == 0 && (n4 == 0 && Bool.true))
 (k kF)
 (bcase (dL n0 2 l0)
 (∃ n20 : Int,
 (∃ n21 : Int,
 (((Says C 19 [(D.agg [(Dw n0 2 l0), (dI x1), (dI x2), (dI x3), (dI x4), (dI x5)]), (D.agg [(dI x6), (dI x7)]), (D.agg [(D.val (Value.string (s8))), D.nil])] [(D.agg [(dI n20), (dI n21)]), (D.val (Value.bool true))]) ∧
 (bcase (n8 == 0)
 (bcase (if Bool.false = Bool.true then !(n6 == n20 && (n7 == n21 && Bool.true)) else n6 == n20 && (n7 == n21 && Bool.true))
 (k kT)
 (k kF))
 (k kF))) ∨
 ((Says C 19 [(D.agg [(Dw n0 2 l0), (dI x1), (dI x2), (dI x3), (dI x4), (dI x5)]), (D.agg [(dI x6), (dI x7)]), (D.agg [(D.val (Value.string (s8))), D.nil])] [(D.agg [(dI n20), (dI n21)]), (D.val (Value.bool false))]) ∧
 (bcase (n8 == 8)
 (bcase (if Bool.false = Bool.true then !(n6 == 0 && (n7 == 0 && Bool.true)) else n6 == 0 && (n7 == 0 && Bool.true))
 (k kT)
 (k kF))
 (k kF))))))
 False)))))))
 False))
 (bcase (n14 != 0)
 (bcase (n5 == n14)
 (bcase (n8 == n14)
 (bcase (if Bool.false = Bool.true then !(n3 == 0 && (n4 == 0 && Bool.true)) else n3 == 0 && (n4 == 0 && Bool.true))
 (bcase (if Bool.false = Bool.true then !(n6 == 0 && (n7 == 0 && Bool.true)) else n6 == 0 && (n7 == 0 && Bool.true))
 (k kT)
 (k kF))
 (k kF))
 (k kF))
 (k kF))
 (bcase (dL n0 2 l0)
 (∃ n18 : Int,
 (∃ n19 : Int,
 (((Says C 18 [(D.agg [(Dw n0 2 l0), (dI x1), (dI x2), (dI x3), (dI x4), (dI x5)]), (D.agg [(dI x6), (dI x7)]), (D.agg [(D.val (Value.string (s8))), D.nil])] [(D.agg [(dI n18), (dI n19)]), (D.val (Value.bool true))]) ∧
 (bcase (n5 != 0)
 (k kF)
 (bcase (if Bool.true = Bool.true then !(n3 == n18 && (n4 == n19 && Bool.true)) else n3 == n18 && (n4 == n19 && Bool.true))
 (k kF)
 (bcase (dL n0 2 l0)
 (∃ n20 : Int,
 (∃ n21 : Int,
 (((Says C 19 [(D.agg [(Dw n0 2 l0), (dI x1), (dI x2), (dI x3), (dI x4), (dI x5)]), (D.agg [(dI x6), (dI x7)]), (D.agg [(D.val (Value.string (s8))), D.nil])] [(D.agg [(dI n20), (dI n21)]), (D.val (Value.bool true))]) ∧
 (bcase (n8 == 0)
 (bcase (if Bool.false = Bool.true then !(n6 == n20 && (n7 == n21 && Bool.true)) else n6 == n20 && (n7 == n21 && Bool.true))
 (k kT)
 (k kF))
 (k kF))) ∨
 ((Says C 19 [(D.agg [(Dw n0 2 l0), (dI x1), (dI x2), (dI x3), (dI x4), (dI x5)]), (D.agg [(dI x6), (dI x7)]), (D.agg [(D.val (Value.string (s8))), D.nil])] [(D.agg [(dI n20), (dI n21)]), (D.val (Value.bool false))]) ∧
 (bcase (n8 == 8)
 (bcase (if Bool.false = Bool.true then !(n6 == 0 && (n7 == 0 && Bool.true)) else n6 == 0 && (n7 == 0 && Bool.true))
 (k kT)
 (k kF))
 (k kF))))))
 False)))) ∨
 ((Says C 18 [(D.agg [(Dw n0 2 l0), (dI x1), (dI x2), (dI x3), (dI x4), (dI x5)]), (D.agg [(dI x6), (dI x7)]), (D.agg [(D.val (Value.string (s8))), D.nil])] [(D.agg [(dI n18), (dI n19)]), (D.val (Value.bool false))]) ∧
 (bcase (n5 != 8)
 (k kF)
 (bcase (if Bool.true = Bool.true then !(n3 == 0 && (n4 == 0 && Bool.true)) else n3 == 0 && (n4 == 0 && Bool.true))
 (k kF)
 (bcase (dL n0 2 l0)
 (∃ n20 : Int,
 (∃ n21 : Int,
 (((Says C 19 [(D.agg [(Dw n0 2 l0), (dI x1), (dI x2), (dI x3), (dI x4), (dI x5)]), (D.agg [(dI x6), (dI x7)]), (D.agg [(D.val (Value.string (s8))), D.nil])] [(D.agg [(dI n20), (dI n21)]), (D.val (Value.bool true))]) ∧
 (bcase (n8 == 0)
 (bcase (if Bool.false = Bool.true then !(n6 == n20 && (n7 == n21 && Bool.true)) else n6 == n20 && (n7 == n21 && Bool.true))
 (k kT)
 (k kF))
 (k kF))) ∨
 ((Says C 19 [(D.agg [(Dw n0 2 l0), (dI x1), (dI x2), (dI x3), (dI x4), (dI x5)]), (D.agg [(dI x6), (dI x7)]), (D.agg [(D.val (Value.string (s8))), D.nil])] [(D.agg [(dI n20), (dI n21)]), (D.val (Value.bool false))]) ∧
 (bcase (n8 == 8)
 (bcase (if Bool.false = Bool.true then !(n6 == 0 && (n7 == 0 && Bool.true)) else n6 == 0 && (n7 == 0 && Bool.true))
 (k kT)
 (k kF))
 (k kF))))))
 False)))))))
 False)))))
 False))))))
 False)))
 ((Qu ∧
 (Qu ∧
 (Qu ∧
 (Qu ∧
 (Qu ∧
 (Qu ∧
 (Qf ∧
 ((bcase (n14 == 0)
 Qtf
 Qf) ∧
 ((Qv (vI n14)) ∧
 (Qf ∧
 (Qf ∧
 (Qu ∧
 (Qu ∧
 (Qu ∧
 (Qu ∧
 (Qu ∧
 (Qu ∧
 (Qu ∧
 (Qu ∧
 (Qf ∧
 ((bcase (n14 != 0)
 Qtf
 Qf) ∧
 ((Qv (vI n14)) ∧
 True)))))))))))))))))))))) ∧
 ((Qf ∧
 (Qf ∧
 (Qu ∧
 (Qu ∧
 (Qu ∧
 (Qu ∧
 (Qu ∧
 (Qf ∧
 ((bcase (n14 == 0)
 Qtf
 Qf) ∧
 ((Qv (vI n14)) ∧
 (Qf ∧
 (Qf ∧
 (Qu ∧
 (Qu ∧
 (Qu ∧
 (Qu ∧
 (Qu ∧
 (Qu ∧
 (Qu ∧
 (Qu ∧
 (Qf ∧
 ((bcase (n14 != 0)
 Qtf
 Qf) ∧
 ((Qv (vI n14)) ∧
 True))))))))))))))))))))))) ∧
 (bcase (dL n0 2 l0)
 (∃ n15 : Int,
 ((Says C 17 [(D.agg [(Dw n0 2 l0), (dI x1), (dI x2), (dI x3), (dI x4), (dI x5)]), (D.agg [(dI x6), (dI x7)])] [(dI n15)]) ∧
 (bcase (n15 != 0)
 (bcase (n15 != 0)
 (bcase (n5 == n15)
 (bcase (n8 == n15)
 (bcase (if Bool.false = Bool.true then !(n3 == 0 && (n4 == 0 && Bool.true)) else n3 == 0 && (n4 == 0 && Bool.true))
 (bcase (if Bool.false = Bool.true then !(n6 == 0 && (n7 == 0 && Bool.true)) else n6 == 0 && (n7 == 0 && Bool.true))
 (k kT)
 (k kF))
 (k kF))
 (k kF))
 (k kF))
 (bcase (dL n0 2 l0)
 (∃ n16 : Int,
 (∃ n17 : Int,
 (((Says C 18 [(D.agg [(Dw n0 2 l0), (dI x1), (dI x2), (dI x3), (dI x4), (dI x5)]), (D.agg [(dI x6), (dI x7)]), (D.agg [(D.val (Value.string (s8))), D.nil])] [(D.agg [(dI n16), (dI n17)]), (D.val (Value.bool true))]) ∧
 (bcase (n5 != 0)
 (k kF)
 (bcase (if Bool.true = Bool.true then !(n3 == n16 && (n4 == n17 && Bool.true)) else n3 == n16 && (n4 == n17 && Bool.true))
 (k kF)
 (bcase (dL n0 2 l0)
 (∃ n18 : Int,
 (∃ n19 : Int,
 (((Says C 19 [(D.agg [(Dw n0 2 l0), (dI x1), (dI x2), (dI x3), (dI x4), (dI x5)]), (D.agg [(dI x6), (dI x7)]), (D.agg [(D.val (Value.string (s8))), D.nil])] [(D.agg [(dI n18), (dI n19)]), (D.val (Value.bool true))]) ∧
 (bcase (n8 == 0)
 (bcase (if Bool.false = Bool.true then !(n6 == n18 && (n7 == n19 && Bool.true)) else n6 == n18 && (n7 == n19 && Bool.true))
 (k kT)
 (k kF))
 (k kF))) ∨
 ((Says C 19 [(D.agg [(Dw n0 2 l0), (dI x1), (dI x2), (dI x3), (dI x4), (dI x5)]), (D.agg [(dI x6), (dI x7)]), (D.agg [(D.val (Value.string (s8))), D.nil])] [(D.agg [(dI n18), (dI n19)]), (D.val (Value.bool false))]) ∧
 (bcase (n8 == 8)
 (bcase (if Bool.false = Bool.true then !(n6 == 0 && (n7 == 0 && Bool.true)) else n6 == 0 && (n7 == 0 && Bool.true))
 (k kT)
 (k kF))
 (k kF))))))
 False)))) ∨
 ((Says C 18 [(D.agg [(Dw n0 2 l0), (dI x1), (dI x2), (dI x3), (dI x4), (dI x5)]), (D.agg [(dI x6), (dI x7)]), (D.agg [(D.val (Value.string (s8))), D.nil])] [(D.agg [(dI n16), (dI n17)]), (D.val (Value.bool false))]) ∧
 (bcase (n5 != 8)
 (k kF)
 (bcase (if Bool.true = Bool.true then !(n3 == 0 && (n4 == 0 && Bool.true)) else n3 == 0 && (n4 == 0 && Bool.true))
 (k kF)
 (bcase (dL n0 2 l0)
 (∃ n18 : Int,
 (∃ n19 : Int,
 (((Says C 19 [(D.agg [(Dw n0 2 l0), (dI x1), (dI x2), (dI x3), (dI x4), (dI x5)]), (D.agg [(dI x6), (dI x7)]), (D.agg [(D.val (Value.string (s8))), D.nil])] [(D.agg [(dI n18), (dI n19)]), (D.val (Value.bool true))]) ∧
 (bcase (n8 == 0)
 (bcase (if Bool.false = Bool.true then !(n6 == n18 && (n7 == n19 && Bool.true)) else n6 == n18 && (n7 == n19 && Bool.true))
 (k kT)
 (k kF))
 (k kF))) ∨
 ((Says C 19 [(D.agg [(Dw n0 2 l0), (dI x1), (dI x2), (dI x3), (dI x4), (dI x5)]), (D.agg [(dI x6), (dI x7)]), (D.agg [(D.val (Value.string (s8))), D.nil])] [(D.agg [(dI n18), (dI n19)]), (D.val (Value.bool false))]) ∧
 (bcase (n8 == 8)
 (bcase (if Bool.false = Bool.true then !(n6 == 0 && (n7 == 0 && Bool.true)) else n6 == 0 && (n7 == 0 && Bool.true))
 (k kT)
 (k kF))
 (k kF))))))
 False)))))))
 False))
 (bcase (n14 != 0)
 (bcase (n5 == n14)
 (bcase (n8 == n14)
 (bcase (if Bool.false = Bool.true then !(n3 == 0 && (n4 == 0 && Bool.true)) else n3 == 0 && (n4 == 0 && Bool.true))
 (bcase (if Bool.false = Bool.true then !(n6 == 0 && (n7 == 0 && Bool.true)) else n6 == 0 && (n7 == 0 && Bool.true))
 (k kT)
 (k kF))
 (k kF))
 (k kF))
 (k kF))
 (bcase (dL n0 2 l0)
 (∃ n16 : Int,
 (∃ n17 : Int,
 (((Says C 18 [(D.agg [(Dw n0 2 l0), (dI x1), (dI x2), (dI x3), (dI x4), (dI x5)]), (D.agg [(dI x6), (dI x7)]), (D.agg [(D.val (Value.string (s8))), D.nil])] [(D.agg [(dI n16), (dI n17)]), (D.val (Value.bool true))]) ∧
 (bcase (n5 != 0)
 (k kF)
 (bcase (if Bool.true = Bool.true then !(n3 == n16 && (n4 == n17 && Bool.true)) else n3 == n16 && (n4 == n17 && Bool.true))
 (k kF)
 (bcase (dL n0 2 l0)
 (∃ n18 : Int,
 (∃ n19 : Int,
 (((Says C 19 [(D.agg [(Dw n0 2 l0), (dI x1), (dI x2), (dI x3), (dI x4), (dI x5)]), (D.agg [(dI x6), (dI x7)]), (D.agg [(D.val (Value.string (s8))), D.nil])] [(D.agg [(dI n18), (dI n19)]), (D.val (Value.bool true))]) ∧
 (bcase (n8 == 0)
 (bcase (if Bool.false = Bool.true then !(n6 == n18 && (n7 == n19 && Bool.true)) else n6 == n18 && (n7 == n19 && Bool.true))
 (k kT)
 (k kF))
 (k kF))) ∨
 ((Says C 19 [(D.agg [(Dw n0 2 l0), (dI x1), (dI x2), (dI x3), (dI x4), (dI x5)]), (D.agg [(dI x6), (dI x7)]), (D.agg [(D.val (Value.string (s8))), D.nil])] [(D.agg [(dI n18), (dI n19)]), (D.val (Value.bool false))]) ∧
 (bcase (n8 == 8)
 (bcase (if Bool.false = Bool.true then !(n6 == 0 && (n7 == 0 && Bool.true)) else n6 == 0 && (n7 == 0 && Bool.true))
 (k kT)
 (k kF))
 (k kF))))))
 False)))) ∨
 ((Says C 18 [(D.agg [(Dw n0 2 l0), (dI x1), (dI x2), (dI x3), (dI x4), (dI x5)]), (D.agg [(dI x6), (dI x7)]), (D.agg [(D.val (Value.string (s8))), D.nil])] [(D.agg [(dI n16), (dI n17)]), (D.val (Value.bool false))]) ∧
 (bcase (n5 != 8)
 (k kF)
 (bcase (if Bool.true = Bool.true then !(n3 == 0 && (n4 == 0 && Bool.true)) else n3 == 0 && (n4 == 0 && Bool.true))
 (k kF)
 (bcase (dL n0 2 l0)
 (∃ n18 : Int,
 (∃ n19 : Int,
 (((Says C 19 [(D.agg [(Dw n0 2 l0), (dI x1), (dI x2), (dI x3), (dI x4), (dI x5)]), (D.agg [(dI x6), (dI x7)]), (D.agg [(D.val (Value.string (s8))), D.nil])] [(D.agg [(dI n18), (dI n19)]), (D.val (Value.bool true))]) ∧
 (bcase (n8 == 0)
 (bcase (if Bool.false = Bool.true then !(n6 == n18 && (n7 == n19 && Bool.true)) else n6 == n18 && (n7 == n19 && Bool.true))
 (k kT)
 (k kF))
 (k kF))) ∨
 ((Says C 19 [(D.agg [(Dw n0 2 l0), (dI x1), (dI x2), (dI x3), (dI x4), (dI x5)]), (D.agg [(dI x6), (dI x7)]), (D.agg [(D.val (Value.string (s8))), D.nil])] [(D.agg [(dI n18), (dI n19)]), (D.val (Value.bool false))]) ∧
 (bcase (n8 == 8)
 (bcase (if Bool.false = Bool.true then !(n6 == 0 && (n7 == 0 && Bool.true)) else n6 == 0 && (n7 == 0 && Bool.true))
 (k kT)
 (k kF))
 (k kF))))))
 False)))))))
 False)))))
 False)))))))))))))
 False))))))))
 False)))))
 False)))))))))
 False)))))
 False)))))))))
 False)))))
 False))))))))
 False)))))
 False))
 (k kT))
 (k kT))) ∨
 ((Says C 5 [] kF) ∧
 (k kF))) := by kernel_rfl
end Go.Proofs.G5l

/- What is left to show of each function, written out; the kernel reckons it. -/
namespace Go.Proofs.G5l
open Go Go.Abs Go.Proofs
set_option maxRecDepth 100000
set_option linter.unusedVariables false
def gLo2 (C : Ct) (L : AtLoop) (x1 : Int) (x2 : Int) (x3 : Int) (x4 : Int) (x5 : Int) (x6 : Int) (x7 : Int) (s8 : ByteArray) (n9 : Nat) (c9 : Nat) (l9 : List Value) (k : List D → Prop) : Prop := wpFn Try.prog (hM C) L 0 3 #[.agg #[.slice none 0 0, .int .i64 x1, .int .i64 x2, .int .i64 x3, .int .i64 x4, .int .i64 x5], .agg #[.int .i64 x6, .int .i64 x7], .agg #[.string s8, .slice (some ⟨500, 0, none⟩) n9 c9]] (heapOf [(500, .sym l9 false 2)]) (dataK k)
theorem gLo2_text (C : Ct) (L : AtLoop) (x1 : Int) (x2 : Int) (x3 : Int) (x4 : Int) (x5 : Int) (x6 : Int) (x7 : Int) (s8 : ByteArray) (n9 : Nat) (c9 : Nat) (l9 : List Go.Value) (k : List D → Prop) : gLo2 C L x1 x2 x3 x4 x5 x6 x7 s8 n9 c9 l9 k =
 (((Says C 5 [] kT) ∧
 (bcase (decide ((↑n9 : Int) ≤ 14))
 (bcase (decide ((↑(ByteArray.size s8) : Int) ≤ 30))
 (((Qv (Value.agg [(Value.string (s8)), (Sl 500 (n9) (c9))].toArray)) ∧
 ((Qv (Value.agg [(Value.slice none 0 0), (vI x1), (vI x2), (vI x3), (vI x4), (vI x5)].toArray)) ∧
 True)) ∧
 ((Says C 9 [(D.agg [D.nil, (dI x1), (dI x2), (dI x3), (dI x4), (dI x5)])] [(D.agg [(D.sl 0 2 []), (dI x1), (dI x2), (dI x3), (dI x4), (dI x5)])]) ∧
 (((Qv (Value.agg [(Value.string (s8)), (Sl 500 (n9) (c9))].toArray)) ∧
 True) ∧
 (bcase (dL n9 2 l9)
 ((Says C 10 [(D.agg [(D.val (Value.string (s8))), (Dw n9 2 l9)])] [(D.agg [(D.val (Value.string (s8))), (Dw n9 2 l9)])]) ∧
 (True ∧
 (bcase (dL n9 2 (Tk n9 2 l9))
 (∃ n1 : Int,
 (∃ n2 : Int,
 ((Says C 8 [(D.agg [(D.sl 0 2 []), (dI x1), (dI x2), (dI x3), (dI x4), (dI x5)]), (D.agg [(D.val (Value.string (s8))), (Dw n9 2 (Tk n9 2 l9))])] [(dI n1), (dI n2)]) ∧
 (((Qv (vI n2)) ∧
 ((Qv (vI n1)) ∧
 ((Qv (Value.tuple [(vI n1), (vI n2)].toArray)) ∧
 True))) ∧
 (((Qv (vI n2)) ∧
 True) ∧
 (True ∧
 ((((Qv (Pt 1007 0)) ∧
 (Qv (some (AObj.cells [(vI 0), (vI 0)] 24 false 2)))) ∧
 ((Qv (Value.agg [(Value.string (s8)), (Sl 500 (n9) (c9))].toArray)) ∧
 ((Qv (Value.agg [(vI x6), (vI x7)].toArray)) ∧
 ((Qv (Value.agg [(Value.slice none 0 0), (vI x1), (vI x2), (vI x3), (vI x4), (vI x5)].toArray)) ∧
 True)))) ∧
 ((Says C 9 [(D.agg [D.nil, (dI x1), (dI x2), (dI x3), (dI x4), (dI x5)])] [(D.agg [(D.sl 0 2 []), (dI x1), (dI x2), (dI x3), (dI x4), (dI x5)])]) ∧
 ((((Qv (Pt 1007 0)) ∧
 (Qv (some (AObj.cells [(vI 0), (vI 0)] 24 false 2)))) ∧
 ((Qv (Value.agg [(Value.string (s8)), (Sl 500 (n9) (c9))].toArray)) ∧
 ((Qv (Value.agg [(vI x6), (vI x7)].toArray)) ∧
 True))) ∧
 (bcase (dL n9 2 l9)
 ((Says C 10 [(D.agg [(D.val (Value.string (s8))), (Dw n9 2 l9)])] [(D.agg [(D.val (Value.string (s8))), (Dw n9 2 l9)])]) ∧
 ((((Qv (Pt 1007 0)) ∧
 (Qv (some (AObj.cells [(vI 0), (vI 0)] 24 false 2)))) ∧
 ((Qv (Value.agg [(vI x6), (vI x7)].toArray)) ∧
 True)) ∧
 (bcase (dL n9 2 (Tk n9 2 l9))
 (∃ n3 : Int,
 (∃ n4 : Int,
 (∃ n5 : Int,
 ((Says C 11 [(D.agg [(D.sl 0 2 []), (dI x1), (dI x2), (dI x3), (dI x4), (dI x5)]), (D.agg [(dI x6), (dI x7)]), (D.agg [(D.val (Value.string (s8))), (Dw n9 2 (Tk n9 2 l9))])] [(D.agg [(dI n3), (dI n4)]), (dI n5)]) ∧
 (((Qv (vI n5)) ∧
 ((Qv (Value.agg [(vI n3), (vI n4)].toArray)) ∧
 ((Qv (Value.tuple [(Value.agg [(vI n3), (vI n4)].toArray), (vI n5)].toArray)) ∧
 (((Qv (Pt 1007 0)) ∧
 (Qv (some (AObj.cells [(vI 0), (vI 0)] 24 false 2)))) ∧
 True)))) ∧
 (((Qv (vI n5)) ∧
 True) ∧
 (True ∧
 ((((Qv (Pt 1010 0)) ∧
 (Qv (some (AObj.cells [(vI 0), (vI 0)] 28 false 2)))) ∧
 ((Qv (Value.agg [(Value.string (s8)), (Sl 500 (n9) (c9))].toArray)) ∧
 ((Qv (Value.agg [(vI x6), (vI x7)].toArray)) ∧
 ((Qv (Value.agg [(Value.slice none 0 0), (vI x1), (vI x2), (vI x3), (vI x4), (vI x5)].toArray)) ∧
 True)))) ∧
 ((Says C 9 [(D.agg [D.nil, (dI x1), (dI x2), (dI x3), (dI x4), (dI x5)])] [(D.agg [(D.sl 0 2 []), (dI x1), (dI x2), (dI x3), (dI x4), (dI x5)])]) ∧
 ((((Qv (Pt 1010 0)) ∧
 (Qv (some (AObj.cells [(vI 0), (vI 0)] 28 false 2)))) ∧
 ((Qv (Value.agg [(Value.string (s8)), (Sl 500 (n9) (c9))].toArray)) ∧
 ((Qv (Value.agg [(vI x6), (vI x7)].toArray)) ∧
 True))) ∧
 (bcase (dL n9 2 l9)
 ((Says C 10 [(D.agg [(D.val (Value.string (s8))), (Dw n9 2 l9)])] [(D.agg [(D.val (Value.string (s8))), (Dw n9 2 l9)])]) ∧
 ((((Qv (Pt 1010 0)) ∧
 (Qv (some (AObj.cells [(vI 0), (vI 0)] 28 false 2)))) ∧
 ((Qv (Value.agg [(vI x6), (vI x7)].toArray)) ∧
 True)) ∧
 (bcase (dL n9 2 (Tk n9 2 l9))
 (∃ n6 : Int,
 (∃ n7 : Int,
 (∃ n8 : Int,
 ((Says C 12 [(D.agg [(D.sl 0 2 []), (dI x1), (dI x2), (dI x3), (dI x4), (dI x5)]), (D.agg [(dI x6), (dI x7)]), (D.agg [(D.val (Value.string (s8))), (Dw n9 2 (Tk n9 2 l9))])] [(D.agg [(dI n6), (dI n7)]), (dI n8)]) ∧
 (((Qv (vI n8)) ∧
 ((Qv (Value.agg [(vI n6), (vI n7)].toArray)) ∧
 ((Qv (Value.tuple [(Value.agg [(vI n6), (vI n7)].toArray), (vI n8)].toArray)) ∧
 (((Qv (Pt 1010 0)) ∧
 (Qv (some (AObj.cells [(vI 0), (vI 0)] 28 false 2)))) ∧
 True)))) ∧
 (((Qv (vI n8)) ∧
 True) ∧
 (True ∧
 ((((Qv (Pt 1013 0)) ∧
 (Qv (some (AObj.cells [(vI 0), (vI 0)] 28 false 2)))) ∧
 ((Qv (Value.agg [(Value.string (s8)), (Sl 500 (n9) (c9))].toArray)) ∧
 ((Qv (Value.agg [(Value.slice none 0 0), (vI x1), (vI x2), (vI x3), (vI x4), (vI x5)].toArray)) ∧
 True))) ∧
 ((Says C 9 [(D.agg [D.nil, (dI x1), (dI x2), (dI x3), (dI x4), (dI x5)])] [(D.agg [(D.sl 0 2 []), (dI x1), (dI x2), (dI x3), (dI x4), (dI x5)])]) ∧
 ((((Qv (Pt 1013 0)) ∧
 (Qv (some (AObj.cells [(vI 0), (vI 0)] 28 false 2)))) ∧
 ((Qv (Value.agg [(Value.string (s8)), (Sl 500 (n9) (c9))].toArray)) ∧
 True)) ∧
 (bcase (dL n9 2 l9)
 ((Says C 10 [(D.agg [(D.val (Value.string (s8))), (Dw n9 2 l9)])] [(D.agg [(D.val (Value.string (s8))), (Dw n9 2 l9)])]) ∧
 ((((Qv (Pt 1013 0)) ∧
 (Qv (some (AObj.cells [(vI 0), (vI 0)] 28 false 2)))) ∧
 True) ∧
 (bcase (dL n9 2 (Tk n9 2 l9))
 (∃ n10 : Int,
 (∃ n11 : Int,
 (∃ n12 : Int,
 ((Says C 13 [(D.agg [(D.sl 0 2 []), (dI x1), (dI x2), (dI x3), (dI x4), (dI x5)]), (D.agg [(D.val (Value.string (s8))), (Dw n9 2 (Tk n9 2 l9))])] [(D.agg [(dI n10), (dI n11)]), (dI n12)]) ∧
 (((Qv (vI n12)) ∧
 ((Qv (Value.agg [(vI n10), (vI n11)].toArray)) ∧
 ((Qv (Value.tuple [(Value.agg [(vI n10), (vI n11)].toArray), (vI n12)].toArray)) ∧
 (((Qv (Pt 1013 0)) ∧
 (Qv (some (AObj.cells [(vI 0), (vI 0)] 28 false 2)))) ∧
 True)))) ∧
 (((Qv (vI n12)) ∧
 True) ∧
 (True ∧
 (∃ n13 : Int,
 ((Says C 14 [(D.agg [D.nil, (dI x1), (dI x2), (dI x3), (dI x4), (dI x5)])] [(dI n13)]) ∧
 (bcase (n13 != 0)
 (bcase (n2 == n13)
 (bcase (n5 == n13)
 (bcase (n8 == n13)
 (bcase (n12 == n13)
 (bcase (n1 == 0)
 (bcase (if Bool.false = Bool.true then !(n3 == 0 && (n4 == 0 && Bool.true)) else n3 == 0 && (n4 == 0 && Bool.true))
 (bcase (if Bool.false = Bool.true then !(n6 == 0 && (n7 == 0 && Bool.true)) else n6 == 0 && (n7 == 0 && Bool.true))
 (bcase (if Bool.false = Bool.true then !(n10 == 0 && (n11 == 0 && Bool.true)) else n10 == 0 && (n11 == 0 && Bool.true))
 (k kT)
 (k kF))
 (k kF))
 (k kF))
 (k kF))
 (k kF))
 (k kF))
 (k kF))
 (k kF))
 (bcase (dL n9 2 l9)
 (∃ n14 : Int,
 (∃ n15 : Int,
 ((Says C 15 [(D.agg [(D.val (Value.string (s8))), (Dw n9 2 l9)])] [(dI n14), (dI n15)]) ∧
 (bcase (n2 != n15)
 (k kF)
 (bcase (n1 != n14)
 (k kF)
 (bcase (n15 != 0)
 (bcase (n12 != n15)
 ((Qu ∧
 (Qu ∧
 (Qu ∧
 (Qu ∧
 (Qu ∧
 (Qu ∧
 (Qu ∧
 (Qu ∧
 (Qu ∧
 (Qb ∧
 (Qb ∧
 (Qb ∧
 (Qu ∧
 (Qu ∧
 (Qu ∧
 (Qb ∧
 ((bcase (n12 != n15)
 Qb
 Qft) ∧
 ((Qv (vI n15)) ∧
 ((Qv (vI n12)) ∧
 (Qb ∧
 ((bcase (n15 != 0)
 Qb
 Qft) ∧
 ((Qv (vI n15)) ∧
 True)))))))))))))))))))))) ∧
 ((Qb ∧
 (Qu ∧
 (Qu ∧
 (Qu ∧
 (Qu ∧
 (Qu ∧
 (Qu ∧
 (Qu ∧
 (Qu ∧
 (Qu ∧
 (Qb ∧
 (Qb ∧
 (Qb ∧
 (Qu ∧
 (Qu ∧
 (Qu ∧
 (Qb ∧
 ((bcase (n12 != n15)
 Qb
 Qft) ∧
 ((Qv (vI n15)) ∧
 ((Qv (vI n12)) ∧
 (Qb ∧
 ((bcase (n15 != 0)
 Qb
 Qft) ∧
 ((Qv (vI n15)) ∧
 True))))))))))))))))))))))) ∧
 (k kF)))
 (bcase (if Bool.true = Bool.true then !(n10 == 0 && (n11 == 0 && Bool.true)) else n10 == 0 && (n11 == 0 && Bool.true))
 ((Qu ∧
 (Qu ∧
 (Qu ∧
 (Qu ∧
 (Qu ∧
 (Qu ∧
 (Qu ∧
 (Qu ∧
 (Qu ∧
 (Qb ∧
 (Qb ∧
 (Qb ∧
 ((bcase (if Bool.true = Bool.true then !(n10 == 0 && (n11 == 0 && Bool.true)) else n10 == 0 && (n11 == 0 && Bool.true))
 Qb
 Qft) ∧
 ((Qv (Value.agg [(vI 0), (vI 0)].toArray)) ∧
 ((Qv (Value.agg [(vI n10), (vI n11)].toArray)) ∧
 (Qf ∧
 ((bcase (n12 != n15)
 Qtf
 Qf) ∧
 ((Qv (vI n15)) ∧
 ((Qv (vI n12)) ∧
 (Qb ∧
 ((bcase (n15 != 0)
 Qb
 Qft) ∧
 ((Qv (vI n15)) ∧
 True)))))))))))))))))))))) ∧
 ((Qb ∧
 (Qu ∧
 (Qu ∧
 (Qu ∧
 (Qu ∧
 (Qu ∧
 (Qu ∧
 (Qu ∧
 (Qu ∧
 (Qu ∧
 (Qb ∧
 (Qb ∧
 (Qb ∧
 ((bcase (if Bool.true = Bool.true then !(n10 == 0 && (n11 == 0 && Bool.true)) else n10 == 0 && (n11 == 0 && Bool.true))
 Qb
 Qft) ∧
 ((Qv (Value.agg [(vI 0), (vI 0)].toArray)) ∧
 ((Qv (Value.agg [(vI n10), (vI n11)].toArray)) ∧
 (Qf ∧
 ((bcase (n12 != n15)
 Qtf
 Qf) ∧
 ((Qv (vI n15)) ∧
 ((Qv (vI n12)) ∧
 (Qb ∧
 ((bcase (n15 != 0)
 Qb
 Qft) ∧
 ((Qv (vI n15)) ∧
 True))))))))))))))))))))))) ∧
 (k kF)))
 (bcase (n15 == 0)
 (bcase (n12 != 0)
 ((Qu ∧
 (Qu ∧
 (Qu ∧
 (Qb ∧
 ((bcase (n12 != 0)
 Qb
 Qft) ∧
 ((Qv (vI n12)) ∧
 (Qb ∧
 ((bcase (n15 == 0)
 Qb
 Qft) ∧
 ((Qv (vI n15)) ∧
 (Qf ∧
 (Qf ∧
 (Qf ∧
 ((bcase (if Bool.true = Bool.true then !(n10 == 0 && (n11 == 0 && Bool.true)) else n10 == 0 && (n11 == 0 && Bool.true))
 Qtf
 Qf) ∧
 ((Qv (Value.agg [(vI 0), (vI 0)].toArray)) ∧
 ((Qv (Value.agg [(vI n10), (vI n11)].toArray)) ∧
 (Qf ∧
 ((bcase (n12 != n15)
 Qtf
 Qf) ∧
 ((Qv (vI n15)) ∧
 ((Qv (vI n12)) ∧
 (Qb ∧
 ((bcase (n15 != 0)
 Qb
 Qft) ∧
 ((Qv (vI n15)) ∧
 True)))))))))))))))))))))) ∧
 ((Qb ∧
 (Qb ∧
 (Qb ∧
 (Qu ∧
 (Qu ∧
 ((bcase (n12 != 0)
 Qb
 Qft) ∧
 ((Qv (vI n12)) ∧
 (Qb ∧
 ((bcase (n15 == 0)
 Qb
 Qft) ∧
 ((Qv (vI n15)) ∧
 (Qf ∧
 (Qf ∧
 (Qf ∧
 ((bcase (if Bool.true = Bool.true then !(n10 == 0 && (n11 == 0 && Bool.true)) else n10 == 0 && (n11 == 0 && Bool.true))
 Qtf
 Qf) ∧
 ((Qv (Value.agg [(vI 0), (vI 0)].toArray)) ∧
 ((Qv (Value.agg [(vI n10), (vI n11)].toArray)) ∧
 (Qf ∧
 ((bcase (n12 != n15)
 Qtf
 Qf) ∧
 ((Qv (vI n15)) ∧
 ((Qv (vI n12)) ∧
 (Qb ∧
 ((bcase (n15 != 0)
 Qb
 Qft) ∧
 ((Qv (vI n15)) ∧
 True))))))))))))))))))))))) ∧
 (k kF)))
 (((Qv (Value.agg [(Value.string (s8)), (Sl 500 (n9) (c9))].toArray)) ∧
 ((Qv (Value.agg [(Value.slice none 0 0), (vI x1), (vI x2), (vI x3), (vI x4), (vI x5)].toArray)) ∧
 ((Qv (Value.agg [(vI n10), (vI n11)].toArray)) ∧
 (Qf ∧
 ((bcase (n12 != 0)
 Qtf
 Qf) ∧
 ((Qv (vI n12)) ∧
 (Qb ∧
 ((bcase (n15 == 0)
 Qb
 Qft) ∧
 ((Qv (vI n15)) ∧
 (Qf ∧
 (Qf ∧
 (Qf ∧
 ((bcase (if Bool.true = Bool.true then !(n10 == 0 && (n11 == 0 && Bool.true)) else n10 == 0 && (n11 == 0 && Bool.true))
 Qtf
 Qf) ∧
 ((Qv (Value.agg [(vI 0), (vI 0)].toArray)) ∧
 ((Qv (Value.agg [(vI n10), (vI n11)].toArray)) ∧
 (Qf ∧
 ((bcase (n12 != n15)
 Qtf
 Qf) ∧
 ((Qv (vI n15)) ∧
 ((Qv (vI n12)) ∧
 (Qb ∧
 ((bcase (n15 != 0)
 Qb
 Qft) ∧
 ((Qv (vI n15)) ∧
 True)))))))))))))))))))))) ∧
 (bcase (dL n9 2 l9)
 (∃ n16 : Int,
 (∃ n17 : Int,
 ((Says C 16 [(D.agg [D.nil, (dI x1), (dI x2), (dI x3), (dI x4), (dI x5)]), (D.agg [(D.val (Value.string (s8))), (Dw n9 2 l9)])] [(D.agg [(dI n16), (dI n17)])]) ∧
 (bcase (if Bool.true = Bool.true then !(n10 == n16 && (n11 == n17 && Bool.true)) else n10 == n16 && (n11 == n17 && Bool.true))
 ((Qb ∧
 (Qb ∧
 (Qb ∧
 ((bcase (if Bool.true = Bool.true then !(n10 == n16 && (n11 == n17 && Bool.true)) else n10 == n16 && (n11 == n17 && Bool.true))
 Qb
 Qft) ∧
 ((Qv (Value.agg [(vI n10), (vI n11)].toArray)) ∧
 ((bcase (n12 != 0)
 Qtf
 Qf) ∧
 ((Qv (vI n12)) ∧
 (Qb ∧
 ((bcase (n15 == 0)
 Qb
 Qft) ∧
 ((Qv (vI n15)) ∧
 (Qf ∧
 (Qf ∧
 (Qf ∧
 ((bcase (if Bool.true = Bool.true then !(n10 == 0 && (n11 == 0 && Bool.true)) else n10 == 0 && (n11 == 0 && Bool.true))
 Qtf
 Qf) ∧
 ((Qv (Value.agg [(vI 0), (vI 0)].toArray)) ∧
 ((Qv (Value.agg [(vI n10), (vI n11)].toArray)) ∧
 (Qf ∧
 ((bcase (n12 != n15)
 Qtf
 Qf) ∧
 ((Qv (vI n15)) ∧
 ((Qv (vI n12)) ∧
 (Qb ∧
 ((bcase (n15 != 0)
 Qb
 Qft) ∧
 ((Qv (vI n15)) ∧
 True))))))))))))))))))))))) ∧
 (k kF))
 ((Qf ∧
 (Qf ∧
 (Qf ∧
 ((bcase (if Bool.true = Bool.true then !(n10 == n16 && (n11 == n17 && Bool.true)) else n10 == n16 && (n11 == n17 && Bool.true))
 Qtf
 Qf) ∧
 ((Qv (Value.agg [(vI n10), (vI n11)].toArray)) ∧
 ((bcase (n12 != 0)
 Qtf
 Qf) ∧
 ((Qv (vI n12)) ∧
 (Qb ∧
 ((bcase (n15 == 0)
 Qb
 Qft) ∧
 ((Qv (vI n15)) ∧
 (Qf ∧
 (Qf ∧
 (Qf ∧
 ((bcase (if Bool.true = Bool.true then !(n10 == 0 && (n11 == 0 && Bool.true)) else n10 == 0 && (n11 == 0 && Bool.true))
 Qtf
 Qf) ∧
 ((Qv (Value.agg [(vI 0), (vI 0)].toArray)) ∧
 ((Qv (Value.agg [(vI n10), (vI n11)].toArray)) ∧
 (Qf ∧
 ((bcase (n12 != n15)
 Qtf
 Qf) ∧
 ((Qv (vI n15)) ∧
 ((Qv (vI n12)) ∧
 (Qb ∧
 ((bcase (n15 != 0)
 Qb
 Qft) ∧
 ((Qv (vI n15)) ∧
 True))))))))))))))))))))))) ∧
 (∃ n18 : Int,
 ((Says C 17 [(D.agg [D.nil, (dI x1), (dI x2), (dI x3), (dI x4), (dI x5)]), (D.agg [(dI x6), (dI x7)])] [(dI n18)]) ∧
 (bcase (n18 != 0)
 (bcase (n18 != 0)
 (bcase (n5 == n18)
 (bcase (n8 == n18)
 (bcase (if Bool.false = Bool.true then !(n3 == 0 && (n4 == 0 && Bool.true)) else n3 == 0 && (n4 == 0 && Bool.true))
 (bcase (if Bool.false = Bool.true then !(n6 == 0 && (n7 == 0 && Bool.true)) else n6 == 0 && (n7 == 0 && Bool.true))
 (k kT)
 (k kF))
 (k kF))
 (k kF))
 (k kF))
 (bcase (dL n9 2 l9)
 (∃ n19 : Int,
 (∃ n20 : Int,
 (((Says C 18 [(D.agg [D.nil, (dI x1), (dI x2), (dI x3), (dI x4), (dI x5)]), (D.agg [(dI x6), (dI x7)]), (D.agg [(D.val (Value.string (s8))), (Dw n9 2 l9)])] [(D.agg [(dI n19), (dI n20)]), (D.val (Value.bool true))]) ∧
 (bcase (n5 != 0)
 (k kF)
 (bcase (if Bool.true = Bool.true then !(n3 == n19 && (n4 == n20 && Bool.true)) else n3 == n19 && (n4 == n20 && Bool.true))
 (k kF)
 (bcase (dL n9 2 l9)
 (∃ n21 : Int,
 (∃ n22 : Int,
 (((Says C 19 [(D.agg [D.nil, (dI x1), (dI x2), (dI x3), (dI x4), (dI x5)]), (D.agg [(dI x6), (dI x7)]), (D.agg [(D.val (Value.string (s8))), (Dw n9 2 l9)])] [(D.agg [(dI n21), (dI n22)]), (D.val (Value.bool true))]) ∧
 (bcase (n8 == 0)
 (bcase (if Bool.false = Bool.true then !(n6 == n21 && (n7 == n22 && Bool.true)) else n6 == n21 && (n7 == n22 && Bool.true))
 (k kT)
 (k kF))
 (k kF))) ∨
 ((Says C 19 [(D.agg [D.nil, (dI x1), (dI x2), (dI x3), (dI x4), (dI x5)]), (D.agg [(dI x6), (dI x7)]), (D.agg [(D.val (Value.string (s8))), (Dw n9 2 l9)])] [(D.agg [(dI n21), (dI n22)]), (D.val (Value.bool false))]) ∧
 (bcase (n8 == 8)
 (bcase (if Bool.false = Bool.true then !(n6 == 0 && (n7 == 0 && Bool.true)) else n6 == 0 && (n7 == 0 && Bool.true))
 (k kT)
 (k kF))
 (k kF))))))
 False)))) ∨
 ((Says C 18 [(D.agg [D.nil, (dI x1), (dI x2), (dI x3), (dI x4), (dI x5)]), (D.agg [(dI x6), (dI x7)]), (D.agg [(D.val (Value.string (s8))), (Dw n9 2 l9)])] [(D.agg [(dI n19), (dI n20)]), (D.val (Value.bool false))]) ∧
 (bcase (n5 != 8)
 (k kF)
 (bcase (if Bool.true = Bool.true then !(n3 == 0 && (n4 == 0 && Bool.true)) else n3 == 0 && (n4 == 0 && Bool.true))
 (k kF)
 (bcase (dL n9 2 l9)
 (∃ n21 : Int,
 (∃ n22 : Int,
 (((Says C 19 [(D.agg [D.nil, (dI x1), (dI x2), (dI x3), (dI x4), (dI x5)]), (D.agg [(dI x6), (dI x7)]), (D.agg [(D.val (Value.string (s8))), (Dw n9 2 l9)])] [(D.agg [(dI n21), (dI n22)]), (D.val (Value.bool true))]) ∧
 (bcase (n8 == 0)
 (bcase (if Bool.false = Bool.true then !(n6 == n21 && (n7 == n22 && Bool.true)) else n6 == n21 && (n7 == n22 && Bool.true))
 (k kT)
 (k kF))
 (k kF))) ∨
 ((Says C 19 [(D.agg [D.nil, (dI x1), (dI x2), (dI x3), (dI x4), (dI x5)]), (D.agg [(dI x6), (dI x7)]), (D.agg [(D.val (Value.string (s8))), (Dw n9 2 l9)])] [(D.agg [(dI n21), (dI n22)]), (D.val (Value.bool false))]) ∧
 (bcase (n8 == 8)
 (bcase (if Bool.false = Bool.true then !(n6 == 0 && (n7 == 0 && Bool.true)) else n6 == 0 && (n7 == 0 && Bool.true))
 (k kT)
 (k kF))
 (k kF))))))
 False)))))))
 False))
 (bcase (n15 != 0)
 (bcase (n5 == n15)
 (bcase (n8 == n15)
 (bcase (if Bool.false = Bool.true then !(n3 == 0 && (n4 == 0 && Bool.true)) else n3 == 0 && (n4 == 0 && Bool.true))
 (bcase (if Bool.false = Bool.true then !(n6 == 0 && (n7 == 0 && Bool.true)) else n6 == 0 && (n7 == 0 && Bool.true))
 (k kT)
 (k kF))
 (k kF))
 (k kF))
 (k kF))
 (bcase (dL n9 2 l9)
 (∃ n19 : Int,
 (∃ n20 : Int,
 (((Says C 18 [(D.agg [D.nil, (dI x1), (dI x2), (dI x3), (dI x4), (dI x5)]), (D.agg [(dI x6), (dI x7)]), (D.agg [(D.val (Value.string (s8))), (Dw n9 2 l9)])] [(D.agg [(dI n19), (dI n20)]), (D.val (Value.bool true))]) ∧
 (bcase (n5 != 0)
 (k kF)
 (bcase (if Bool.true = Bool.true then !(n3 == n19 && (n4 == n20 && Bool.true)) else n3 == n19 && (n4 == n20 && Bool.true))
 (k kF)
 (bcase (dL n9 2 l9)
 (∃ n21 : Int,
 (∃ n22 : Int,
 (((Says C 19 [(D.agg [D.nil, (dI x1), (dI x2), (dI x3), (dI x4), (dI x5)]), (D.agg [(dI x6), (dI x7)]), (D.agg [(D.val (Value.string (s8))), (Dw n9 2 l9)])] [(D.agg [(dI n21), (dI n22)]), (D.val (Value.bool true))]) ∧
 (bcase (n8 == 0)
 (bcase (if Bool.false = Bool.true then !(n6 == n21 && (n7 == n22 && Bool.true)) else n6 == n21 && (n7 == n22 && Bool.true))
 (k kT)
 (k kF))
 (k kF))) ∨
 ((Says C 19 [(D.agg [D.nil, (dI x1), (dI x2), (dI x3), (dI x4), (dI x5)]), (D.agg [(dI x6), (dI x7)]), (D.agg [(D.val (Value.string (s8))), (Dw n9 2 l9)])] [(D.agg [(dI n21), (dI n22)]), (D.val (Value.bool false))]) ∧
 (bcase (n8 == 8)
 (bcase (if Bool.false = Bool.true then !(n6 == 0 && (n7 == 0 && Bool.true)) else n6 == 0 && (n7 == 0 && Bool.true))
 (k kT)
 (k kF))
 (k kF))))))
 False)))) ∨
 ((Says C 18 [(D.agg [D.nil, (dI x1), (dI x2), (dI x3), (dI x4), (dI x5)]), (D.agg [(dI x6), (dI x7)]), (D.agg [(D.val (Value.string (s8))), (Dw n9 2 l9)])] [(D.agg [(dI n19), (dI n20)]), (D.val (Value.bool false))]) ∧
 (bcase (n5 != 8)
 (k kF)
 (bcase (if Bool.true = Bool.true then !(n3 == 0 && (n4 == 0 && Bool.true)) else n3 == 0 && (n4 == 0 && Bool.true))
 (k kF)
 (bcase (dL n9 2 l9)
 (∃ n21 : Int,
 (∃ n22 : Int,
 (((Says C 19 [(D.agg [D.nil, (dI x1), (dI x2), (dI x3), (dI x4), (dI x5)]), (D.agg [(dI x6), (dI x7)]), (D.agg [(D.val (Value.string (s8))), (Dw n9 2 l9)])] [(D.agg [(dI n21), (dI n22)]), (D.val (Value.bool true))]) ∧
 (bcase (n8 == 0)
 (bcase (if Bool.false = Bool.true then !(n6 == n21 && (n7 == n22 && Bool.true)) else n6 == n21 && (n7 == n22 && Bool.true))
 (k kT)
 (k kF))
 (k kF))) ∨
 ((Says C 19 [(D.agg [D.nil, (dI x1), (dI x2), (dI x3), (dI x4), (dI x5)]), (D.agg [(dI x6), (dI x7)]), (D.agg [(D.val (Value.string (s8))), (Dw n9 2 l9)])] [(D.agg [(dI n21), (dI n22)]), (D.val (Value.bool false))]) ∧
 (bcase (n8 == 8)
 (bcase (if Bool.false = Bool.true then !(n6 == 0 && (n7 == 0 && Bool.true)) else n6 == 0 && (n7 == 0 && Bool.true))
 (k kT)
 (k kF))
 (k kF))))))
 False)))))))
 False))))))))))
 False)))
 ((Qu ∧
 (Qu ∧
 (Qu ∧
 (Qu ∧
 (Qu ∧
 (Qu ∧
 (Qf ∧
 ((bcase (n15 == 0)
 Qtf
 Qf) ∧
 ((Qv (vI n15)) ∧
 (Qf ∧
 (Qf ∧
 (Qf ∧
 ((bcase (if Bool.true = Bool.true then !(n10 == 0 && (n11 == 0 && Bool.true)) else n10 == 0 && (n11 == 0 && Bool.true))
 Qtf
 Qf) ∧
 ((Qv (Value.agg [(vI 0), (vI 0)].toArray)) ∧
 ((Qv (Value.agg [(vI n10), (vI n11)].toArray)) ∧
 (Qf ∧
 ((bcase (n12 != n15)
 Qtf
 Qf) ∧
 ((Qv (vI n15)) ∧
 ((Qv (vI n12)) ∧
 (Qb ∧
 ((bcase (n15 != 0)
 Qb
 Qft) ∧
 ((Qv (vI n15)) ∧
 True)))))))))))))))))))))) ∧
 ((Qf ∧
 (Qf ∧
 (Qu ∧
 (Qu ∧
 (Qu ∧
 (Qu ∧
 (Qu ∧
 (Qf ∧
 ((bcase (n15 == 0)
 Qtf
 Qf) ∧
 ((Qv (vI n15)) ∧
 (Qf ∧
 (Qf ∧
 (Qf ∧
 ((bcase (if Bool.true = Bool.true then !(n10 == 0 && (n11 == 0 && Bool.true)) else n10 == 0 && (n11 == 0 && Bool.true))
 Qtf
 Qf) ∧
 ((Qv (Value.agg [(vI 0), (vI 0)].toArray)) ∧
 ((Qv (Value.agg [(vI n10), (vI n11)].toArray)) ∧
 (Qf ∧
 ((bcase (n12 != n15)
 Qtf
 Qf) ∧
 ((Qv (vI n15)) ∧
 ((Qv (vI n12)) ∧
 (Qb ∧
 ((bcase (n15 != 0)
 Qb
 Qft) ∧
 ((Qv (vI n15)) ∧
 True))))))))))))))))))))))) ∧
 (∃ n16 : Int,
 ((Says C 17 [(D.agg [D.nil, (dI x1), (dI x2), (dI x3), (dI x4), (dI x5)]), (D.agg [(dI x6), (dI x7)])] [(dI n16)]) ∧
 (bcase (n16 != 0)
 (bcase (n16 != 0)
 (bcase (n5 == n16)
 (bcase (n8 == n16)
 (bcase (if Bool.false = Bool.true then !(n3 == 0 && (n4 == 0 && Bool.true)) else n3 == 0 && (n4 == 0 && Bool.true))
 (bcase (if Bool.false = Bool.true then !(n6 == 0 && (n7 == 0 && Bool.true)) else n6 == 0 && (n7 == 0 && Bool.true))
 (k kT)
 (k kF))
 (k kF))
 (k kF))
 (k kF))
 (bcase (dL n9 2 l9)
 (∃ n17 : Int,
 (∃ n18 : Int,
 (((Says C 18 [(D.agg [D.nil, (dI x1), (dI x2), (dI x3), (dI x4), (dI x5)]), (D.agg [(dI x6), (dI x7)]), (D.agg [(D.val (Value.string (s8))), (Dw n9 2 l9)])] [(D.agg [(dI n17), (dI n18)]), (D.val (Value.bool true))]) ∧
 (bcase (n5 != 0)
 (k kF)
 (bcase (if Bool.true = Bool.true then !(n3 == n17 && (n4 == n18 && Bool.true)) else n3 == n17 && (n4 == n18 && Bool.true))
 (k kF)
 (bcase (dL n9 2 l9)
 (∃ n19 : Int,
 (∃ n20 : Int,
 (((Says C 19 [(D.agg [D.nil, (dI x1), (dI x2), (dI x3), (dI x4), (dI x5)]), (D.agg [(dI x6), (dI x7)]), (D.agg [(D.val (Value.string (s8))), (Dw n9 2 l9)])] [(D.agg [(dI n19), (dI n20)]), (D.val (Value.bool true))]) ∧
 (bcase (n8 == 0)
 (bcase (if Bool.false = Bool.true then !(n6 == n19 && (n7 == n20 && Bool.true)) else n6 == n19 && (n7 == n20 && Bool.true))
 (k kT)
 (k kF))
 (k kF))) ∨
 ((Says C 19 [(D.agg [D.nil, (dI x1), (dI x2), (dI x3), (dI x4), (dI x5)]), (D.agg [(dI x6), (dI x7)]), (D.agg [(D.val (Value.string (s8))), (Dw n9 2 l9)])] [(D.agg [(dI n19), (dI n20)]), (D.val (Value.bool false))]) ∧
 (bcase (n8 == 8)
 (bcase (if Bool.false = Bool.true then !(n6 == 0 && (n7 == 0 && Bool.true)) else n6 == 0 && (n7 == 0 && Bool.true))
 (k kT)
 (k kF))
 (k kF))))))
 False)))) ∨
 ((Says C 18 [(D.agg [D.nil, (dI x1), (dI x2), (dI x3), (dI x4), (dI x5)]), (D.agg [(dI x6), (dI x7)]), (D.agg [(D.val (Value.string (s8))), (Dw n9 2 l9)])] [(D.agg [(dI n17), (dI n18)]), (D.val (Value.bool false))]) ∧
 (bcase (n5 != 8)
 (k kF)
 (bcase (if Bool.true = Bool.true then !(n3 == 0 && (n4 == 0 && Bool.true)) else n3 == 0 && (n4 == 0 && Bool.true))
 (k kF)
 (bcase (dL n9 2 l9)
 (∃ n19 : Int,
 (∃ n20 : Int,
 (((Says C 19 [(D.agg [D.nil, (dI x1), (dI x2), (dI x3), (dI x4), (dI x5)]), (D.agg [(dI x6), (dI x7)]), (D.agg [(D.val (Value.string (s8))), (Dw n9 2 l9)])] [(D.agg [(dI n19), (dI n20)]), (D.val (Value.bool true))]) ∧
 (bcase (n8 == 0)
 (bcase (if Bool.false = Bool.true then !(n6 == n19 && (n7 == n20 && Bool.true)) else n6 == n19 && (n7 == n20 && Bool.true))
 (k kT)
 (k kF))
 (k kF))) ∨
 ((Says C 19 [(D.agg [D.nil, (dI x1), (dI x2), (dI x3), (dI x4), (dI x5)]), (D.agg [(dI x6), (dI x7)]), (D.agg [(D.val (Value.string (s8))), (Dw n9 2 l9)])] [(D.agg [(dI n19), (dI n20)]), (D.val (Value.bool false))]) ∧
 (bcase (n8 == 8)
 (bcase (if Bool.false = Bool.true then !(n6 == 0 && (n7 == 0 && Bool.true)) else n6 == 0 && (n7 == 0 && Bool.true))
 (k kT)
 (k kF))
 (k kF))))))
 False)))))))
 False))
 (bcase (n15 != 0)
 (bcase (n5 == n15)
 (bcase (n8 == n15)
 (bcase (if Bool.false = Bool.true then !(n3 == 0 && (n4 == 0 && Bool.true)) else n3 == 0 && (n4 == 0 && Bool.true))
 (bcase (if Bool.false = Bool.true then !(n6 == 0 && (n7 == 0 && Bool.true)) else n6 == 0 && (n7 == 0 && Bool.true))
 (k kT)
 (k kF))
 (k kF))
 (k kF))
 (k kF))
 (bcase (dL n9 2 l9)
 (∃ n17 : Int,
 (∃ n18 : Int,
 (((Says C 18 [(D.agg [D.nil, (dI x1), (dI x2), (dI x3), (dI x4), (dI x5)]), (D.agg [(dI x6), (dI x7)]), (D.agg [(D.val (Value.string (s8))), (Dw n9 2 l9)])] [(D.agg [(dI n17), (dI n18)]), (D.val (Value.bool true))]) ∧
 (bcase (n5 != 0)
 (k kF)
 (bcase (if Bool.true = Bool.true then !(n3 == n17 && (n4 == n18 && Bool.true)) else n3 == n17 && (n4 == n18 && Bool.true))
 (k kF)
 (bcase (dL n9 2 l9)
 (∃ n19 : Int,
 (∃ n20 : Int,
 (((Says C 19 [(D.agg [D.nil, (dI x1), (dI x2), (dI x3), (dI x4), (dI x5)]), (D.agg [(dI x6), (dI x7)]), (D.agg [(D.val (Value.string (s8))), (Dw n9 2 l9)])] [(D.agg [(dI n19), (dI n20)]), (D.val (Value.bool true))]) ∧
 (bcase (n8 == 0)
 (bcase (if Bool.false = Bool.true then !(n6 == n19 && (n7 == n20 && Bool.true)) else n6 == n19 && (n7 == n20 && Bool.true))
 (k kT)
 (k kF))
 (k kF))) ∨
 ((Says C 19 [(D.agg [D.nil, (dI x1), (dI x2), (dI x3), (dI x4), (dI x5)]), (D.agg [(dI x6), (dI x7)]), (D.agg [(D.val (Value.string (s8))), (Dw n9 2 l9)])] [(D.agg [(dI n19), (dI n20)]), (D.val (Value.bool false))]) ∧
 (bcase (n8 == 8)
 (bcase (if Bool.false = Bool.true then !(n6 == 0 && (n7 == 0 && Bool.true)) else n6 == 0 && (n7 == 0 && Bool.true))
 (k kT)
 (k kF))
 (k kF))))))
 False)))) ∨
 ((Says C 18 [(D.agg [D.nil, (dI x1), (dI x2), (dI x3), (dI x4), (dI x5)]), (D.agg [(dI x6), (dI x7)]), (D.agg [(D.val (Value.string (s8))), (Dw n9 2 l9)])] [(D.agg [(dI n17), (dI n18)]), (D.val (Value.bool false))]) ∧
 (bcase (n5 != 8)
 (k kF)
 (bcase (if Bool.true = Bool.true then !(n3 == 0 && (n4 == 0 && Bool.true)) else n3 == 0 && (n4 == 0 && Bool.true))
 (k kF)
 (bcase (dL n9 2 l9)
 (∃ n19 : Int,
 (∃ n20 : Int,
 (((Says C 19 [(D.agg [D.nil, (dI x1), (dI x2), (dI x3), (dI x4), (dI x5)]), (D.agg [(dI x6), (dI x7)]), (D.agg [(D.val (Value.string (s8))), (Dw n9 2 l9)])] [(D.agg [(dI n19), (dI n20)]), (D.val (Value.bool true))]) ∧
 (bcase (n8 == 0)
 (bcase (if Bool.false = Bool.true then !(n6 == n19 && (n7 == n20 && Bool.true)) else n6 == n19 && (n7 == n20 && Bool.true))
 (k kT)
 (k kF))
 (k kF))) ∨
 ((Says C 19 [(D.agg [D.nil, (dI x1), (dI x2), (dI x3), (dI x4), (dI x5)]), (D.agg [(dI x6), (dI x7)]), (D.agg [(D.val (Value.string (s8))), (Dw n9 2 l9)])] [(D.agg [(dI n19), (dI n20)]), (D.val (Value.bool false))]) ∧
 (bcase (n8 == 8)
 (bcase (if Bool.false = Bool.true then !(n6 == 0 && (n7 == 0 && Bool.true)) else n6 == 0 && (n7 == 0 && Bool.true))
 (k kT)
 (k kF))
 (k kF))))))
 False)))))))
 False))))))))))
 (bcase (n15 == 0)
 (bcase (n12 != 0)
 ((Qu ∧
 (Qu ∧
 (Qu ∧
 (Qb ∧
 ((bcase (n12 != 0)
 Qb
 Qft) ∧
 ((Qv (vI n12)) ∧
 (Qb ∧
 ((bcase (n15 == 0)
 Qb
 Qft) ∧
 ((Qv (vI n15)) ∧
 (Qf ∧
 (Qf ∧
 (Qu ∧
 (Qu ∧
 (Qu ∧
 (Qu ∧
 (Qu ∧
 (Qu ∧
 (Qu ∧
 (Qu ∧
 (Qf ∧
 ((bcase (n15 != 0)
 Qtf
 Qf) ∧
 ((Qv (vI n15)) ∧
 True)))))))))))))))))))))) ∧
 ((Qb ∧
 (Qb ∧
 (Qb ∧
 (Qu ∧
 (Qu ∧
 ((bcase (n12 != 0)
 Qb
 Qft) ∧
 ((Qv (vI n12)) ∧
 (Qb ∧
 ((bcase (n15 == 0)
 Qb
 Qft) ∧
 ((Qv (vI n15)) ∧
 (Qf ∧
 (Qf ∧
 (Qu ∧
 (Qu ∧
 (Qu ∧
 (Qu ∧
 (Qu ∧
 (Qu ∧
 (Qu ∧
 (Qu ∧
 (Qf ∧
 ((bcase (n15 != 0)
 Qtf
 Qf) ∧
 ((Qv (vI n15)) ∧
 True))))))))))))))))))))))) ∧
 (k kF)))
 (((Qv (Value.agg [(Value.string (s8)), (Sl 500 (n9) (c9))].toArray)) ∧
 ((Qv (Value.agg [(Value.slice none 0 0), (vI x1), (vI x2), (vI x3), (vI x4), (vI x5)].toArray)) ∧
 ((Qv (Value.agg [(vI n10), (vI n11)].toArray)) ∧
 (Qf ∧
 ((bcase (n12 != 0)
 Qtf
 Qf) ∧
 ((Qv (vI n12)) ∧
 (Qb ∧
 ((bcase (n15 == 0)
 Qb
 Qft) ∧
 ((Qv (vI n15)) ∧
 (Qf ∧
 (Qf ∧
 (Qu ∧
 (Qu ∧
 (Qu ∧
 (Qu ∧
 (Qu ∧
 (Qu ∧
 (Qu ∧
 (Qu ∧
 (Qf ∧
 ((bcase (n15 != 0)
 Qtf
 Qf) ∧
 ((Qv (vI n15)) ∧
 True)))))))))))))))))))))) ∧
 (bcase (dL n9 2 l9)
 (∃ n16 : Int,
 (∃ n17 : Int,
 ((Says C 16 [(D.agg [D.nil, (dI x1), (dI x2), (dI x3), (dI x4), (dI x5)]), (D.agg [(D.val (Value.string (s8))), (Dw n9 2 l9)])] [(D.agg [(dI n16), (dI n17)])]) ∧
 (bcase (if Bool.true = Bool.true then !(n10 == n16 && (n11 == n17 && Bool.true)) else n10 == n16 && (n11 == n17 && Bool.true))
 ((Qb ∧
 (Qb ∧
 (Qb ∧
 ((bcase (if Bool.true = Bool.true then !(n10 == n16 && (n11 == n17 && Bool.true)) else n10 == n16 && (n11 == n17 && Bool.true))
 Qb
 Qft) ∧
 ((Qv (Value.agg [(vI n10), (vI n11)].toArray)) ∧
 ((bcase (n12 != 0)
 Qtf
 Qf) ∧
 ((Qv (vI n12)) ∧
 (Qb ∧
 ((bcase (n15 == 0)
 Qb
 Qft) ∧
 ((Qv (vI n15)) ∧
 (Qf ∧
 (Qf ∧
 (Qu ∧
 (Qu ∧
 (Qu ∧
 (Qu ∧
 (Qu ∧
 (Qu ∧
 (Qu ∧
 (Qu ∧
 (Qf ∧
 ((bcase (n15 != 0)
 Qtf
 Qf) ∧
 ((Qv (vI n15)) ∧
 True))))))))))))))))))))))) ∧
 (k kF))
 ((Qf ∧
 (Qf ∧
 (Qf ∧
 ((bcase (if Bool.true = Bool.true then !(n10 == n16 && (n11 == n17 && Bool.true)) else n10 == n16 && (n11 == n17 && Bool.true))
 Qtf
 Qf) ∧
 ((Qv (Value.agg [(vI n10), (vI n11)].toArray)) ∧
 ((bcase (n12 != 0)
 Qtf
 Qf) ∧
 ((Qv (vI n12)) ∧
 (Qb ∧
 ((bcase (n15 == 0)
 Qb
 Qft) ∧
 ((Qv (vI n15)) ∧
 (Qf ∧
 (Qf ∧
 (Qu ∧
 (Qu ∧
 (Qu ∧
 (Qu ∧
 (Qu ∧
 (Qu ∧
 (Qu ∧
 (Qu ∧
 (Qf ∧
 ((bcase (n15 != 0)
 Qtf
 Qf) ∧
 ((Qv (vI n15)) ∧
 True))))))))))))))))))))))) ∧
 (∃ n18 : Int,
 ((Says C 17 [(D.agg [D.nil, (dI x1), (dI x2), (dI x3), (dI x4), (dI x5)]), (D.agg [(dI x6), (dI x7)])] [(dI n18)]) ∧
 (bcase (n18 != 0)
 (bcase (n18 != 0)
 (bcase (n5 == n18)
 (bcase (n8 == n18)
 (bcase (if Bool.false = Bool.true then !(n3 == 0 && (n4 == 0 && Bool.true)) else n3 == 0 && (n4 == 0 && Bool.true))
 (bcase (if Bool.false = Bool.true then !(n6 == 0 && (n7 == 0 && Bool.true)) else n6 == 0 && (n7 == 0 && Bool.true))
 (k kT)
 (k kF))
 (k kF))
 (k kF))
 (k kF))
 (bcase (dL n9 2 l9)
 (∃ n19 : Int,
 (∃ n20 : Int,
 (((Says C 18 [(D.agg [D.nil, (dI x1), (dI x2), (dI x3), (dI x4), (dI x5)]), (D.agg [(dI x6), (dI x7)]), (D.agg [(D.val (Value.string (s8))), (Dw n9 2 l9)])] [(D.agg [(dI n19), (dI n20)]), (D.val (Value.bool true))]) ∧
 (bcase (n5 != 0)
 (k kF)
 (bcase (if Bool.true = Bool.true then !(n3 == n19 && (n4 == n20 && Bool.true)) else n3 == n19 && (n4 == n20 && Bool.true))
 (k kF)
 (bcase (dL n9 2 l9)
 (∃ n21 : Int,
 (∃ n22 : Int,
 (((Says C 19 [(D.agg [D.nil, (dI x1), (dI x2), (dI x3), (dI x4), (dI x5)]), (D.agg [(dI x6), (dI x7)]), (D.agg [(D.val (Value.string (s8))), (Dw n9 2 l9)])] [(D.agg [(dI n21), (dI n22)]), (D.val (Value.bool true))]) ∧
 (bcase (n8 == 0)
 (bcase (if Bool.false = Bool.true then !(n6 == n21 && (n7 == n22 && Bool.true)) else n6 == n21 && (n7 == n22 && Bool.true))
 (k kT)
 (k kF))
 (k kF))) ∨
 ((Says C 19 [(D.agg [D.nil, (dI x1), (dI x2), (dI x3), (dI x4), (dI x5)]), (D.agg [(dI x6), (dI x7)]), (D.agg [(D.val (Value.string (s8))), (Dw n9 2 l9)])] [(D.agg [(dI n21), (dI n22)]), (D.val (Value.bool false))]) ∧
 (bcase (n8 == 8)
 (bcase (if Bool.false = Bool.true then !(n6 == 0 && (n7 == 0 && Bool.true)) else n6 == 0 && (n7 == 0 && Bool.true))
 (k kT)
 (k kF))
 (k kF))))))
 False)))) ∨
 ((Says C 18 [(D.agg [D.nil, (dI x1), (dI x2), (dI x3), (dI x4), (dI x5)]), (D.agg [(dI x6), (dI x7)]), (D.agg [(D.val (Value.string (s8))), (Dw n9 2 l9)])] [(D.agg [(dI n19), (dI n20)]), (D.val (Value.bool false))]) ∧
 (bcase (n5 != 8)
 (k kF)
 (bcase (if Bool.true = Bool.true then !(n3 == 0 && (n4 == 0 && Bool.true)) else n3 == 0 && (n4 == 0 && Bool.true))
 (k kF)
 (bcase (dL n9 2 l9)
 (∃ n21 : Int,
 (∃ n22 : Int,
 (((Says C 19 [(D.agg [D.nil, (dI x1), (dI x2), (dI x3), (dI x4), (dI x5)]), (D.agg [(dI x6), (dI x7)]), (D.agg [(D.val (Value.string (s8))), (Dw n9 2 l9)])] [(D.agg [(dI n21), (dI n22)]), (D.val (Value.bool true))]) ∧
 (bcase (n8 == 0)
 (bcase (if Bool.false = Bool.true then !(n6 == n21 && (n7 == n22 && Bool.true)) else n6 == n21 && (n7 == n22 && Bool.true))
 (k kT)
 (k kF))
 (k kF))) ∨
 ((Says C 19 [(D.agg [D.nil, (dI x1), (dI x2), (dI x3), (dI x4), (dI x5)]), (D.agg [(dI x6), (dI x7)]), (D.agg [(D.val (Value.string (s8))), (Dw n9 2 l9)])] [(D.agg [(dI n21), (dI n22)]), (D.val (Value.bool false))]) ∧
 (bcase (n8 == 8)
 (bcase (if Bool.false = Bool.true then !(n6 == 0 && (n7 == 0 && Bool.true)) else n6 == 0 && (n7 == 0 && Bool.true))
 (k kT)
 (k kF))
 (k kF))))))
 False)))))))
 False))
 (bcase (n15 != 0)
 (bcase (n5 == n15)
 (bcase (n8 == n15)
 (bcase (if Bool.false = Bool.true then !(n3 == 0 && (n4 == 0 && Bool.true)) else n3 == 0 && (n4 == 0 && Bool.true))
 (bcase (if Bool.false = Bool.true then !(n6 == 0 && (n7 == 0 && Bool.true)) else n6 == 0 && (n7 == 0 && Bool.true))
 (k kT)
 (k kF))
 (k kF))
 (k kF))
 (k kF))
 (bcase (dL n9 2 l9)
 (∃ n19 : Int,
 (∃ n20 : Int,
 (((Says C 18 [(D.agg [D.nil, (dI x1), (dI x2), (dI x3), (dI x4), (dI x5)]), (D.agg [(dI x6), (dI x7)]), (D.agg [(D.val (Value.string (s8))), (Dw n9 2 l9)])] [(D.agg [(dI n19), (dI n20)]), (D.val (Value.bool true))]) ∧
 (bcase (n5 != 0)
 (k kF)
 (bcase (if Bool.true = Bool.true then !(n3 == n19 && (n4 == n20 && Bool.true)) else n3 == n19 && (n4 == n20 && Bool.true))
 (k kF)
 (bcase (dL n9 2 l9)
 (∃ n21 : Int,
 (∃ n22 : Int,
 (((Says C 19 [(D.agg [D.nil, (dI x1), (dI x2), (dI x3), (dI x4), (dI x5)]), (D.agg [(dI x6), (dI x7)]), (D.agg [(D.val (Value.string (s8))), (Dw n9 2 l9)])] [(D.agg [(dI n21), (dI n22)]), (D.val (Value.bool true))]) ∧
 (bcase (n8 == 0)
 (bcase (if Bool.false = Bool.true then !(n6 == n21 && (n7 == n22 && Bool.true)) else n6 == n21 && (n7 == n22 && Bool.true))
 (k kT)
 (k kF))
 (k kF))) ∨
 ((Says C 19 [(D.agg [D.nil, (dI x1), (dI x2), (dI x3), (dI x4), (dI x5)]), (D.agg [(dI x6), (dI x7)]), (D.agg [(D.val (Value.string (s8))), (Dw n9 2 l9)])] [(D.agg [(dI n21), (dI n22)]), (D.val (Value.bool false))]) ∧
 (bcase (n8 == 8)
 (bcase (if Bool.false = Bool.true then !(n6 == 0 && (n7 == 0 && Bool.true)) else n6 == 0 && (n7 == 0 && Bool.true))
 (k kT)
 (k kF))
 (k kF))))))
 False)))) ∨
 ((Says C 18 [(D.agg [D.nil, (dI x1), (dI x2), (dI x3), (dI x4), (dI x5)]), (D.agg [(dI x6), (dI x7)]), (D.agg [(D.val (Value.string (s8))), (Dw n9 2 l9)])] [(D.agg [(dI n19), (dI n20)]), (D.val (Value.bool false))]) ∧
 (bcase (n5 != 8)
 (k kF)
 (bcase (if Bool.true = Bool.true then !(n3 == 0 && (n4 == 0 && Bool.true)) else n3 == 0 && (n4 == 0 && Bool.true))
 (k kF)
 (bcase (dL n9 2 l9)
 (∃ n21 : Int,
 (∃ n22 : Int,
 (((Says C 19 [(D.agg [D.nil, (dI x1), (dI x2), (dI x3), (dI x4), (dI x5)]), (D.agg [(dI x6), (dI x7)]), (D.agg [(D.val (Value.string (s8))), (Dw n9 2 l9)])] [(D.agg [(dI n21), (dI n22)]), (D.val (Value.bool true))]) ∧
 (bcase (n8 == 0)
 (bcase (if Bool.false = Bool.true then !(n6 == n21 && (n7 == n22 && Bool.true)) else n6 == n21 && (n7 == n22 && Bool.true))
 (k kT)
 (k kF))
 (k kF))) ∨
 ((Says C 19 [(D.agg [D.nil, (dI x1), (dI x2), (dI x3), (dI x4), (dI x5)]), (D.agg [(dI x6), (dI x7)]), (D.agg [(D.val (Value.string (s8))), (Dw n9 2 l9)])] [(D.agg [(dI n21), (dI n22)]), (D.val (Value.bool false))]) ∧
 (bcase (n8 == 8)
 (bcase (if Bool.false = Bool.true then !(n6 == 0 && (n7 == 0 && Bool.true)) else n6 == 0 && (n7 == 0 && Bool.true))
 (k kT)
 (k kF))
 (k kF))))))
 False)))))))
 False))))))))))
 False)))
 ((Qu ∧
 (Qu ∧
 (Qu ∧
 (Qu ∧
 (Qu ∧
 (Qu ∧
 (Qf ∧
 ((bcase (n15 == 0)
 Qtf
 Qf) ∧
 ((Qv (vI n15)) ∧
 (Qf ∧
 (Qf ∧
 (Qu ∧
 (Qu ∧
 (Qu ∧
 (Qu ∧
 (Qu ∧
 (Qu ∧
 (Qu ∧
 (Qu ∧
 (Qf ∧
 ((bcase (n15 != 0)
 Qtf
 Qf) ∧
 ((Qv (vI n15)) ∧
 True)))))))))))))))))))))) ∧
 ((Qf ∧
 (Qf ∧
 (Qu ∧
 (Qu ∧
 (Qu ∧
 (Qu ∧
 (Qu ∧
 (Qf ∧
 ((bcase (n15 == 0)
 Qtf
 Qf) ∧
 ((Qv (vI n15)) ∧
 (Qf ∧
 (Qf ∧
 (Qu ∧
 (Qu ∧
 (Qu ∧
 (Qu ∧
 (Qu ∧
 (Qu ∧
 (Qu ∧
 (Qu ∧
 (Qf ∧
 ((bcase (n15 != 0)
 Qtf
 Qf) ∧
 ((Qv (vI n15)) ∧
 True))))))))))))))))))))))) ∧
 (∃ n16 : Int,
 ((Says C 17 [(D.agg [D.nil, (dI x1), (dI x2), (dI x3), (dI x4), (dI x5)]), (D.agg [(dI x6), (dI x7)])] [(dI n16)]) ∧
 (bcase (n16 != 0)
 (bcase (n16 != 0)
 (bcase (n5 == n16)
 (bcase (n8 == n16)
 (bcase (if Bool.false = Bool.true then !(n3 == 0 && (n4 == 0 && Bool.true)) else n3 == 0 && (n4 == 0 && Bool.true))
 (bcase (if Bool.false = Bool.true then !(n6 == 0 && (n7 == 0 && Bool.true)) else n6 == 0 && (n7 == 0 && Bool.true))
 (k kT)
 (k kF))
 (k kF))
 (k kF))
 (k kF))
 (bcase (dL n9 2 l9)
 (∃ n17 : Int,
 (∃ n18 : Int,
 (((Says C 18 [(D.agg [D.nil, (dI x1), (dI x2), (dI x3), (dI x4), (dI x5)]), (D.agg [(dI x6), (dI x7)]), (D.agg [(D.val (Value.string (s8))), (Dw n9 2 l9)])] [(D.agg [(dI n17), (dI n18)]), (D.val (Value.bool true))]) ∧
 (bcase (n5 != 0)
 (k kF)
 (bcase (if Bool.true = Bool.true then !(n3 == n17 && (n4 == n18 && Bool.true)) else n3 == n17 && (n4 == n18 && Bool.true))
 (k kF)
 (bcase (dL n9 2 l9)
 (∃ n19 : Int,
 (∃ n20 : Int,
 (((Says C 19 [(D.agg [D.nil, (dI x1), (dI x2), (dI x3), (dI x4), (dI x5)]), (D.agg [(dI x6), (dI x7)]), (D.agg [(D.val (Value.string (s8))), (Dw n9 2 l9)])] [(D.agg [(dI n19), (dI n20)]), (D.val (Value.bool true))]) ∧
 (bcase (n8 == 0)
 (bcase (if Bool.false = Bool.true then !(n6 == n19 && (n7 == n20 && Bool.true)) else n6 == n19 && (n7 == n20 && Bool.true))
 (k kT)
 (k kF))
 (k kF))) ∨
 ((Says C 19 [(D.agg [D.nil, (dI x1), (dI x2), (dI x3), (dI x4), (dI x5)]), (D.agg [(dI x6), (dI x7)]), (D.agg [(D.val (Value.string (s8))), (Dw n9 2 l9)])] [(D.agg [(dI n19), (dI n20)]), (D.val (Value.bool false))]) ∧
 (bcase (n8 == 8)
 (bcase (if Bool.false = Bool.true then !(n6 == 0 && (n7 == 0 && Bool.true)) else n6 == 0 && (n7 == 0 && Bool.true))
 (k kT)
 (k kF))
 (k kF))))))
 False)))) ∨
 ((Says C 18 [(D.agg [D.nil, (dI x1), (dI x2), (dI x3), (dI x4), (dI x5)]), (D.agg [(dI x6), (dI x7)]), (D.agg [(D.val (Value.string (s8))), (Dw n9 2 l9)])] [(D.agg [(dI n17), (dI n18)]), (D.val (Value.bool false))]) ∧
 (bcase (n5 != 8)
 (k kF)
 (bcase (if Bool.true = Bool.true then !(n3 == 0 && (n4 == 0 && Bool.true)) else n3 == 0 && (n4 == 0 && Bool.true))
 (k kF)
 (bcase (dL n9 2 l9)
 (∃ n19 : Int,
 (∃ n20 : Int,
 (((Says C 19 [(D.agg [D.nil, (dI x1), (dI x2), (dI x3), (dI x4), (dI x5)]), (D.agg [(dI x6), (dI x7)]), (D.agg [(D.val (Value.string (s8))), (Dw n9 2 l9)])] [(D.agg [(dI n19), (dI n20)]), (D.val (Value.bool true))]) ∧
 (bcase (n8 == 0)
 (bcase (if Bool.false = Bool.true then !(n6 == n19 && (n7 == n20 && Bool.true)) else n6 == n19 && (n7 == n20 && Bool.true))
 (k kT)
 (k kF))
 (k kF))) ∨
 ((Says C 19 [(D.agg [D.nil, (dI x1), (dI x2), (dI x3), (dI x4), (dI x5)]), (D.agg [(dI x6), (dI x7)]), (D.agg [(D.val (Value.string (s8))), (Dw n9 2 l9)])] [(D.agg [(dI n19), (dI n20)]), (D.val (Value.bool false))]) ∧
 (bcase (n8 == 8)
 (bcase (if Bool.false = Bool.true then !(n6 == 0 && (n7 == 0 && Bool.true)) else n6 == 0 && (n7 == 0 && Bool.true))
 (k kT)
 (k kF))
 (k kF))))))
 False)))))))
 False))
 (bcase (n15 != 0)
 (bcase (n5 == n15)
 (bcase (n8 == n15)
 (bcase (if Bool.false = Bool.true then !(n3 == 0 && (n4 == 0 && Bool.true)) else n3 == 0 && (n4 == 0 && Bool.true))
 (bcase (if Bool.false = Bool.true then !(n6 == 0 && (n7 == 0 && Bool.true)) else n6 == 0 && (n7 == 0 && Bool.true))
 (k kT)
 (k kF))
 (k kF))
 (k kF))
 (k kF))
 (bcase (dL n9 2 l9)
 (∃ n17 : Int,
 (∃ n18 : Int,
 (((Says C 18 [(D.agg [D.nil, (dI x1), (dI x2), (dI x3), (dI x4), (dI x5)]), (D.agg [(dI x6), (dI x7)]), (D.agg [(D.val (Value.string (s8))), (Dw n9 2 l9)])] [(D.agg [(dI n17), (dI n18)]), (D.val (Value.bool true))]) ∧
 (bcase (n5 != 0)
 (k kF)
 (bcase (if Bool.true = Bool.true then !(n3 == n17 && (n4 == n18 && Bool.true)) else n3 == n17 && (n4 == n18 && Bool.true))
 (k kF)
 (bcase (dL n9 2 l9)
 (∃ n19 : Int,
 (∃ n20 : Int,
 (((Says C 19 [(D.agg [D.nil, (dI x1), (dI x2), (dI x3), (dI x4), (dI x5)]), (D.agg [(dI x6), (dI x7)]), (D.agg [(D.val (Value.string (s8))), (Dw n9 2 l9)])] [(D.agg [(dI n19), (dI n20)]), (D.val (Value.bool true))]) ∧
 (bcase (n8 == 0)
 (bcase (if Bool.false = Bool.true then !(n6 == n19 && (n7 == n20 && Bool.true)) else n6 == n19 && (n7 == n20 && Bool.true))
 (k kT)
 (k kF))
 (k kF))) ∨
 ((Says C 19 [(D.agg [D.nil, (dI x1), (dI x2), (dI x3), (dI x4), (dI x5)]), (D.agg [(dI x6), (dI x7)]), (D.agg [(D.val (Value.string (s8))), (Dw n9 2 l9)])] [(D.agg [(dI n19), (dI n20)]), (D.val (Value.bool false))]) ∧
 (bcase (n8 == 8)
 (bcase (if Bool.false = Bool.true then !(n6 == 0 && (n7 == 0 && Bool.true)) else n6 == 0 && (n7 == 0 && Bool.true))
 (k kT)
 (k kF))
 (k kF))))))
 False)))) ∨
 ((Says C 18 [(D.agg [D.nil, (dI x1), (dI x2), (dI x3), (dI x4), (dI x5)]), (D.agg [(dI x6), (dI x7)]), (D.agg [(D.val (Value.string (s8))), (Dw n9 2 l9)])] [(D.agg [(dI n17), (dI n18)]), (D.val (Value.bool false))]) ∧
 (bcase (n5 != 8)
 (k kF)
 (bcase (if Bool.true = Bool.true then !(n3 == 0 && (n4 == 0 && Bool.true)) else n3 == 0 && (n4 == 0 && Bool.true))
 (k kF)
 (bcase (dL n9 2 l9)
 (∃ n19 : Int,
 (∃ n20 : Int,
 (((Says C 19 [(D.agg [D.nil, (dI x1), (dI x2), (dI x3), (dI x4), (dI x5)]), (D.agg [(dI x6), (dI x7)]), (D.agg [(D.val (Value.string (s8))), (Dw n9 2 l9)])] [(D.agg [(dI n19), (dI n20)]), (D.val (Value.bool true))]) ∧
 (bcase (n8 == 0)
 (bcase (if Bool.false = Bool.true then !(n6 == n19 && (n7 == n20 && Bool.true)) else n6 == n19 && (n7 == n20 && Bool.true))
 (k kT)
 (k kF))
 (k kF))) ∨
 ((Says C 19 [(D.agg [D.nil, (dI x1), (dI x2), (dI x3), (dI x4), (dI x5)]), (D.agg [(dI x6), (dI x7)]), (D.agg [(D.val (Value.string (s8))), (Dw n9 2 l9)])] [(D.agg [(dI n19), (dI n20)]), (D.val (Value.bool false))]) ∧
 (bcase (n8 == 8)
 (bcase (if Bool.false = Bool.true then !(n6 == 0 && (n7 == 0 && Bool.true)) else n6 == 0 && (n7 == 0 && Bool.true))
 (k kT)
 (k kF))
 (k kF))))))
 False)))))))
 False))))))))))))))
 False)))))))))))
 False)))
 False)))))))))))
 False)))
 False)))))))))))
 False)))
 False))))))))))
 False)))
 False))))
 (k kT))
 (k kT))) ∨
 ((Says C 5 [] kF) ∧
 (k kF))) := by kernel_rfl
end Go.Proofs.G5l

/- What is left to show of each function, written out; the kernel reckons it. -/
namespace Go.Proofs.G5l
open Go Go.Abs Go.Proofs
set_option maxRecDepth 100000
set_option linter.unusedVariables false
def gLo3 (C : Ct) (L : AtLoop) (x1 : Int) (x2 : Int) (x3 : Int) (x4 : Int) (x5 : Int) (x6 : Int) (x7 : Int) (s8 : ByteArray) (k : List D → Prop) : Prop := wpFn Try.prog (hM C) L 0 3 #[.agg #[.slice none 0 0, .int .i64 x1, .int .i64 x2, .int .i64 x3, .int .i64 x4, .int .i64 x5], .agg #[.int .i64 x6, .int .i64 x7], .agg #[.string s8, .slice none 0 0]] (heapOf []) (dataK k)
theorem gLo3_text (C : Ct) (L : AtLoop) (x1 : Int) (x2 : Int) (x3 : Int) (x4 : Int) (x5 : Int) (x6 : Int) (x7 : Int) (s8 : ByteArray) (k : List D → Prop) : gLo3 C L x1 x2 x3 x4 x5 x6 x7 s8 k =
 (((Says C 5 [] kT) ∧
 (bcase (decide ((↑(ByteArray.size s8) : Int) ≤ 30))
 (((Qv (Value.agg [(Value.string (s8)), (Value.slice none 0 0)].toArray)) ∧
 ((Qv (Value.agg [(Value.slice none 0 0), (vI x1), (vI x2), (vI x3), (vI x4), (vI x5)].toArray)) ∧
 True)) ∧
 ((Says C 9 [(D.agg [D.nil, (dI x1), (dI x2), (dI x3), (dI x4), (dI x5)])] [(D.agg [(D.sl 0 2 []), (dI x1), (dI x2), (dI x3), (dI x4), (dI x5)])]) ∧
 (((Qv (Value.agg [(Value.string (s8)), (Value.slice none 0 0)].toArray)) ∧
 True) ∧
 ((Says C 10 [(D.agg [(D.val (Value.string (s8))), D.nil])] [(D.agg [(D.val (Value.string (s8))), (D.sl 0 2 [])])]) ∧
 (True ∧
 (∃ n1 : Int,
 (∃ n2 : Int,
 ((Says C 8 [(D.agg [(D.sl 0 2 []), (dI x1), (dI x2), (dI x3), (dI x4), (dI x5)]), (D.agg [(D.val (Value.string (s8))), (D.sl 0 2 [])])] [(dI n1), (dI n2)]) ∧
 (((Qv (vI n2)) ∧
 ((Qv (vI n1)) ∧
 ((Qv (Value.tuple [(vI n1), (vI n2)].toArray)) ∧
 True))) ∧
 (((Qv (vI n2)) ∧
 True) ∧
 (True ∧
 ((((Qv (Pt 1007 0)) ∧
 (Qv (some (AObj.cells [(vI 0), (vI 0)] 24 false 2)))) ∧
 ((Qv (Value.agg [(Value.string (s8)), (Value.slice none 0 0)].toArray)) ∧
 ((Qv (Value.agg [(vI x6), (vI x7)].toArray)) ∧
 ((Qv (Value.agg [(Value.slice none 0 0), (vI x1), (vI x2), (vI x3), (vI x4), (vI x5)].toArray)) ∧
 True)))) ∧
 ((Says C 9 [(D.agg [D.nil, (dI x1), (dI x2), (dI x3), (dI x4), (dI x5)])] [(D.agg [(D.sl 0 2 []), (dI x1), (dI x2), (dI x3), (dI x4), (dI x5)])]) ∧
 ((((Qv (Pt 1007 0)) ∧
 (Qv (some (AObj.cells [(vI 0), (vI 0)] 24 false 2)))) ∧
 ((Qv (Value.agg [(Value.string (s8)), (Value.slice none 0 0)].toArray)) ∧
 ((Qv (Value.agg [(vI x6), (vI x7)].toArray)) ∧
 True))) ∧
 ((Says C 10 [(D.agg [(D.val (Value.string (s8))), D.nil])] [(D.agg [(D.val (Value.string (s8))), (D.sl 0 2 [])])]) ∧
 ((((Qv (Pt 1007 0)) ∧
 (Qv (some (AObj.cells [(vI 0), (vI 0)] 24 false 2)))) ∧
 ((Qv (Value.agg [(vI x6), (vI x7)].toArray)) ∧
 True)) ∧
 (∃ n3 : Int,
 (∃ n4 : Int,
 (∃ n5 : Int,
 ((Says C 11 [(D.agg [(D.sl 0 2 []), (dI x1), (dI x2), (dI x3), (dI x4), (dI x5)]), (D.agg [(dI x6), (dI x7)]), (D.agg [(D.val (Value.string (s8))), (D.sl 0 2 [])])] [(D.agg [(dI n3), (dI n4)]), (dI n5)]) ∧
 (((Qv (vI n5)) ∧
 ((Qv (Value.agg [(vI n3), (vI n4)].toArray)) ∧
 ((Qv (Value.tuple [(Value.agg [(vI n3), (vI n4)].toArray), (vI n5)].toArray)) ∧
 (((Qv (Pt 1007 0)) ∧
 (Qv (some (AObj.cells [(vI 0), (vI 0)] 24 false 2)))) ∧
 True)))) ∧
 (((Qv (vI n5)) ∧
 True) ∧
 (True ∧
 ((((Qv (Pt 1010 0)) ∧
 (Qv (some (AObj.cells [(vI 0), (vI 0)] 28 false 2)))) ∧
 ((Qv (Value.agg [(Value.string (s8)), (Value.slice none 0 0)].toArray)) ∧
 ((Qv (Value.agg [(vI x6), (vI x7)].toArray)) ∧
 ((Qv (Value.agg [(Value.slice none 0 0), (vI x1), (vI x2), (vI x3), (vI x4), (vI x5)].toArray)) ∧
 True)))) ∧
 ((Says C 9 [(D.agg [D.nil, (dI x1), (dI x2), (dI x3), (dI x4), (dI x5)])] [(D.agg [(D.sl 0 2 []), (dI x1), (dI x2), (dI x3), (dI x4), (dI x5)])]) ∧
 ((((Qv (Pt 1010 0)) ∧
 (Qv (some (AObj.cells [(vI 0), (vI 0)] 28 false 2)))) ∧
 ((Qv (Value.agg [(Value.string (s8)), (Value.slice none 0 0)].toArray)) ∧
 ((Qv (Value.agg [(vI x6), (vI x7)].toArray)) ∧
 True))) ∧
 ((Says C 10 [(D.agg [(D.val (Value.string (s8))), D.nil])] [(D.agg [(D.val (Value.string (s8))), (D.sl 0 2 [])])]) ∧
 ((((Qv (Pt 1010 0)) ∧
 (Qv (some (AObj.cells [(vI 0), (vI 0)] 28 false 2)))) ∧
 ((Qv (Value.agg [(vI x6), (vI x7)].toArray)) ∧
 True)) ∧
 (∃ n6 : Int,
 (∃ n7 : Int,
 (∃ n8 : Int,
 ((Says C 12 [(D.agg [(D.sl 0 2 []), (dI x1), (dI x2), (dI x3), (dI x4), (dI x5)]), (D.agg [(dI x6), (dI x7)]), (D.agg [(D.val (Value.string (s8))), (D.sl 0 2 [])])] [(D.agg [(dI n6), (dI n7)]), (dI n8)]) ∧
 (((Qv (vI n8)) ∧
 ((Qv (Value.agg [(vI n6), (vI n7)].toArray)) ∧
 ((Qv (Value.tuple [(Value.agg [(vI n6), (vI n7)].toArray), (vI n8)].toArray)) ∧
 (((Qv (Pt 1010 0)) ∧
 (Qv (some (AObj.cells [(vI 0), (vI 0)] 28 false 2)))) ∧
 True)))) ∧
 (((Qv (vI n8)) ∧
 True) ∧
 (True ∧
 ((((Qv (Pt 1013 0)) ∧
 (Qv (some (AObj.cells [(vI 0), (vI 0)] 28 false 2)))) ∧
 ((Qv (Value.agg [(Value.string (s8)), (Value.slice none 0 0)].toArray)) ∧
 ((Qv (Value.agg [(Value.slice none 0 0), (vI x1), (vI x2), (vI x3), (vI x4), (vI x5)].toArray)) ∧
 True))) ∧
 ((Says C 9 [(D.agg [D.nil, (dI x1), (dI x2), (dI x3), (dI x4), (dI x5)])] [(D.agg [(D.sl 0 2 []), (dI x1), (dI x2), (dI x3), (dI x4), (dI x5)])]) ∧
 ((((Qv (Pt 1013 0)) ∧
 (Qv (some (AObj.cells [(vI 0), (vI 0)] 28 false 2)))) ∧
 ((Qv (Value.agg [(Value.string (s8)), (Value.slice none 0 0)].toArray)) ∧
 True)) ∧
 ((Says C 10 [(D.agg [(D.val (Value.string (s8))), D.nil])] [(D.agg [(D.val (Value.string (s8))), (D.sl 0 2 [])])]) ∧
 ((((Qv (Pt 1013 0)) ∧
 (Qv (some (AObj.cells [(vI 0), (vI 0)] 28 false 2)))) ∧
 True) ∧
 (∃ n9 : Int,
 (∃ n10 : Int,
 (∃ n11 : Int,
 ((Says C 13 [(D.agg [(D.sl 0 2 []), (dI x1), (dI x2), (dI x3), (dI x4), (dI x5)]), (D.agg [(D.val (Value.string (s8))), (D.sl 0 2 [])])] [(D.agg [(dI n9), (dI n10)]), (dI n11)]) ∧
 (((Qv (vI n11)) ∧
 ((Qv (Value.agg [(vI n9), (vI n10)].toArray)) ∧
 ((Qv (Value.tuple [(Value.agg [(vI n9), (vI n10)].toArray), (vI n11)].toArray)) ∧
 (((Qv (Pt 1013 0)) ∧
 (Qv (some (AObj.cells [(vI 0), (vI 0)] 28 false 2)))) ∧
 True)))) ∧
 (((Qv (vI n11)) ∧
 True) ∧
 (True ∧
 (∃ n12 : Int,
 ((Says C 14 [(D.agg [D.nil, (dI x1), (dI x2), (dI x3), (dI x4), (dI x5)])] [(dI n12)]) ∧
 (bcase (n12 != 0)
 (bcase (n2 == n12)
 (bcase (n5 == n12)
 (bcase (n8 == n12)
 (bcase (n11 == n12)
 (bcase (n1 == 0)
 (bcase (if Bool.false = Bool.true then !(n3 == 0 && (n4 == 0 && Bool.true)) else n3 == 0 && (n4 == 0 && Bool.true))
 (bcase (if Bool.false = Bool.true then !(n6 == 0 && (n7 == 0 && Bool.true)) else n6 == 0 && (n7 == 0 && Bool.true))
 (bcase (if Bool.false = Bool.true then !(n9 == 0 && (n10 == 0 && Bool.true)) else n9 == 0 && (n10 == 0 && Bool.true))
 (k kT)
 (k kF))
 (k kF))
 (k kF))
 (k kF))
 (k kF))
 (k kF))
 (k kF))
 (k kF))
 (∃ n13 : Int,
 (∃ n14 : Int,
 ((Says C 15 [(D.agg [(D.val (Value.string (s8))), D.nil])] [(dI n13), (dI n14)]) ∧
 (bcase (n2 != n14)
 (k kF)
 (bcase (n1 != n13)
 (k kF)
 (bcase (n14 != 0)
 (bcase (n11 != n14)
 ((Qu ∧
 (Qu ∧
 (Qu ∧
 (Qu ∧
 (Qu ∧
 (Qu ∧
 (Qu ∧
 (Qu ∧
 (Qu ∧
 (Qb ∧
 (Qb ∧
 (Qb ∧
 (Qu ∧
 (Qu ∧
 (Qu ∧
 (Qb ∧
 ((bcase (n11 != n14)
 Qb
 Qft) ∧
 ((Qv (vI n14)) ∧
 ((Qv (vI n11)) ∧
 (Qb ∧
 ((bcase (n14 != 0)
 Qb
 Qft) ∧
 ((Qv (vI n14)) ∧
 True)))))))))))))))))))))) ∧
 ((Qb ∧
 (Qu ∧
 (Qu ∧
 (Qu ∧
 (Qu ∧
 (Qu ∧
 (Qu ∧
 (Qu ∧
 (Qu ∧
 (Qu ∧
 (Qb ∧
 (Qb ∧
 (Qb ∧
 (Qu ∧
 (Qu ∧
 (Qu ∧
 (Qb ∧
 ((bcase (n11 != n14)
 Qb
 Qft) ∧
 ((Qv (vI n14)) ∧
 ((Qv (vI n11)) ∧
 (Qb ∧
 ((bcase (n14 != 0)
 Qb
 Qft) ∧
 ((Qv (vI n14)) ∧
 True))))))))))))))))))))))) ∧
 (k kF)))
 (bcase (if Bool.true = Bool.true then !(n9 == 0 && (n10 == 0 && Bool.true)) else n9 == 0 && (n10 == 0 && Bool.true))
 ((Qu ∧
 (Qu ∧
 (Qu ∧
 (Qu ∧
 (Qu ∧
 (Qu ∧
 (Qu ∧
 (Qu ∧
 (Qu ∧
 (Qb ∧
 (Qb ∧
 (Qb ∧
 ((bcase (if Bool.true = Bool.true then !(n9 == 0 && (n10 == 0 && Bool.true)) else n9 == 0 && (n10 == 0 && Bool.true))
 Qb
 Qft) ∧
 ((Qv (Value.agg [(vI 0), (vI 0)].toArray)) ∧
 ((Qv (Value.agg [(vI n9), (vI n10)].toArray)) ∧
 (Qf ∧
 ((bcase (n11 != n14)
 Qtf
 Qf) ∧
 ((Qv (vI n14)) ∧
 ((Qv (vI n11)) ∧
 (Qb ∧
 ((bcase (n14 != 0)
 Qb
 Qft) ∧
 ((Qv (vI n14)) ∧
 True)))))))))))))))))))))) ∧
 ((Qb ∧
 (Qu ∧
 (Qu ∧
 (Qu ∧
 (Qu ∧
 (Qu ∧
 (Qu ∧
 (Qu ∧
 (Qu ∧
 (Qu ∧
 (Qb ∧
 (Qb ∧
 (Qb ∧
 ((bcase (if Bool.true = Bool.true then !(n9 == 0 && (n10 == 0 && Bool.true)) else n9 == 0 && (n10 == 0 && Bool.true))
 Qb
 Qft) ∧
 ((Qv (Value.agg [(vI 0), (vI 0)].toArray)) ∧
 ((Qv (Value.agg [(vI n9), (vI n10)].toArray)) ∧
 (Qf ∧
 ((bcase (n11 != n14)
 Qtf
 Qf) ∧
 ((Qv (vI n14)) ∧
 ((Qv (vI n11)) ∧
 (Qb ∧
 ((bcase (n14 != 0)
 Qb
 Qft) ∧
 ((Qv (vI n14)) ∧
 True))))))))))))))))))))))) ∧
 (k kF)))
 (bcase (n14 == 0)
 (bcase (n11 != 0)
 ((Qu ∧
 (Qu ∧
 (Qu ∧
 (Qb ∧
 ((bcase (n11 != 0)
 Qb
 Qft) ∧
 ((Qv (vI n11)) ∧
 (Qb ∧
 ((bcase (n14 == 0)
 Qb
 Qft) ∧
 ((Qv (vI n14)) ∧
 (Qf ∧
 (Qf ∧
 (Qf ∧
 ((bcase (if Bool.true = Bool.true then !(n9 == 0 && (n10 == 0 && Bool.true)) else n9 == 0 && (n10 == 0 && Bool.true))
 Qtf
 Qf) ∧
 ((Qv (Value.agg [(vI 0), (vI 0)].toArray)) ∧
 ((Qv (Value.agg [(vI n9), (vI n10)].toArray)) ∧
 (Qf ∧
 ((bcase (n11 != n14)
 Qtf
 Qf) ∧
 ((Qv (vI n14)) ∧
 ((Qv (vI n11)) ∧
 (Qb ∧
 ((bcase (n14 != 0)
 Qb
 Qft) ∧
 ((Qv (vI n14)) ∧
 True)))))))))))))))))))))) ∧
 ((Qb ∧
 (Qb ∧
 (Qb ∧
 (Qu ∧
 (Qu ∧
 ((bcase (n11 != 0)
 Qb
 Qft) ∧
 ((Qv (vI n11)) ∧
 (Qb ∧
 ((bcase (n14 == 0)
 Qb
 Qft) ∧
 ((Qv (vI n14)) ∧
 (Qf ∧
 (Qf ∧
 (Qf ∧
 ((bcase (if Bool.true = Bool.true then !(n9 == 0 && (n10 == 0 && Bool.true)) else n9 == 0 && (n10 == 0 && Bool.true))
 Qtf
 Qf) ∧
 ((Qv (Value.agg [(vI 0), (vI 0)].toArray)) ∧
 ((Qv (Value.agg [(vI n9), (vI n10)].toArray)) ∧
 (Qf ∧
 ((bcase (n11 != n14)
 Qtf
 Qf) ∧
 ((Qv (vI n14)) ∧
 ((Qv (vI n11)) ∧
 (Qb ∧
 ((bcase (n14 != 0)
 Qb
 Qft) ∧
 ((Qv (vI n14)) ∧
 True))))))))))))))))))))))) ∧
 (k kF)))
 (((Qv (Value.agg [(Value.string (s8)), (Value.slice none 0 0)].toArray)) ∧
 ((Qv (Value.agg [(Value.slice none 0 0), (vI x1), (vI x2), (vI x3), (vI x4), (vI x5)].toArray)) ∧
 ((Qv (Value.agg [(vI n9), (vI n10)].toArray)) ∧
 (Qf ∧
 ((bcase (n11 != 0)
 Qtf
 Qf) ∧
 ((Qv (vI n11)) ∧
 (Qb ∧
 ((bcase (n14 == 0)
 Qb
 Qft) ∧
 ((Qv (vI n14)) ∧
 (Qf ∧
 (Qf ∧
 (Qf ∧
 ((bcase (if Bool.true = Bool.true then !(n9 == 0 && (n10 == 0 && Bool.true)) else n9 == 0 && (n10 == 0 && Bool.true))
 Qtf
 Qf) ∧
 ((Qv (Value.agg [(vI 0), (vI 0)].toArray)) ∧
 ((Qv (Value.agg [(vI n9), (vI n10)].toArray)) ∧
 (Qf ∧
 ((bcase (n11 != n14)
 Qtf
 Qf) ∧
 ((Qv (vI n14)) ∧
 ((Qv (vI n11)) ∧
 (Qb ∧
 ((bcase (n14 != 0)
 Qb
 Qft) ∧
 ((Qv (vI n14)) ∧
 True)))))))))))))))))))))) ∧
 (∃ n15 : Int,
 (∃ n16 : Int,
 ((Says C 16 [(D.agg [D.nil, (dI x1), (dI x2), (dI x3), (dI x4), (dI x5)]), (D.agg [(D.val (Value.string (s8))), D.nil])] [(D.agg [(dI n15), (dI n16)])]) ∧
 (bcase (if Bool.true = Bool.true then !(n9 == n15 && (n10 == n16 && Bool.true)) else n9 == n15 && (n10 == n16 && Bool.true))
 ((Qb ∧
 (Qb ∧
 (Qb ∧
 ((bcase (if Bool.true = Bool.true then !(n9 == n15 && (n10 == n16 && Bool.true)) else n9 == n15 && (n10 == n16 && Bool.true))
 Qb
 Qft) ∧
 ((Qv (Value.agg [(vI n9), (vI n10)].toArray)) ∧
 ((bcase (n11 != 0)
 Qtf
 Qf) ∧
 ((Qv (vI n11)) ∧
 (Qb ∧
 ((bcase (n14 == 0)
 Qb
 Qft) ∧
 ((Qv (vI n14)) ∧
 (Qf ∧
 (Qf ∧
 (Qf ∧
 ((bcase (if Bool.true = Bool.true then !(n9 == 0 && (n10 == 0 && Bool.true)) else n9 == 0 && (n10 == 0 && Bool.true))
 Qtf
 Qf) ∧
 ((Qv (Value.agg [(vI 0), (vI 0)].toArray)) ∧
 ((Qv (Value.agg [(vI n9), (vI n10)].toArray)) ∧
 (Qf ∧
 ((bcase (n11 != n14)
 Qtf
 Qf) ∧
 ((Qv (vI n14)) ∧
 ((Qv (vI n11)) ∧
 (Qb ∧
 ((bcase (n14 != 0)
 Qb
 Qft) ∧
 ((Qv (vI n14)) ∧
 True))))))))))))))))))))))) ∧
 (k kF))
 ((Qf ∧
 (Qf ∧
 (Qf ∧
 ((bcase (if Bool.true = Bool.true then !(n9 == n15 && (n10 == n16 && Bool.true)) else n9 == n15 && (n10 == n16 && Bool.true))
 Qtf
 Qf) ∧
 ((Qv (Value.agg [(vI n9), (vI n10)].toArray)) ∧
 ((bcase (n11 != 0)
 Qtf
 Qf) ∧
 ((Qv (vI n11)) ∧
 (Qb ∧
 ((bcase (n14 == 0)
 Qb
 Qft) ∧
 ((Qv (vI n14)) ∧
 (Qf ∧
 (Qf ∧
 (Qf ∧
 ((bcase (if Bool.true = Bool.true then !(n9 == 0 && (n10 == 0 && Bool.true)) else n9 == 0 && (n10 == 0 && Bool.true))
 Qtf
 Qf) ∧
 ((Qv (Value.agg [(vI 0), (vI 0)].toArray)) ∧
 ((Qv (Value.agg [(vI n9), (vI n10)].toArray)) ∧
 (Qf ∧
 ((bcase (n11 != n14)
 Qtf
 Qf) ∧
 ((Qv (vI n14)) ∧
 ((Qv (vI n11)) ∧
 (Qb ∧
 ((bcase (n14 != 0)
 Qb
 Qft) ∧
 ((Qv (vI n14)) ∧
 True))))))))))))))))))))))) ∧
 (∃ n17 : Int,
 ((Says C 17 [(D.agg [D.nil, (dI x1), (dI x2), (dI x3), (dI x4), (dI x5)]), (D.agg [(dI x6), (dI x7)])] [(dI n17)]) ∧
 (bcase (n17 != 0)
 (bcase (n17 != 0)
 (bcase (n5 == n17)
 (bcase (n8 == n17)
 (bcase (if Bool.false = Bool.true then !(n3 == 0 && (n4 == 0 && Bool.true)) else n3 == 0 && (n4 == 0 && Bool.true))
 (bcase (if Bool.false = Bool.true then !(n6 == 0 && (n7 == 0 && Bool.true)) else n6 == 0 && (n7 == 0 && Bool.true))
 (k kT)
 (k kF))
 (k kF))
 (k kF))
 (k kF))
 (∃ n18 : Int,
 (∃ n19 : Int,
 (((Says C 18 [(D.agg [D.nil, (dI x1), (dI x2), (dI x3), (dI x4), (dI x5)]), (D.agg [(dI x6), (dI x7)]), (D.agg [(D.val (Value.string (s8))), D.nil])] [(D.agg [(dI n18), (dI n19)]), (D.val (Value.bool true))]) ∧
 (bcase (n5 != 0)
 (k kF)
 (bcase (if Bool.true = Bool.true then !(n3 == n18 && (n4 == n19 && Bool.true)) else n3 == n18 && (n4 == n19 && Bool.true))
 (k kF)
 (∃ n20 : Int,
 (∃ n21 : Int,
 (((Says C 19 [(D.agg [D.nil, (dI x1), (dI x2), (dI x3), (dI x4), (dI x5)]), (D.agg [(dI x6), (dI x7)]), (D.agg [(D.val (Value.string (s8))), D.nil])] [(D.agg [(dI n20), (dI n21)]), (D.val (Value.bool true))]) ∧
 (bcase (n8 == 0)
 (bcase (if Bool.false = Bool.true then !(n6 == n20 && (n7 == n21 && Bool.true)) else n6 == n20 && (n7 == n21 && Bool.true))
 (k kT)
 (k kF))
 (k kF))) ∨
 ((Says C 19 [(D.agg [D.nil, (dI x1), (dI x2), (dI x3), (dI x4), (dI x5)]), (D.agg [(dI x6), (dI x7)]), (D.agg [(D.val (Value.string (s8))), D.nil])] [(D.agg [(dI n20), (dI n21)]), (D.val (Value.bool false))]) ∧
 (bcase (n8 == 8)
 (bcase (if Bool.false = Bool.true then !(n6 == 0 && (n7 == 0 && Bool.true)) else n6 == 0 && (n7 == 0 && Bool.true))
 (k kT)
 (k kF))
 (k kF))))))))) ∨
 ((Says C 18 [(D.agg [D.nil, (dI x1), (dI x2), (dI x3), (dI x4), (dI x5)]), (D.agg [(dI x6), (dI x7)]), (D.agg [(D.val (Value.string (s8))), D.nil])] [(D.agg [(dI n18), (dI n19)]), (D.val (Value.bool false))]) ∧
 (bcase (n5 != 8)
 (k kF)
 (bcase (if Bool.true = Bool.true then !(n3 == 0 && (n4 == 0 && Bool.true)) else n3 == 0 && (n4 == 0 && Bool.true))
 (k kF)
 (∃ n20 : Int,
 (∃ n21 : Int,
 (((Says C 19 [(D.agg [D.nil, (dI x1), (dI x2), (dI x3), (dI x4), (dI x5)]), (D.agg [(dI x6), (dI x7)]), (D.agg [(D.val (Value.string (s8))), D.nil])] [(D.agg [(dI n20), (dI n21)]), (D.val (Value.bool true))]) ∧
 (bcase (n8 == 0)
 (bcase (if Bool.false = Bool.true then !(n6 == n20 && (n7 == n21 && Bool.true)) else n6 == n20 && (n7 == n21 && Bool.true))
 (k kT)
 (k kF))
 (k kF))) ∨
 ((Says C 19 [(D.agg [D.nil, (dI x1), (dI x2), (dI x3), (dI x4), (dI x5)]), (D.agg [(dI x6), (dI x7)]), (D.agg [(D.val (Value.string (s8))), D.nil])] [(D.agg [(dI n20), (dI n21)]), (D.val (Value.bool false))]) ∧
 (bcase (n8 == 8)
 (bcase (if Bool.false = Bool.true then !(n6 == 0 && (n7 == 0 && Bool.true)) else n6 == 0 && (n7 == 0 && Bool.true))
 (k kT)
 (k kF))
 (k kF)))))))))))))
 (bcase (n14 != 0)
 (bcase (n5 == n14)
 (bcase (n8 == n14)
 (bcase (if Bool.false = Bool.true then !(n3 == 0 && (n4 == 0 && Bool.true)) else n3 == 0 && (n4 == 0 && Bool.true))
 (bcase (if Bool.false = Bool.true then !(n6 == 0 && (n7 == 0 && Bool.true)) else n6 == 0 && (n7 == 0 && Bool.true))
 (k kT)
 (k kF))
 (k kF))
 (k kF))
 (k kF))
 (∃ n18 : Int,
 (∃ n19 : Int,
 (((Says C 18 [(D.agg [D.nil, (dI x1), (dI x2), (dI x3), (dI x4), (dI x5)]), (D.agg [(dI x6), (dI x7)]), (D.agg [(D.val (Value.string (s8))), D.nil])] [(D.agg [(dI n18), (dI n19)]), (D.val (Value.bool true))]) ∧
 (bcase (n5 != 0)
 (k kF)
 (bcase (if Bool.true = Bool.true then !(n3 == n18 && (n4 == n19 && Bool.true)) else n3 == n18 && (n4 == n19 && Bool.true))
 (k kF)
 (∃ n20 : Int,
 (∃ n21 : Int,
 (((Says C 19 [(D.agg [D.nil, (dI x1), (dI x2), (dI x3), (dI x4), (dI x5)]), (D.agg [(dI x6), (dI x7)]), (D.agg [(D.val (Value.string (s8))), D.nil])] [(D.agg [(dI n20), (dI n21)]), (D.val (Value.bool true))]) ∧
 (bcase (n8 == 0)
 (bcase (if Bool.false = Bool.true then !(n6 == n20 && (n7 == n21 && Bool.true)) else n6 == n20 && (n7 == n21 && Bool.true))
 (k kT)
 (k kF))
 (k kF))) ∨
 ((Says C 19 [(D.agg [D.nil, (dI x1), (dI x2), (dI x3), (dI x4), (dI x5)]), (D.agg [(dI x6), (dI x7)]), (D.agg [(D.val (Value.string (s8))), D.nil])] [(D.agg [(dI n20), (dI n21)]), (D.val (Value.bool false))]) ∧
 (bcase (n8 == 8)
 (bcase (if Bool.false = Bool.true then !(n6 == 0 && (n7 == 0 && Bool.true)) else n6 == 0 && (n7 == 0 && Bool.true))
 (k kT)
 (k kF))
 (k kF))))))))) ∨
 ((Says C 18 [(D.agg [D.nil, (dI x1), (dI x2), (dI x3), (dI x4), (dI x5)]), (D.agg [(dI x6), (dI x7)]), (D.agg [(D.val (Value.string (s8))), D.nil])] [(D.agg [(dI n18), (dI n19)]), (D.val (Value.bool false))]) ∧
 (bcase (n5 != 8)
 (k kF)
 (bcase (if Bool.true = Bool.true then !(n3 == 0 && (n4 == 0 && Bool.true)) else n3 == 0 && (n4 == 0 && Bool.true))
 (k kF)
 (∃ n20 : Int,
 (∃ n21 : Int,
 (((Says C 19 [(D.agg [D.nil, (dI x1), (dI x2), (dI x3), (dI x4), (dI x5)]), (D.agg [(dI x6), (dI x7)]), (D.agg [(D.val (Value.string (s8))), D.nil])] [(D.agg [(dI n20), (dI n21)]), (D.val (Value.bool true))]) ∧
 (bcase (n8 == 0)
 (bcase (if Bool.false = Bool.true then !(n6 == n20 && (n7 == n21 && Bool.true)) else n6 == n20 && (n7 == n21 && Bool.true))
 (k kT)
 (k kF))
 (k kF))) ∨
 ((Says C 19 [(D.agg [D.nil, (dI x1), (dI x2), (dI x3), (dI x4), (dI x5)]), (D.agg [(dI x6), (dI x7)]), (D.agg [(D.val (Value.string (s8))), D.nil])] [(D.agg [(dI n20), (dI n21)]), (D.val (Value.bool false))]) ∧
 (bcase (n8 == 8)
 (bcase (if Bool.false = Bool.true then !(n6 == 0 && (n7 == 0 && Bool.true)) else n6 == 0 && (n7 == 0 && Bool.true))
 (k kT)
 (k kF))
 (k kF)))))))))))))))))))))))
 ((Qu ∧
 (Qu ∧
 (Qu ∧
 (Qu ∧
 (Qu ∧
 (Qu ∧
 (Qf ∧
 ((bcase (n14 == 0)
 Qtf
 Qf) ∧
 ((Qv (vI n14)) ∧
 (Qf ∧
 (Qf ∧
 (Qf ∧
 ((bcase (if Bool.true = Bool.true then !(n9 == 0 && (n10 == 0 && Bool.true)) else n9 == 0 && (n10 == 0 && Bool.true))
 Qtf
 Qf) ∧
 ((Qv (Value.agg [(vI 0), (vI 0)].toArray)) ∧
 ((Qv (Value.agg [(vI n9), (vI n10)].toArray)) ∧
 (Qf ∧
 ((bcase (n11 != n14)
 Qtf
 Qf) ∧
 ((Qv (vI n14)) ∧
 ((Qv (vI n11)) ∧
 (Qb ∧
 ((bcase (n14 != 0)
 Qb
 Qft) ∧
 ((Qv (vI n14)) ∧
 True)))))))))))))))))))))) ∧
 ((Qf ∧
 (Qf ∧
 (Qu ∧
 (Qu ∧
 (Qu ∧
 (Qu ∧
 (Qu ∧
 (Qf ∧
 ((bcase (n14 == 0)
 Qtf
 Qf) ∧
 ((Qv (vI n14)) ∧
 (Qf ∧
 (Qf ∧
 (Qf ∧
 ((bcase (if Bool.true = Bool.true then !(n9 == 0 && (n10 == 0 && Bool.true)) else n9 == 0 && (n10 == 0 && Bool.true))
 Qtf
 Qf) ∧
 ((Qv (Value.agg [(vI 0), (vI 0)].toArray)) ∧
 ((Qv (Value.agg [(vI n9), (vI n10)].toArray)) ∧
 (Qf ∧
 ((bcase (n11 != n14)
 Qtf
 Qf) ∧
 ((Qv (vI n14)) ∧
 ((Qv (vI n11)) ∧
 (Qb ∧
 ((bcase (n14 != 0)
 Qb
 Qft) ∧
 ((Qv (vI n14)) ∧
 True))))))))))))))))))))))) ∧
 (∃ n15 : Int,
 ((Says C 17 [(D.agg [D.nil, (dI x1), (dI x2), (dI x3), (dI x4), (dI x5)]), (D.agg [(dI x6), (dI x7)])] [(dI n15)]) ∧
 (bcase (n15 != 0)
 (bcase (n15 != 0)
 (bcase (n5 == n15)
 (bcase (n8 == n15)
 (bcase (if Bool.false = Bool.true then !(n3 == 0 && (n4 == 0 && Bool.true)) else n3 == 0 && (n4 == 0 && Bool.true))
 (bcase (if Bool.false = Bool.true then !(n6 == 0 && (n7 == 0 && Bool.true)) else n6 == 0 && (n7 == 0 && Bool.true))
 (k kT)
 (k kF))
 (k kF))
 (k kF))
 (k kF))
 (∃ n16 : Int,
 (∃ n17 : Int,
 (((Says C 18 [(D.agg [D.nil, (dI x1), (dI x2), (dI x3), (dI x4), (dI x5)]), (D.agg [(dI x6), (dI x7)]), (D.agg [(D.val (Value.string (s8))), D.nil])] [(D.agg [(dI n16), (dI n17)]), (D.val (Value.bool true))]) ∧
 (bcase (n5 != 0)
 (k kF)
 (bcase (if Bool.true = Bool.true then !(n3 == n16 && (n4 == n17 && Bool.true)) else n3 == n16 && (n4 == n17 && Bool.true))
 (k kF)
 (∃ n18 : Int,
 (∃ n19 : Int,
 (((Says C 19 [(D.agg [D.nil, (dI x1), (dI x2), (dI x3), (dI x4), (dI x5)]), (D.agg [(dI x6), (dI x7)]), (D.agg [(D.val (Value.string (s8))), D.nil])] [(D.agg [(dI n18), (dI n19)]), (D.val (Value.bool true))]) ∧
 (bcase (n8 == 0)
 (bcase (if Bool.false = Bool.true then !(n6 == n18 && (n7 == n19 && Bool.true)) else n6 == n18 && (n7 == n19 && Bool.true))
 (k kT)
 (k kF))
 (k kF))) ∨
 ((Says C 19 [(D.agg [D.nil, (dI x1), (dI x2), (dI x3), (dI x4), (dI x5)]), (D.agg [(dI x6), (dI x7)]), (D.agg [(D.val (Value.string (s8))), D.nil])] [(D.agg [(dI n18), (dI n19)]), (D.val (Value.bool false))]) ∧
 (bcase (n8 == 8)
 (bcase (if Bool.false = Bool.true then !(n6 == 0 && (n7 == 0 && Bool.true)) else n6 == 0 && (n7 == 0 && Bool.true))
 (k kT)
 (k kF))
 (k kF))))))))) ∨
 ((Says C 18 [(D.agg [D.nil, (dI x1), (dI x2), (dI x3), (dI x4), (dI x5)]), (D.agg [(dI x6), (dI x7)]), (D.agg [(D.val (Value.string (s8))), D.nil])] [(D.agg [(dI n16), (dI n17)]), (D.val (Value.bool false))]) ∧
 (bcase (n5 != 8)
 (k kF)
 (bcase (if Bool.true = Bool.true then !(n3 == 0 && (n4 == 0 && Bool.true)) else n3 == 0 && (n4 == 0 && Bool.true))
 (k kF)
 (∃ n18 : Int,
 (∃ n19 : Int,
 (((Says C 19 [(D.agg [D.nil, (dI x1), (dI x2), (dI x3), (dI x4), (dI x5)]), (D.agg [(dI x6), (dI x7)]), (D.agg [(D.val (Value.string (s8))), D.nil])] [(D.agg [(dI n18), (dI n19)]), (D.val (Value.bool true))]) ∧
 (bcase (n8 == 0)
 (bcase (if Bool.false = Bool.true then !(n6 == n18 && (n7 == n19 && Bool.true)) else n6 == n18 && (n7 == n19 && Bool.true))
 (k kT)
 (k kF))
 (k kF))) ∨
 ((Says C 19 [(D.agg [D.nil, (dI x1), (dI x2), (dI x3), (dI x4), (dI x5)]), (D.agg [(dI x6), (dI x7)]), (D.agg [(D.val (Value.string (s8))), D.nil])] [(D.agg [(dI n18), (dI n19)]), (D.val (Value.bool false))]) ∧
 (bcase (n8 == 8)
 (bcase (if Bool.false = Bool.true then !(n6 == 0 && (n7 == 0 && Bool.true)) else n6 == 0 && (n7 == 0 && Bool.true))
 (k kT)
 (k kF))
 (k kF)))))))))))))
 (bcase (n14 != 0)
 (bcase (n5 == n14)
 (bcase (n8 == n14)
 (bcase (if Bool.false = Bool.true then !(n3 == 0 && (n4 == 0 && Bool.true)) else n3 == 0 && (n4 == 0 && Bool.true))
 (bcase (if Bool.false = Bool.true then !(n6 == 0 && (n7 == 0 && Bool.true)) else n6 == 0 && (n7 == 0 && Bool.true))
 (k kT)
 (k kF))
 (k kF))
 (k kF))
 (k kF))
 (∃ n16 : Int,
 (∃ n17 : Int,
 (((Says C 18 [(D.agg [D.nil, (dI x1), (dI x2), (dI x3), (dI x4), (dI x5)]), (D.agg [(dI x6), (dI x7)]), (D.agg [(D.val (Value.string (s8))), D.nil])] [(D.agg [(dI n16), (dI n17)]), (D.val (Value.bool true))]) ∧
 (bcase (n5 != 0)
 (k kF)
 (bcase (if Bool.true = Bool.true then !(n3 == n16 && (n4 == n17 && Bool.true)) else n3 == n16 && (n4 == n17 && Bool.true))
 (k kF)
 (∃ n18 : Int,
 (∃ n19 : Int,
 (((Says C 19 [(D.agg [D.nil, (dI x1), (dI x2), (dI x3), (dI x4), (dI x5)]), (D.agg [(dI x6), (dI x7)]), (D.agg [(D.val (Value.string (s8))), D.nil])] [(D.agg [(dI n18), (dI n19)]), (D.val (Value.bool true))]) ∧
 (bcase (n8 == 0)
 (bcase (if Bool.false = Bool.true then !(n6 == n18 && (n7 == n19 && Bool.true)) else n6 == n18 && (n7 == n19 && Bool.true))
 (k kT)
 (k kF))
 (k kF))) ∨
 ((Says C 19 [(D.agg [D.nil, (dI x1), (dI x2), (dI x3), (dI x4), (dI x5)]), (D.agg [(dI x6), (dI x7)]), (D.agg [(D.val (Value.string (s8))), D.nil])] [(D.agg [(dI n18), (dI n19)]), (D.val (Value.bool false))]) ∧
 (bcase (n8 == 8)
 (bcase (if Bool.false = Bool.true then !(n6 == 0 && (n7 == 0 && Bool.true)) else n6 == 0 && (n7 == 0 && Bool.true))
 (k kT)
 (k kF))
 (k kF))))))))) ∨
 ((Says C 18 [(D.agg [D.nil, (dI x1), (dI x2), (dI x3), (dI x4), (dI x5)]), (D.agg [(dI x6), (dI x7)]), (D.agg [(D.val (Value.string (s8))), D.nil])] [(D.agg [(dI n16), (dI n17)]), (D.val (Value.bool false))]) ∧
 (bcase (n5 != 8)
 (k kF)
 (bcase (if Bool.true = Bool.true then !(n3 == 0 && (n4 == 0 && Bool.true)) else n3 == 0 && (n4 == 0 && Bool.true))
 (k kF)
 (∃ n18 : Int,
 (∃ n19 : Int,
 (((Says C 19 [(D.agg [D.nil, (dI x1), (dI x2), (dI x3), (dI x4), (dI x5)]), (D.agg [(dI x6), (dI x7)]), (D.agg [(D.val (Value.string (s8))), D.nil])] [(D.agg [(dI n18), (dI n19)]), (D.val (Value.bool true))]) ∧
 (bcase (n8 == 0)
 (bcase (if Bool.false = Bool.true then !(n6 == n18 && (n7 == n19 && Bool.true)) else n6 == n18 && (n7 == n19 && Bool.true))
 (k kT)
 (k kF))
 (k kF))) ∨
 ((Says C 19 [(D.agg [D.nil, (dI x1), (dI x2), (dI x3), (dI x4), (dI x5)]), (D.agg [(dI x6), (dI x7)]), (D.agg [(D.val (Value.string (s8))), D.nil])] [(D.agg [(dI n18), (dI n19)]), (D.val (Value.bool false))]) ∧
 (bcase (n8 == 8)
 (bcase (if Bool.false = Bool.true then !(n6 == 0 && (n7 == 0 && Bool.true)) else n6 == 0 && (n7 == 0 && Bool.true))
 (k kT)
 (k kF))
 (k kF)))))))))))))))))))))
 (bcase (n14 == 0)
 (bcase (n11 != 0)
 ((Qu ∧
 (Qu ∧
 (Qu ∧
 (Qb ∧
 ((bcase (n11 != 0)
 Qb
 Qft) ∧
 ((Qv (vI n11)) ∧
 (Qb ∧
 ((bcase (n14 == 0)
 Qb
 Qft) ∧
 ((Qv (vI n14)) ∧
 (Qf ∧
 (Qf ∧
 (Qu ∧
 (Qu ∧
 (Qu ∧
 (Qu ∧
 (Qu ∧
 (Qu ∧
 (Qu ∧
 (Qu ∧
 (Qf ∧
 ((bcase (n14 != 0)
 Qtf
 Qf) ∧
 ((Qv (vI n14)) ∧
 True)))))))))))))))))))))) ∧
 ((Qb ∧
 (Qb ∧
 (Qb ∧
 (Qu ∧
 (Qu ∧
 ((bcase (n11 != 0)
 Qb
 Qft) ∧
 ((Qv (vI n11)) ∧
 (Qb ∧
 ((bcase (n14 == 0)
 Qb
 Qft) ∧
 ((Qv (vI n14)) ∧
 (Qf ∧
 (Qf ∧
 (Qu ∧
 (Qu ∧
 (Qu ∧
 (Qu ∧
 (Qu ∧
 (Qu ∧
 (Qu ∧
 (Qu ∧
 (Qf ∧
 ((bcase (n14 != 0)
 Qtf
 Qf) ∧
 ((Qv (vI n14)) ∧
 True))))))))))))))))))))))) ∧
 (k kF)))
 (((Qv (Value.agg [(Value.string (s8)), (Value.slice none 0 0)].toArray)) ∧
 ((Qv (Value.agg [(Value.slice none 0 0), (vI x1), (vI x2), (vI x3), (vI x4), (vI x5)].toArray)) ∧
 ((Qv (Value.agg [(vI n9), (vI n10)].toArray)) ∧
 (Qf ∧
 ((bcase (n11 != 0)
 Qtf
 Qf) ∧
 ((Qv (vI n11)) ∧
 (Qb ∧
 ((bcase (n14 == 0)
 Qb
 Qft) ∧
 ((Qv (vI n14)) ∧
 (Qf ∧
 (Qf ∧
 (Qu ∧
 (Qu ∧
 (Qu ∧
 (Qu ∧
 (Qu ∧
 (Qu ∧
 (Qu ∧
 (Qu ∧
 (Qf ∧
 ((bcase (n14 != 0)
 Qtf
 Qf) ∧
 ((Qv (vI n14)) ∧
 True)))))))))))))))))))))) ∧
 (∃ n15 : Int,
 (∃ n16 : Int,
 ((Says C 16 [(D.agg [D.nil, (dI x1), (dI x2), (dI x3), (dI x4), (dI x5)]), (D.agg [(D.val (Value.string (s8))), D.nil])] [(D.agg [(dI n15), (dI n16)])]) ∧
 (bcase (if Bool.true = Bool.true then !(n9 == n15 && (n10 == n16 && Bool.true)) else n9 == n15 && (n10 == n16 && Bool.true))
 ((Qb ∧
 (Qb ∧
 (Qb ∧
 ((bcase (if Bool.true = Bool.true then !(n9 == n15 && (n10 == n16 && Bool.true)) else n9 == n15 && (n10 == n16 && Bool.true))
 Qb
 Qft) ∧
 ((Qv (Value.agg [(vI n9), (vI n10)].toArray)) ∧
 ((bcase (n11 != 0)
 Qtf
 Qf) ∧
 ((Qv (vI n11)) ∧
 (Qb ∧
 ((bcase (n14 == 0)
 Qb
 Qft) ∧
 ((Qv (vI n14)) ∧
 (Qf ∧
 (Qf ∧
 (Qu ∧
 (Qu ∧
 (Qu ∧
 (Qu ∧
 (Qu ∧
 (Qu ∧
 (Qu ∧
 (Qu ∧
 (Qf ∧
 ((bcase (n14 != 0)
 Qtf
 Qf) ∧
 ((Qv (vI n14)) ∧
 True))))))))))))))))))))))) ∧
 (k kF))
 ((Qf ∧
 (Qf ∧
 (Qf ∧
 ((bcase (if Bool.true = Bool.true then !(n9 == n15 && (n10 == n16 && Bool.true)) else n9 == n15 && (n10 == n16 && Bool.true))
 Qtf
 Qf) ∧
 ((Qv (Value.agg [(vI n9), (vI n10)].toArray)) ∧
 ((bcase (n11 != 0)
 Qtf
 Qf) ∧
 ((Qv (vI n11)) ∧
 (Qb ∧
 ((bcase (n14 == 0)
 Qb
 Qft) ∧
 ((Qv (vI n14)) ∧
 (Qf ∧
 (Qf ∧
 (Qu ∧
 (Qu ∧
 (Qu ∧
 (Qu ∧
 (Qu ∧
 (Qu ∧
 (Qu ∧
 (Qu ∧
 (Qf ∧
 ((bcase (n14 != 0)
 Qtf
 Qf) ∧
 ((Qv (vI n14)) ∧
 True))))))))))))))))))))))) ∧
 (∃ n17 : Int,
 ((Says C 17 [(D.agg [D.nil, (dI x1), (dI x2), (dI x3), (dI x4), (dI x5)]), (D.agg [(dI x6), (dI x7)])] [(dI n17)]) ∧
 (bcase (n17 != 0)
 (bcase (n17 != 0)
 (bcase (n5 == n17)
 (bcase (n8 == n17)
 (bcase (if Bool.false = Bool.true then !(n3 == 0 && (n4 == 0 && Bool.true)) else n3 == 0 && (n4 == 0 && Bool.true))
 (bcase (if Bool.false = Bool.true then !(n6 == 0 && (n7 == 0 && Bool.true)) else n6 == 0 && (n7 == 0 && Bool.true))
 (k kT)
 (k kF))
 (k kF))
 (k kF))
 (k kF))
 (∃ n18 : Int,
 (∃ n19 : Int,
 (((Says C 18 [(D.agg [D.nil, (dI x1), (dI x2), (dI x3), (dI x4), (dI x5)]), (D.agg [(dI x6), (dI x7)]), (D.agg [(D.val (Value.string (s8))), D.nil])] [(D.agg [(dI n18), (dI n19)]), (D.val (Value.bool true))]) ∧
 (bcase (n5 != 0)
 (k kF)
 (bcase (if Bool.true = Bool.true then !(n3 == n18 && (n4 == n19 && Bool.true)) else n3 == n18 && (n4 == n19 && Bool.true))
 (k kF)
 (∃ n20 : Int,
 (∃ n21 : Int,
 (((Says C 19 [(D.agg [D.nil, (dI x1), (dI x2), (dI x3), (dI x4), (dI x5)]), (D.agg [(dI x6), (dI x7)]), (D.agg [(D.val (Value.string (s8))), D.nil])] [(D.agg [(dI n20), (dI n21)]), (D.val (Value.bool true))]) ∧
 (bcase (n8 == 0)
 (bcase (if Bool.false = Bool.true then !(n6 == n20 && (n7 == n21 && Bool.true)) else n6 == n20 && (n7 == n21 && Bool.true))
 (k kT)
 (k kF))
 (k kF))) ∨
 ((Says C 19 [(D.agg [D.nil, (dI x1), (dI x2), (dI x3), (dI x4), (dI x5)]), (D.agg [(dI x6), (dI x7)]), (D.agg [(D.val (Value.string (s8))), D.nil])] [(D.agg [(dI n20), (dI n21)]), (D.val (Value.bool false))]) ∧
 (bcase (n8 == 8)
 (bcase (if Bool.false = Bool.true then !(n6 == 0 && (n7 == 0 && Bool.true)) else n6 == 0 && (n7 == 0 && Bool.true))
 (k kT)
 (k kF))
 (k kF))))))))) ∨
 ((Says C 18 [(D.agg [D.nil, (dI x1), (dI x2), (dI x3), (dI x4), (dI x5)]), (D.agg [(dI x6), (dI x7)]), (D.agg [(D.val (Value.string (s8))), D.nil])] [(D.agg [(dI n18), (dI n19)]), (D.val (Value.bool false))]) ∧
 (bcase (n5 != 8)
 (k kF)
 (bcase (if Bool.true = Bool.true then !(n3 == 0 && (n4 == 0 && Bool.true)) else n3 == 0 && (n4 == 0 && Bool.true))
 (k kF)
 (∃ n20 : Int,
 (∃ n21 : Int,
 (((Says C 19 [(D.agg [D.nil, (dI x1), (dI x2), (dI x3), (dI x4), (dI x5)]), (D.agg [(dI x6), (dI x7)]), (D.agg [(D.val (Value.string (s8))), D.nil])] [(D.agg [(dI n20), (dI n21)]), (D.val (Value.bool true))]) ∧
 (bcase (n8 == 0)
 (bcase (if Bool.false = Bool.true then !(n6 == n20 && (n7 == n21 && Bool.true)) else n6 == n20 && (n7 == n21 && Bool.true))
 (k kT)
 (k kF))
 (k kF))) ∨
 ((Says C 19 [(D.agg [D.nil, (dI x1), (dI x2), (dI x3), (dI x4), (dI x5)]), (D.agg [(dI x6), (dI x7)]), (D.agg [(D.val (Value.string (s8))), D.nil])] [(D.agg [(dI n20), (dI n21)]), (D.val (Value.bool false))]) ∧
 (bcase (n8 == 8)
 (bcase (if Bool.false = Bool.true then !(n6 == 0 && (n7 == 0 && Bool.true)) else n6 == 0 && (n7 == 0 && Bool.true))
 (k kT)
 (k kF))
 (k kF)))))))))))))
 (bcase (n14 != 0)
 (bcase (n5 == n14)
 (bcase (n8 == n14)
 (bcase (if Bool.false = Bool.true then !(n3 == 0 && (n4 == 0 && Bool.true)) else n3 == 0 && (n4 == 0 && Bool.true))
 (bcase (if Bool.false = Bool.true then !(n6 == 0 && (n7 == 0 && Bool.true)) else n6 == 0 && (n7 == 0 && Bool.true))
 (k kT)
 (k kF))
 (k kF))
 (k kF))
 (k kF))
 (∃ n18 : Int,
 (∃ n19 : Int,
 (((Says C 18 [(D.agg [D.nil, (dI x1), (dI x2), (dI x3), (dI x4), (dI x5)]), (D.agg [(dI x6), (dI x7)]), (D.agg [(D.val (Value.string (s8))), D.nil])] [(D.agg [(dI n18), (dI n19)]), (D.val (Value.bool true))]) ∧
 (bcase (n5 != 0)
 (k kF)
 (bcase (if Bool.true = Bool.true then !(n3 == n18 && (n4 == n19 && Bool.true)) else n3 == n18 && (n4 == n19 && Bool.true))
 (k kF)
 (∃ n20 : Int,
 (∃ n21 : Int,
 (((Says C 19 [(D.agg [D.nil, (dI x1), (dI x2), (dI x3), (dI x4), (dI x5)]), (D.agg [(dI x6), (dI x7)]), (D.agg [(D.val (Value.string (s8))), D.nil])] [(D.agg [(dI n20), (dI n21)]), (D.val (Value.bool true))]) ∧
 (bcase (n8 == 0)
 (bcase (if Bool.false = Bool.true then !(n6 == n20 && (n7 == n21 && Bool.true)) else n6 == n20 && (n7 == n21 && Bool.true))
 (k kT)
 (k kF))
 (k kF))) ∨
 ((Says C 19 [(D.agg [D.nil, (dI x1), (dI x2), (dI x3), (dI x4), (dI x5)]), (D.agg [(dI x6), (dI x7)]), (D.agg [(D.val (Value.string (s8))), D.nil])] [(D.agg [(dI n20), (dI n21)]), (D.val (Value.bool false))]) ∧
 (bcase (n8 == 8)
 (bcase (if Bool.false = Bool.true then !(n6 == 0 && (n7 == 0 && Bool.true)) else n6 == 0 && (n7 == 0 && Bool.true))
 (k kT)
 (k kF))
 (k kF))))))))) ∨
 ((Says C 18 [(D.agg [D.nil, (dI x1), (dI x2), (dI x3), (dI x4), (dI x5)]), (D.agg [(dI x6), (dI x7)]), (D.agg [(D.val (Value.string (s8))), D.nil])] [(D.agg [(dI n18), (dI n19)]), (D.val (Value.bool false))]) ∧
 (bcase (n5 != 8)
 (k kF)
 (bcase (if Bool.true = Bool.true then !(n3 == 0 && (n4 == 0 && Bool.true)) else n3 == 0 && (n4 == 0 && Bool.true))
 (k kF)
 (∃ n20 : Int,
 (∃ n21 : Int,
 (((Says C 19 [(D.agg [D.nil, (dI x1), (dI x2), (dI x3), (dI x4), (dI x5)]), (D.agg [(dI x6), (dI x7)]), (D.agg [(D.val (Value.string (s8))), D.nil])] [(D.agg [(dI n20), (dI n21)]), (D.val (Value.bool true))]) ∧
 (bcase (n8 == 0)
 (bcase (if Bool.false = Bool.true then !(n6 == n20 && (n7 == n21 && Bool.true)) else n6 == n20 && (n7 == n21 && Bool.true))
 (k kT)
 (k kF))
 (k kF))) ∨
 ((Says C 19 [(D.agg [D.nil, (dI x1), (dI x2), (dI x3), (dI x4), (dI x5)]), (D.agg [(dI x6), (dI x7)]), (D.agg [(D.val (Value.string (s8))), D.nil])] [(D.agg [(dI n20), (dI n21)]), (D.val (Value.bool false))]) ∧
 (bcase (n8 == 8)
 (bcase (if Bool.false = Bool.true then !(n6 == 0 && (n7 == 0 && Bool.true)) else n6 == 0 && (n7 == 0 && Bool.true))
 (k kT)
 (k kF))
 (k kF)))))))))))))))))))))))
 ((Qu ∧
 (Qu ∧
 (Qu ∧
 (Qu ∧
 (Qu ∧
 (Qu ∧
 (Qf ∧
 ((bcase (n14 == 0)
 Qtf
 Qf) ∧
 ((Qv (vI n14)) ∧
 (Qf ∧
 (Qf ∧
 (Qu ∧
 (Qu ∧
 (Qu ∧
 (Qu ∧
 (Qu ∧
 (Qu ∧
 (Qu ∧
 (Qu ∧
 (Qf ∧
 ((bcase (n14 != 0)
 Qtf
 Qf) ∧
 ((Qv (vI n14)) ∧
 True)))))))))))))))))))))) ∧
 ((Qf ∧
 (Qf ∧
 (Qu ∧
 (Qu ∧
 (Qu ∧
 (Qu ∧
 (Qu ∧
 (Qf ∧
 ((bcase (n14 == 0)
 Qtf
 Qf) ∧
 ((Qv (vI n14)) ∧
 (Qf ∧
 (Qf ∧
 (Qu ∧
 (Qu ∧
 (Qu ∧
 (Qu ∧
 (Qu ∧
 (Qu ∧
 (Qu ∧
 (Qu ∧
 (Qf ∧
 ((bcase (n14 != 0)
 Qtf
 Qf) ∧
 ((Qv (vI n14)) ∧
 True))))))))))))))))))))))) ∧
 (∃ n15 : Int,
 ((Says C 17 [(D.agg [D.nil, (dI x1), (dI x2), (dI x3), (dI x4), (dI x5)]), (D.agg [(dI x6), (dI x7)])] [(dI n15)]) ∧
 (bcase (n15 != 0)
 (bcase (n15 != 0)
 (bcase (n5 == n15)
 (bcase (n8 == n15)
 (bcase (if Bool.false = Bool.true then !(n3 == 0 && (n4 == 0 && Bool.true)) else n3 == 0 && (n4 == 0 && Bool.true))
 (bcase (if Bool.false = Bool.true then !(n6 == 0 && (n7 == 0 && Bool.true)) else n6 == 0 && (n7 == 0 && Bool.true))
 (k kT)
 (k kF))
 (k kF))
 (k kF))
 (k kF))
 (∃ n16 : Int,
 (∃ n17 : Int,
 (((Says C 18 [(D.agg [D.nil, (dI x1), (dI x2), (dI x3), (dI x4), (dI x5)]), (D.agg [(dI x6), (dI x7)]), (D.agg [(D.val (Value.string (s8))), D.nil])] [(D.agg [(dI n16), (dI n17)]), (D.val (Value.bool true))]) ∧
 (bcase (n5 != 0)
 (k kF)
 (bcase (if Bool.true = Bool.true then !(n3 == n16 && (n4 == n17 && Bool.true)) else n3 == n16 && (n4 == n17 && Bool.true))
 (k kF)
 (∃ n18 : Int,
 (∃ n19 : Int,
 (((Says C 19 [(D.agg [D.nil, (dI x1), (dI x2), (dI x3), (dI x4), (dI x5)]), (D.agg [(dI x6), (dI x7)]), (D.agg [(D.val (Value.string (s8))), D.nil])] [(D.agg [(dI n18), (dI n19)]), (D.val (Value.bool true))]) ∧
 (bcase (n8 == 0)
 (bcase (if Bool.false = Bool.true then !(n6 == n18 && (n7 == n19 && Bool.true)) else n6 == n18 && (n7 == n19 && Bool.true))
 (k kT)
 (k kF))
 (k kF))) ∨
 ((Says C 19 [(D.agg [D.nil, (dI x1), (dI x2), (dI x3), (dI x4), (dI x5)]), (D.agg [(dI x6), (dI x7)]), (D.agg [(D.val (Value.string (s8))), D.nil])] [(D.agg [(dI n18), (dI n19)]), (D.val (Value.bool false))]) ∧
 (bcase (n8 == 8)
 (bcase (if Bool.false = Bool.true then !(n6 == 0 && (n7 == 0 && Bool.true)) else n6 == 0 && (n7 == 0 && Bool.true))
 (k kT)
 (k kF))
 (k kF))))))))) ∨
 ((Says C 18 [(D.agg [D.nil, (dI x1), (dI x2), (dI x3), (dI x4), (dI x5)]), (D.agg [(dI x6), (dI x7)]), (D.agg [(D.val (Value.string (s8))), D.nil])] [(D.agg [(dI n16), (dI n17)]), (D.val (Value.bool false))]) ∧
 (bcase (n5 != 8)
 (k kF)
 (bcase (if Bool.true = Bool.true then !(n3 == 0 && (n4 == 0 && Bool.true)) else n3 == 0 && (n4 == 0 && Bool.true))
 (k kF)
 (∃ n18 : Int,
 (∃ n19 : Int,
 (((Says C 19 [(D.agg [D.nil, (dI x1), (dI x2), (dI x3), (dI x4), (dI x5)]), (D.agg [(dI x6), (dI x7)]), (D.agg [(D.val (Value.string (s8))), D.nil])] [(D.agg [(dI n18), (dI n19)]), (D.val (Value.bool true))]) ∧
 (bcase (n8 == 0)
 (bcase (if Bool.false = Bool.true then !(n6 == n18 && (n7 == n19 && Bool.true)) else n6 == n18 && (n7 == n19 && Bool.true))
 (k kT)
 (k kF))
 (k kF))) ∨
 ((Says C 19 [(D.agg [D.nil, (dI x1), (dI x2), (dI x3), (dI x4), (dI x5)]), (D.agg [(dI x6), (dI x7)]), (D.agg [(D.val (Value.string (s8))), D.nil])] [(D.agg [(dI n18), (dI n19)]), (D.val (Value.bool false))]) ∧
 (bcase (n8 == 8)
 (bcase (if Bool.false = Bool.true then !(n6 == 0 && (n7 == 0 && Bool.true)) else n6 == 0 && (n7 == 0 && Bool.true))
 (k kT)
 (k kF))
 (k kF)))))))))))))
 (bcase (n14 != 0)
 (bcase (n5 == n14)
 (bcase (n8 == n14)
 (bcase (if Bool.false = Bool.true then !(n3 == 0 && (n4 == 0 && Bool.true)) else n3 == 0 && (n4 == 0 && Bool.true))
 (bcase (if Bool.false = Bool.true then !(n6 == 0 && (n7 == 0 && Bool.true)) else n6 == 0 && (n7 == 0 && Bool.true))
 (k kT)
 (k kF))
 (k kF))
 (k kF))
 (k kF))
 (∃ n16 : Int,
 (∃ n17 : Int,
 (((Says C 18 [(D.agg [D.nil, (dI x1), (dI x2), (dI x3), (dI x4), (dI x5)]), (D.agg [(dI x6), (dI x7)]), (D.agg [(D.val (Value.string (s8))), D.nil])] [(D.agg [(dI n16), (dI n17)]), (D.val (Value.bool true))]) ∧
 (bcase (n5 != 0)
 (k kF)
 (bcase (if Bool.true = Bool.true then !(n3 == n16 && (n4 == n17 && Bool.true)) else n3 == n16 && (n4 == n17 && Bool.true))
 (k kF)
 (∃ n18 : Int,
 (∃ n19 : Int,
 (((Says C 19 [(D.agg [D.nil, (dI x1), (dI x2), (dI x3), (dI x4), (dI x5)]), (D.agg [(dI x6), (dI x7)]), (D.agg [(D.val (Value.string (s8))), D.nil])] [(D.agg [(dI n18), (dI n19)]), (D.val (Value.bool true))]) ∧
 (bcase (n8 == 0)
 (bcase (if Bool.false = Bool.true then !(n6 == n18 && (n7 == n19 && Bool.true)) else n6 == n18 && (n7 == n19 && Bool.true))
 (k kT)
 (k kF))
 (k kF))) ∨
 ((Says C 19 [(D.agg [D.nil, (dI x1), (dI x2), (dI x3), (dI x4), (dI x5)]), (D.agg [(dI x6), (dI x7)]), (D.agg [(D.val (Value.string (s8))), D.nil])] [(D.agg [(dI n18), (dI n19)]), (D.val (Value.bool false))]) ∧
 (bcase (n8 == 8)
 (bcase (if Bool.false = Bool.true then !(n6 == 0 && (n7 == 0 && Bool.true)) else n6 == 0 && (n7 == 0 && Bool.true))
 (k kT)
 (k kF))
 (k kF))))))))) ∨
 ((Says C 18 [(D.agg [D.nil, (dI x1), (dI x2), (dI x3), (dI x4), (dI x5)]), (D.agg [(dI x6), (dI x7)]), (D.agg [(D.val (Value.string (s8))), D.nil])] [(D.agg [(dI n16), (dI n17)]), (D.val (Value.bool false))]) ∧
 (bcase (n5 != 8)
 (k kF)
 (bcase (if Bool.true = Bool.true then !(n3 == 0 && (n4 == 0 && Bool.true)) else n3 == 0 && (n4 == 0 && Bool.true))
 (k kF)
 (∃ n18 : Int,
 (∃ n19 : Int,
 (((Says C 19 [(D.agg [D.nil, (dI x1), (dI x2), (dI x3), (dI x4), (dI x5)]), (D.agg [(dI x6), (dI x7)]), (D.agg [(D.val (Value.string (s8))), D.nil])] [(D.agg [(dI n18), (dI n19)]), (D.val (Value.bool true))]) ∧
 (bcase (n8 == 0)
 (bcase (if Bool.false = Bool.true then !(n6 == n18 && (n7 == n19 && Bool.true)) else n6 == n18 && (n7 == n19 && Bool.true))
 (k kT)
 (k kF))
 (k kF))) ∨
 ((Says C 19 [(D.agg [D.nil, (dI x1), (dI x2), (dI x3), (dI x4), (dI x5)]), (D.agg [(dI x6), (dI x7)]), (D.agg [(D.val (Value.string (s8))), D.nil])] [(D.agg [(dI n18), (dI n19)]), (D.val (Value.bool false))]) ∧
 (bcase (n8 == 8)
 (bcase (if Bool.false = Bool.true then !(n6 == 0 && (n7 == 0 && Bool.true)) else n6 == 0 && (n7 == 0 && Bool.true))
 (k kT)
 (k kF))
 (k kF)))))))))))))))))))))))))))))))))))))))))))))))))))))))))))))))))))))))))))
 (k kT))) ∨
 ((Says C 5 [] kF) ∧
 (k kF))) := by kernel_rfl
end Go.Proofs.G5l

/- ModelLosses in data: a coil without readings, rules without a table. -/
namespace Go.Proofs.G5l
open Go Go.Abs Go.Proofs Go.Abs.MD Go.Str
set_option maxRecDepth 100000
theorem coR_nil_ne (nm : List UInt8) : (coR nm []).2 ≠ 0 := by rw [coR_nil]; split <;> decide
theorem rulR_nil (a b c d e : Int) : (rulR [] a b c d e).2 = 10 := rfl
theorem lawMN (T : List (Int × Int)) {a b c d : Int} (e : Int) (hn : Nums a b c d) (v t : Int) (nm : List UInt8) : C5 3 [dRu T a b c d e, dCc v t, dCn nm] [.val (.bool true)] := by
  refine con_flat hokM mixed Try.func3 rfl (by show 1 ≤ 400; omega) rfl (by kernel_rfl) (fun caps => ?_)
  show gLo1 _ _ T.length (caps 500) (vp T) a b c d e v t (bs nm) _
  rw [gLo1_text]
  refine .inl ⟨⟨conA⟩, bc_dec (fun h12 => bc_dec (fun _ => ?_) (fun _ => rfl)) (fun _ => rfl)⟩
  have cYr := conYr T (by omega) a b c d e
  have cYc := conYcn nm
  have cKC := conKC T (by omega) e hn nm [] (by decide)
  have cLO := conLO T (by omega) e hn v t nm [] (by decide)
  have cLE := conLE T (by omega) e hn v t nm [] (by decide)
  have cBF := conBF T (by omega) e hn nm [] (by decide)
  have cRE := conRE T (by omega) e hn
  have cRC := conRCn nm
  have cCE := conCE T a b c d e v t
  have hc := coR_nil_ne nm
  simp only [Dw, Tk, vp_whole, bc_t (v2le T), eq_self, true_and, and_true]
  by_cases hr : (rulR T a b c d e).2 = 0
  · rw [if_pos hr] at cKC
    rw [hr] at cRE
    have hcc : corco e v t (coR nm []).2 ≠ 0 := by unfold corco; split <;> assumption
    obtain ⟨q1, q2⟩ := bad_co (v := v) (t := t) hr hcc
    have q3 : bfR T a b c d e nm [] = [dCc 0 0, dI (coR nm []).2] := by rw [bfR, show kcE T a b c d e nm [] = (coR nm []).2 from if_pos hr, if_neg hc]
    rw [q1] at cLO
    rw [q2] at cLE
    rw [q3] at cBF
    refine ⟨⟨cYr⟩, ⟨cYc⟩, _, _, ⟨cKC⟩, ⟨cYr⟩, ⟨cYc⟩, _, _, _, ⟨cLO⟩, ⟨cYr⟩, ⟨cYc⟩, _, _, _, ⟨cLE⟩, ⟨cYr⟩, ⟨cYc⟩, _, _, _, ⟨cBF⟩, _, ⟨cRE⟩, ?_⟩
    simp only [bc_nf]
    refine ⟨_, _, ⟨cRC⟩, ?_⟩
    simp only [bc_nf, bc_n hc, bc_q hc, beq_self_eq_true, Bool.and_self, Bool.not_true, if_true, if_false, Bool.false_eq_true, bcF, bcT, true_and, and_true]
    refine ⟨_, ⟨cCE⟩, ?_⟩
    by_cases hx : corE e v t = 0
    · have hk : corco e v t (coR nm []).2 = (coR nm []).2 := by rw [corco, if_neg (by omega)]
      rw [hk, hx]
      simp only [bc_nf, bc_n hc, bc_q hc, beq_self_eq_true, bcT]
    · have hk : corco e v t (coR nm []).2 = corE e v t := by rw [corco, if_pos hx]
      rw [hk]
      simp only [bc_n hx, bc_q hx, beq_self_eq_true, bcT]
  · obtain ⟨q1, q2, q3⟩ := bad_rul (v := v) (t := t) (nm := nm) (R := []) hr
    rw [if_neg hr] at cKC
    rw [q1] at cLO
    rw [q2] at cLE
    rw [q3] at cBF
    refine ⟨⟨cYr⟩, ⟨cYc⟩, _, _, ⟨cKC⟩, ⟨cYr⟩, ⟨cYc⟩, _, _, _, ⟨cLO⟩, ⟨cYr⟩, ⟨cYc⟩, _, _, _, ⟨cLE⟩, ⟨cYr⟩, ⟨cYc⟩, _, _, _, ⟨cBF⟩, _, ⟨cRE⟩, ?_⟩
    simp only [bc_n hr, beq_self_eq_true, Bool.and_self, Bool.not_true, if_true, if_false, Bool.false_eq_true, bcF, bcT, true_and]
theorem lawNM (a b c d e v t : Int) (hn : Nums a b c d) (nm : List UInt8) (R : List (Int × Int)) : C5 3 [dRn a b c d e, dCc v t, dCo nm R] [.val (.bool true)] := by
  refine con_flat hokM mixed Try.func3 rfl (by show 1 ≤ 400; omega) rfl (by kernel_rfl) (fun caps => ?_)
  show gLo2 _ _ a b c d e v t (bs nm) R.length (caps 500) (vp R) _
  rw [gLo2_text]
  refine .inl ⟨⟨conA⟩, bc_dec (fun h10 => bc_dec (fun _ => ?_) (fun _ => rfl)) (fun _ => rfl)⟩
  have cYr := conYrn a b c d e
  have cYc := conYc nm R (by omega)
  have cKC := conKC [] (by decide) e hn nm R (by omega)
  have cLO := conLO [] (by decide) e hn v t nm R (by omega)
  have cLE := conLE [] (by decide) e hn v t nm R (by omega)
  have cBF := conBF [] (by decide) e hn nm R (by omega)
  have cRE := conREn a b c d e
  have hr : (rulR [] a b c d e).2 ≠ 0 := by rw [rulR_nil]; decide
  have h10 : (10 : Int) ≠ 0 := by decide
  obtain ⟨q1, q2, q3⟩ := bad_rul (v := v) (t := t) (nm := nm) (R := R) hr
  rw [if_neg hr, rulR_nil] at cKC
  rw [q1, rulR_nil] at cLO
  rw [q2, rulR_nil] at cLE
  rw [q3, rulR_nil] at cBF
  simp only [Dw, Tk, vp_whole, bc_t (v2le R), eq_self, true_and, and_true]
  refine ⟨⟨cYr⟩, ⟨cYc⟩, _, _, ⟨cKC⟩, ⟨cYr⟩, ⟨cYc⟩, _, _, _, ⟨cLO⟩, ⟨cYr⟩, ⟨cYc⟩, _, _, _, ⟨cLE⟩, ⟨cYr⟩, ⟨cYc⟩, _, _, _, ⟨cBF⟩, _, ⟨cRE⟩, ?_⟩
  simp only [bc_n h10, beq_self_eq_true, Bool.and_self, Bool.not_true, if_true, if_false, Bool.false_eq_true, bcF, bcT, true_and]
theorem lawNN (a b c d e v t : Int) (hn : Nums a b c d) (nm : List UInt8) : C5 3 [dRn a b c d e, dCc v t, dCn nm] [.val (.bool true)] := by
  refine con_flat hokM mixed Try.func3 rfl (by show 0 ≤ 400; omega) rfl (by kernel_rfl) (fun caps => ?_)
  show gLo3 _ _ a b c d e v t (bs nm) _
  rw [gLo3_text]
  refine .inl ⟨⟨conA⟩, bc_dec (fun _ => ?_) (fun _ => rfl)⟩
  have cYr := conYrn a b c d e
  have cYc := conYcn nm
  have cKC := conKC [] (by decide) e hn nm [] (by decide)
  have cLO := conLO [] (by decide) e hn v t nm [] (by decide)
  have cLE := conLE [] (by decide) e hn v t nm [] (by decide)
  have cBF := conBF [] (by decide) e hn nm [] (by decide)
  have cRE := conREn a b c d e
  have hr : (rulR [] a b c d e).2 ≠ 0 := by rw [rulR_nil]; decide
  have h10 : (10 : Int) ≠ 0 := by decide
  obtain ⟨q1, q2, q3⟩ := bad_rul (v := v) (t := t) (nm := nm) (R := []) hr
  rw [if_neg hr, rulR_nil] at cKC
  rw [q1, rulR_nil] at cLO
  rw [q2, rulR_nil] at cLE
  rw [q3, rulR_nil] at cBF
  simp only [eq_self, true_and, and_true]
  refine ⟨⟨cYr⟩, ⟨cYc⟩, _, _, ⟨cKC⟩, ⟨cYr⟩, ⟨cYc⟩, _, _, _, ⟨cLO⟩, ⟨cYr⟩, ⟨cYc⟩, _, _, _, ⟨cLE⟩, ⟨cYr⟩, ⟨cYc⟩, _, _, _, ⟨cBF⟩, _, ⟨cRE⟩, ?_⟩
  simp only [bc_n h10, beq_self_eq_true, Bool.and_self, Bool.not_true, if_true, if_false, Bool.false_eq_true, bcF, bcT, true_and]
end Go.Proofs.G5l

/- ModelLosses: whatever the input, it returns true, and the input reads as it did. No condition. -/
namespace Go.Proofs.Ytbdnaobaiidblaa.K
open Go Go.Abs Go.RowKit Go.ChangeShapes Go.WideShapes Go.ChangeAt Go.Proofs Go.Flat Go.Proofs.G5l
set_option maxRecDepth 100000
namespace ModelLosses
abbrev shs : List Sh := [.agg [22, 3, 3, 3, 3, 3], .agg [3, 3], .agg [9, 29]]
theorem shapes : Try.f3.params.toList.mapM (argSh Try.prog) = some shs := by kernel_rfl
theorem all (ds : List D) (h : ShDs Try.prog shs ds) : Con Try.prog 3 ds [.val (.bool true)] := by
  cases h with | cons h1 t => cases t with | cons h2 t => cases t with | cons h3 t =>
  cases t
  obtain ⟨d1, rfl, h1⟩ := h1
  obtain ⟨d2, rfl, h2⟩ := h2
  obtain ⟨d3, rfl, h3⟩ := h3
  cases h1 with | cons p1 t => cases t with | cons p2 t => cases t with | cons p3 t => cases t with | cons p4 t => cases t with | cons p5 t => cases t with | cons p6 t =>
  cases t
  cases h2 with | cons q1 t => cases t with | cons q2 t =>
  cases t
  cases h3 with | cons r1 t => cases t with | cons r2 t =>
  cases t
  obtain ⟨a, rfl, ha⟩ := leaf_int Try.underlying3 p2
  obtain ⟨b, rfl, hb⟩ := leaf_int Try.underlying3 p3
  obtain ⟨c, rfl, hc⟩ := leaf_int Try.underlying3 p4
  obtain ⟨d, rfl, hd⟩ := leaf_int Try.underlying3 p5
  obtain ⟨e, rfl, _⟩ := leaf_int Try.underlying3 p6
  obtain ⟨v, rfl, _⟩ := leaf_int Try.underlying3 q1
  obtain ⟨t, rfl, _⟩ := leaf_int Try.underlying3 q2
  obtain ⟨nm, rfl⟩ := leaf_str Try.underlying9 r1
  have hn : Nums a b c d := ⟨ha, hb, hc, hd⟩
  rcases leaf_prs Try.underlying22 (by kernel_rfl) p1 with rfl | ⟨T, rfl, _⟩
  · rcases leaf_prs Try.underlying29 (by kernel_rfl) r2 with rfl | ⟨R, rfl, _⟩
    · exact lawNN a b c d e v t hn nm
    · exact lawNM a b c d e v t hn nm R
  · rcases leaf_prs Try.underlying29 (by kernel_rfl) r2 with rfl | ⟨R, rfl, _⟩
    · exact lawMN T e hn v t nm
    · exact lawMM T e hn v t nm R
theorem lifted (os : Os) (started : os.Started) (H : Type) (enc : TypeId × Value → H) :
    ReturnsInHanded {} Try.checked os 3 .any (Rows.modelLossesSpec.pre6 enc Try.prog Try.f3 Rows.modelLossesRow.domain false) (Rows.modelLossesSpec.post enc Try.prog Try.f3 false true false false) := by
  refine returnsInHanded_of_change (C := Try.checked) own started (by kernel_rfl) Try.func3
    (ChangeSpec.witness6 (enc := enc) (C := Try.checked) false ⟨#[], #[.agg #[.slice none 0 0, .int .i64 0, .int .i64 0, .int .i64 0, .int .i64 0, .int .i64 0], .agg #[.int .i64 0, .int .i64 0], .agg #[.string ⟨#[]⟩, .slice none 0 0]], []⟩ 8 (by kernel_rfl) (by kernel_rfl) (by kernel_rfl) (by kernel_rfl)) ?_
  intro W base args ds gs before hval hW _ _
  exact law_shapes (tb := 4) (s := Rows.modelLossesSpec) shapes all laidP mapsP slicesP (tsP (by kernel_rfl)) rfl Try.underlying4 rfl (fun ds h => by
    match ds, h with
    | [_, _, _], _ => exact ⟨rfl, rfl, rfl⟩) hval hW (good0 W)
theorem holds : Rows.ModelLossesSaid :=
  OpenClaim.holds_of_wide 3 Try.f3 rfl rfl rfl rfl rfl rfl rfl ⟨rfl, rfl, rfl, rfl, rfl⟩ rfl rfl rfl rfl rfl (by kernel_rfl) Try.func3 (by kernel_rfl)
    (of_decide_eq_true (by kernel_rfl)) (by unfold Func.isWrapper; first | (rw [if_pos (by decide +kernel)]; kernel_rfl) | (rw [if_neg (by decide +kernel)]; exact ⟨rfl, rfl⟩))
    (fun os started H enc _ => lifted os started H enc)
#print axioms holds
end ModelLosses
end Go.Proofs.Ytbdnaobaiidblaa.K
