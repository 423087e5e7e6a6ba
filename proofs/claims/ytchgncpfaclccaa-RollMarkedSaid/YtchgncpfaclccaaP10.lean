/- Texts of the proof, put together: GrYR10, GrYRK. -/
import Derived.Test.YtchgncpfaclccaaP7
import Derived.Test.YtchgncpfaclccaaGrYAR
import Derived.Test.YtchgncpfaclccaaP5
/- RollMarked in data: no marks; awake. -/
namespace Go.Proofs.G5r
open Go Go.Abs Go.Proofs
set_option maxRecDepth 100000
set_option maxHeartbeats 1000000
theorem lawMn (t r : Int) : C5 3 [mN t, dI r] [dB true] := by
  refine con_flat hokM mixed Try.func3 rfl (by show 0 ≤ 400; omega) rfl (by kernel_rfl) (fun caps => ?_)
  show gLMn _ _ t r _
  rw [gLMn_text]
  have ek : ckM [] t = (0, 10) := rfl
  have ep : phE [] t r = (0, 0, 10) := by unfold phE; rw [ek]; rfl
  have cE := conEx [] t r (by simp)
  have ee : exE [] t r = 10 := by unfold exE; rw [ep]
  have eD : exD [] t r = .nil := by unfold exD; rw [ee]; rfl
  rw [eD, ee] at cE
  have cC := conCM [] t (by simp)
  rw [ek] at cC
  have cP := conPO [] t r (by simp)
  rw [ep] at cP
  refine .inl ⟨⟨conA⟩, ⟨concMn t⟩, _, _, ⟨cC⟩, ⟨concMn t⟩, _, _, _, ⟨cP⟩, ⟨concMn t⟩, .inl ⟨_, ⟨cE⟩, _, _, ⟨conrCn t⟩, ?_⟩⟩
  simp only [bc_nf]
  simp only [bc_q (show (10 : Int) ≠ 0 by decide), bc_n (show (10 : Int) ≠ 0 by decide)]
  exact finE rfl rfl rfl rfl trivial
end Go.Proofs.G5r

/- RollMarked: whatever the input, it returns true, and the input reads as it did. No condition. -/
namespace Go.Proofs.Ytchgncpfaclccaa.K
open Go Go.Abs Go.RowKit Go.ChangeShapes Go.WideShapes Go.ChangeAt Go.Proofs Go.Flat Go.Proofs.G5r
set_option maxRecDepth 100000
namespace RollMarked
abbrev shs : List Sh := [.agg [22, 3], .one 3]
theorem shapes : Try.f3.params.toList.mapM (argSh Try.prog) = some shs := by kernel_rfl
theorem all (ds : List D) (h : ShDs Try.prog shs ds) : Con Try.prog 3 ds [.val (.bool true)] := by
  cases h with | cons h1 t => cases t with | cons h2 t =>
  cases t
  obtain ⟨d1, rfl, h1⟩ := h1
  cases h1 with | cons p1 t => cases t with | cons p2 t =>
  cases t
  obtain ⟨tol, rfl, _⟩ := leaf_int Try.underlying3 p2
  obtain ⟨rd, rfl, _⟩ := leaf_int Try.underlying3 h2
  rcases leaf_ints Try.underlying22 (by kernel_rfl) p1 with rfl | ⟨l, rfl⟩
  · exact lawMn tol rd
  · exact lawM conA l tol rd
theorem lifted (os : Os) (started : os.Started) (H : Type) (enc : TypeId × Value → H) :
    ReturnsInHanded {} Try.checked os 3 .any (Rows.rollMarkedSpec.pre6 enc Try.prog Try.f3 Rows.rollMarkedRow.domain false) (Rows.rollMarkedSpec.post enc Try.prog Try.f3 false true false false) := by
  refine returnsInHanded_of_change (C := Try.checked) own started (by kernel_rfl) Try.func3
    (ChangeSpec.witness6 (enc := enc) (C := Try.checked) false ⟨#[], #[.agg #[.slice none 0 0, .int .i64 0], .int .i64 0], []⟩ 8 (by kernel_rfl) (by kernel_rfl) (by kernel_rfl) (by kernel_rfl)) ?_
  intro W base args ds gs before hval hW _ _
  exact law_shapes (tb := 4) (s := Rows.rollMarkedSpec) shapes all laidP mapsP slicesP (tsP (by kernel_rfl)) rfl Try.underlying4 rfl (fun ds h => by
    match ds, h with
    | [_, _], _ => exact ⟨rfl, rfl, rfl⟩) hval hW (good0 W)
theorem holds : Rows.RollMarkedSaid :=
  OpenClaim.holds_of_wide 3 Try.f3 rfl rfl rfl rfl rfl rfl rfl ⟨rfl, rfl, rfl, rfl, rfl⟩ rfl rfl rfl rfl rfl (by kernel_rfl) Try.func3 (by kernel_rfl)
    (of_decide_eq_true (by kernel_rfl)) (by unfold Func.isWrapper; first | (rw [if_pos (by decide +kernel)]; kernel_rfl) | (rw [if_neg (by decide +kernel)]; exact ⟨rfl, rfl⟩))
    (fun os started H enc _ => lifted os started H enc)
#print axioms holds
end RollMarked
end Go.Proofs.Ytchgncpfaclccaa.K
