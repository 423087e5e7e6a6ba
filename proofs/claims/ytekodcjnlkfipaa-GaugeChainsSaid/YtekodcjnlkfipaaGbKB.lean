/- GaugeChains: whatever the input, it returns true, and the input reads as it did. No condition. -/
import Derived.Test.YtekodcjnlkfipaaP5
import Derived.Test.YtekodcjnlkfipaaP8
namespace Go.Proofs.Ytekodcjnlkfipaa.K
open Go Go.Abs Go.RowKit Go.ChangeShapes Go.WideShapes Go.ChangeAt Go.Proofs Go.Flat Go.Proofs.G5b
set_option maxRecDepth 100000
theorem shapes3 : Try.f3.params.toList.mapM (argSh Try.prog) = some [.agg [22], .agg [25, 25]] := by kernel_rfl
theorem two_args {ds : List D} (h : ShDs Try.prog [.agg [22], .agg [25, 25]] ds) : ∃ a b c : D, ds = [.agg [a], .agg [b, c]] ∧ (a = .nil ∨ ∃ l : List Sv, a = .sl l.length 7 (vs7 l)) ∧ (b = .nil ∨ ∃ l : List Int, b = .sl l.length 1 (vi l)) ∧ (c = .nil ∨ ∃ l : List Int, c = .sl l.length 1 (vi l)) := by
  cases h with | cons h1 t => cases t with | cons h2 t =>
  cases t
  obtain ⟨d1, rfl, h1⟩ := h1
  obtain ⟨d2, rfl, h2⟩ := h2
  cases h1 with | cons h1 t =>
  cases t
  cases h2 with | cons h2 t => cases t with | cons h3 t =>
  cases t
  exact ⟨_, _, _, rfl, leaf_svs Try.underlying22 (by kernel_rfl) h1, leaf_ints Try.underlying25 (by kernel_rfl) h2, leaf_ints Try.underlying25 (by kernel_rfl) h3⟩
theorem all3 (ds : List D) (h : ShDs Try.prog [.agg [22], .agg [25, 25]] ds) : Con Try.prog 3 ds [.val (.bool true)] := by
  obtain ⟨a, b, c, rfl, ha, hb, hc⟩ := two_args h
  rcases ha with rfl | ⟨l, rfl⟩ <;> rcases hb with rfl | ⟨m, rfl⟩ <;> rcases hc with rfl | ⟨o, rfl⟩
  · exact conLnnn
  · exact conLnns o
  · exact conLnsn m
  · exact conLnss m o
  · exact conLsnn l
  · exact conLsns l o
  · exact conLssn l m
  · exact conLsss l m o
theorem lifted3 (os : Os) (started : os.Started) (H : Type) (enc : TypeId × Value → H) :
    ReturnsInHanded {} Try.checked os 3 .any (Rows.gaugeChainsSpec.pre6 enc Try.prog Try.f3 Rows.gaugeChainsRow.domain false) (Rows.gaugeChainsSpec.post enc Try.prog Try.f3 false true false false) := by
  refine returnsInHanded_of_change (C := Try.checked) own started (by kernel_rfl) Try.func3
    (ChangeSpec.witness6 (enc := enc) (C := Try.checked) false ⟨#[], #[.agg #[.slice none 0 0], .agg #[.slice none 0 0, .slice none 0 0]], []⟩ 8 (by kernel_rfl) (by kernel_rfl) (by kernel_rfl) (by kernel_rfl)) ?_
  intro W base args ds gs before hval hW _ _
  exact law_shapes (tb := 4) (s := Rows.gaugeChainsSpec) shapes3 all3 laidP mapsP slicesP (tsP (by kernel_rfl)) rfl Try.underlying4 rfl (fun ds h => by
    match ds, h with
    | [_, _], _ => exact ⟨rfl, rfl, rfl⟩) hval hW
theorem gaugeChains_holds : Rows.GaugeChainsSaid :=
  OpenClaim.holds_of_wide 3 Try.f3 rfl rfl rfl rfl rfl rfl rfl ⟨rfl, rfl, rfl, rfl, rfl⟩ rfl rfl rfl rfl rfl (by kernel_rfl) Try.func3 (by kernel_rfl)
    (of_decide_eq_true (by kernel_rfl)) (by unfold Func.isWrapper; first | (rw [if_pos (by decide +kernel)]; kernel_rfl) | (rw [if_neg (by decide +kernel)]; exact ⟨rfl, rfl⟩))
    (fun os started H enc _ => lifted3 os started H enc)
#print axioms gaugeChains_holds
end Go.Proofs.Ytekodcjnlkfipaa.K
