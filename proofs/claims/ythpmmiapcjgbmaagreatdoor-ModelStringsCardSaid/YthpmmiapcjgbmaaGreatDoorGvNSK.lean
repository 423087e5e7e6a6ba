/- ModelStrings: whatever the input, it returns true, and the input reads as it did. Condition: the listed library tables hold what the text of the program lays (the card ties that to the text). -/
import Derived.Test.YthpmmiapcjgbmaaGreatDoorP4
import Derived.Test.YthpmmiapcjgbmaaGreatDoorP7
import Derived.Test.YthpmmiapcjgbmaaGreatDoorGvVLA
namespace Go.Proofs.YthpmmiapcjgbmaaGreatDoor.K
open Go Go.Abs Go.RowKit Go.ChangeShapes Go.WideShapes Go.ChangeAt Go.Proofs Go.Flat Go.Proofs.G5v
set_option maxRecDepth 100000
namespace ModelStrings
abbrev shs : List Sh := [.agg [22, 3, 3, 3, 3, 3], .agg [3, 3], .agg [9, 29]]
theorem shapes : Tryz.f3.params.toList.mapM (argSh Tryz.prog) = some shs := by kernel_rfl
theorem all (ds : List D) (h : ShDs Tryz.prog shs ds) : Con Tryz.prog 3 ds [.val (.bool true)] := by
  cases h with | cons h1 t => cases t with | cons h2 t => cases t with | cons h3 t =>
  cases t
  obtain ⟨d1, rfl, h1⟩ := h1
  obtain ⟨d2, rfl, h2⟩ := h2
  obtain ⟨d3, rfl, h3⟩ := h3
  cases h1 with | cons p1 t => cases t with | cons p2 t => cases t with | cons p3 t => cases t with | cons p4 t => cases t with | cons p5 t => cases t with | cons p6 t =>
  cases t
  cases h2 with | cons q1 t => cases t with | cons q2 t =>
  cases t
  cases h3 with | cons r1 t => cases t with | cons r2 t =>
  cases t
  obtain ⟨a, rfl, ha⟩ := leaf_int Tryz.underlying3 p2
  obtain ⟨b, rfl, hb⟩ := leaf_int Tryz.underlying3 p3
  obtain ⟨c, rfl, hc⟩ := leaf_int Tryz.underlying3 p4
  obtain ⟨d, rfl, hd⟩ := leaf_int Tryz.underlying3 p5
  obtain ⟨e, rfl, he⟩ := leaf_int Tryz.underlying3 p6
  obtain ⟨v, rfl, hv⟩ := leaf_int Tryz.underlying3 q1
  obtain ⟨t, rfl, ht⟩ := leaf_int Tryz.underlying3 q2
  obtain ⟨nm, rfl⟩ := leaf_str Tryz.underlying9 r1
  have hn : Nums a b c d := ⟨ha, hb, hc, hd⟩
  rcases leaf_prs Tryz.underlying22 (by kernel_rfl) p1 with rfl | ⟨T, rfl, hT⟩
  · rcases leaf_prs Tryz.underlying29 (by kernel_rfl) r2 with rfl | ⟨R, rfl, hR⟩
    · exact lawS3 conA a b c d e v t hn he hv ht nm
    · exact lawS2 conA a b c d e v t hn he hv ht nm R hR
  · rcases leaf_prs Tryz.underlying29 (by kernel_rfl) r2 with rfl | ⟨R, rfl, hR⟩
    · exact lawS1 conA T hT a b c d e v t hn he hv ht nm
    · exact lawS conA T hT a b c d e v t hn he hv ht nm R hR
def wArgs : Array Value := #[.agg #[.slice none 0 0, .int .i64 0, .int .i64 0, .int .i64 0, .int .i64 0, .int .i64 0], .agg #[.int .i64 0, .int .i64 0], .agg #[.string ⟨#[]⟩, .slice none 0 0]]
theorem laid_met (os : Os) : laidMet Tryz.prog Rows.modelStringsRow.laid ((laidWorld os).forCall (fun _ _ => 0) ⟨#[], wArgs, []⟩).memory :=
  laidMet_of_run' 8 (by kernel_rfl) (by kernel_rfl)
theorem reads (os : Os) {H : Type} (enc : TypeId × Value → H) : ∃ places, DataW.whole enc Tryz.prog ((laidWorld os).forCall (fun _ _ => 0) ⟨#[], wArgs, []⟩).memory Tryz.f3.params.toList Rows.modelStringsSpec.vars false wArgs.toList 8 =
    some ([.agg [.nil, .agg [.lit (.int .i64 0), .lit (.int .i64 0)], .agg [.lit (.int .i64 0), .lit (.int .i64 0)], .lit (.int .i64 0)], .agg [.lit (.int .i64 0), .lit (.int .i64 0)], .agg [.lit (.string []), .nil]], [], places) :=
  ⟨[], by kernel_rfl⟩
theorem lifted (os : Os) (started : os.Started) (H : Type) (enc : TypeId × Value → H) (F : Stop.Interp) :
    ReturnsInHanded {} Tryz.checked os 3 .any ((OpenSpec.ofChange Rows.modelStringsSpec).preRow enc Tryz.prog Tryz.f3 Rows.modelStringsRow.domain false Rows.modelStringsRow.laid) (((OpenSpec.ofChange Rows.modelStringsSpec).at F).post enc Tryz.prog Tryz.f3 false true false false) := by
  obtain ⟨places, hx⟩ := reads os enc
  refine returnsInHanded_of_row (C := Tryz.checked) (s := OpenSpec.ofChange Rows.modelStringsSpec) own started (by kernel_rfl) Tryz.func3
    (witness_row_at (enc := enc) (C := Tryz.checked) false (laidWorld os) wArgs rfl (by kernel_rfl) (by kernel_rfl) (by kernel_rfl)
      (OpenSpec.preRow_of_cond 8 hx (by kernel_rfl) (fun k hk => by cases hk) (by kernel_rfl) (laid_met os))) ?_
  intro W base args ds gs before hval hW h1 h2 h3 h4 h5 h6
  have hgood : GoodW Tryz.prog W := good_of (show laidMet _ _ W from h4) h5
  exact law_shapes (tb := 4) (s := Rows.modelStringsSpec) shapes all laidP mapsP slicesP (tsP (by kernel_rfl)) rfl Tryz.underlying4 rfl (fun ds h => by
    match ds, h with
    | [_, _, _], _ => exact ⟨rfl, rfl, rfl⟩) hval hW hgood
theorem said : Rows.ModelStringsSaid :=
  OpenClaim.holds_of_cond 3 Tryz.f3 rfl rfl rfl rfl rfl rfl rfl ⟨rfl, rfl, rfl, rfl, rfl⟩ rfl rfl rfl rfl rfl (by kernel_rfl) Tryz.func3 (by kernel_rfl)
    (of_decide_eq_true (by kernel_rfl)) (by unfold Func.isWrapper; first | (rw [if_pos (by decide +kernel)]; kernel_rfl) | (rw [if_neg (by decide +kernel)]; exact ⟨rfl, rfl⟩))
    (fun os started H enc _ F => by rw [OpenClaim.pre_eq_preRow]; exact lifted os started H enc F)
theorem plain (f : FuncId) (fn : Func) (hf : Tryz.pinned.checked.prog.funcNamed "cobble/cobblelaw04.ModelStrings" = some f) (hfn : Tryz.pinned.checked.prog.funcs[f]? = some fn) :
    true = Tryz.pinned.checked.prog.looks [] ∧ ∀ (j : Nat) t, fn.params[j]? = some t → Tryz.pinned.checked.prog.wantsStandIn t = false := by
  obtain rfl : f = 3 := Option.some.inj ((show Tryz.prog.funcNamed "cobble/cobblelaw04.ModelStrings" = some 3 by kernel_rfl).symm.trans hf) |>.symm
  obtain rfl : fn = Tryz.f3 := (Option.some.inj (Tryz.func3.symm.trans hfn)).symm
  exact ⟨by kernel_rfl, noStand (by kernel_rfl)⟩
theorem card : Rows.ModelStringsCardSaid :=
  Claim7.holds_tied_plain_at .later [] _ _ _ _ said (fun _ h => by cases h) (by kernel_rfl) (fun _ h => by cases h) modelStrings_row_tie rfl ⟨rfl, rfl⟩ (by kernel_rfl) rfl plain (by kernel_rfl)
#print axioms card
end ModelStrings
end Go.Proofs.YthpmmiapcjgbmaaGreatDoor.K
