/- CampaignSlabs: whatever the input, it returns true, and the input reads as it did. Condition: the listed library tables hold what the text of the program lays (the card ties that to the text). -/
import Derived.Test.YtccecnmimkfcpaaGreatDoorP4
import Derived.Test.YtccecnmimkfcpaaGreatDoorP6
import Derived.Test.YtccecnmimkfcpaaGreatDoorGtSAr
namespace Go.Proofs.YtccecnmimkfcpaaGreatDoor.K
open Go Go.Abs Go.RowKit Go.ChangeShapes Go.WideShapes Go.ChangeAt Go.Proofs Go.Flat Go.Proofs.G5t
set_option maxRecDepth 100000
namespace CampaignSlabs
abbrev shs : List Sh := [.agg [9, 3, 3, 3, 3], .one 9]
theorem shapes : Tryz.f3.params.toList.mapM (argSh Tryz.prog) = some shs := by kernel_rfl
theorem all (ds : List D) (h : ShDs Tryz.prog shs ds) : Con Tryz.prog 3 ds [.val (.bool true)] := by
  cases h with | cons h1 t => cases t with | cons h2 t =>
  cases t
  obtain ⟨s, rfl⟩ := leaf_str Tryz.underlying9 h2
  obtain ⟨ds1, rfl, k1⟩ := h1
  cases k1 with | cons a1 t => cases t with | cons a2 t => cases t with | cons a3 t => cases t with | cons a4 t => cases t with | cons a5 t =>
  cases t
  obtain ⟨l, rfl⟩ := leaf_str Tryz.underlying9 a1
  obtain ⟨x1, rfl, h1⟩ := leaf_int Tryz.underlying3 a2
  obtain ⟨x2, rfl, h2⟩ := leaf_int Tryz.underlying3 a3
  obtain ⟨x3, rfl, h3⟩ := leaf_int Tryz.underlying3 a4
  obtain ⟨x4, rfl, h4⟩ := leaf_int Tryz.underlying3 a5
  exact lawS conA l x1 x2 x3 x4 h1 h2 h3 h4 s
def wArgs : Array Value := #[.agg #[.string ⟨#[]⟩, .int .i64 0, .int .i64 0, .int .i64 0, .int .i64 0], .string ⟨#[]⟩]
theorem laid_met (os : Os) : laidMet Tryz.prog Rows.campaignSlabsRow.laid ((laidWorld os).forCall (fun _ _ => 0) ⟨#[], wArgs, []⟩).memory :=
  laidMet_of_run' 8 (by kernel_rfl) (by kernel_rfl)
theorem reads (os : Os) {H : Type} (enc : TypeId × Value → H) : ∃ places, DataW.whole enc Tryz.prog ((laidWorld os).forCall (fun _ _ => 0) ⟨#[], wArgs, []⟩).memory Tryz.f3.params.toList Rows.campaignSlabsSpec.vars false wArgs.toList 8 =
    some ([.agg [.lit (.string []), .lit (.int .i64 0), .lit (.int .i64 0), .lit (.int .i64 0), .lit (.int .i64 0)], .lit (.string [])], [], places) :=
  ⟨[], by kernel_rfl⟩
theorem lifted (os : Os) (started : os.Started) (H : Type) (enc : TypeId × Value → H) (F : Stop.Interp) :
    ReturnsInHanded {} Tryz.checked os 3 .any ((OpenSpec.ofChange Rows.campaignSlabsSpec).preRow enc Tryz.prog Tryz.f3 Rows.campaignSlabsRow.domain false Rows.campaignSlabsRow.laid) (((OpenSpec.ofChange Rows.campaignSlabsSpec).at F).post enc Tryz.prog Tryz.f3 false true false false) := by
  obtain ⟨places, hx⟩ := reads os enc
  refine returnsInHanded_of_row (C := Tryz.checked) (s := OpenSpec.ofChange Rows.campaignSlabsSpec) own started (by kernel_rfl) Tryz.func3
    (witness_row_at (enc := enc) (C := Tryz.checked) false (laidWorld os) wArgs rfl (by kernel_rfl) (by kernel_rfl) (by kernel_rfl)
      (OpenSpec.preRow_of_cond 8 hx (by kernel_rfl) (fun k hk => by cases hk) (by kernel_rfl) (laid_met os))) ?_
  intro W base args ds gs before hval hW h1 h2 h3 h4 h5 h6
  have hgood : GoodW Tryz.prog W := good_of (show laidMet _ _ W from h4) h5
  exact law_shapes (tb := 4) (s := Rows.campaignSlabsSpec) shapes all laidP mapsP slicesP (tsP (by kernel_rfl)) rfl Tryz.underlying4 rfl (fun ds h => by
    match ds, h with
    | [_, _], _ => exact ⟨rfl, rfl, rfl⟩) hval hW hgood
theorem said : Rows.CampaignSlabsSaid :=
  OpenClaim.holds_of_cond 3 Tryz.f3 rfl rfl rfl rfl rfl rfl rfl ⟨rfl, rfl, rfl, rfl, rfl⟩ rfl rfl rfl rfl rfl (by kernel_rfl) Tryz.func3 (by kernel_rfl)
    (of_decide_eq_true (by kernel_rfl)) (by unfold Func.isWrapper; first | (rw [if_pos (by decide +kernel)]; kernel_rfl) | (rw [if_neg (by decide +kernel)]; exact ⟨rfl, rfl⟩))
    (fun os started H enc _ F => by rw [OpenClaim.pre_eq_preRow]; exact lifted os started H enc F)
theorem plain (f : FuncId) (fn : Func) (hf : Tryz.pinned.checked.prog.funcNamed "cobble/cobblelaw01.CampaignSlabs" = some f) (hfn : Tryz.pinned.checked.prog.funcs[f]? = some fn) :
    false = Tryz.pinned.checked.prog.looks [] ∧ ∀ (j : Nat) t, fn.params[j]? = some t → Tryz.pinned.checked.prog.wantsStandIn t = false := by
  obtain rfl : f = 3 := Option.some.inj ((show Tryz.prog.funcNamed "cobble/cobblelaw01.CampaignSlabs" = some 3 by kernel_rfl).symm.trans hf) |>.symm
  obtain rfl : fn = Tryz.f3 := (Option.some.inj (Tryz.func3.symm.trans hfn)).symm
  exact ⟨by kernel_rfl, noStand (by kernel_rfl)⟩
theorem card : Rows.CampaignSlabsCardSaid :=
  Claim7.holds_tied_plain_at .later [] _ _ _ _ said (fun _ h => by cases h) (by kernel_rfl) (fun _ h => by cases h) campaignSlabs_row_tie rfl ⟨rfl, rfl⟩ (by kernel_rfl) rfl plain (by kernel_rfl)
#print axioms card
end CampaignSlabs
end Go.Proofs.YtccecnmimkfcpaaGreatDoor.K
