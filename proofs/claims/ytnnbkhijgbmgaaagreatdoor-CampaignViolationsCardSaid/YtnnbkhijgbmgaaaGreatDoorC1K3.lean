/- CampaignViolations: whatever the rules, the items and the sequence, it returns true, and all read as they did. Condition: the listed library tables hold what the program's text lays (the card ties that to the text). -/
import Derived.Test.YtnnbkhijgbmgaaaGreatDoorP5
import Derived.Test.YtnnbkhijgbmgaaaGreatDoorP7
namespace Go.Proofs.YtnnbkhijgbmgaaaGreatDoor
open Go Go.Abs Go.RowKit Go.ChangeShapes Go.WideShapes Go.ChangeAt Go.Proofs Go.Proofs.C1 Go.Proofs.C1R Go.Flat
set_option maxRecDepth 100000
namespace Viol
theorem rules_reads {H : Type} {enc : TypeId × Value → H} {W : World} {v : Value} {d : DataW H} {p : List MemPlace} (hval : ∃ base, Value.okWide Tryz.prog W .any base 42 v)
    (h : DataW.Trod enc Tryz.prog W 0 (fun _ => true) true 42 v d p) : ∃ r : Ru, Reads W (dRu r) v := by
  obtain ⟨base, ok0⟩ := hval
  simp only [Value.okWide, Tryz.underlying42] at ok0
  obtain ⟨cs, rfl, hsz, _⟩ := ok0
  obtain ⟨fuel, h⟩ := h
  have hl : leaves Tryz.prog 4 42 = some [.int .i64, .int .i64, .int .i64, .int .i64, .int .i64, .int .i64, .int .i64, .int .i64, .int .i64] := by kernel_rfl
  have ho := trod_oks 4 42 hl fuel _ h
  have c42 : Tryz.prog.cellsOf 42 = 9 := by kernel_rfl
  rw [c42] at hsz
  match cs, hsz with
  | ⟨[c0, c1, c2, c3, c4, c5, c6, c7, c8]⟩, _ =>
    cases ho with | cons a0 ho =>
    cases ho with | cons a1 ho =>
    cases ho with | cons a2 ho =>
    cases ho with | cons a3 ho =>
    cases ho with | cons a4 ho =>
    cases ho with | cons a5 ho =>
    cases ho with | cons a6 ho =>
    cases ho with | cons a7 ho =>
    cases ho with | cons a8 ho =>
    obtain ⟨n0, rfl, _⟩ := a0
    obtain ⟨n1, rfl, _⟩ := a1
    obtain ⟨n2, rfl, _⟩ := a2
    obtain ⟨n3, rfl, _⟩ := a3
    obtain ⟨n4, rfl, _⟩ := a4
    obtain ⟨n5, rfl, _⟩ := a5
    obtain ⟨n6, rfl, _⟩ := a6
    obtain ⟨n7, rfl, _⟩ := a7
    obtain ⟨n8, rfl, _⟩ := a8
    exact ⟨⟨n0, n1, n2, n3, n4, n5, n6, n7, n8⟩, .agg _ [_, _, _, _, _, _, _, _, _] (.cons (.val _ rfl) (.cons (.val _ rfl) (.cons (.val _ rfl) (.cons (.val _ rfl) (.cons (.val _ rfl) (.cons (.val _ rfl) (.cons (.val _ rfl) (.cons (.val _ rfl) (.cons (.val _ rfl) .nil)))))))))⟩
theorem c90 : Tryz.prog.cellsOf 90 = 4 := by kernel_rfl
theorem c3 : Tryz.prog.cellsOf 3 = 1 := by kernel_rfl
theorem quads : ∀ ps : List (Int × Int × Int × Int), ∃ l : List It, l.length = ps.length ∧ vq l = ps.flatMap fun p => [Value.int .i64 p.1, Value.int .i64 p.2.1, Value.int .i64 p.2.2.1, Value.int .i64 p.2.2.2]
  | [] => ⟨[], rfl, rfl⟩
  | p :: r => by
    obtain ⟨l, h1, h2⟩ := quads r
    exact ⟨⟨p.1, p.2.1, p.2.2.1, p.2.2.2⟩ :: l, by simp [h1], by rw [List.flatMap_cons, ← h2]; rfl⟩
/-- lists of any length -/
theorem con5all (r : Ru) (l : List It) (q : List Int) : Con Tryz.prog 5 [dRu r, dIts l, dInts q] [dB true] := by
  by_cases hs : l.length ≤ 1000000 ∧ q.length ≤ 1000000
  · exact con5 r l q hs.1 hs.2
  · refine con_flat hokL mixed Tryz.func5 rfl (by show 2 ≤ 400; omega) rfl (by kernel_rfl) (fun caps => ?_)
    show g5 _ _ r.op r.wu r.wd r.tj r.hj r.me r.wp r.tp r.hp l.length (caps 500) (vq l) q.length (caps 501) (vi q) _
    rw [g5_text]
    exact .inl ⟨⟨con6⟩, bc_dec (fun _ => bc_dec (fun _ => rfl) (fun _ => by omega)) (fun _ => rfl)⟩
theorem con5alla (r : Ru) (q : List Int) : Con Tryz.prog 5 [dRu r, .nil, dInts q] [dB true] := by
  by_cases hs : q.length ≤ 1000000
  · exact con5a r q hs
  · refine con_flat hokL mixed Tryz.func5 rfl (by show 1 ≤ 400; omega) rfl (by kernel_rfl) (fun caps => ?_)
    show g5a _ _ r.op r.wu r.wd r.tj r.hj r.me r.wp r.tp r.hp q.length (caps 500) (vi q) _
    rw [g5a_text]
    exact .inl ⟨⟨con6⟩, bc_dec (fun _ => rfl) (fun _ => by omega)⟩
theorem con5allb (r : Ru) (l : List It) : Con Tryz.prog 5 [dRu r, dIts l, .nil] [dB true] := by
  by_cases hs : l.length ≤ 1000000
  · exact con5b r l hs
  · refine con_flat hokL mixed Tryz.func5 rfl (by show 1 ≤ 400; omega) rfl (by kernel_rfl) (fun caps => ?_)
    show g5b _ _ r.op r.wu r.wd r.tj r.hj r.me r.wp r.tp r.hp l.length (caps 500) (vq l) _
    rw [g5b_text]
    exact .inl ⟨⟨con6⟩, bc_dec (fun _ => by omega) (fun _ => rfl)⟩
theorem contract (H : Type) (enc : TypeId × Value → H) (W : World) (base : Nat) (args : Array Value) (ds gs : List (DataW H)) (before : List MemPlace)
    (hval : ∀ (j : Nat) t v, Tryz.f5.params[j]? = some t → args[j]? = some v → Value.okWide Tryz.prog W .any base t v)
    (hW : DataW.Whole enc Tryz.prog Tryz.f5.params.toList Rows.campaignViolationsSpec.vars false W args.toList ds gs before) :
    Calls Tryz.prog 5 args W fun e W' => ∃ v, e = .returned v ∧ Rows.campaignViolationsSpec.post enc Tryz.prog Tryz.f5 false true false false W args v W' := by
  have hW' := hW
  obtain ⟨p, q, hA0, hV, rfl, hfz, hnd⟩ := hW
  have hA : DataW.TrodAll enc Tryz.prog W 0 (fun _ => true) true Tryz.f5.params.toList args.toList ds p := hA0
  rw [Tryz.params5] at hA hval
  obtain ⟨v0, vs0, d0, ds0, p0, q0, hargs, rfl, rfl, h0, r0⟩ := trodAll_cons hA
  obtain ⟨v1, vs1, d1, ds1, p1, q1, rfl, rfl, rfl, h1, r1⟩ := trodAll_cons r0
  obtain ⟨v2, vs2, d2, ds2, p2, q2, rfl, rfl, rfl, h2, r2⟩ := trodAll_cons r1
  obtain ⟨rfl, rfl, rfl⟩ := trodAll_nil r2
  obtain rfl : args = #[v0, v1, v2] := by cases args; simp_all
  obtain ⟨rfl, rfl⟩ := trodVars_none hV
  obtain ⟨r, hr0⟩ := rules_reads ⟨base, hval 0 42 v0 rfl rfl⟩ h0
  have ok1 := hval 1 43 v1 rfl rfl
  have ok2 := hval 2 44 v2 rfl rfl
  simp only [Value.okWide, Tryz.underlying43] at ok1
  simp only [Value.okWide, Tryz.underlying44] at ok2
  obtain ⟨fuel1, h1⟩ := h1
  obtain ⟨fuel2, h2⟩ := h2
  have e1 : v1.cells = #[v1] := by
    cases v1 with
    | agg cs => simp [Cell.okWide, Cell.ok, Tryz.underlying43] at ok1
    | _ => rfl
  have e2 : v2.cells = #[v2] := by
    cases v2 with
    | agg cs => simp [Cell.okWide, Cell.ok, Tryz.underlying44] at ok2
    | _ => rfl
  rw [e1] at h1
  rw [e2] at h2
  have hr1 : Reads W .nil v1 ∨ ∃ l, Reads W (dIts l) v1 := by
    rcases reads_quads Tryz.underlying43 Tryz.underlying90 Tryz.underlying3 Tryz.underlying3 Tryz.underlying3 Tryz.underlying3 c90 c3 c3 c3 c3 rfl rfl rfl rfl ok1 h1 with ⟨_, h⟩ | ⟨ps, h⟩
    · exact .inl h
    · obtain ⟨l, g1, g2⟩ := quads ps
      rw [← g1, ← g2] at h
      exact .inr ⟨l, h⟩
  have hr2 : Reads W .nil v2 ∨ ∃ l, Reads W (dInts l) v2 := by
    rcases reads_ints Tryz.underlying44 Tryz.underlying3 c3 ok2 h2 with ⟨_, h⟩ | ⟨ps, _, _, h⟩
    · exact .inl h
    · exact .inr ⟨ps, h⟩
  have hcon : ∃ x y, ReadsL W [dRu r, x, y] [v0, v1, v2] ∧ Con Tryz.prog 5 [dRu r, x, y] [dB true] := by
    rcases hr1 with h1 | ⟨l, h1⟩ <;> rcases hr2 with h2 | ⟨q, h2⟩
    · exact ⟨_, _, .cons hr0 (.cons h1 (.cons h2 .nil)), con5c r⟩
    · exact ⟨_, _, .cons hr0 (.cons h1 (.cons h2 .nil)), con5alla r q⟩
    · exact ⟨_, _, .cons hr0 (.cons h1 (.cons h2 .nil)), con5allb r l⟩
    · exact ⟨_, _, .cons hr0 (.cons h1 (.cons h2 .nil)), con5all r l q⟩
  obtain ⟨x, y, hr, hc⟩ := hcon
  exact law_frame (tb := 4) (s := Rows.campaignViolationsSpec) laidP mapsP slicesP (fun t ht => by
    rw [Tryz.params5] at ht
    have : t = 42 ∨ t = 43 ∨ t = 44 := by simpa using ht
    rcases this with rfl | rfl | rfl <;> decide +kernel) rfl Tryz.underlying4 rfl rfl rfl rfl hW' hr hc
def wArgs : Array Value := #[.agg #[.int .i64 0, .int .i64 0, .int .i64 0, .int .i64 0, .int .i64 0, .int .i64 0, .int .i64 0, .int .i64 0, .int .i64 0], .slice none 0 0, .slice none 0 0]
theorem laid_met (os : Os) : laidMet Tryz.prog Rows.campaignViolationsRow.laid ((laidWorld os).forCall (fun _ _ => 0) ⟨#[], wArgs, []⟩).memory :=
  laidMet_of_run' 8 (by kernel_rfl) (by kernel_rfl)
theorem reads (os : Os) {H : Type} (enc : TypeId × Value → H) : ∃ places, DataW.whole enc Tryz.prog ((laidWorld os).forCall (fun _ _ => 0) ⟨#[], wArgs, []⟩).memory Tryz.f5.params.toList Rows.campaignViolationsSpec.vars false wArgs.toList 8 =
    some ([.agg [.lit (.int .i64 0), .lit (.int .i64 0), .lit (.int .i64 0), .lit (.int .i64 0), .lit (.int .i64 0), .lit (.int .i64 0), .lit (.int .i64 0), .lit (.int .i64 0), .lit (.int .i64 0)], .nil, .nil], [], places) :=
  ⟨[], by kernel_rfl⟩
theorem lifted (os : Os) (started : os.Started) (H : Type) (enc : TypeId × Value → H) (F : Stop.Interp) :
    ReturnsInHanded {} Tryz.checked os 5 .any ((OpenSpec.ofChange Rows.campaignViolationsSpec).preRow enc Tryz.prog Tryz.f5 Rows.campaignViolationsRow.domain false Rows.campaignViolationsRow.laid) (((OpenSpec.ofChange Rows.campaignViolationsSpec).at F).post enc Tryz.prog Tryz.f5 false true false false) := by
  obtain ⟨places, hx⟩ := reads os enc
  refine returnsInHanded_of_row (C := Tryz.checked) (s := OpenSpec.ofChange Rows.campaignViolationsSpec) own started (by kernel_rfl) Tryz.func5
    (witness_row_at (enc := enc) (C := Tryz.checked) false (laidWorld os) wArgs rfl (by kernel_rfl) (by kernel_rfl) (by kernel_rfl)
      (OpenSpec.preRow_of_cond 8 hx (by kernel_rfl) (fun k hk => by cases hk) (by kernel_rfl) (laid_met os))) ?_
  intro W base args ds gs before hval hW _ _ _ _ _ _
  exact contract H enc W base args ds gs before hval hW
theorem said : Rows.CampaignViolationsSaid :=
  OpenClaim.holds_of_cond 5 Tryz.f5 rfl rfl rfl rfl rfl rfl rfl ⟨rfl, rfl, rfl, rfl, rfl⟩ rfl rfl rfl rfl rfl (by kernel_rfl) Tryz.func5 (by kernel_rfl)
    (of_decide_eq_true (by kernel_rfl)) (by unfold Func.isWrapper; first | (rw [if_pos (by decide +kernel)]; kernel_rfl) | (rw [if_neg (by decide +kernel)]; exact ⟨rfl, rfl⟩))
    (fun os started H enc _ F => by rw [OpenClaim.pre_eq_preRow]; exact lifted os started H enc F)
theorem plain (f : FuncId) (fn : Func) (hf : Tryz.pinned.checked.prog.funcNamed "cobble/cobblelaw01.CampaignViolations" = some f) (hfn : Tryz.pinned.checked.prog.funcs[f]? = some fn) :
    false = Tryz.pinned.checked.prog.looks [] ∧ ∀ (j : Nat) t, fn.params[j]? = some t → Tryz.pinned.checked.prog.wantsStandIn t = false := by
  obtain rfl : f = 5 := Option.some.inj ((show Tryz.prog.funcNamed "cobble/cobblelaw01.CampaignViolations" = some 5 by kernel_rfl).symm.trans hf) |>.symm
  obtain rfl : fn = Tryz.f5 := (Option.some.inj (Tryz.func5.symm.trans hfn)).symm
  refine ⟨by kernel_rfl, fun j t ht => ?_⟩
  rw [Tryz.params5] at ht
  have : t = 42 ∨ t = 43 ∨ t = 44 := by simpa using Array.mem_of_getElem? ht
  rcases this with rfl | rfl | rfl
  · exact (show Tryz.prog.wantsStandIn 42 = false by kernel_rfl)
  · exact (show Tryz.prog.wantsStandIn 43 = false by kernel_rfl)
  · exact (show Tryz.prog.wantsStandIn 44 = false by kernel_rfl)
end Viol
theorem campaignViolations_card : Rows.CampaignViolationsCardSaid :=
  Claim7.holds_tied_plain_at .later [] _ _ _ _ Viol.said (fun _ h => by cases h) (by kernel_rfl) (fun _ h => by cases h) campaignViolations_row_tie rfl ⟨rfl, rfl⟩ (by kernel_rfl) rfl Viol.plain (by kernel_rfl)
#print axioms campaignViolations_card
end Go.Proofs.YtnnbkhijgbmgaaaGreatDoor
