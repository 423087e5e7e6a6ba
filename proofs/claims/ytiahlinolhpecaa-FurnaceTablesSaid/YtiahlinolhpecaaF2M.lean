/- FurnaceTables: whatever the input, it returns true, and the input reads as it did. No condition. -/
import Derived.Test.YtiahlinolhpecaaRows
import Derived.Test.YtiahlinolhpecaaAbsRead2
import Derived.Test.YtiahlinolhpecaaF2Ta
import Derived.Handed
import Derived.JoinedCond
namespace Go.Proofs.Ytiahlinolhpecaa.Tab
open Go Go.Abs Go.RowKit Go.ChangeShapes Go.WideShapes Go.ChangeAt Go.Proofs
set_option maxRecDepth 100000
theorem own : ownKnob Try.prog.godebug = none := by kernel_rfl
theorem laidP : laidOutB Try.prog = true := by kernel_rfl
theorem mapsP : mapsRowed Try.prog = true := by kernel_rfl
theorem slicesP : ∀ t e, t < Try.prog.types.size → Try.prog.underlying t = some (.slice e) → 0 < Try.prog.cellsOf e := slices_full_of Try.prog (by kernel_rfl)

theorem vp_flat : ∀ l : List (Int × Int), (l.flatMap fun p => [Value.int .i64 p.1, Value.int .i64 p.2]) = vp l
  | [] => rfl
  | p :: r => by rw [List.flatMap_cons, vp_flat r]; rfl
/-- more points than a check looks at -/
theorem con3long (ps : List (Int × Int)) (hl : 1000000000 ≤ ps.length) (tm : Int) : Con Try.prog 3 [dTab ps, dI tm] [.val (.bool true)] := by
  refine con_flat hokTS mixed Try.func3 rfl (by show 1 ≤ 500; omega) rfl (by kernel_rfl) (fun caps => ?_)
  show g3 _ _ ps.length (caps 500) (vp ps) tm _
  rw [g3_text]
  exact .inl ⟨⟨con14⟩, bc_no (by omega) rfl⟩
theorem contract (H : Type) (enc : TypeId × Value → H) (W : World) (base : Nat) (args : Array Value) (ds gs : List (DataW H)) (before : List MemPlace)
    (hval : ∀ (j : Nat) t v, Try.f3.params[j]? = some t → args[j]? = some v → Value.okWide Try.prog W .any base t v)
    (hW : DataW.Whole enc Try.prog Try.f3.params.toList Rows.furnaceTablesSpec.vars false W args.toList ds gs before) :
    Calls Try.prog 3 args W fun e W' => ∃ v, e = .returned v ∧ Rows.furnaceTablesSpec.post enc Try.prog Try.f3 false true false false W args v W' := by
  have hW' := hW
  obtain ⟨p, q, hA0, hV, rfl, hfz, hnd⟩ := hW
  have hA : DataW.TrodAll enc Try.prog W 0 (fun _ => true) true Try.f3.params.toList args.toList ds p := hA0
  rw [Try.params3] at hA hval
  obtain ⟨v0, vs0, d0, ds0, p0, q0, hargs, rfl, rfl, h0, r0⟩ := trodAll_cons hA
  obtain ⟨v1, vs1, d1, ds1, p1, q1, rfl, rfl, rfl, h1, r1⟩ := trodAll_cons r0
  obtain ⟨rfl, rfl, rfl⟩ := trodAll_nil r1
  obtain rfl : args = #[v0, v1] := by cases args; simp_all
  obtain ⟨rfl, rfl⟩ := trodVars_none hV
  obtain ⟨n1, rfl, rfl, rfl, w1⟩ := open_int Try.underlying3 (hval 1 3 v1 rfl rfl) h1
  have ok0 := hval 0 24 v0 rfl rfl
  simp only [Value.okWide, Try.underlying24] at ok0
  obtain ⟨cs, rfl, hsz, ts, hts, _, hok⟩ := ok0
  obtain ⟨fuel, h0⟩ := h0
  have c24 : Try.prog.cellsOf 24 = 1 := by kernel_rfl
  have c22 : Try.prog.cellsOf 22 = 1 := by kernel_rfl
  have c3 : Try.prog.cellsOf 3 = 1 := by kernel_rfl
  have c154 : Try.prog.cellsOf 154 = 2 := by kernel_rfl
  have htt : Try.prog.cellTypes Try.prog.depth 24 = some [22] := by kernel_rfl
  obtain ⟨xs, n, _, he, hl, hlen, hf⟩ := DataW.trod_struct Try.underlying24 h0
  obtain ⟨y0, rfl⟩ : ∃ y0, xs = [y0] := by
    match xs, hlen with
    | [y0], _ => exact ⟨y0, rfl⟩
  have t0 := hf 0 _ rfl
  rw [htt] at hts
  obtain rfl : [22] = ts := Option.some.inj hts
  obtain ⟨c0, rfl⟩ : ∃ c0, cs = #[c0] := by
    rw [c24] at hsz
    match cs, hsz with
    | ⟨[c0]⟩, _ => exact ⟨c0, rfl⟩
  obtain ⟨u0, hu0, ok0⟩ := hok 0 c0 rfl
  obtain rfl : 22 = u0 := by simpa using hu0
  simp only [Value.cells] at t0
  have hcon : ∃ dp, ReadsL W [.agg [dp], .val (.int .i64 n1)] [Value.agg #[c0], Value.int IntKind.i64 n1] ∧ Con Try.prog 3 [.agg [dp], .val (.int .i64 n1)] [.val (.bool true)] := by
    rcases reads_pairs Try.underlying22 Try.underlying154 Try.underlying3 Try.underlying3 c154 c3 c3 rfl rfl ok0 (x := y0) (by simpa [c22] using t0) with ⟨rfl, hr⟩ | ⟨ps, hl, hr⟩
    · exact ⟨.nil, .cons (.agg _ [_] (.cons hr .nil)) (.cons (.val _ rfl) .nil), con3n n1⟩
    · rw [vp_flat] at hr
      by_cases hsm : ps.length < 1000000000
      · exact ⟨_, .cons (.agg _ [_] (.cons hr .nil)) (.cons (.val _ rfl) .nil), con3 ps hsm n1⟩
      · exact ⟨_, .cons (.agg _ [_] (.cons hr .nil)) (.cons (.val _ rfl) .nil), con3long ps (by omega) n1⟩
  obtain ⟨dp, hr, hc⟩ := hcon
  exact law_frame (tb := 4) (s := Rows.furnaceTablesSpec) laidP mapsP slicesP (fun t ht => by
    rw [Try.params3] at ht
    have : t = 24 ∨ t = 3 := by simpa using ht
    rcases this with rfl | rfl <;> decide +kernel) rfl Try.underlying4 rfl rfl rfl rfl hW' hr hc

theorem lifted (os : Os) (started : os.Started) (H : Type) (enc : TypeId × Value → H) :
    ReturnsInHanded {} Try.checked os 3 .any (Rows.furnaceTablesSpec.pre6 enc Try.prog Try.f3 Rows.furnaceTablesRow.domain false) (Rows.furnaceTablesSpec.post enc Try.prog Try.f3 false true false false) := by
  refine returnsInHanded_of_change (C := Try.checked) own started (by kernel_rfl) Try.func3
    (ChangeSpec.witness6 (enc := enc) (C := Try.checked) false ⟨#[], #[.agg #[.slice none 0 0], .int .i64 0], []⟩ 8 (by kernel_rfl) (by kernel_rfl) (by kernel_rfl) (by kernel_rfl)) ?_
  intro W base args ds gs before hval hW _ _
  exact contract H enc W base args ds gs before hval hW

theorem furnaceTables_holds : Rows.FurnaceTablesSaid :=
  OpenClaim.holds_of_wide 3 Try.f3 rfl rfl rfl rfl rfl rfl rfl ⟨rfl, rfl, rfl, rfl, rfl⟩ rfl rfl rfl rfl rfl (by kernel_rfl) Try.func3 (by kernel_rfl)
    (of_decide_eq_true (by kernel_rfl)) (by unfold Func.isWrapper; first | (rw [if_pos (by decide +kernel)]; kernel_rfl) | (rw [if_neg (by decide +kernel)]; exact ⟨rfl, rfl⟩))
    (fun os started H enc _ => lifted os started H enc)
#print axioms furnaceTables_holds
end Go.Proofs.Ytiahlinolhpecaa.Tab
