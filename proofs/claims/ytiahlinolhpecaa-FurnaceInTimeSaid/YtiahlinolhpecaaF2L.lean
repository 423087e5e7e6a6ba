/- FurnaceInTime: whatever the input, it returns true, and the input reads as it did. No condition. -/
import Derived.Test.YtiahlinolhpecaaRows
import Derived.Test.YtiahlinolhpecaaAbsRead
import Derived.Test.YtiahlinolhpecaaF2In
import Derived.Handed
import Derived.JoinedCond
namespace Go.Proofs.Ytiahlinolhpecaa
open Go Go.Abs Go.RowKit Go.ChangeShapes Go.WideShapes Go.ChangeAt Go.Proofs
set_option maxRecDepth 100000
theorem own : ownKnob Try.prog.godebug = none := by kernel_rfl
theorem laidP : laidOutB Try.prog = true := by kernel_rfl
theorem mapsP : mapsRowed Try.prog = true := by kernel_rfl
theorem slicesP : ∀ t e, t < Try.prog.types.size → Try.prog.underlying t = some (.slice e) → 0 < Try.prog.cellsOf e := slices_full_of Try.prog (by kernel_rfl)

theorem contract (H : Type) (enc : TypeId × Value → H) (W : World) (base : Nat) (args : Array Value) (ds gs : List (DataW H)) (before : List MemPlace)
    (hval : ∀ (j : Nat) t v, Try.f11.params[j]? = some t → args[j]? = some v → Value.okWide Try.prog W .any base t v)
    (hW : DataW.Whole enc Try.prog Try.f11.params.toList Rows.furnaceInTimeSpec.vars false W args.toList ds gs before) :
    Calls Try.prog 11 args W fun e W' => ∃ v, e = .returned v ∧ Rows.furnaceInTimeSpec.post enc Try.prog Try.f11 false true false false W args v W' := by
  have hW' := hW
  obtain ⟨p, q, hA0, hV, rfl, hfz, hnd⟩ := hW
  have hA : DataW.TrodAll enc Try.prog W 0 (fun _ => true) true Try.f11.params.toList args.toList ds p := hA0
  rw [Try.params11] at hA hval
  obtain ⟨v0, vs0, d0, ds0, p0, q0, hargs, rfl, rfl, h0, r0⟩ := trodAll_cons hA
  obtain ⟨v1, vs1, d1, ds1, p1, q1, rfl, rfl, rfl, h1, r1⟩ := trodAll_cons r0
  obtain ⟨v2, vs2, d2, ds2, p2, q2, rfl, rfl, rfl, h2, r2⟩ := trodAll_cons r1
  obtain ⟨rfl, rfl, rfl⟩ := trodAll_nil r2
  obtain rfl : args = #[v0, v1, v2] := by cases args; simp_all
  obtain ⟨rfl, rfl⟩ := trodVars_none hV
  obtain ⟨n1, rfl, rfl, rfl, w1⟩ := open_int Try.underlying3 (hval 1 3 v1 rfl rfl) h1
  obtain ⟨n2, rfl, rfl, rfl, w2⟩ := open_int Try.underlying3 (hval 2 3 v2 rfl rfl) h2
  have ok0 := hval 0 107 v0 rfl rfl
  simp only [Value.okWide, Try.underlying107] at ok0
  obtain ⟨cs, rfl, hsz, ts, hts, _, hok⟩ := ok0
  obtain ⟨fuel, h0⟩ := h0
  obtain ⟨y0, y1, n, he, hl, t0, t1⟩ := trod_struct2 Try.underlying107 h0
  obtain ⟨e1, e2⟩ := Prod.mk.inj he
  subst e1 e2
  have c107 : Try.prog.cellsOf 107 = 2 := by kernel_rfl
  have c41 : Try.prog.cellsOf 41 = 1 := by kernel_rfl
  have c3 : Try.prog.cellsOf 3 = 1 := by kernel_rfl
  have htt : Try.prog.cellTypes Try.prog.depth 107 = some [41, 3] := by kernel_rfl
  rw [htt] at hts
  obtain rfl : [41, 3] = ts := Option.some.inj hts
  obtain ⟨c0, c1, rfl⟩ : ∃ c0 c1, cs = #[c0, c1] := by
    rw [c107] at hsz
    match cs, hsz with
    | ⟨[c0, c1]⟩, _ => exact ⟨c0, c1, rfl⟩
  obtain ⟨u0, hu0, ok0⟩ := hok 0 c0 rfl
  obtain rfl : 41 = u0 := by simpa using hu0
  simp only [c41, c3, Value.cells] at t0 t1
  obtain ⟨k1, e1, _, _⟩ := DataW.trod_int Try.underlying3 t1
  obtain rfl : c1 = .int .i64 k1 := by simpa using e1
  have hcon : ∃ dp, ReadsL W [.agg [dp, .val (.int .i64 k1)], .val (.int .i64 n1), .val (.int .i64 n2)] [Value.agg #[c0, .int .i64 k1], Value.int IntKind.i64 n1, Value.int IntKind.i64 n2] ∧ Con Try.prog 11 [.agg [dp, .val (.int .i64 k1)], .val (.int .i64 n1), .val (.int .i64 n2)] [.val (.bool true)] := by
    rcases reads_ints Try.underlying41 Try.underlying3 c3 ok0 (x := y0) (by simpa using t0) with ⟨rfl, hr⟩ | ⟨ps, _, _, hr⟩
    · exact ⟨.nil, .cons (.agg _ [_, _] (.cons hr (.cons (.val _ rfl) .nil))) (.cons (.val _ rfl) (.cons (.val _ rfl) .nil)), con11nil k1 n1 n2⟩
    · exact ⟨_, .cons (.agg _ [_, _] (.cons hr (.cons (.val _ rfl) .nil))) (.cons (.val _ rfl) (.cons (.val _ rfl) .nil)), con11 ps k1 n1 n2⟩
  obtain ⟨dp, hr, hc⟩ := hcon
  exact law_frame (tb := 4) (s := Rows.furnaceInTimeSpec) laidP mapsP slicesP (fun t ht => by
    rw [Try.params11] at ht
    have : t = 107 ∨ t = 3 ∨ t = 3 := by simpa using ht
    rcases this with rfl | rfl | rfl <;> decide +kernel) rfl Try.underlying4 rfl rfl rfl rfl hW' hr hc

theorem lifted (os : Os) (started : os.Started) (H : Type) (enc : TypeId × Value → H) :
    ReturnsInHanded {} Try.checked os 11 .any (Rows.furnaceInTimeSpec.pre6 enc Try.prog Try.f11 Rows.furnaceInTimeRow.domain false) (Rows.furnaceInTimeSpec.post enc Try.prog Try.f11 false true false false) := by
  refine returnsInHanded_of_change (C := Try.checked) own started (by kernel_rfl) Try.func11
    (ChangeSpec.witness6 (enc := enc) (C := Try.checked) false ⟨#[], #[.agg #[.slice none 0 0, .int .i64 0], .int .i64 0, .int .i64 0], []⟩ 8 (by kernel_rfl) (by kernel_rfl) (by kernel_rfl) (by kernel_rfl)) ?_
  intro W base args ds gs before hval hW _ _
  exact contract H enc W base args ds gs before hval hW

theorem furnaceInTime_holds : Rows.FurnaceInTimeSaid :=
  OpenClaim.holds_of_wide 11 Try.f11 rfl rfl rfl rfl rfl rfl rfl ⟨rfl, rfl, rfl, rfl, rfl⟩ rfl rfl rfl rfl rfl (by kernel_rfl) Try.func11 (by kernel_rfl)
    (of_decide_eq_true (by kernel_rfl)) (by unfold Func.isWrapper; first | (rw [if_pos (by decide +kernel)]; kernel_rfl) | (rw [if_neg (by decide +kernel)]; exact ⟨rfl, rfl⟩))
    (fun os started H enc _ => lifted os started H enc)
#print axioms furnaceInTime_holds
end Go.Proofs.Ytiahlinolhpecaa
