/- FurnaceBeams: whatever the beam, the temperatures and the ticks, it returns true, and the input reads as it did. No condition. -/
import Derived.Test.YtiahlinolhpecaaRows
import Derived.Test.YtiahlinolhpecaaAbsRead
import Derived.Test.YtiahlinolhpecaaF2B4
import Derived.Lib.SmallJoins
import Derived.Handed
import Derived.JoinedCond
namespace Go.Proofs.Ytiahlinolhpecaa
open Go Go.Abs Go.RowKit Go.ChangeShapes Go.WideShapes Go.ChangeAt Go.Proofs Go.Proofs.B
set_option maxRecDepth 100000
theorem own : ownKnob Try.prog.godebug = none := by kernel_rfl
theorem laidP : laidOutB Try.prog = true := by kernel_rfl
theorem mapsP : mapsRowed Try.prog = true := by kernel_rfl
theorem slicesP : ∀ t e, t < Try.prog.types.size → Try.prog.underlying t = some (.slice e) → 0 < Try.prog.cellsOf e := slices_full_of Try.prog (by kernel_rfl)

theorem contract (H : Type) (enc : TypeId × Value → H) (W : World) (base : Nat) (args : Array Value) (ds gs : List (DataW H)) (before : List MemPlace)
    (hval : ∀ (j : Nat) t v, Try.f10.params[j]? = some t → args[j]? = some v → Value.okWide Try.prog W .any base t v)
    (hW : DataW.Whole enc Try.prog Try.f10.params.toList Rows.furnaceBeamsSpec.vars false W args.toList ds gs before) :
    Calls Try.prog 10 args W fun e W' => ∃ v, e = .returned v ∧ Rows.furnaceBeamsSpec.post enc Try.prog Try.f10 false true false false W args v W' := by
  have hW' := hW
  obtain ⟨p, q, hA0, hV, rfl, hfz, hnd⟩ := hW
  have hA : DataW.TrodAll enc Try.prog W 0 (fun _ => true) true Try.f10.params.toList args.toList ds p := hA0
  rw [Try.params10] at hA hval
  obtain ⟨v0, vs0, d0, ds0, p0, q0, hargs, rfl, rfl, h0, r0⟩ := trodAll_cons hA
  obtain ⟨v1, vs1, d1, ds1, p1, q1, rfl, rfl, rfl, h1, r1⟩ := trodAll_cons r0
  obtain ⟨rfl, rfl, rfl⟩ := trodAll_nil r1
  obtain rfl : args = #[v0, v1] := by cases args; simp_all
  obtain ⟨rfl, rfl⟩ := trodVars_none hV
  have ok0 := hval 0 107 v0 rfl rfl
  simp only [Value.okWide, Try.underlying107] at ok0
  obtain ⟨cs, rfl, hsz, ts, hts, _, hok⟩ := ok0
  obtain ⟨fuel, h0⟩ := h0
  obtain ⟨y0, y1, n, he, hl, t0, t1⟩ := trod_struct2 Try.underlying107 h0
  obtain ⟨e1, e2⟩ := Prod.mk.inj he
  subst e1 e2
  have c107 : Try.prog.cellsOf 107 = 2 := by kernel_rfl
  have c41 : Try.prog.cellsOf 41 = 1 := by kernel_rfl
  have c3 : Try.prog.cellsOf 3 = 1 := by kernel_rfl
  have htt : Try.prog.cellTypes Try.prog.depth 107 = some [41, 3] := by kernel_rfl
  rw [htt] at hts
  obtain rfl : [41, 3] = ts := Option.some.inj hts
  obtain ⟨c0, c1, rfl⟩ : ∃ c0 c1, cs = #[c0, c1] := by
    rw [c107] at hsz
    match cs, hsz with
    | ⟨[c0, c1]⟩, _ => exact ⟨c0, c1, rfl⟩
  obtain ⟨u0, hu0, ok0⟩ := hok 0 c0 rfl
  obtain rfl : 41 = u0 := by simpa using hu0
  simp only [c41, c3, Value.cells] at t0 t1
  obtain ⟨k1, e1, _, _⟩ := DataW.trod_int Try.underlying3 t1
  obtain rfl : c1 = .int .i64 k1 := by simpa using e1
  -- the ticks
  have ok1 := hval 1 109 v1 rfl rfl
  simp only [Value.okWide, Try.underlying109] at ok1
  obtain ⟨es, rfl, hsz1, ts1, hts1, _, hok1⟩ := ok1
  obtain ⟨fuel1, h1⟩ := h1
  obtain ⟨x0, x1, x2, x3, n1, he1, hl1, u0, u1, u2, u3⟩ := Go.Joins.trod_struct4 Try.underlying109 h1
  have c109 : Try.prog.cellsOf 109 = 4 := by kernel_rfl
  have htt1 : Try.prog.cellTypes Try.prog.depth 109 = some [41, 3, 3, 3] := by kernel_rfl
  rw [htt1] at hts1
  obtain rfl : [41, 3, 3, 3] = ts1 := Option.some.inj hts1
  obtain ⟨e0, e1, e2, e3, rfl⟩ : ∃ e0 e1 e2 e3, es = #[e0, e1, e2, e3] := by
    rw [c109] at hsz1
    match es, hsz1 with
    | ⟨[e0, e1, e2, e3]⟩, _ => exact ⟨e0, e1, e2, e3, rfl⟩
  obtain ⟨w0, hw0, ok1⟩ := hok1 0 e0 rfl
  obtain rfl : 41 = w0 := by simpa using hw0
  simp only [c41, c3, Value.cells] at u0 u1 u2 u3
  obtain ⟨m1, g1, _, _⟩ := DataW.trod_int Try.underlying3 u1
  obtain ⟨m2, g2, _, _⟩ := DataW.trod_int Try.underlying3 u2
  obtain ⟨m3, g3, _, _⟩ := DataW.trod_int Try.underlying3 u3
  obtain rfl : e1 = .int .i64 m1 := by simpa using g1
  obtain rfl : e2 = .int .i64 m2 := by simpa using g2
  obtain rfl : e3 = .int .i64 m3 := by simpa using g3
  have tail : ∀ {dq : D}, Reads W dq e0 → ReadsL W [.agg [dq, .val (.int .i64 m1), .val (.int .i64 m2), .val (.int .i64 m3)]] [Value.agg #[e0, .int .i64 m1, .int .i64 m2, .int .i64 m3]] := fun hr => .cons (.agg _ [_, _, _, _] (.cons hr (.cons (.val _ rfl) (.cons (.val _ rfl) (.cons (.val _ rfl) .nil))))) .nil
  have head : ∀ {dp : D}, Reads W dp c0 → Reads W (.agg [dp, .val (.int .i64 k1)]) (Value.agg #[c0, .int .i64 k1]) := fun hr => .agg _ [_, _] (.cons hr (.cons (.val _ rfl) .nil))
  have hcon : ∃ ds, ReadsL W ds [Value.agg #[c0, .int .i64 k1], Value.agg #[e0, .int .i64 m1, .int .i64 m2, .int .i64 m3]] ∧ Con Try.prog 10 ds [.val (.bool true)] := by
    rcases reads_ints Try.underlying41 Try.underlying3 c3 ok0 (x := y0) (by simpa using t0) with ⟨rfl, hr⟩ | ⟨ps, _, _, hr⟩
    · rcases reads_ints Try.underlying41 Try.underlying3 c3 ok1 (x := x0) (by simpa using u0) with ⟨rfl, hs⟩ | ⟨ss, _, _, hs⟩
      · exact ⟨_, .cons (head hr) (tail hs), con10c k1 m1 m2 m3⟩
      · exact ⟨_, .cons (head hr) (tail hs), con10a ss k1 m1 m2 m3⟩
    · rcases reads_ints Try.underlying41 Try.underlying3 c3 ok1 (x := x0) (by simpa using u0) with ⟨rfl, hs⟩ | ⟨ss, _, _, hs⟩
      · exact ⟨_, .cons (head hr) (tail hs), con10b ps k1 m1 m2 m3⟩
      · exact ⟨_, .cons (head hr) (tail hs), con10 ps ss k1 m1 m2 m3⟩
  obtain ⟨ds, hr, hc⟩ := hcon
  exact law_frame (tb := 4) (s := Rows.furnaceBeamsSpec) laidP mapsP slicesP (fun t ht => by
    rw [Try.params10] at ht
    have : t = 107 ∨ t = 109 := by simpa using ht
    rcases this with rfl | rfl <;> decide +kernel) rfl Try.underlying4 rfl rfl rfl rfl hW' hr hc

theorem lifted (os : Os) (started : os.Started) (H : Type) (enc : TypeId × Value → H) :
    ReturnsInHanded {} Try.checked os 10 .any (Rows.furnaceBeamsSpec.pre6 enc Try.prog Try.f10 Rows.furnaceBeamsRow.domain false) (Rows.furnaceBeamsSpec.post enc Try.prog Try.f10 false true false false) := by
  refine returnsInHanded_of_change (C := Try.checked) own started (by kernel_rfl) Try.func10
    (ChangeSpec.witness6 (enc := enc) (C := Try.checked) false ⟨#[], #[.agg #[.slice none 0 0, .int .i64 0], .agg #[.slice none 0 0, .int .i64 0, .int .i64 0, .int .i64 0]], []⟩ 8 (by kernel_rfl) (by kernel_rfl) (by kernel_rfl) (by kernel_rfl)) ?_
  intro W base args ds gs before hval hW _ _
  exact contract H enc W base args ds gs before hval hW

theorem furnaceBeams_holds : Rows.FurnaceBeamsSaid :=
  OpenClaim.holds_of_wide 10 Try.f10 rfl rfl rfl rfl rfl rfl rfl ⟨rfl, rfl, rfl, rfl, rfl⟩ rfl rfl rfl rfl rfl (by kernel_rfl) Try.func10 (by kernel_rfl)
    (of_decide_eq_true (by kernel_rfl)) (by unfold Func.isWrapper; first | (rw [if_pos (by decide +kernel)]; kernel_rfl) | (rw [if_neg (by decide +kernel)]; exact ⟨rfl, rfl⟩))
    (fun os started H enc _ => lifted os started H enc)
#print axioms furnaceBeams_holds
end Go.Proofs.Ytiahlinolhpecaa
