/- Texts of the proof, put together: M4L, M4K, AbsOpen. -/
import Derived.Test.YthfdbeeanhfboaaP5
import Derived.Test.YthfdbeeanhfboaaM4Awake
import Derived.Test.YthfdbeeanhfboaaP3
import Derived.Test.YthfdbeeanhfboaaRows
import Derived.Handed
import Derived.JoinedCond
import Derived.Laws.IdiomArrays
/- ModelTables in data. -/
namespace Go.Proofs.M4
open Go Go.Abs Go.Proofs
theorem bcase_tt {x y : Prop} : bcase true x y = x := rfl
set_option maxRecDepth 100000
theorem con3 (ps : List (Int × Int)) (hl : ps.length < 1000000000) (x y z : Int) : C4 3 [dTab ps, dI x, .agg [dI y, dI z]] [.val (.bool true)] := by
  refine con_flat hok mixed Try.func3 rfl (by show 1 ≤ 400; omega) rfl (by kernel_rfl) (fun caps => ?_)
  show g3 _ _ ps.length (caps 500) (vp ps) x y z _
  rw [g3_text]
  refine .inl ⟨⟨con9⟩, ?_⟩
  simp only [vp_whole, vp_length]
  have hle : 0 + ps.length * 2 ≤ ps.length * 2 := by omega
  have c11 : Says C4 11 [dTab ps] [dTab ps] := ⟨con11 ps hl⟩
  have c10 := con10 ps hl
  have c14 := con14 ps hl
  have c12 := con12 hl x
  have c13 := con13 hl y z
  obtain ⟨t, e, ht⟩ : ∃ t e, tab ps = (t, e) := ⟨_, _, rfl⟩
  have hv : e = 0 → VT ps := fun h => tab_ok (by rw [ht]; exact h)
  simp only [tabD, ht] at c10 c14 c12 c13
  simp only [bc_t hle, true_and, and_true]
  refine bc_dec (fun hn => trivial) (fun hn => ?_)
  by_cases he : e = 0
  · subst he
    have hvt := hv rfl
    simp only [true_and, if_true] at c12 c13
    by_cases hx : 0 ≤ x ∧ x ≤ 20000
    · have hx1 := hx.1
      have hx2 := hx.2
      rw [if_pos (xErr0.2 hx)] at c12
      by_cases hr : rErr y z = 0
      · rw [if_pos hr] at c13
        have hyz : (0 ≤ y ∧ y ≤ 20000) ∧ (0 ≤ z ∧ z ≤ 20000) ∧ ¬ y > z := by
          unfold rErr at hr
          split at hr
          · rename_i h
            rw [xErr0, xErr0] at h
            split at hr
            · omega
            · exact ⟨h.1, h.2, by omega⟩
          · omega
        obtain ⟨⟨y0, y1⟩, ⟨z0, z1⟩, hyz⟩ := hyz
        refine ⟨c11, t, 0, ⟨c10⟩, c11, _, _, ⟨c12⟩, c11, _, _, _, ⟨c13⟩, t, 0, ⟨c14⟩, bc_false (by simp) (bc_false (by simp) (bc_false (by simp) (bc_yes hx.1 (bc_yes hx.2 (bc_false (by simp) ⟨_, ⟨con16 hvt x hx⟩, bc_false (by simp) (bc_yes y0 (bc_yes y1 (bc_yes z0 (bc_yes z1 (bc_no hyz ?_)))))⟩)))))⟩
        refine bc_true (by simp) ?_
        refine ⟨bc_true (by simp) trivial, mnOver y z ps, mxOver y z ps, ⟨con17 hvt ⟨y0, y1⟩ ⟨z0, z1⟩ (by omega)⟩, bc_true (by simp) ?_⟩
        simp [bcase_tt]
      · rw [if_neg hr] at c13
        refine ⟨c11, t, 0, ⟨c10⟩, c11, _, _, ⟨c12⟩, c11, _, _, _, ⟨c13⟩, t, 0, ⟨c14⟩, bc_false (by simp) (bc_false (by simp) (bc_false (by simp) (bc_yes hx.1 (bc_yes hx.2 (bc_false (by simp) ⟨_, ⟨con16 hvt x hx⟩, bc_false (by simp) ?_⟩)))))⟩
        by_cases hy : 0 ≤ y ∧ y ≤ 20000
        · by_cases hz : 0 ≤ z ∧ z ≤ 20000
          · have hgt : y > z := by
              by_cases h : y > z
              · exact h
              · exact absurd (by unfold rErr; rw [if_pos ⟨xErr0.2 hy, xErr0.2 hz⟩, if_neg h]) hr
            rw [show rErr y z = 9 by unfold rErr; rw [if_pos ⟨xErr0.2 hy, xErr0.2 hz⟩, if_pos hgt]]
            exact bc_yes hy.1 (bc_yes hy.2 (bc_yes hz.1 (bc_yes hz.2 (bc_yes hgt (bc_true (by simp) (bc_true (by simp) trivial))))))
          · rw [show rErr y z = 2 by unfold rErr; rw [if_neg (fun h => hz (xErr0.1 h.2))]]
            refine bc_yes hy.1 (bc_yes hy.2 (bc_dec (fun h1 => bc_dec (fun h2 => absurd ⟨h1, h2⟩ hz) (fun _ => ?_)) (fun _ => ?_)))
            all_goals exact bc_true (by simp) (bc_true (by simp) trivial)
        · rw [show rErr y z = 2 by unfold rErr; rw [if_neg (fun h => hy (xErr0.1 h.1))]]
          refine bc_dec (fun h1 => bc_dec (fun h2 => absurd ⟨h1, h2⟩ hy) (fun _ => ?_)) (fun _ => ?_)
          all_goals exact bc_true (by simp) (bc_true (by simp) trivial)
    · have hq : xErr x = 2 := if_neg hx
      rw [hq, if_neg (by omega)] at c12
      have tail : ∀ {Q : Prop}, Q → (0 ≤ x ∧ x ≤ 20000 → False) → Q := fun q _ => q
      clear tail
      by_cases hr : rErr y z = 0
      · rw [if_pos hr] at c13
        have hyz : (0 ≤ y ∧ y ≤ 20000) ∧ (0 ≤ z ∧ z ≤ 20000) ∧ ¬ y > z := by
          unfold rErr at hr
          split at hr
          · rename_i h
            rw [xErr0, xErr0] at h
            split at hr
            · omega
            · exact ⟨h.1, h.2, by omega⟩
          · omega
        obtain ⟨⟨y0, y1⟩, ⟨z0, z1⟩, hyz⟩ := hyz
        refine ⟨c11, t, 0, ⟨c10⟩, c11, _, _, ⟨c12⟩, c11, _, _, _, ⟨c13⟩, t, 0, ⟨c14⟩, bc_false (by simp) (bc_false (by simp) (bc_false (by simp) (bc_dec (fun h1 => bc_dec (fun h2 => absurd ⟨h1, h2⟩ hx) (fun _ => ?_)) (fun _ => ?_))))⟩
        all_goals
          refine bc_false (by simp [fst0]) (bc_false (by simp) (bc_yes y0 (bc_yes y1 (bc_yes z0 (bc_yes z1 (bc_no hyz ?_))))))
          refine bc_true (by simp) ?_
          refine ⟨bc_true (by simp) trivial, mnOver y z ps, mxOver y z ps, ⟨con17 hvt ⟨y0, y1⟩ ⟨z0, z1⟩ (by omega)⟩, bc_true (by simp) ?_⟩
          simp [bcase_tt]
      · rw [if_neg hr] at c13
        refine ⟨c11, t, 0, ⟨c10⟩, c11, _, _, ⟨c12⟩, c11, _, _, _, ⟨c13⟩, t, 0, ⟨c14⟩, bc_false (by simp) (bc_false (by simp) (bc_false (by simp) (bc_dec (fun h1 => bc_dec (fun h2 => absurd ⟨h1, h2⟩ hx) (fun _ => ?_)) (fun _ => ?_))))⟩
        all_goals
          refine bc_false (by simp [fst0]) (bc_false (by simp) ?_)
          by_cases hy : 0 ≤ y ∧ y ≤ 20000
          · by_cases hz : 0 ≤ z ∧ z ≤ 20000
            · have hgt : y > z := by
                by_cases h : y > z
                · exact h
                · exact absurd (by unfold rErr; rw [if_pos ⟨xErr0.2 hy, xErr0.2 hz⟩, if_neg h]) hr
              rw [show rErr y z = 9 by unfold rErr; rw [if_pos ⟨xErr0.2 hy, xErr0.2 hz⟩, if_pos hgt]]
              exact bc_yes hy.1 (bc_yes hy.2 (bc_yes hz.1 (bc_yes hz.2 (bc_yes hgt (bc_true (by simp) (bc_true (by simp) trivial))))))
            · rw [show rErr y z = 2 by unfold rErr; rw [if_neg (fun h => hz (xErr0.1 h.2))]]
              refine bc_yes hy.1 (bc_yes hy.2 (bc_dec (fun h1 => bc_dec (fun h2 => absurd ⟨h1, h2⟩ hz) (fun _ => ?_)) (fun _ => ?_)))
              all_goals exact bc_true (by simp) (bc_true (by simp) trivial)
          · rw [show rErr y z = 2 by unfold rErr; rw [if_neg (fun h => hy (xErr0.1 h.1))]]
            refine bc_dec (fun h1 => bc_dec (fun h2 => absurd ⟨h1, h2⟩ hy) (fun _ => ?_)) (fun _ => ?_)
            all_goals exact bc_true (by simp) (bc_true (by simp) trivial)
  · have hq : fst0 [e, xErr x] = e := by rw [fst0_two, if_neg he]
    rw [if_neg (fun h => he h.1), hq] at c12
    rw [if_neg (fun h => he h.1), if_neg he] at c13
    exact ⟨c11, t, e, ⟨c10⟩, c11, 0, e, ⟨c12⟩, c11, 0, 0, e, ⟨c13⟩, t, e, ⟨c14⟩, bc_false (by simp) (bc_false (by simp) (bc_true (by simpa using he) (bc_true (by simp) (bc_true (by simp) (bc_true (by simp) (bc_true (by simp) trivial))))))⟩
/-- more knots than a check looks at -/
theorem con3long (ps : List (Int × Int)) (hl : 1000000000 ≤ ps.length) (x y z : Int) : C4 3 [dTab ps, dI x, .agg [dI y, dI z]] [.val (.bool true)] := by
  refine con_flat hok mixed Try.func3 rfl (by show 1 ≤ 400; omega) rfl (by kernel_rfl) (fun caps => ?_)
  show g3 _ _ ps.length (caps 500) (vp ps) x y z _
  rw [g3_text]
  exact .inl ⟨⟨con9⟩, bc_yes (by omega) rfl⟩
theorem con3n (x y z : Int) : C4 3 [.nil, dI x, .agg [dI y, dI z]] [.val (.bool true)] := by
  refine con_flat hok mixed Try.func3 rfl (by show 0 ≤ 400; omega) rfl (by kernel_rfl) (fun caps => ?_)
  show g3n _ _ x y z _
  rw [g3n_text]
  refine .inl ⟨⟨con9⟩, ?_⟩
  simp only [true_and, and_true]
  have c11 : Says C4 11 [.nil] [dTab []] := ⟨con11n⟩
  have c10 : C4 10 [dTab []] [dI 0, dI 10] := con10 [] (by simp)
  have c12 : C4 12 [dTab [], dI x] [dI 0, dI 10] := con12 (ps := []) (by simp) x
  have c13 : C4 13 [dTab [], .agg [dI y, dI z]] [.agg [dI 0, dI 0], dI 10] := con13 (ps := []) (by simp) y z
  exact ⟨c11, 0, 10, ⟨c10⟩, c11, 0, 10, ⟨c12⟩, c11, 0, 0, 10, ⟨c13⟩, 0, 10, ⟨con14n⟩, bc_false (by simp) (bc_false (by simp) (bc_true (by simp) (bc_true (by simp) (bc_true (by simp) (bc_true (by simp) (bc_true (by simp) trivial))))))⟩
#print axioms con3
end Go.Proofs.M4

/- ModelTables: whatever the input, it returns true, and the input reads as it did. No condition. -/
namespace Go.Proofs.Ythfdbeeanhfboaa.Tab
open Go Go.Abs Go.RowKit Go.ChangeShapes Go.WideShapes Go.ChangeAt Go.Proofs Go.Proofs.M4
set_option maxRecDepth 100000
theorem own : ownKnob Try.prog.godebug = none := by kernel_rfl
theorem laidP : laidOutB Try.prog = true := by kernel_rfl
theorem mapsP : mapsRowed Try.prog = true := by kernel_rfl
theorem slicesP : ∀ t e, t < Try.prog.types.size → Try.prog.underlying t = some (.slice e) → 0 < Try.prog.cellsOf e := slices_full_of Try.prog (by kernel_rfl)
theorem vp_flat : ∀ l : List (Int × Int), (l.flatMap fun p => [Value.int .i64 p.1, Value.int .i64 p.2]) = vp l
  | [] => rfl
  | p :: r => by rw [List.flatMap_cons, vp_flat r]; rfl
theorem contract (H : Type) (enc : TypeId × Value → H) (W : World) (base : Nat) (args : Array Value) (ds gs : List (DataW H)) (before : List MemPlace)
    (hval : ∀ (j : Nat) t v, Try.f3.params[j]? = some t → args[j]? = some v → Value.okWide Try.prog W .any base t v)
    (hW : DataW.Whole enc Try.prog Try.f3.params.toList Rows.modelTablesSpec.vars false W args.toList ds gs before) :
    Calls Try.prog 3 args W fun e W' => ∃ v, e = .returned v ∧ Rows.modelTablesSpec.post enc Try.prog Try.f3 false true false false W args v W' := by
  have hW' := hW
  obtain ⟨p, q, hA0, hV, rfl, hfz, hnd⟩ := hW
  have hA : DataW.TrodAll enc Try.prog W 0 (fun _ => true) true Try.f3.params.toList args.toList ds p := hA0
  rw [Try.params3] at hA hval
  obtain ⟨v0, vs0, d0, ds0, p0, q0, hargs, rfl, rfl, h0, r0⟩ := trodAll_cons hA
  obtain ⟨v1, vs1, d1, ds1, p1, q1, rfl, rfl, rfl, h1, r1⟩ := trodAll_cons r0
  obtain ⟨v2, vs2, d2, ds2, p2, q2, rfl, rfl, rfl, h2, r2⟩ := trodAll_cons r1
  obtain ⟨rfl, rfl, rfl⟩ := trodAll_nil r2
  obtain rfl : args = #[v0, v1, v2] := by cases args; simp_all
  obtain ⟨rfl, rfl⟩ := trodVars_none hV
  obtain ⟨n1, rfl, rfl, rfl, w1⟩ := open_int Try.underlying3 (hval 1 3 v1 rfl rfl) h1
  have ok0 := hval 0 22 v0 rfl rfl
  simp only [Value.okWide, Try.underlying22] at ok0
  obtain ⟨fuel, h0⟩ := h0
  have hc0 : v0.cells.toList = [v0] := by
    cases v0 <;> first | rfl | (simp [Cell.okWide, Cell.ok, Try.underlying22] at ok0; done)
  rw [hc0] at h0
  have c3 : Try.prog.cellsOf 3 = 1 := by kernel_rfl
  have c105 : Try.prog.cellsOf 105 = 2 := by kernel_rfl
  have c24 : Try.prog.cellsOf 24 = 2 := by kernel_rfl
  have ok2 := hval 2 24 v2 rfl rfl
  simp only [Value.okWide, Try.underlying24] at ok2
  obtain ⟨es, rfl, hsz1, ts1, hts1, _, hok1⟩ := ok2
  obtain ⟨fuel1, h2⟩ := h2
  obtain ⟨x0, x1, m, he1, hl1, u0, u1⟩ := trod_struct2 Try.underlying24 h2
  obtain ⟨e0, e1, rfl⟩ : ∃ e0 e1, es = #[e0, e1] := by
    rw [c24] at hsz1
    match es, hsz1 with
    | ⟨[e0, e1]⟩, _ => exact ⟨e0, e1, rfl⟩
  simp only [c3, Value.cells] at u0 u1
  obtain ⟨m0, g0, _, _⟩ := DataW.trod_int Try.underlying3 u0
  obtain ⟨m1, g1, _, _⟩ := DataW.trod_int Try.underlying3 u1
  obtain rfl : e0 = .int .i64 m0 := by simpa using g0
  obtain rfl : e1 = .int .i64 m1 := by simpa using g1
  have tail : ReadsL W [.val (.int .i64 n1), .agg [.val (.int .i64 m0), .val (.int .i64 m1)]] [Value.int .i64 n1, Value.agg #[.int .i64 m0, .int .i64 m1]] := .cons (.val _ rfl) (.cons (.agg _ [_, _] (.cons (.val _ rfl) (.cons (.val _ rfl) .nil))) .nil)
  have hcon : ∃ dp, ReadsL W (dp :: [.val (.int .i64 n1), .agg [.val (.int .i64 m0), .val (.int .i64 m1)]]) [v0, Value.int IntKind.i64 n1, Value.agg #[.int .i64 m0, .int .i64 m1]] ∧ Con Try.prog 3 (dp :: [.val (.int .i64 n1), .agg [.val (.int .i64 m0), .val (.int .i64 m1)]]) [.val (.bool true)] := by
    rcases reads_pairs Try.underlying22 Try.underlying105 Try.underlying3 Try.underlying3 c105 c3 c3 rfl rfl ok0 h0 with ⟨rfl, hr⟩ | ⟨ps, hl, hr⟩
    · exact ⟨.nil, .cons hr tail, con3n n1 m0 m1⟩
    · rw [vp_flat] at hr
      by_cases hsm : ps.length < 1000000000
      · exact ⟨_, .cons hr tail, con3 ps hsm n1 m0 m1⟩
      · exact ⟨_, .cons hr tail, con3long ps (by omega) n1 m0 m1⟩
  obtain ⟨dp, hr, hc⟩ := hcon
  exact law_frame (tb := 4) (s := Rows.modelTablesSpec) laidP mapsP slicesP (fun t ht => by
    rw [Try.params3] at ht
    have : t = 22 ∨ t = 3 ∨ t = 24 := by simpa using ht
    rcases this with rfl | rfl | rfl <;> decide +kernel) rfl Try.underlying4 rfl rfl rfl rfl hW' hr hc

theorem lifted (os : Os) (started : os.Started) (H : Type) (enc : TypeId × Value → H) :
    ReturnsInHanded {} Try.checked os 3 .any (Rows.modelTablesSpec.pre6 enc Try.prog Try.f3 Rows.modelTablesRow.domain false) (Rows.modelTablesSpec.post enc Try.prog Try.f3 false true false false) := by
  refine returnsInHanded_of_change (C := Try.checked) own started (by kernel_rfl) Try.func3
    (ChangeSpec.witness6 (enc := enc) (C := Try.checked) false ⟨#[], #[.slice none 0 0, .int .i64 0, .agg #[.int .i64 0, .int .i64 0]], []⟩ 8 (by kernel_rfl) (by kernel_rfl) (by kernel_rfl) (by kernel_rfl)) ?_
  intro W base args ds gs before hval hW _ _
  exact contract H enc W base args ds gs before hval hW

theorem modelTables_holds : Rows.ModelTablesSaid :=
  OpenClaim.holds_of_wide 3 Try.f3 rfl rfl rfl rfl rfl rfl rfl ⟨rfl, rfl, rfl, rfl, rfl⟩ rfl rfl rfl rfl rfl (by kernel_rfl) Try.func3 (by kernel_rfl)
    (of_decide_eq_true (by kernel_rfl)) (by unfold Func.isWrapper; first | (rw [if_pos (by decide +kernel)]; kernel_rfl) | (rw [if_neg (by decide +kernel)]; exact ⟨rfl, rfl⟩))
    (fun os started H enc _ => lifted os started H enc)
#print axioms modelTables_holds
end Go.Proofs.Ythfdbeeanhfboaa.Tab

/- Arguments that are structs of whole numbers, opened. -/
namespace Go.Abs
open Go.RowKit Go.ChangeShapes Go.WideShapes Go.ChangeAt
variable {H : Type} {enc : TypeId × Value → H} {P : Program} {W : World} {base0 : Nat} {sp : Nat → Bool} {held : Bool}
theorem wf64 {n : Int} (h : (Lit.int .i64 n).wf = true) : -9223372036854775808 ≤ n ∧ n ≤ 9223372036854775807 := by
  simp only [Lit.wf, Bool.and_eq_true, decide_eq_true_eq] at h
  have h1 : IntKind.i64.min = -9223372036854775808 := by decide
  have h2 : IntKind.i64.max = 9223372036854775807 := by decide
  omega
/-- two whole numbers in one struct -/
theorem cells_pair {t : TypeId} {f0 f1 : Field} {k : IntKind} {fuel : Nat} {cs : List Value} {x : DataW H × List MemPlace} (ht : P.underlying t = some (.struct #[f0, f1])) (hk0 : P.underlying f0.type = some (.int k)) (hk1 : P.underlying f1.type = some (.int k))
    (hc : P.cellsOf t = 2) (hc0 : P.cellsOf f0.type = 1) (hc1 : P.cellsOf f1.type = 1) (ho0 : f0.offset = 0) (ho1 : f1.offset = 1) (h : DataW.trod enc P W base0 sp held fuel t cs = some x) :
    ∃ a b : Int, cs = [.int k a, .int k b] ∧ (Lit.int k a).wf = true ∧ (Lit.int k b).wf = true := by
  obtain ⟨y0, y1, n, _, hl, t0, t1⟩ := trod_struct2 ht h
  rw [hc] at hl
  rw [ho0, hc0] at t0
  rw [ho1, hc1] at t1
  obtain ⟨a, e0, _, w0⟩ := DataW.trod_int hk0 t0
  obtain ⟨b, e1, _, w1⟩ := DataW.trod_int hk1 t1
  match cs, hl with
  | [c0, c1], _ =>
    obtain rfl : c0 = .int k a := by simpa using e0
    obtain rfl : c1 = .int k b := by simpa using e1
    exact ⟨a, b, rfl, w0, w1⟩
end Go.Abs
