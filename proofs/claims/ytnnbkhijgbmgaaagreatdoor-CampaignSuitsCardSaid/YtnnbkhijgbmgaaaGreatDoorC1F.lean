/- Chapter 1: how a slab and an order are handed; a world with the listed tables. -/
import Derived.Test.YtnnbkhijgbmgaaaGreatDoorCards
import Derived.Test.YtnnbkhijgbmgaaaGreatDoorTie
import Derived.Test.YtnnbkhijgbmgaaaGreatDoorAbsLaw
import Derived.Test.YtnnbkhijgbmgaaaGreatDoorFlat
import Derived.Test.YtnnbkhijgbmgaaaGreatDoorC1L
import Derived.Deep.DeepHandedRow
import Derived.Lib.LaidTab
import Derived.WalkKit
import Derived.Handed
namespace Go.Proofs.YtnnbkhijgbmgaaaGreatDoor
open Go Go.Abs Go.RowKit Go.ChangeShapes Go.WideShapes Go.ChangeAt Go.Proofs Go.Proofs.C1 Go.Flat
set_option maxRecDepth 100000
theorem own : ownKnob Tryz.prog.godebug = none := by kernel_rfl
theorem laidP : laidOutB Tryz.prog = true := by kernel_rfl
theorem mapsP : mapsRowed Tryz.prog = true := by kernel_rfl
theorem slicesP : ∀ t e, t < Tryz.prog.types.size → Tryz.prog.underlying t = some (.slice e) → 0 < Tryz.prog.cellsOf e := slices_full_of Tryz.prog (by kernel_rfl)

/-- The cells of data without addresses. -/
def cellsD : Nat → DataW Unit → List Value
  | 0, _ => []
  | n + 1, .agg ps => ps.flatMap (cellsD n)
  | _ + 1, .lit (.int k z) => [.int k z]
  | _ + 1, .lit (.bool b) => [.bool b]
  | _, _ => []
/-- A world in which the listed tables hold what is listed. -/
def layAt (h : Array Obj) (i : Nat) (d : DataW Unit) : Array Obj := h.modify i fun
  | .cells _ t frozen => .cells (cellsD 8 d).toArray t frozen
  | o => o
noncomputable def laidHeap (h : Array Obj) : Array Obj :=
  layAt (layAt (layAt (layAt (layAt h 4 Rows.laid_math_bits_deBruijn32tab) 5 Rows.laid_math_bits_deBruijn64tab) 3 Rows.laid_internal_strconv_uint64pow10) 2 Rows.laid_unicode_utf8_acceptRanges) 1 Rows.laid_unicode_utf8_first
noncomputable def laidWorld (os : Os) : World := { World.holding Tryz.prog os ⟨#[], #[], []⟩ with heap := laidHeap (World.holding Tryz.prog os ⟨#[], #[], []⟩).heap }

/-- A slab, an order, as they are handed. -/
theorem slab_reads {H : Type} {enc : TypeId × Value → H} {W : World} {v : Value} {d : DataW H} {p : List MemPlace} (hval : ∃ base, Value.okWide Tryz.prog W .any base 23 v)
    (h : DataW.Trod enc Tryz.prog W 0 (fun _ => true) true 23 v d p) : ∃ s g t w l, ReadsL W [dSlab s g t w l] [v] := by
  obtain ⟨base, ok0⟩ := hval
  simp only [Value.okWide, Tryz.underlying23] at ok0
  obtain ⟨cs, rfl, hsz, _⟩ := ok0
  obtain ⟨fuel, h⟩ := h
  have hl : leaves Tryz.prog 4 23 = some [.str, .int .i64, .int .i64, .int .i64, .int .i64] := by kernel_rfl
  have ho := trod_oks 4 23 hl fuel _ h
  have c23 : Tryz.prog.cellsOf 23 = 5 := by kernel_rfl
  rw [c23] at hsz
  match cs, hsz with
  | ⟨[c0, c1, c2, c3, c4]⟩, _ =>
    cases ho with | cons a0 ho =>
    cases ho with | cons a1 ho =>
    cases ho with | cons a2 ho =>
    cases ho with | cons a3 ho =>
    cases ho with | cons a4 ho =>
    obtain ⟨s, rfl, _⟩ := a0
    obtain ⟨n1, rfl, _⟩ := a1
    obtain ⟨n2, rfl, _⟩ := a2
    obtain ⟨n3, rfl, _⟩ := a3
    obtain ⟨n4, rfl, _⟩ := a4
    exact ⟨s, n1, n2, n3, n4, .cons (.agg _ [_, _, _, _, _] (.cons (.val _ rfl) (.cons (.val _ rfl) (.cons (.val _ rfl) (.cons (.val _ rfl) (.cons (.val _ rfl) .nil)))))) .nil⟩
theorem order_reads {H : Type} {enc : TypeId × Value → H} {W : World} {v : Value} {d : DataW H} {p : List MemPlace} (hval : ∃ base, Value.okWide Tryz.prog W .any base 27 v)
    (h : DataW.Trod enc Tryz.prog W 0 (fun _ => true) true 27 v d p) : ∃ s g t tol w lo hi due, ReadsL W [dOrder s g t tol w lo hi due] [v] := by
  obtain ⟨base, ok0⟩ := hval
  simp only [Value.okWide, Tryz.underlying27] at ok0
  obtain ⟨cs, rfl, hsz, _⟩ := ok0
  obtain ⟨fuel, h⟩ := h
  have hl : leaves Tryz.prog 4 27 = some [.str, .int .i64, .int .i64, .int .i64, .int .i64, .int .i64, .int .i64, .int .i64] := by kernel_rfl
  have ho := trod_oks 4 27 hl fuel _ h
  have c27 : Tryz.prog.cellsOf 27 = 8 := by kernel_rfl
  rw [c27] at hsz
  match cs, hsz with
  | ⟨[c0, c1, c2, c3, c4, c5, c6, c7]⟩, _ =>
    cases ho with | cons a0 ho =>
    cases ho with | cons a1 ho =>
    cases ho with | cons a2 ho =>
    cases ho with | cons a3 ho =>
    cases ho with | cons a4 ho =>
    cases ho with | cons a5 ho =>
    cases ho with | cons a6 ho =>
    cases ho with | cons a7 ho =>
    obtain ⟨s, rfl, _⟩ := a0
    obtain ⟨n1, rfl, _⟩ := a1
    obtain ⟨n2, rfl, _⟩ := a2
    obtain ⟨n3, rfl, _⟩ := a3
    obtain ⟨n4, rfl, _⟩ := a4
    obtain ⟨n5, rfl, _⟩ := a5
    obtain ⟨n6, rfl, _⟩ := a6
    obtain ⟨n7, rfl, _⟩ := a7
    exact ⟨s, n1, n2, n3, n4, n5, n6, n7, .cons (.agg _ [_, _, _, _, _, _, _, _] (.cons (.val _ rfl) (.cons (.val _ rfl) (.cons (.val _ rfl) (.cons (.val _ rfl) (.cons (.val _ rfl) (.cons (.val _ rfl) (.cons (.val _ rfl) (.cons (.val _ rfl) .nil))))))))) .nil⟩
end Go.Proofs.YtnnbkhijgbmgaaaGreatDoor
