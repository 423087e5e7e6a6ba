/- Texts of the proof, put together: GjTK2, GjEG3, GjEG4, GjEG5, AbsRngD, AbsRng. -/
import Derived.Test.YtipfpmiljmlekaaP5
import Derived.Test.YtipfpmiljmlekaaP3
import Derived.Test.YtipfpmiljmlekaaP4
/- What is left to show of each function, written out; the kernel reckons it. -/
namespace Go.Proofs.G5j
open Go Go.Abs Go.Proofs
set_option maxRecDepth 100000
set_option linter.unusedVariables false
def preL (C : Ct) : FuncId → Option Handler := fun g => if g == 15 then some (fixH C copyRou) else if g == 19 then some (fixH C copyGoa) else if [18, 20, 47, 22, 23].contains g then some (saidH Try.prog C) else preZ C g
abbrev hL (C : Ct) : Handler := handlerX Try.prog (preL C) 12 6
def grg (C : Ct) (L : AtLoop) (n0 : Nat) (c0 : Nat) (l0 : List Value) (x1 : Int) (x2 : Int) (x3 : Int) (n4 : Nat) (c4 : Nat) (l4 : List Value) (x5 : Int) (n6 : Nat) (c6 : Nat) (l6 : List Value) (x7 : Int) (x8 : Int) (x9 : Int) (n10 : Nat) (c10 : Nat) (l10 : List Value) (x11 : Int) (k : List D → Prop) : Prop := wpFn Try.prog (hZ C) L 0 44 #[.agg #[.slice (some ⟨500, 0, none⟩) n0 c0, .int .i64 x1, .int .i64 x2, .int .i64 x3, .slice (some ⟨501, 0, none⟩) n4 c4, .int .i64 x5, .slice (some ⟨502, 0, none⟩) n6 c6, .int .i64 x7, .int .i64 x8, .int .i64 x9, .slice (some ⟨503, 0, none⟩) n10 c10, .int .i64 x11]] (heapOf [(500, .sym l0 false 2), (501, .sym l4 false 1), (502, .sym l6 false 2), (503, .sym l10 false 1)]) (dataK k)
theorem grg_text (C : Ct) (L : AtLoop) (n0 : Nat) (c0 : Nat) (l0 : List Go.Value) (x1 : Int) (x2 : Int) (x3 : Int) (n4 : Nat) (c4 : Nat) (l4 : List Go.Value) (x5 : Int) (n6 : Nat) (c6 : Nat) (l6 : List Go.Value) (x7 : Int) (x8 : Int) (x9 : Int) (n10 : Nat) (c10 : Nat) (l10 : List Go.Value) (x11 : Int) (k : List D → Prop) : grg C L n0 c0 l0 x1 x2 x3 n4 c4 l4 x5 n6 c6 l6 x7 x8 x9 n10 c10 l10 x11 k =
 (L 0 [(Prod.mk 1 (Pt 1000 0)), (Prod.mk 3 (Value.slice none 0 0)), (Prod.mk 9 (Sl 501 (n4) (c4))), (Prod.mk 10 (vI ((↑n4 : Int)))), (Prod.mk 11 (vI 0))] [(Prod.mk 1000 (AObj.cells [(Sl 500 (n0) (c0)), (vI x1), (vI x2), (vI x3), (Sl 501 (n4) (c4)), (vI x5), (Sl 502 (n6) (c6)), (vI x7), (vI x8), (vI x9), (Sl 503 (n10) (c10)), (vI x11)] 90 false 1)), (Prod.mk 501 (AObj.sym (l4) false 1)), (Prod.mk 500 (AObj.sym (l0) false 2)), (Prod.mk 502 (AObj.sym (l6) false 2)), (Prod.mk 503 (AObj.sym (l10) false 1))]) := by kernel_rfl
abbrev zrg1 (n0 : Nat) (c1 : Nat) (x2 : Int) (x3 : Int) (n4 : Nat) (c5 : Nat) (x6 : Int) (x7 : Int) (x8 : Int) (n9 : Nat) (c10 : Nat) (x11 : Int) (n12 : Nat) (c13 : Nat) (x14 : Int) (x15 : Int) (x16 : Int) (n17 : Nat) (c18 : Nat) (x19 : Int) (l20 : List Value) (l21 : List Value) (l22 : List Value) (l23 : List Value) : Slots × Blocks := ([(1, (Value.pointer (some ⟨1000, 0, none⟩))), (3, (Value.slice none 0 0)), (9, (Value.slice (some ⟨501, 0, none⟩) n0 c1)), (10, (Value.int .i64 x2)), (11, (Value.int .i64 x3))], [(1000, (AObj.cells [(Value.slice (some ⟨500, 0, none⟩) n4 c5), (Value.int .i64 x6), (Value.int .i64 x7), (Value.int .i64 x8), (Value.slice (some ⟨501, 0, none⟩) n9 c10), (Value.int .i64 x11), (Value.slice (some ⟨502, 0, none⟩) n12 c13), (Value.int .i64 x14), (Value.int .i64 x15), (Value.int .i64 x16), (Value.slice (some ⟨503, 0, none⟩) n17 c18), (Value.int .i64 x19)] 90 false 1)), (501, (AObj.sym l20 false 1)), (500, (AObj.sym l21 false 2)), (502, (AObj.sym l22 false 2)), (503, (AObj.sym l23 false 1))])
def rrg1 (C : Ct) (L : AtLoop) (n0 : Nat) (c1 : Nat) (x2 : Int) (x3 : Int) (n4 : Nat) (c5 : Nat) (x6 : Int) (x7 : Int) (x8 : Int) (n9 : Nat) (c10 : Nat) (x11 : Int) (n12 : Nat) (c13 : Nat) (x14 : Int) (x15 : Int) (x16 : Int) (n17 : Nat) (c18 : Nat) (x19 : Int) (l20 : List Value) (l21 : List Value) (l22 : List Value) (l23 : List Value) (B : Bx) (X : Xx) (k : List D → Prop) : Prop := wpRound Try.prog (hZ C) L 44 0 [(1, (Value.pointer (some ⟨1000, 0, none⟩))), (3, (Value.slice none 0 0)), (9, (Value.slice (some ⟨501, 0, none⟩) n0 c1)), (10, (Value.int .i64 x2)), (11, (Value.int .i64 x3))] [(1000, (AObj.cells [(Value.slice (some ⟨500, 0, none⟩) n4 c5), (Value.int .i64 x6), (Value.int .i64 x7), (Value.int .i64 x8), (Value.slice (some ⟨501, 0, none⟩) n9 c10), (Value.int .i64 x11), (Value.slice (some ⟨502, 0, none⟩) n12 c13), (Value.int .i64 x14), (Value.int .i64 x15), (Value.int .i64 x16), (Value.slice (some ⟨503, 0, none⟩) n17 c18), (Value.int .i64 x19)] 90 false 1)), (501, (AObj.sym l20 false 1)), (500, (AObj.sym l21 false 2)), (502, (AObj.sym l22 false 2)), (503, (AObj.sym l23 false 1))] B X (dataK k)
theorem rrg1_text (C : Ct) (L : AtLoop) (n0 : Nat) (c1 : Nat) (x2 : Int) (x3 : Int) (n4 : Nat) (c5 : Nat) (x6 : Int) (x7 : Int) (x8 : Int) (n9 : Nat) (c10 : Nat) (x11 : Int) (n12 : Nat) (c13 : Nat) (x14 : Int) (x15 : Int) (x16 : Int) (n17 : Nat) (c18 : Nat) (x19 : Int) (l20 : List Go.Value) (l21 : List Go.Value) (l22 : List Go.Value) (l23 : List Go.Value) (B : Bx) (X : Xx) (k : List D → Prop) : rrg1 C L n0 c1 x2 x3 n4 c5 x6 x7 x8 n9 c10 x11 n12 c13 x14 x15 x16 n17 c18 x19 l20 l21 l22 l23 B X k =
 (bcase (decide (x3 < x2))
 (bcase (decide (0 ≤ x3))
 (bcase (decide (x3 < (↑n0 : Int)))
 (∃ n1 : Int,
 ((At (l20) (0 + Int.toNat x3 * 1) 1 [(vI n1)]) ∧
 (bcase (decide (0 ≤ x3))
 (bcase (decide (x3 < (↑n17 : Int)))
 (∃ n2 : Int,
 ((At (l23) (0 + Int.toNat x3 * 1) 1 [(vI n2)]) ∧
 (B [(Prod.mk 1 (Pt 1000 0)), (Prod.mk 3 (Sl 1001 1 1)), (Prod.mk 9 (Sl 501 (n0) (c1))), (Prod.mk 10 (vI x2)), (Prod.mk 11 (vI (IntKind.wrap .i64 (x3 + 1))))] [(Prod.mk 1000 (AObj.cells [(Sl 500 (n4) (c5)), (vI x6), (vI x7), (vI x8), (Sl 501 (n9) (c10)), (vI x11), (Sl 502 (n12) (c13)), (vI x14), (vI x15), (vI x16), (Sl 503 (n17) (c18)), (vI x19)] 90 false 1)), (Prod.mk 1001 (AObj.sym [(vI n1), (vI n2)] true 2)), (Prod.mk 501 (AObj.sym (l20) false 1)), (Prod.mk 500 (AObj.sym (l21) false 2)), (Prod.mk 502 (AObj.sym (l22) false 2)), (Prod.mk 503 (AObj.sym (l23) false 1))])))
 False)
 False)))
 False)
 False)
 (X 0 [(Prod.mk 3 (Value.slice none 0 0))] [])) := by kernel_rfl
abbrev zrg2 (n0 : Nat) (n1 : Nat) (c2 : Nat) (x3 : Int) (x4 : Int) (n5 : Nat) (c6 : Nat) (x7 : Int) (x8 : Int) (x9 : Int) (n10 : Nat) (c11 : Nat) (x12 : Int) (n13 : Nat) (c14 : Nat) (x15 : Int) (x16 : Int) (x17 : Int) (n18 : Nat) (c19 : Nat) (x20 : Int) (l21 : List Value) (l22 : List Value) (l23 : List Value) (l24 : List Value) (l25 : List Value) : Slots × Blocks := ([(1, (Value.pointer (some ⟨1000, 0, none⟩))), (3, (Value.slice (some ⟨1001, 0, none⟩) n0 n0)), (9, (Value.slice (some ⟨501, 0, none⟩) n1 c2)), (10, (Value.int .i64 x3)), (11, (Value.int .i64 x4))], [(1000, (AObj.cells [(Value.slice (some ⟨500, 0, none⟩) n5 c6), (Value.int .i64 x7), (Value.int .i64 x8), (Value.int .i64 x9), (Value.slice (some ⟨501, 0, none⟩) n10 c11), (Value.int .i64 x12), (Value.slice (some ⟨502, 0, none⟩) n13 c14), (Value.int .i64 x15), (Value.int .i64 x16), (Value.int .i64 x17), (Value.slice (some ⟨503, 0, none⟩) n18 c19), (Value.int .i64 x20)] 90 false 1)), (1001, (AObj.sym l21 true 2)), (501, (AObj.sym l22 false 1)), (500, (AObj.sym l23 false 2)), (502, (AObj.sym l24 false 2)), (503, (AObj.sym l25 false 1))])
def rrg2 (C : Ct) (L : AtLoop) (n0 : Nat) (n1 : Nat) (c2 : Nat) (x3 : Int) (x4 : Int) (n5 : Nat) (c6 : Nat) (x7 : Int) (x8 : Int) (x9 : Int) (n10 : Nat) (c11 : Nat) (x12 : Int) (n13 : Nat) (c14 : Nat) (x15 : Int) (x16 : Int) (x17 : Int) (n18 : Nat) (c19 : Nat) (x20 : Int) (l21 : List Value) (l22 : List Value) (l23 : List Value) (l24 : List Value) (l25 : List Value) (B : Bx) (X : Xx) (k : List D → Prop) : Prop := wpRound Try.prog (hZ C) L 44 0 [(1, (Value.pointer (some ⟨1000, 0, none⟩))), (3, (Value.slice (some ⟨1001, 0, none⟩) n0 n0)), (9, (Value.slice (some ⟨501, 0, none⟩) n1 c2)), (10, (Value.int .i64 x3)), (11, (Value.int .i64 x4))] [(1000, (AObj.cells [(Value.slice (some ⟨500, 0, none⟩) n5 c6), (Value.int .i64 x7), (Value.int .i64 x8), (Value.int .i64 x9), (Value.slice (some ⟨501, 0, none⟩) n10 c11), (Value.int .i64 x12), (Value.slice (some ⟨502, 0, none⟩) n13 c14), (Value.int .i64 x15), (Value.int .i64 x16), (Value.int .i64 x17), (Value.slice (some ⟨503, 0, none⟩) n18 c19), (Value.int .i64 x20)] 90 false 1)), (1001, (AObj.sym l21 true 2)), (501, (AObj.sym l22 false 1)), (500, (AObj.sym l23 false 2)), (502, (AObj.sym l24 false 2)), (503, (AObj.sym l25 false 1))] B X (dataK k)
theorem rrg2_text (C : Ct) (L : AtLoop) (n0 : Nat) (n1 : Nat) (c2 : Nat) (x3 : Int) (x4 : Int) (n5 : Nat) (c6 : Nat) (x7 : Int) (x8 : Int) (x9 : Int) (n10 : Nat) (c11 : Nat) (x12 : Int) (n13 : Nat) (c14 : Nat) (x15 : Int) (x16 : Int) (x17 : Int) (n18 : Nat) (c19 : Nat) (x20 : Int) (l21 : List Go.Value) (l22 : List Go.Value) (l23 : List Go.Value) (l24 : List Go.Value) (l25 : List Go.Value) (B : Bx) (X : Xx) (k : List D → Prop) : rrg2 C L n0 n1 c2 x3 x4 n5 c6 x7 x8 x9 n10 c11 x12 n13 c14 x15 x16 x17 n18 c19 x20 l21 l22 l23 l24 l25 B X k =
 (bcase (decide (x4 < x3))
 (bcase (decide (0 ≤ x4))
 (bcase (decide (x4 < (↑n1 : Int)))
 (∃ n2 : Int,
 ((At (l22) (0 + Int.toNat x4 * 1) 1 [(vI n2)]) ∧
 (bcase (decide (0 ≤ x4))
 (bcase (decide (x4 < (↑n18 : Int)))
 (∃ n3 : Int,
 ((At (l25) (0 + Int.toNat x4 * 1) 1 [(vI n3)]) ∧
 (bcase (decide (n0 < n0 + 1))
 (bcase (decide ((2 * (n0 + 1) + 768) * 16 ≤ 281474976710656))
 (bcase (decide (n0 + 1 ≤ 1099511627776))
 (bcase (decide (0 + n0 * 2 ≤ List.length l21))
 (bcase (decide (0 + n0 * 2 = List.length l21))
 (B [(Prod.mk 1 (Pt 1000 0)), (Prod.mk 3 (Sl 1001 (n0 + 1) (n0 + 1))), (Prod.mk 9 (Sl 501 (n1) (c2))), (Prod.mk 10 (vI x3)), (Prod.mk 11 (vI (IntKind.wrap .i64 (x4 + 1))))] [(Prod.mk 1000 (AObj.cells [(Sl 500 (n5) (c6)), (vI x7), (vI x8), (vI x9), (Sl 501 (n10) (c11)), (vI x12), (Sl 502 (n13) (c14)), (vI x15), (vI x16), (vI x17), (Sl 503 (n18) (c19)), (vI x20)] 90 false 1)), (Prod.mk 1001 (AObj.sym ((List.take (n0 * 2) (List.drop 0 l21)) ++ [(vI n2), (vI n3)]) true 2)), (Prod.mk 501 (AObj.sym (l22) false 1)), (Prod.mk 500 (AObj.sym (l23) false 2)), (Prod.mk 502 (AObj.sym (l24) false 2)), (Prod.mk 503 (AObj.sym (l25) false 1))])
 False)
 False)
 False)
 False)
 False)))
 False)
 False)))
 False)
 False)
 (X 0 [(Prod.mk 3 (Sl 1000 (n0) (n0)))] [(Prod.mk 1000 (AObj.sym (l21) true 2))])) := by kernel_rfl
def nrg4 (C : Ct) (L : AtLoop) (n0 : Nat) (l1 : List Value) (k : List D → Prop) : Prop := wpNext Try.prog (hZ C) L 44 0 .normal [(3, (Value.slice (some ⟨1000, 0, none⟩) n0 n0))] [(1000, (AObj.sym l1 true 2))] (dataK k)
theorem nrg4_text (C : Ct) (L : AtLoop) (n0 : Nat) (l1 : List Go.Value) (k : List D → Prop) : nrg4 C L n0 l1 k =
 (((Qv (n0)) ∧
 ((List.length l1) = (n0 * 2))) ∧
 (k [(D.sl (n0) 2 (l1))])) := by kernel_rfl
def gan (C : Ct) (L : AtLoop) (n0 : Nat) (c0 : Nat) (l0 : List Value) (x1 : Int) (x2 : Int) (x3 : Int) (n4 : Nat) (c4 : Nat) (l4 : List Value) (x5 : Int) (n6 : Nat) (c6 : Nat) (l6 : List Value) (x7 : Int) (x8 : Int) (x9 : Int) (n10 : Nat) (c10 : Nat) (l10 : List Value) (x11 : Int) (x12 : Int) (x13 : Int) (k : List D → Prop) : Prop := wpFn Try.prog (hZ C) L 0 63 #[.agg #[.slice (some ⟨500, 0, none⟩) n0 c0, .int .i64 x1, .int .i64 x2, .int .i64 x3, .slice (some ⟨501, 0, none⟩) n4 c4, .int .i64 x5, .slice (some ⟨502, 0, none⟩) n6 c6, .int .i64 x7, .int .i64 x8, .int .i64 x9, .slice (some ⟨503, 0, none⟩) n10 c10, .int .i64 x11], .agg #[.int .i64 x12, .int .i64 x13]] (heapOf [(500, .sym l0 false 2), (501, .sym l4 false 1), (502, .sym l6 false 2), (503, .sym l10 false 1)]) (dataK k)
theorem gan_text (C : Ct) (L : AtLoop) (n0 : Nat) (c0 : Nat) (l0 : List Go.Value) (x1 : Int) (x2 : Int) (x3 : Int) (n4 : Nat) (c4 : Nat) (l4 : List Go.Value) (x5 : Int) (n6 : Nat) (c6 : Nat) (l6 : List Go.Value) (x7 : Int) (x8 : Int) (x9 : Int) (n10 : Nat) (c10 : Nat) (l10 : List Go.Value) (x11 : Int) (x12 : Int) (x13 : Int) (k : List D → Prop) : gan C L n0 c0 l0 x1 x2 x3 n4 c4 l4 x5 n6 c6 l6 x7 x8 x9 n10 c10 l10 x11 x12 x13 k =
 (bcase (decide (0 + n0 * 2 ≤ List.length l0))
 (bcase (decide (0 + n4 * 1 ≤ List.length l4))
 (bcase (decide (0 + n6 * 2 ≤ List.length l6))
 (bcase (decide (0 + n10 * 1 ≤ List.length l10))
 (((Says C 44 [(D.agg [(D.sl (n0) 2 (List.take (n0 * 2) (List.drop 0 l0))), (D.val (vI x1)), (D.val (vI x2)), (D.val (vI x3)), (D.sl (n4) 1 (List.take (n4 * 1) (List.drop 0 l4))), (D.val (vI x5)), (D.sl (n6) 2 (List.take (n6 * 2) (List.drop 0 l6))), (D.val (vI x7)), (D.val (vI x8)), (D.val (vI x9)), (D.sl (n10) 1 (List.take (n10 * 1) (List.drop 0 l10))), (D.val (vI x11))])] [D.nil]) ∧
 (L 0 [(Prod.mk 3 (Pt 1000 0)), (Prod.mk 5 (vI 2)), (Prod.mk 9 (Value.slice none 0 0)), (Prod.mk 10 (vI 0)), (Prod.mk 11 (vI 0))] [(Prod.mk 1000 (AObj.cells [(vI x12), (vI x13)] 26 false 1))])) ∨
 (∃ n1 : Nat,
 (∃ cs1 : List Go.Value,
 ((Says C 44 [(D.agg [(D.sl (n0) 2 (List.take (n0 * 2) (List.drop 0 l0))), (D.val (vI x1)), (D.val (vI x2)), (D.val (vI x3)), (D.sl (n4) 1 (List.take (n4 * 1) (List.drop 0 l4))), (D.val (vI x5)), (D.sl (n6) 2 (List.take (n6 * 2) (List.drop 0 l6))), (D.val (vI x7)), (D.val (vI x8)), (D.val (vI x9)), (D.sl (n10) 1 (List.take (n10 * 1) (List.drop 0 l10))), (D.val (vI x11))])] [(D.sl (n1) 2 (cs1))]) ∧
 (L 0 [(Prod.mk 3 (Pt 1000 0)), (Prod.mk 5 (vI 2)), (Prod.mk 9 (Sl 1001 (n1) (n1))), (Prod.mk 10 (vI ((↑n1 : Int)))), (Prod.mk 11 (vI 0))] [(Prod.mk 1000 (AObj.cells [(vI x12), (vI x13)] 26 false 1)), (Prod.mk 1001 (AObj.sym (cs1) true 2))])))))
 False)
 False)
 False)
 False) := by kernel_rfl
abbrev zan2 (x0 : Int) (n1 : Nat) (x2 : Int) (x3 : Int) (x4 : Int) (x5 : Int) (l6 : List Value) : Slots × Blocks := ([(3, (Value.pointer (some ⟨1000, 0, none⟩))), (5, (Value.int .i64 x0)), (9, (Value.slice (some ⟨1001, 0, none⟩) n1 n1)), (10, (Value.int .i64 x2)), (11, (Value.int .i64 x3))], [(1000, (AObj.cells [(Value.int .i64 x4), (Value.int .i64 x5)] 26 false 1)), (1001, (AObj.sym l6 true 2))])
def ran2 (C : Ct) (L : AtLoop) (x0 : Int) (n1 : Nat) (x2 : Int) (x3 : Int) (x4 : Int) (x5 : Int) (l6 : List Value) (B : Bx) (X : Xx) (k : List D → Prop) : Prop := wpRound Try.prog (hZ C) L 63 0 [(3, (Value.pointer (some ⟨1000, 0, none⟩))), (5, (Value.int .i64 x0)), (9, (Value.slice (some ⟨1001, 0, none⟩) n1 n1)), (10, (Value.int .i64 x2)), (11, (Value.int .i64 x3))] [(1000, (AObj.cells [(Value.int .i64 x4), (Value.int .i64 x5)] 26 false 1)), (1001, (AObj.sym l6 true 2))] B X (dataK k)
theorem ran2_text (C : Ct) (L : AtLoop) (x0 : Int) (n1 : Nat) (x2 : Int) (x3 : Int) (x4 : Int) (x5 : Int) (l6 : List Go.Value) (B : Bx) (X : Xx) (k : List D → Prop) : ran2 C L x0 n1 x2 x3 x4 x5 l6 B X k =
 (bcase (decide (x3 < x2))
 (bcase (decide (0 ≤ x3))
 (bcase (decide (x3 < (↑n1 : Int)))
 (∃ n2 : Int,
 (∃ n3 : Int,
 ((At (l6) (0 + Int.toNat x3 * 2) 2 [(vI n2), (vI n3)]) ∧
 (bcase (decide (n3 < x4))
 (k [(D.val (vI 0))])
 (bcase (decide (n2 > x5))
 (k [(D.val (vI 0))])
 (bcase (decide (n2 < x4))
 (B [(Prod.mk 3 (Pt 1000 0)), (Prod.mk 5 (vI 1)), (Prod.mk 9 (Sl 1001 (n1) (n1))), (Prod.mk 10 (vI x2)), (Prod.mk 11 (vI (IntKind.wrap .i64 (x3 + 1))))] [(Prod.mk 1000 (AObj.cells [(vI x4), (vI x5)] 26 false 1)), (Prod.mk 1001 (AObj.sym (l6) true 2))])
 (bcase (decide (n3 > x5))
 (B [(Prod.mk 3 (Pt 1000 0)), (Prod.mk 5 (vI 1)), (Prod.mk 9 (Sl 1001 (n1) (n1))), (Prod.mk 10 (vI x2)), (Prod.mk 11 (vI (IntKind.wrap .i64 (x3 + 1))))] [(Prod.mk 1000 (AObj.cells [(vI x4), (vI x5)] 26 false 1)), (Prod.mk 1001 (AObj.sym (l6) true 2))])
 (B [(Prod.mk 3 (Pt 1000 0)), (Prod.mk 5 (vI x0)), (Prod.mk 9 (Sl 1001 (n1) (n1))), (Prod.mk 10 (vI x2)), (Prod.mk 11 (vI (IntKind.wrap .i64 (x3 + 1))))] [(Prod.mk 1000 (AObj.cells [(vI x4), (vI x5)] 26 false 1)), (Prod.mk 1001 (AObj.sym (l6) true 2))]))))))))
 False)
 False)
 (X 0 [(Prod.mk 5 (vI x0))] [])) := by kernel_rfl
def nan3 (C : Ct) (L : AtLoop) (x0 : Int) (k : List D → Prop) : Prop := wpNext Try.prog (hZ C) L 63 0 .normal [(5, (Value.int .i64 x0))] [] (dataK k)
theorem nan3_text (C : Ct) (L : AtLoop) (x0 : Int) (k : List D → Prop) : nan3 C L x0 k =
 (k [(D.val (vI x0))]) := by kernel_rfl
def gCk (C : Ct) (L : AtLoop) (n0 : Nat) (c0 : Nat) (l0 : List Value) (k : List D → Prop) : Prop := wpFn Try.prog (hZ C) L 0 41 #[.slice (some ⟨500, 0, none⟩) n0 c0] (heapOf [(500, .sym l0 false 2)]) (dataK k)
theorem gCk_text (C : Ct) (L : AtLoop) (n0 : Nat) (c0 : Nat) (l0 : List Go.Value) (k : List D → Prop) : gCk C L n0 c0 l0 k =
 (bcase (decide ((↑n0 : Int) > 5))
 (k [(D.val (vI 0)), (D.val (vI 8))])
 (L 0 [(Prod.mk 10 (Sl 500 (n0) (c0))), (Prod.mk 11 (vI ((↑n0 : Int)))), (Prod.mk 12 (vI 0))] [(Prod.mk 500 (AObj.sym (l0) false 2))])) := by kernel_rfl
abbrev zCk1 (n0 : Nat) (c1 : Nat) (x2 : Int) (x3 : Int) (l4 : List Value) : Slots × Blocks := ([(10, (Value.slice (some ⟨500, 0, none⟩) n0 c1)), (11, (Value.int .i64 x2)), (12, (Value.int .i64 x3))], [(500, (AObj.sym l4 false 2))])
def rCk1 (C : Ct) (L : AtLoop) (n0 : Nat) (c1 : Nat) (x2 : Int) (x3 : Int) (l4 : List Value) (B : Bx) (X : Xx) (k : List D → Prop) : Prop := wpRound Try.prog (hZ C) L 41 0 [(10, (Value.slice (some ⟨500, 0, none⟩) n0 c1)), (11, (Value.int .i64 x2)), (12, (Value.int .i64 x3))] [(500, (AObj.sym l4 false 2))] B X (dataK k)
theorem rCk1_text (C : Ct) (L : AtLoop) (n0 : Nat) (c1 : Nat) (x2 : Int) (x3 : Int) (l4 : List Go.Value) (B : Bx) (X : Xx) (k : List D → Prop) : rCk1 C L n0 c1 x2 x3 l4 B X k =
 (bcase (decide (x3 < x2))
 (bcase (decide (0 ≤ x3))
 (bcase (decide (x3 < (↑n0 : Int)))
 (∃ n1 : Int,
 (∃ n2 : Int,
 ((At (l4) (0 + Int.toNat x3 * 2) 2 [(vI n1), (vI n2)]) ∧
 ((((Qv (Sl 1002 1 1)) ∧
 (Qv (some (AObj.cells [(vI n2)] 3 false 1)))) ∧
 ((Qv (vI n2)) ∧
 ((Qv (Pt 1000 1)) ∧
 (((Qv (Sl 1001 1 1)) ∧
 (Qv (some (AObj.cells [(vI n1)] 3 false 1)))) ∧
 ((Qv (vI n1)) ∧
 ((Qv (Pt 1000 0)) ∧
 True)))))) ∧
 (∃ n3 : Int,
 ((Says C 36 [(D.sl 1 1 [(vI n1)])] [(D.val (vI n3))]) ∧
 ((((Qv (Sl 1002 1 1)) ∧
 (Qv (some (AObj.cells [(vI n2)] 3 false 1)))) ∧
 ((Qv (vI n2)) ∧
 ((Qv (Pt 1000 1)) ∧
 ((Qv (vI n1)) ∧
 ((Qv (Pt 1000 0)) ∧
 True))))) ∧
 ((((Qv (Sl 1002 1 1)) ∧
 (Qv (some (AObj.cells [(vI n2)] 3 false 1)))) ∧
 ((Qv (vI n2)) ∧
 ((Qv (Pt 1000 1)) ∧
 ((Qv (vI n1)) ∧
 ((Qv (Pt 1000 0)) ∧
 True))))) ∧
 (∃ e1 : Int,
 ((Says limC 0 [(D.val (vI 0)), (D.val (vI 200)), (D.sl 1 1 [(vI n2)])] [(D.val (vI e1))]) ∧
 ((((Qv (Sl 1005 2 2)) ∧
 (Qv (some (AObj.cells [(vI n3), (vI e1)] 43 false 1)))) ∧
 ((Qv (vI n2)) ∧
 ((Qv (Pt 1000 1)) ∧
 ((Qv (vI n1)) ∧
 ((Qv (Pt 1000 0)) ∧
 True))))) ∧
 (∃ n4 : Int,
 ((Says C 34 [(D.sl 2 1 [(vI n3), (vI e1)])] [(D.val (vI n4))]) ∧
 (((Qv (vI n2)) ∧
 ((Qv (Pt 1000 1)) ∧
 ((Qv (vI n1)) ∧
 ((Qv (Pt 1000 0)) ∧
 True)))) ∧
 (True ∧
 (bcase (n4 != 0)
 (k [(D.val (vI x3)), (D.val (vI n4))])
 (B [(Prod.mk 10 (Sl 500 (n0) (c1))), (Prod.mk 11 (vI x2)), (Prod.mk 12 (vI (IntKind.wrap .i64 (x3 + 1))))] [(Prod.mk 500 (AObj.sym (l4) false 2))])))))))))))))))))
 False)
 False)
 (X 0 [] [])) := by kernel_rfl
def nCk2 (C : Ct) (L : AtLoop) (k : List D → Prop) : Prop := wpNext Try.prog (hZ C) L 41 0 .normal [] [] (dataK k)
theorem nCk2_text (C : Ct) (L : AtLoop) (k : List D → Prop) : nCk2 C L k =
 (k [(D.val (vI 0)), (D.val (vI 0))]) := by kernel_rfl
def gcg (C : Ct) (L : AtLoop) (x0 : Int) (x1 : Int) (k : List D → Prop) : Prop := wpFn Try.prog (hZ C) L 0 74 #[.agg #[.int .i64 x0, .int .i64 x1]] (heapOf []) (dataK k)
theorem gcg_text (C : Ct) (L : AtLoop) (x0 : Int) (x1 : Int) (k : List D → Prop) : gcg C L x0 x1 k =
 (((Qv (Value.agg [(vI x0), (vI x1)].toArray)) ∧
 (((Qv (Sl 1001 2 2)) ∧
 (Qv (some (AObj.cells [(vI x0), (vI x1)] 3 false 1)))) ∧
 ((Qv (vI x1)) ∧
 ((Qv (Pt 1000 1)) ∧
 ((Qv (vI x0)) ∧
 ((Qv (Pt 1000 0)) ∧
 True)))))) ∧
 (∃ n1 : Int,
 ((Says C 36 [(D.sl 2 1 [(vI x0), (vI x1)])] [(D.val (vI n1))]) ∧
 (((Qv (Value.agg [(vI x0), (vI x1)].toArray)) ∧
 ((Qv (vI x1)) ∧
 ((Qv (Pt 1000 1)) ∧
 ((Qv (vI x0)) ∧
 ((Qv (Pt 1000 0)) ∧
 True))))) ∧
 (∃ n2 : Int,
 ((Says C 69 [(D.agg [(D.val (vI x0)), (D.val (vI x1))])] [(D.val (vI n2))]) ∧
 ((((Qv (Sl 1002 2 2)) ∧
 (Qv (some (AObj.cells [(vI n1), (vI n2)] 43 false 1)))) ∧
 ((Qv (vI x1)) ∧
 ((Qv (Pt 1000 1)) ∧
 ((Qv (vI x0)) ∧
 ((Qv (Pt 1000 0)) ∧
 True))))) ∧
 (∃ n3 : Int,
 ((Says C 34 [(D.sl 2 1 [(vI n1), (vI n2)])] [(D.val (vI n3))]) ∧
 (((Qv (vI x1)) ∧
 ((Qv (Pt 1000 1)) ∧
 ((Qv (vI x0)) ∧
 ((Qv (Pt 1000 0)) ∧
 True)))) ∧
 (True ∧
 (k [(D.val (vI n3))])))))))))))) := by kernel_rfl
def gcG (C : Ct) (L : AtLoop) (n0 : Nat) (c0 : Nat) (l0 : List Value) (x1 : Int) (x2 : Int) (k : List D → Prop) : Prop := wpFn Try.prog (hZ C) L 0 61 #[.agg #[.slice (some ⟨500, 0, none⟩) n0 c0, .int .i64 x1, .int .i64 x2]] (heapOf [(500, .sym l0 false 2)]) (dataK k)
theorem gcG_text (C : Ct) (L : AtLoop) (n0 : Nat) (c0 : Nat) (l0 : List Go.Value) (x1 : Int) (x2 : Int) (k : List D → Prop) : gcG C L n0 c0 l0 x1 x2 k =
 (bcase (decide (0 + n0 * 2 ≤ List.length l0))
 (∃ n1 : Int,
 (∃ n2 : Int,
 ((Says C 41 [(D.sl (n0) 2 (List.take (n0 * 2) (List.drop 0 l0)))] [(D.val (vI n1)), (D.val (vI n2))]) ∧
 (bcase (n2 != 0)
 (k [(D.val (vI n2))])
 (bcase ((↑n0 : Int) == 0)
 (k [(D.val (vI 10))])
 (∃ n3 : Int,
 ((Says C 74 [(D.agg [(D.val (vI x1)), (D.val (vI x2))])] [(D.val (vI n3))]) ∧
 (k [(D.val (vI n3))]))))))))
 False) := by kernel_rfl
def gkR (C : Ct) (L : AtLoop) (n0 : Nat) (c0 : Nat) (l0 : List Value) (k : List D → Prop) : Prop := wpFn Try.prog (hZ C) L 0 31 #[.slice (some ⟨500, 0, none⟩) n0 c0] (heapOf [(500, .sym l0 false 2)]) (dataK k)
theorem gkR_text (C : Ct) (L : AtLoop) (n0 : Nat) (c0 : Nat) (l0 : List Go.Value) (k : List D → Prop) : gkR C L n0 c0 l0 k =
 (bcase (decide ((↑n0 : Int) > 5))
 (k [(D.val (vI 0)), (D.val (vI 8))])
 (L 0 [(Prod.mk 0 (Sl 500 (n0) (c0))), (Prod.mk 4 (vI 0))] [(Prod.mk 500 (AObj.sym (l0) false 2))])) := by kernel_rfl
abbrev zkR1 (n0 : Nat) (c1 : Nat) (x2 : Int) (l3 : List Value) : Slots × Blocks := ([(0, (Value.slice (some ⟨500, 0, none⟩) n0 c1)), (4, (Value.int .i64 x2))], [(500, (AObj.sym l3 false 2))])
def rkR1 (C : Ct) (L : AtLoop) (n0 : Nat) (c1 : Nat) (x2 : Int) (l3 : List Value) (B : Bx) (X : Xx) (k : List D → Prop) : Prop := wpRound Try.prog (hZ C) L 31 0 [(0, (Value.slice (some ⟨500, 0, none⟩) n0 c1)), (4, (Value.int .i64 x2))] [(500, (AObj.sym l3 false 2))] B X (dataK k)
theorem rkR1_text (C : Ct) (L : AtLoop) (n0 : Nat) (c1 : Nat) (x2 : Int) (l3 : List Go.Value) (B : Bx) (X : Xx) (k : List D → Prop) : rkR1 C L n0 c1 x2 l3 B X k =
 (bcase (decide (x2 < (↑n0 : Int)))
 (bcase (decide (0 ≤ x2))
 (bcase (decide (x2 < (↑n0 : Int)))
 (∃ n1 : Int,
 ((At (l3) (0 + Int.toNat x2 * 2) 1 [(vI n1)]) ∧
 (∃ n2 : Int,
 ((Says C 40 [(D.val (vI n1))] [(D.val (vI n2))]) ∧
 (bcase (n2 != 0)
 (k [(D.val (vI x2)), (D.val (vI 2))])
 (bcase (decide (0 ≤ x2))
 (bcase (decide (x2 < (↑n0 : Int)))
 (∃ n3 : Int,
 ((At (l3) (Addr.off { block := 500, off := 0 + Int.toNat x2 * 2 } + 1) 1 [(vI n3)]) ∧
 (((Says C 16 [(D.val (vI n3)), (D.val (vI 0)), (D.val (vI 200))] [(D.val (Value.bool true))]) ∧
 (B [(Prod.mk 0 (Sl 500 (n0) (c1))), (Prod.mk 4 (vI (IntKind.wrap .i64 (x2 + 1))))] [(Prod.mk 500 (AObj.sym (l3) false 2))])) ∨
 ((Says C 16 [(D.val (vI n3)), (D.val (vI 0)), (D.val (vI 200))] [(D.val (Value.bool false))]) ∧
 (k [(D.val (vI x2)), (D.val (vI 2))])))))
 False)
 False))))))
 False)
 False)
 (X 0 [] [])) := by kernel_rfl
def nkR2 (C : Ct) (L : AtLoop) (k : List D → Prop) : Prop := wpNext Try.prog (hZ C) L 31 0 .normal [] [] (dataK k)
theorem nkR2_text (C : Ct) (L : AtLoop) (k : List D → Prop) : nkR2 C L k =
 (k [(D.val (vI 0)), (D.val (vI 0))]) := by kernel_rfl
def gkRn (C : Ct) (L : AtLoop) (k : List D → Prop) : Prop := wpFn Try.prog (hZ C) L 0 31 #[.slice none 0 0] (heapOf []) (dataK k)
theorem gkRn_text (C : Ct) (L : AtLoop) (k : List D → Prop) : gkRn C L k =
 (L 0 [(Prod.mk 0 (Value.slice none 0 0)), (Prod.mk 4 (vI 0))] []) := by kernel_rfl
abbrev zkRn1 (x0 : Int) : Slots × Blocks := ([(0, (Value.slice none 0 0)), (4, (Value.int .i64 x0))], [])
def rkRn1 (C : Ct) (L : AtLoop) (x0 : Int) (B : Bx) (X : Xx) (k : List D → Prop) : Prop := wpRound Try.prog (hZ C) L 31 0 [(0, (Value.slice none 0 0)), (4, (Value.int .i64 x0))] [] B X (dataK k)
theorem rkRn1_text (C : Ct) (L : AtLoop) (x0 : Int) (B : Bx) (X : Xx) (k : List D → Prop) : rkRn1 C L x0 B X k =
 (bcase (decide (x0 < (↑0 : Int)))
 False
 (X 0 [] [])) := by kernel_rfl
def nkRn2 (C : Ct) (L : AtLoop) (k : List D → Prop) : Prop := wpNext Try.prog (hZ C) L 31 0 .normal [] [] (dataK k)
theorem nkRn2_text (C : Ct) (L : AtLoop) (k : List D → Prop) : nkRn2 C L k =
 (k [(D.val (vI 0)), (D.val (vI 0))]) := by kernel_rfl
def grE (C : Ct) (L : AtLoop) (n0 : Nat) (c0 : Nat) (l0 : List Value) (k : List D → Prop) : Prop := wpFn Try.prog (hZ C) L 0 8 #[.slice (some ⟨500, 0, none⟩) n0 c0] (heapOf [(500, .sym l0 false 2)]) (dataK k)
theorem grE_text (C : Ct) (L : AtLoop) (n0 : Nat) (c0 : Nat) (l0 : List Go.Value) (k : List D → Prop) : grE C L n0 c0 l0 k =
 (bcase (decide (0 + n0 * 2 ≤ List.length l0))
 (∃ n1 : Int,
 (∃ n2 : Int,
 ((Says C 31 [(D.sl (n0) 2 (List.take (n0 * 2) (List.drop 0 l0)))] [(D.val (vI n1)), (D.val (vI n2))]) ∧
 (k [(D.val (vI n2))]))))
 False) := by kernel_rfl
def grEn (C : Ct) (L : AtLoop) (k : List D → Prop) : Prop := wpFn Try.prog (hZ C) L 0 8 #[.slice none 0 0] (heapOf []) (dataK k)
theorem grEn_text (C : Ct) (L : AtLoop) (k : List D → Prop) : grEn C L k =
 (∃ n1 : Int,
 (∃ n2 : Int,
 ((Says C 31 [D.nil] [(D.val (vI n1)), (D.val (vI n2))]) ∧
 (k [(D.val (vI n2))])))) := by kernel_rfl
def gtE (C : Ct) (L : AtLoop) (x0 : Int) (x1 : Int) (k : List D → Prop) : Prop := wpFn Try.prog (hZ C) L 0 46 #[.agg #[.int .i64 x0, .int .i64 x1]] (heapOf []) (dataK k)
theorem gtE_text (C : Ct) (L : AtLoop) (x0 : Int) (x1 : Int) (k : List D → Prop) : gtE C L x0 x1 k =
 (∃ n1 : Int,
 ((Says C 40 [(D.val (vI x0))] [(D.val (vI n1))]) ∧
 (bcase (n1 != 0)
 (k [(D.val (vI 2))])
 (∃ n2 : Int,
 ((Says C 40 [(D.val (vI x1))] [(D.val (vI n2))]) ∧
 (bcase (n2 != 0)
 (k [(D.val (vI 2))])
 (bcase (decide (x0 > x1))
 (k [(D.val (vI 9))])
 (k [(D.val (vI 0))])))))))) := by kernel_rfl
def gGE (C : Ct) (L : AtLoop) (n0 : Nat) (c0 : Nat) (l0 : List Value) (x1 : Int) (x2 : Int) (k : List D → Prop) : Prop := wpFn Try.prog (hZ C) L 0 21 #[.agg #[.slice (some ⟨500, 0, none⟩) n0 c0, .int .i64 x1, .int .i64 x2]] (heapOf [(500, .sym l0 false 2)]) (dataK k)
theorem gGE_text (C : Ct) (L : AtLoop) (n0 : Nat) (c0 : Nat) (l0 : List Go.Value) (x1 : Int) (x2 : Int) (k : List D → Prop) : gGE C L n0 c0 l0 x1 x2 k =
 (bcase (decide (0 + n0 * 2 ≤ List.length l0))
 (∃ n1 : Int,
 ((Says C 8 [(D.sl (n0) 2 (List.take (n0 * 2) (List.drop 0 l0)))] [(D.val (vI n1))]) ∧
 (bcase (n1 != 0)
 (k [(D.val (vI n1))])
 (bcase ((↑n0 : Int) == 0)
 (k [(D.val (vI 10))])
 (∃ n2 : Int,
 ((Says C 46 [(D.agg [(D.val (vI x1)), (D.val (vI x2))])] [(D.val (vI n2))]) ∧
 (k [(D.val (vI n2))])))))))
 False) := by kernel_rfl
def gGEn (C : Ct) (L : AtLoop) (x1 : Int) (x2 : Int) (k : List D → Prop) : Prop := wpFn Try.prog (hZ C) L 0 21 #[.agg #[.slice none 0 0, .int .i64 x1, .int .i64 x2]] (heapOf []) (dataK k)
theorem gGEn_text (C : Ct) (L : AtLoop) (x1 : Int) (x2 : Int) (k : List D → Prop) : gGEn C L x1 x2 k =
 (∃ n1 : Int,
 ((Says C 8 [D.nil] [(D.val (vI n1))]) ∧
 (bcase (n1 != 0)
 (k [(D.val (vI n1))])
 (k [(D.val (vI 10))])))) := by kernel_rfl
def gsa (C : Ct) (L : AtLoop) (n0 : Nat) (c0 : Nat) (l0 : List Value) (x1 : Int) (k : List D → Prop) : Prop := wpFn Try.prog (hZ C) L 0 75 #[.agg #[.slice (some ⟨500, 0, none⟩) n0 c0, .int .i64 x1]] (heapOf [(500, .sym l0 false 1)]) (dataK k)
theorem gsa_text (C : Ct) (L : AtLoop) (n0 : Nat) (c0 : Nat) (l0 : List Go.Value) (x1 : Int) (k : List D → Prop) : gsa C L n0 c0 l0 x1 k =
 (L 0 [(Prod.mk 1 (Pt 1000 0)), (Prod.mk 3 (Value.slice none 0 0)), (Prod.mk 4 (vI 0))] [(Prod.mk 1000 (AObj.cells [(Sl 500 (n0) (c0)), (vI x1)] 31 false 1)), (Prod.mk 500 (AObj.sym (l0) false 1))]) := by kernel_rfl
abbrev zsa1 (x0 : Int) (n1 : Nat) (c2 : Nat) (x3 : Int) (l4 : List Value) : Slots × Blocks := ([(1, (Value.pointer (some ⟨1000, 0, none⟩))), (3, (Value.slice none 0 0)), (4, (Value.int .i64 x0))], [(1000, (AObj.cells [(Value.slice (some ⟨500, 0, none⟩) n1 c2), (Value.int .i64 x3)] 31 false 1)), (500, (AObj.sym l4 false 1))])
def rsa1 (C : Ct) (L : AtLoop) (x0 : Int) (n1 : Nat) (c2 : Nat) (x3 : Int) (l4 : List Value) (B : Bx) (X : Xx) (k : List D → Prop) : Prop := wpRound Try.prog (hZ C) L 75 0 [(1, (Value.pointer (some ⟨1000, 0, none⟩))), (3, (Value.slice none 0 0)), (4, (Value.int .i64 x0))] [(1000, (AObj.cells [(Value.slice (some ⟨500, 0, none⟩) n1 c2), (Value.int .i64 x3)] 31 false 1)), (500, (AObj.sym l4 false 1))] B X (dataK k)
theorem rsa1_text (C : Ct) (L : AtLoop) (x0 : Int) (n1 : Nat) (c2 : Nat) (x3 : Int) (l4 : List Go.Value) (B : Bx) (X : Xx) (k : List D → Prop) : rsa1 C L x0 n1 c2 x3 l4 B X k =
 (bcase (decide (x0 < (↑n1 : Int)))
 (bcase (decide (0 ≤ x0))
 (bcase (decide (x0 < (↑n1 : Int)))
 (∃ n2 : Int,
 ((At (l4) (0 + Int.toNat x0 * 1) 1 [(vI n2)]) ∧
 (bcase (decide (0 ≤ x0))
 (bcase (decide (x0 < (↑n1 : Int)))
 (∃ n3 : Int,
 ((At (l4) (0 + Int.toNat x0 * 1) 1 [(vI n3)]) ∧
 ((((Qv (Sl 1001 1 1)) ∧
 (Qv (some (AObj.cells [(vI n2), (vI n3)] 26 false 2)))) ∧
 ((Qv (Value.agg [(vI n2), (vI n3)].toArray)) ∧
 ((∃ n4 : Int,
 ((At (l4) (0 + Int.toNat x0 * 1) 1 [(vI n4)]) ∧
 ((vI n4) = (vI n3)))) ∧
 ((bcase (decide (0 ≤ x0))
 (bcase (decide (x0 < (↑n1 : Int)))
 (Qv (Pt 500 (0 + Int.toNat x0 * 1)))
 False)
 False) ∧
 ((Qv (vI x0)) ∧
 ((Qv (Sl 500 (n1) (c2))) ∧
 ((Qv (Pt 1000 0)) ∧
 ((∃ n4 : Int,
 ((At (l4) (0 + Int.toNat x0 * 1) 1 [(vI n4)]) ∧
 ((vI n4) = (vI n2)))) ∧
 ((bcase (decide (0 ≤ x0))
 (bcase (decide (x0 < (↑n1 : Int)))
 (Qv (Pt 500 (0 + Int.toNat x0 * 1)))
 False)
 False) ∧
 ((Qv (vI x0)) ∧
 ((Qv (Sl 500 (n1) (c2))) ∧
 ((Qv (Pt 1000 0)) ∧
 ((Qv (Value.slice none 0 0)) ∧
 True))))))))))))) ∧
 (((Qv (Value.agg [(vI n2), (vI n3)].toArray)) ∧
 ((∃ n4 : Int,
 ((At (l4) (0 + Int.toNat x0 * 1) 1 [(vI n4)]) ∧
 ((vI n4) = (vI n3)))) ∧
 ((bcase (decide (0 ≤ x0))
 (bcase (decide (x0 < (↑n1 : Int)))
 (Qv (Pt 500 (0 + Int.toNat x0 * 1)))
 False)
 False) ∧
 ((Qv (vI x0)) ∧
 ((Qv (Sl 500 (n1) (c2))) ∧
 ((Qv (Pt 1000 0)) ∧
 ((∃ n4 : Int,
 ((At (l4) (0 + Int.toNat x0 * 1) 1 [(vI n4)]) ∧
 ((vI n4) = (vI n2)))) ∧
 ((bcase (decide (0 ≤ x0))
 (bcase (decide (x0 < (↑n1 : Int)))
 (Qv (Pt 500 (0 + Int.toNat x0 * 1)))
 False)
 False) ∧
 ((Qv (vI x0)) ∧
 ((Qv (Sl 500 (n1) (c2))) ∧
 ((Qv (Pt 1000 0)) ∧
 True))))))))))) ∧
 (True ∧
 (B [(Prod.mk 1 (Pt 1000 0)), (Prod.mk 3 (Sl 1001 1 1)), (Prod.mk 4 (vI (IntKind.wrap .i64 (x0 + 1))))] [(Prod.mk 1000 (AObj.cells [(Sl 500 (n1) (c2)), (vI x3)] 31 false 1)), (Prod.mk 1001 (AObj.sym [(vI n2), (vI n3)] true 2)), (Prod.mk 500 (AObj.sym (l4) false 1))]))))))
 False)
 False)))
 False)
 False)
 (X 0 [(Prod.mk 3 (Value.slice none 0 0))] [])) := by kernel_rfl
abbrev zsa2 (n0 : Nat) (x1 : Int) (n2 : Nat) (c3 : Nat) (x4 : Int) (l5 : List Value) (l6 : List Value) : Slots × Blocks := ([(1, (Value.pointer (some ⟨1000, 0, none⟩))), (3, (Value.slice (some ⟨1001, 0, none⟩) n0 n0)), (4, (Value.int .i64 x1))], [(1000, (AObj.cells [(Value.slice (some ⟨500, 0, none⟩) n2 c3), (Value.int .i64 x4)] 31 false 1)), (1001, (AObj.sym l5 true 2)), (500, (AObj.sym l6 false 1))])
def rsa2 (C : Ct) (L : AtLoop) (n0 : Nat) (x1 : Int) (n2 : Nat) (c3 : Nat) (x4 : Int) (l5 : List Value) (l6 : List Value) (B : Bx) (X : Xx) (k : List D → Prop) : Prop := wpRound Try.prog (hZ C) L 75 0 [(1, (Value.pointer (some ⟨1000, 0, none⟩))), (3, (Value.slice (some ⟨1001, 0, none⟩) n0 n0)), (4, (Value.int .i64 x1))] [(1000, (AObj.cells [(Value.slice (some ⟨500, 0, none⟩) n2 c3), (Value.int .i64 x4)] 31 false 1)), (1001, (AObj.sym l5 true 2)), (500, (AObj.sym l6 false 1))] B X (dataK k)
theorem rsa2_text (C : Ct) (L : AtLoop) (n0 : Nat) (x1 : Int) (n2 : Nat) (c3 : Nat) (x4 : Int) (l5 : List Go.Value) (l6 : List Go.Value) (B : Bx) (X : Xx) (k : List D → Prop) : rsa2 C L n0 x1 n2 c3 x4 l5 l6 B X k =
 (bcase (decide (x1 < (↑n2 : Int)))
 (bcase (decide (0 ≤ x1))
 (bcase (decide (x1 < (↑n2 : Int)))
 (∃ n1 : Int,
 ((At (l6) (0 + Int.toNat x1 * 1) 1 [(vI n1)]) ∧
 (bcase (decide (0 ≤ x1))
 (bcase (decide (x1 < (↑n2 : Int)))
 (∃ n3 : Int,
 ((At (l6) (0 + Int.toNat x1 * 1) 1 [(vI n3)]) ∧
 ((((Qv (Sl 1002 1 1)) ∧
 (Qv (some (AObj.cells [(vI n1), (vI n3)] 26 false 2)))) ∧
 ((Qv (Value.agg [(vI n1), (vI n3)].toArray)) ∧
 ((∃ n4 : Int,
 ((At (l6) (0 + Int.toNat x1 * 1) 1 [(vI n4)]) ∧
 ((vI n4) = (vI n3)))) ∧
 ((bcase (decide (0 ≤ x1))
 (bcase (decide (x1 < (↑n2 : Int)))
 (Qv (Pt 500 (0 + Int.toNat x1 * 1)))
 False)
 False) ∧
 ((Qv (vI x1)) ∧
 ((Qv (Sl 500 (n2) (c3))) ∧
 ((Qv (Pt 1000 0)) ∧
 ((∃ n4 : Int,
 ((At (l6) (0 + Int.toNat x1 * 1) 1 [(vI n4)]) ∧
 ((vI n4) = (vI n1)))) ∧
 ((bcase (decide (0 ≤ x1))
 (bcase (decide (x1 < (↑n2 : Int)))
 (Qv (Pt 500 (0 + Int.toNat x1 * 1)))
 False)
 False) ∧
 ((Qv (vI x1)) ∧
 ((Qv (Sl 500 (n2) (c3))) ∧
 ((Qv (Pt 1000 0)) ∧
 ((Qv (Sl 1001 (n0) (n0))) ∧
 True))))))))))))) ∧
 (bcase (decide (n0 < n0 + 1))
 (bcase (decide ((2 * (n0 + 1) + 768) * 16 ≤ 281474976710656))
 (bcase (decide (n0 + 1 ≤ 1099511627776))
 (bcase (decide (0 + n0 * 2 ≤ List.length l5))
 (bcase (decide (0 + n0 * 2 = List.length l5))
 (((Qv (Value.agg [(vI n1), (vI n3)].toArray)) ∧
 ((∃ n4 : Int,
 ((At (l6) (0 + Int.toNat x1 * 1) 1 [(vI n4)]) ∧
 ((vI n4) = (vI n3)))) ∧
 ((bcase (decide (0 ≤ x1))
 (bcase (decide (x1 < (↑n2 : Int)))
 (Qv (Pt 500 (0 + Int.toNat x1 * 1)))
 False)
 False) ∧
 ((Qv (vI x1)) ∧
 ((Qv (Sl 500 (n2) (c3))) ∧
 ((Qv (Pt 1000 0)) ∧
 ((∃ n4 : Int,
 ((At (l6) (0 + Int.toNat x1 * 1) 1 [(vI n4)]) ∧
 ((vI n4) = (vI n1)))) ∧
 ((bcase (decide (0 ≤ x1))
 (bcase (decide (x1 < (↑n2 : Int)))
 (Qv (Pt 500 (0 + Int.toNat x1 * 1)))
 False)
 False) ∧
 ((Qv (vI x1)) ∧
 ((Qv (Sl 500 (n2) (c3))) ∧
 ((Qv (Pt 1000 0)) ∧
 True))))))))))) ∧
 (True ∧
 (B [(Prod.mk 1 (Pt 1000 0)), (Prod.mk 3 (Sl 1001 (n0 + 1) (n0 + 1))), (Prod.mk 4 (vI (IntKind.wrap .i64 (x1 + 1))))] [(Prod.mk 1000 (AObj.cells [(Sl 500 (n2) (c3)), (vI x4)] 31 false 1)), (Prod.mk 1001 (AObj.sym ((List.take (n0 * 2) (List.drop 0 l5)) ++ [(vI n1), (vI n3)]) true 2)), (Prod.mk 500 (AObj.sym (l6) false 1))])))
 False)
 False)
 False)
 False)
 False))))
 False)
 False)))
 False)
 False)
 (X 0 [(Prod.mk 3 (Sl 1000 (n0) (n0)))] [(Prod.mk 1000 (AObj.sym (l5) true 2))])) := by kernel_rfl
def nsa4 (C : Ct) (L : AtLoop) (n0 : Nat) (l1 : List Value) (k : List D → Prop) : Prop := wpNext Try.prog (hZ C) L 75 0 .normal [(3, (Value.slice (some ⟨1000, 0, none⟩) n0 n0))] [(1000, (AObj.sym l1 true 2))] (dataK k)
theorem nsa4_text (C : Ct) (L : AtLoop) (n0 : Nat) (l1 : List Go.Value) (k : List D → Prop) : nsa4 C L n0 l1 k =
 (((Qv (n0)) ∧
 ((List.length l1) = (n0 * 2))) ∧
 (k [(D.sl (n0) 2 (l1))])) := by kernel_rfl
def gen (C : Ct) (L : AtLoop) (n0 : Nat) (c0 : Nat) (l0 : List Value) (x1 : Int) (x2 : Int) (x3 : Int) (x4 : Int) (n5 : Nat) (c5 : Nat) (l5 : List Value) (x6 : Int) (k : List D → Prop) : Prop := wpFn Try.prog (hZ C) L 0 66 #[.agg #[.slice (some ⟨500, 0, none⟩) n0 c0, .int .i64 x1, .int .i64 x2, .int .i64 x3], .int .i64 x4, .slice (some ⟨501, 0, none⟩) n5 c5, .int .i64 x6] (heapOf [(500, .sym l0 false 2), (501, .sym l5 false 2)]) (dataK k)
theorem gen_text (C : Ct) (L : AtLoop) (n0 : Nat) (c0 : Nat) (l0 : List Go.Value) (x1 : Int) (x2 : Int) (x3 : Int) (x4 : Int) (n5 : Nat) (c5 : Nat) (l5 : List Go.Value) (x6 : Int) (k : List D → Prop) : gen C L n0 c0 l0 x1 x2 x3 x4 n5 c5 l5 x6 k =
 (L 0 [(Prod.mk 1 (vI x4)), (Prod.mk 2 (Sl 501 (n5) (c5))), (Prod.mk 3 (vI x6)), (Prod.mk 4 (Pt 1000 0)), (Prod.mk 9 (Value.slice none 0 0)), (Prod.mk 10 (Value.slice none 0 0)), (Prod.mk 11 (vI 0))] [(Prod.mk 501 (AObj.sym (l5) false 2)), (Prod.mk 1000 (AObj.cells [(Sl 500 (n0) (c0)), (vI x1), (vI x2), (vI x3)] 28 false 1)), (Prod.mk 500 (AObj.sym (l0) false 2))]) := by kernel_rfl
abbrev zen1 (x0 : Int) (n1 : Nat) (c2 : Nat) (x3 : Int) (x4 : Int) (l5 : List Value) (n6 : Nat) (c7 : Nat) (x8 : Int) (x9 : Int) (x10 : Int) (l11 : List Value) : Slots × Blocks := ([(1, (Value.int .i64 x0)), (2, (Value.slice (some ⟨501, 0, none⟩) n1 c2)), (3, (Value.int .i64 x3)), (4, (Value.pointer (some ⟨1000, 0, none⟩))), (9, (Value.slice none 0 0)), (10, (Value.slice none 0 0)), (11, (Value.int .i64 x4))], [(501, (AObj.sym l5 false 2)), (1000, (AObj.cells [(Value.slice (some ⟨500, 0, none⟩) n6 c7), (Value.int .i64 x8), (Value.int .i64 x9), (Value.int .i64 x10)] 28 false 1)), (500, (AObj.sym l11 false 2))])
def ren1 (C : Ct) (L : AtLoop) (x0 : Int) (n1 : Nat) (c2 : Nat) (x3 : Int) (x4 : Int) (l5 : List Value) (n6 : Nat) (c7 : Nat) (x8 : Int) (x9 : Int) (x10 : Int) (l11 : List Value) (B : Bx) (X : Xx) (k : List D → Prop) : Prop := wpRound Try.prog (hZ C) L 66 0 [(1, (Value.int .i64 x0)), (2, (Value.slice (some ⟨501, 0, none⟩) n1 c2)), (3, (Value.int .i64 x3)), (4, (Value.pointer (some ⟨1000, 0, none⟩))), (9, (Value.slice none 0 0)), (10, (Value.slice none 0 0)), (11, (Value.int .i64 x4))] [(501, (AObj.sym l5 false 2)), (1000, (AObj.cells [(Value.slice (some ⟨500, 0, none⟩) n6 c7), (Value.int .i64 x8), (Value.int .i64 x9), (Value.int .i64 x10)] 28 false 1)), (500, (AObj.sym l11 false 2))] B X (dataK k)
theorem ren1_text (C : Ct) (L : AtLoop) (x0 : Int) (n1 : Nat) (c2 : Nat) (x3 : Int) (x4 : Int) (l5 : List Go.Value) (n6 : Nat) (c7 : Nat) (x8 : Int) (x9 : Int) (x10 : Int) (l11 : List Go.Value) (B : Bx) (X : Xx) (k : List D → Prop) : ren1 C L x0 n1 c2 x3 x4 l5 n6 c7 x8 x9 x10 l11 B X k =
 (bcase (decide (x4 < (↑n1 : Int)))
 (bcase (decide (0 ≤ x4))
 (bcase (decide (x4 < (↑n1 : Int)))
 (∃ n2 : Int,
 ((At (l5) (0 + Int.toNat x4 * 2) 1 [(vI n2)]) ∧
 (bcase (decide (0 ≤ x4))
 (bcase (decide (x4 < (↑n1 : Int)))
 (∃ n3 : Int,
 ((At (l5) (Addr.off { block := 501, off := 0 + Int.toNat x4 * 2 } + 1) 1 [(vI n3)]) ∧
 ((((Qv (Sl 1002 1 1)) ∧
 (Qv (some (AObj.cells [(vI n3)] 3 false 1)))) ∧
 ((∃ n4 : Int,
 ((At (l5) (Addr.off { block := 501, off := 0 + Int.toNat x4 * 2 } + 1) 1 [(vI n4)]) ∧
 ((vI n4) = (vI n3)))) ∧
 ((Qv (Value.pointer (some (Addr.mk 501 (Addr.off { block := 501, off := 0 + Int.toNat x4 * 2 } + 1) none)))) ∧
 ((bcase (decide (0 ≤ x4))
 (bcase (decide (x4 < (↑n1 : Int)))
 (Qv (Pt 501 (0 + Int.toNat x4 * 2)))
 False)
 False) ∧
 ((Qv (vI x4)) ∧
 ((Qv (Sl 501 (n1) (c2))) ∧
 ((Qv (Value.slice none 0 0)) ∧
 (((Qv (Sl 1001 1 1)) ∧
 (Qv (some (AObj.cells [(vI n2)] 3 false 1)))) ∧
 ((∃ n4 : Int,
 ((At (l5) (0 + Int.toNat x4 * 2) 1 [(vI n4)]) ∧
 ((vI n4) = (vI n2)))) ∧
 ((Qv (Pt 501 (0 + Int.toNat x4 * 2))) ∧
 ((bcase (decide (0 ≤ x4))
 (bcase (decide (x4 < (↑n1 : Int)))
 (Qv (Pt 501 (0 + Int.toNat x4 * 2)))
 False)
 False) ∧
 ((Qv (vI x4)) ∧
 ((Qv (Sl 501 (n1) (c2))) ∧
 ((Qv (Value.slice none 0 0)) ∧
 True)))))))))))))) ∧
 ((((Qv (Sl 1002 1 1)) ∧
 (Qv (some (AObj.cells [(vI n3)] 3 false 1)))) ∧
 ((∃ n4 : Int,
 ((At (l5) (Addr.off { block := 501, off := 0 + Int.toNat x4 * 2 } + 1) 1 [(vI n4)]) ∧
 ((vI n4) = (vI n3)))) ∧
 ((Qv (Value.pointer (some (Addr.mk 501 (Addr.off { block := 501, off := 0 + Int.toNat x4 * 2 } + 1) none)))) ∧
 ((bcase (decide (0 ≤ x4))
 (bcase (decide (x4 < (↑n1 : Int)))
 (Qv (Pt 501 (0 + Int.toNat x4 * 2)))
 False)
 False) ∧
 ((Qv (vI x4)) ∧
 ((Qv (Sl 501 (n1) (c2))) ∧
 ((Qv (Value.slice none 0 0)) ∧
 ((∃ n4 : Int,
 ((At (l5) (0 + Int.toNat x4 * 2) 1 [(vI n4)]) ∧
 ((vI n4) = (vI n2)))) ∧
 ((Qv (Pt 501 (0 + Int.toNat x4 * 2))) ∧
 ((bcase (decide (0 ≤ x4))
 (bcase (decide (x4 < (↑n1 : Int)))
 (Qv (Pt 501 (0 + Int.toNat x4 * 2)))
 False)
 False) ∧
 ((Qv (vI x4)) ∧
 ((Qv (Sl 501 (n1) (c2))) ∧
 True)))))))))))) ∧
 (((∃ n4 : Int,
 ((At (l5) (Addr.off { block := 501, off := 0 + Int.toNat x4 * 2 } + 1) 1 [(vI n4)]) ∧
 ((vI n4) = (vI n3)))) ∧
 ((Qv (Value.pointer (some (Addr.mk 501 (Addr.off { block := 501, off := 0 + Int.toNat x4 * 2 } + 1) none)))) ∧
 ((bcase (decide (0 ≤ x4))
 (bcase (decide (x4 < (↑n1 : Int)))
 (Qv (Pt 501 (0 + Int.toNat x4 * 2)))
 False)
 False) ∧
 ((Qv (vI x4)) ∧
 ((Qv (Sl 501 (n1) (c2))) ∧
 ((∃ n4 : Int,
 ((At (l5) (0 + Int.toNat x4 * 2) 1 [(vI n4)]) ∧
 ((vI n4) = (vI n2)))) ∧
 ((Qv (Pt 501 (0 + Int.toNat x4 * 2))) ∧
 ((bcase (decide (0 ≤ x4))
 (bcase (decide (x4 < (↑n1 : Int)))
 (Qv (Pt 501 (0 + Int.toNat x4 * 2)))
 False)
 False) ∧
 ((Qv (vI x4)) ∧
 ((Qv (Sl 501 (n1) (c2))) ∧
 True)))))))))) ∧
 (((∃ n4 : Int,
 ((At (l5) (Addr.off { block := 501, off := 0 + Int.toNat x4 * 2 } + 1) 1 [(vI n4)]) ∧
 ((vI n4) = (vI n3)))) ∧
 ((Qv (Value.pointer (some (Addr.mk 501 (Addr.off { block := 501, off := 0 + Int.toNat x4 * 2 } + 1) none)))) ∧
 ((bcase (decide (0 ≤ x4))
 (bcase (decide (x4 < (↑n1 : Int)))
 (Qv (Pt 501 (0 + Int.toNat x4 * 2)))
 False)
 False) ∧
 ((Qv (vI x4)) ∧
 ((Qv (Sl 501 (n1) (c2))) ∧
 True))))) ∧
 (True ∧
 (B [(Prod.mk 1 (vI x0)), (Prod.mk 2 (Sl 501 (n1) (c2))), (Prod.mk 3 (vI x3)), (Prod.mk 4 (Pt 1000 0)), (Prod.mk 9 (Sl 1001 1 1)), (Prod.mk 10 (Sl 1002 1 1)), (Prod.mk 11 (vI (IntKind.wrap .i64 (x4 + 1))))] [(Prod.mk 501 (AObj.sym (l5) false 2)), (Prod.mk 1000 (AObj.cells [(Sl 500 (n6) (c7)), (vI x8), (vI x9), (vI x10)] 28 false 1)), (Prod.mk 1001 (AObj.sym [(vI n2)] true 1)), (Prod.mk 1002 (AObj.sym [(vI n3)] true 1)), (Prod.mk 500 (AObj.sym (l11) false 2))]))))))))
 False)
 False)))
 False)
 False)
 (X 0 [(Prod.mk 1 (vI x0)), (Prod.mk 2 (Sl 501 (n1) (c2))), (Prod.mk 3 (vI x3)), (Prod.mk 4 (Pt 1000 0)), (Prod.mk 9 (Value.slice none 0 0)), (Prod.mk 10 (Value.slice none 0 0))] [(Prod.mk 501 (AObj.sym (l5) false 2)), (Prod.mk 1000 (AObj.cells [(Sl 500 (n6) (c7)), (vI x8), (vI x9), (vI x10)] 28 false 1)), (Prod.mk 500 (AObj.sym (l11) false 2))])) := by kernel_rfl
abbrev zen2 (x0 : Int) (n1 : Nat) (c2 : Nat) (x3 : Int) (n4 : Nat) (n5 : Nat) (x6 : Int) (l7 : List Value) (n8 : Nat) (c9 : Nat) (x10 : Int) (x11 : Int) (x12 : Int) (l13 : List Value) (l14 : List Value) (l15 : List Value) : Slots × Blocks := ([(1, (Value.int .i64 x0)), (2, (Value.slice (some ⟨501, 0, none⟩) n1 c2)), (3, (Value.int .i64 x3)), (4, (Value.pointer (some ⟨1000, 0, none⟩))), (9, (Value.slice (some ⟨1001, 0, none⟩) n4 n4)), (10, (Value.slice (some ⟨1002, 0, none⟩) n5 n5)), (11, (Value.int .i64 x6))], [(501, (AObj.sym l7 false 2)), (1000, (AObj.cells [(Value.slice (some ⟨500, 0, none⟩) n8 c9), (Value.int .i64 x10), (Value.int .i64 x11), (Value.int .i64 x12)] 28 false 1)), (1001, (AObj.sym l13 true 1)), (1002, (AObj.sym l14 true 1)), (500, (AObj.sym l15 false 2))])
def ren2 (C : Ct) (L : AtLoop) (x0 : Int) (n1 : Nat) (c2 : Nat) (x3 : Int) (n4 : Nat) (n5 : Nat) (x6 : Int) (l7 : List Value) (n8 : Nat) (c9 : Nat) (x10 : Int) (x11 : Int) (x12 : Int) (l13 : List Value) (l14 : List Value) (l15 : List Value) (B : Bx) (X : Xx) (k : List D → Prop) : Prop := wpRound Try.prog (hZ C) L 66 0 [(1, (Value.int .i64 x0)), (2, (Value.slice (some ⟨501, 0, none⟩) n1 c2)), (3, (Value.int .i64 x3)), (4, (Value.pointer (some ⟨1000, 0, none⟩))), (9, (Value.slice (some ⟨1001, 0, none⟩) n4 n4)), (10, (Value.slice (some ⟨1002, 0, none⟩) n5 n5)), (11, (Value.int .i64 x6))] [(501, (AObj.sym l7 false 2)), (1000, (AObj.cells [(Value.slice (some ⟨500, 0, none⟩) n8 c9), (Value.int .i64 x10), (Value.int .i64 x11), (Value.int .i64 x12)] 28 false 1)), (1001, (AObj.sym l13 true 1)), (1002, (AObj.sym l14 true 1)), (500, (AObj.sym l15 false 2))] B X (dataK k)
theorem ren2_text (C : Ct) (L : AtLoop) (x0 : Int) (n1 : Nat) (c2 : Nat) (x3 : Int) (n4 : Nat) (n5 : Nat) (x6 : Int) (l7 : List Go.Value) (n8 : Nat) (c9 : Nat) (x10 : Int) (x11 : Int) (x12 : Int) (l13 : List Go.Value) (l14 : List Go.Value) (l15 : List Go.Value) (B : Bx) (X : Xx) (k : List D → Prop) : ren2 C L x0 n1 c2 x3 n4 n5 x6 l7 n8 c9 x10 x11 x12 l13 l14 l15 B X k =
 (bcase (decide (x6 < (↑n1 : Int)))
 (bcase (decide (0 ≤ x6))
 (bcase (decide (x6 < (↑n1 : Int)))
 (∃ n2 : Int,
 ((At (l7) (0 + Int.toNat x6 * 2) 1 [(vI n2)]) ∧
 (bcase (decide (0 ≤ x6))
 (bcase (decide (x6 < (↑n1 : Int)))
 (∃ n3 : Int,
 ((At (l7) (Addr.off { block := 501, off := 0 + Int.toNat x6 * 2 } + 1) 1 [(vI n3)]) ∧
 ((((Qv (Sl 1004 1 1)) ∧
 (Qv (some (AObj.cells [(vI n3)] 3 false 1)))) ∧
 ((∃ n6 : Int,
 ((At (l7) (Addr.off { block := 501, off := 0 + Int.toNat x6 * 2 } + 1) 1 [(vI n6)]) ∧
 ((vI n6) = (vI n3)))) ∧
 ((Qv (Value.pointer (some (Addr.mk 501 (Addr.off { block := 501, off := 0 + Int.toNat x6 * 2 } + 1) none)))) ∧
 ((bcase (decide (0 ≤ x6))
 (bcase (decide (x6 < (↑n1 : Int)))
 (Qv (Pt 501 (0 + Int.toNat x6 * 2)))
 False)
 False) ∧
 ((Qv (vI x6)) ∧
 ((Qv (Sl 501 (n1) (c2))) ∧
 ((Qv (Sl 1002 (n5) (n5))) ∧
 (((Qv (Sl 1003 1 1)) ∧
 (Qv (some (AObj.cells [(vI n2)] 3 false 1)))) ∧
 ((∃ n6 : Int,
 ((At (l7) (0 + Int.toNat x6 * 2) 1 [(vI n6)]) ∧
 ((vI n6) = (vI n2)))) ∧
 ((Qv (Pt 501 (0 + Int.toNat x6 * 2))) ∧
 ((bcase (decide (0 ≤ x6))
 (bcase (decide (x6 < (↑n1 : Int)))
 (Qv (Pt 501 (0 + Int.toNat x6 * 2)))
 False)
 False) ∧
 ((Qv (vI x6)) ∧
 ((Qv (Sl 501 (n1) (c2))) ∧
 ((Qv (Sl 1001 (n4) (n4))) ∧
 True)))))))))))))) ∧
 (bcase (decide (n4 < n4 + 1))
 (bcase (decide ((2 * (n4 + 1) + 768) * 8 ≤ 281474976710656))
 (bcase (decide (n4 + 1 ≤ 1099511627776))
 (bcase (decide (0 + n4 * 1 ≤ List.length l13))
 (bcase (decide (0 + n4 * 1 = List.length l13))
 ((((Qv (Sl 1004 1 1)) ∧
 (Qv (some (AObj.cells [(vI n3)] 3 false 1)))) ∧
 ((∃ n6 : Int,
 ((At (l7) (Addr.off { block := 501, off := 0 + Int.toNat x6 * 2 } + 1) 1 [(vI n6)]) ∧
 ((vI n6) = (vI n3)))) ∧
 ((Qv (Value.pointer (some (Addr.mk 501 (Addr.off { block := 501, off := 0 + Int.toNat x6 * 2 } + 1) none)))) ∧
 ((bcase (decide (0 ≤ x6))
 (bcase (decide (x6 < (↑n1 : Int)))
 (Qv (Pt 501 (0 + Int.toNat x6 * 2)))
 False)
 False) ∧
 ((Qv (vI x6)) ∧
 ((Qv (Sl 501 (n1) (c2))) ∧
 ((Qv (Sl 1002 (n5) (n5))) ∧
 ((∃ n6 : Int,
 ((At (l7) (0 + Int.toNat x6 * 2) 1 [(vI n6)]) ∧
 ((vI n6) = (vI n2)))) ∧
 ((Qv (Pt 501 (0 + Int.toNat x6 * 2))) ∧
 ((bcase (decide (0 ≤ x6))
 (bcase (decide (x6 < (↑n1 : Int)))
 (Qv (Pt 501 (0 + Int.toNat x6 * 2)))
 False)
 False) ∧
 ((Qv (vI x6)) ∧
 ((Qv (Sl 501 (n1) (c2))) ∧
 True)))))))))))) ∧
 (bcase (decide (n5 < n5 + 1))
 (bcase (decide ((2 * (n5 + 1) + 768) * 8 ≤ 281474976710656))
 (bcase (decide (n5 + 1 ≤ 1099511627776))
 (bcase (decide (0 + n5 * 1 ≤ List.length l14))
 (bcase (decide (0 + n5 * 1 = List.length l14))
 (((∃ n6 : Int,
 ((At (l7) (Addr.off { block := 501, off := 0 + Int.toNat x6 * 2 } + 1) 1 [(vI n6)]) ∧
 ((vI n6) = (vI n3)))) ∧
 ((Qv (Value.pointer (some (Addr.mk 501 (Addr.off { block := 501, off := 0 + Int.toNat x6 * 2 } + 1) none)))) ∧
 ((bcase (decide (0 ≤ x6))
 (bcase (decide (x6 < (↑n1 : Int)))
 (Qv (Pt 501 (0 + Int.toNat x6 * 2)))
 False)
 False) ∧
 ((Qv (vI x6)) ∧
 ((Qv (Sl 501 (n1) (c2))) ∧
 ((∃ n6 : Int,
 ((At (l7) (0 + Int.toNat x6 * 2) 1 [(vI n6)]) ∧
 ((vI n6) = (vI n2)))) ∧
 ((Qv (Pt 501 (0 + Int.toNat x6 * 2))) ∧
 ((bcase (decide (0 ≤ x6))
 (bcase (decide (x6 < (↑n1 : Int)))
 (Qv (Pt 501 (0 + Int.toNat x6 * 2)))
 False)
 False) ∧
 ((Qv (vI x6)) ∧
 ((Qv (Sl 501 (n1) (c2))) ∧
 True)))))))))) ∧
 (((∃ n6 : Int,
 ((At (l7) (Addr.off { block := 501, off := 0 + Int.toNat x6 * 2 } + 1) 1 [(vI n6)]) ∧
 ((vI n6) = (vI n3)))) ∧
 ((Qv (Value.pointer (some (Addr.mk 501 (Addr.off { block := 501, off := 0 + Int.toNat x6 * 2 } + 1) none)))) ∧
 ((bcase (decide (0 ≤ x6))
 (bcase (decide (x6 < (↑n1 : Int)))
 (Qv (Pt 501 (0 + Int.toNat x6 * 2)))
 False)
 False) ∧
 ((Qv (vI x6)) ∧
 ((Qv (Sl 501 (n1) (c2))) ∧
 True))))) ∧
 (True ∧
 (B [(Prod.mk 1 (vI x0)), (Prod.mk 2 (Sl 501 (n1) (c2))), (Prod.mk 3 (vI x3)), (Prod.mk 4 (Pt 1000 0)), (Prod.mk 9 (Sl 1001 (n4 + 1) (n4 + 1))), (Prod.mk 10 (Sl 1002 (n5 + 1) (n5 + 1))), (Prod.mk 11 (vI (IntKind.wrap .i64 (x6 + 1))))] [(Prod.mk 501 (AObj.sym (l7) false 2)), (Prod.mk 1000 (AObj.cells [(Sl 500 (n8) (c9)), (vI x10), (vI x11), (vI x12)] 28 false 1)), (Prod.mk 1001 (AObj.sym ((List.take (n4 * 1) (List.drop 0 l13)) ++ [(vI n2)]) true 1)), (Prod.mk 1002 (AObj.sym ((List.take (n5 * 1) (List.drop 0 l14)) ++ [(vI n3)]) true 1)), (Prod.mk 500 (AObj.sym (l15) false 2))]))))
 False)
 False)
 False)
 False)
 False))
 False)
 False)
 False)
 False)
 False))))
 False)
 False)))
 False)
 False)
 (X 0 [(Prod.mk 1 (vI x0)), (Prod.mk 2 (Sl 501 (n1) (c2))), (Prod.mk 3 (vI x3)), (Prod.mk 4 (Pt 1000 0)), (Prod.mk 9 (Sl 1001 (n4) (n4))), (Prod.mk 10 (Sl 1002 (n5) (n5)))] [(Prod.mk 501 (AObj.sym (l7) false 2)), (Prod.mk 1000 (AObj.cells [(Sl 500 (n8) (c9)), (vI x10), (vI x11), (vI x12)] 28 false 1)), (Prod.mk 1001 (AObj.sym (l13) true 1)), (Prod.mk 1002 (AObj.sym (l14) true 1)), (Prod.mk 500 (AObj.sym (l15) false 2))])) := by kernel_rfl
def nen4 (C : Ct) (L : AtLoop) (x0 : Int) (n1 : Nat) (c2 : Nat) (x3 : Int) (n4 : Nat) (n5 : Nat) (l6 : List Value) (n7 : Nat) (c8 : Nat) (x9 : Int) (x10 : Int) (x11 : Int) (l12 : List Value) (l13 : List Value) (l14 : List Value) (k : List D → Prop) : Prop := wpNext Try.prog (hZ C) L 66 0 .normal [(1, (Value.int .i64 x0)), (2, (Value.slice (some ⟨501, 0, none⟩) n1 c2)), (3, (Value.int .i64 x3)), (4, (Value.pointer (some ⟨1000, 0, none⟩))), (9, (Value.slice (some ⟨1001, 0, none⟩) n4 n4)), (10, (Value.slice (some ⟨1002, 0, none⟩) n5 n5))] [(501, (AObj.sym l6 false 2)), (1000, (AObj.cells [(Value.slice (some ⟨500, 0, none⟩) n7 c8), (Value.int .i64 x9), (Value.int .i64 x10), (Value.int .i64 x11)] 28 false 1)), (1001, (AObj.sym l12 true 1)), (1002, (AObj.sym l13 true 1)), (500, (AObj.sym l14 false 2))] (dataK k)
theorem nen4_text (C : Ct) (L : AtLoop) (x0 : Int) (n1 : Nat) (c2 : Nat) (x3 : Int) (n4 : Nat) (n5 : Nat) (l6 : List Go.Value) (n7 : Nat) (c8 : Nat) (x9 : Int) (x10 : Int) (x11 : Int) (l12 : List Go.Value) (l13 : List Go.Value) (l14 : List Go.Value) (k : List D → Prop) : nen4 C L x0 n1 c2 x3 n4 n5 l6 n7 c8 x9 x10 x11 l12 l13 l14 k =
 ((((Qv (Pt 1004 0)) ∧
 (Qv (some (AObj.cells [(vI 0), (vI 0)] 48 false 2)))) ∧
 (((Qv (Pt 1003 0)) ∧
 (Qv (some (AObj.cells [(vI 0), (vI 0)] 48 false 2)))) ∧
 ((Qv (Value.agg [(vI x11), (vI x3)].toArray)) ∧
 ((Qv (vI x3)) ∧
 ((Qv (vI x11)) ∧
 ((Qv (Pt 1000 3)) ∧
 ((Qv (Pt 1000 2)) ∧
 ((Qv (Value.agg [(vI x10), (vI x3)].toArray)) ∧
 ((Qv (vI x3)) ∧
 ((Qv (vI x10)) ∧
 ((Qv (Pt 1000 2)) ∧
 ((Qv (Pt 1000 2)) ∧
 True)))))))))))) ∧
 (((Qv (Value.agg [(vI x11), (vI x3)].toArray)) ∧
 ((Qv (vI x3)) ∧
 ((Qv (vI x11)) ∧
 ((Qv (Pt 1000 3)) ∧
 ((Qv (Pt 1000 2)) ∧
 True))))) ∧
 (True ∧
 (bcase (decide (0 < (↑n1 : Int)))
 (∃ n2 : Int,
 ((At (l6) 0 1 [(vI n2)]) ∧
 (bcase (decide (0 < (↑n1 : Int)))
 (∃ n3 : Int,
 ((At (l6) 0 1 [(vI n3)]) ∧
 (((Qv (vI x0)) ∧
 ((∃ n6 : Int,
 ((At (l6) 0 1 [(vI n6)]) ∧
 ((vI n6) = (vI n3)))) ∧
 ((Qv (Pt 501 0)) ∧
 ((bcase (decide (0 < (↑n1 : Int)))
 (Qv (Pt 501 0))
 False) ∧
 ((Qv (Sl 501 (n1) (c2))) ∧
 ((Qv (Value.agg [(vI x11), (vI x3)].toArray)) ∧
 ((Qv (Value.agg [(Sl 500 (n7) (c8)), (vI x9), (vI x10), (vI x11)].toArray)) ∧
 ((Qv (vI x0)) ∧
 ((∃ n6 : Int,
 ((At (l6) 0 1 [(vI n6)]) ∧
 ((vI n6) = (vI n2)))) ∧
 ((Qv (Pt 501 0)) ∧
 ((bcase (decide (0 < (↑n1 : Int)))
 (Qv (Pt 501 0))
 False) ∧
 ((Qv (Sl 501 (n1) (c2))) ∧
 ((Qv (Value.agg [(vI x10), (vI x3)].toArray)) ∧
 ((Qv (Value.agg [(Sl 500 (n7) (c8)), (vI x9), (vI x10), (vI x11)].toArray)) ∧
 ((Qv (Sl 1001 (n4) (n4))) ∧
 True))))))))))))))) ∧
 (bcase (decide (0 + n7 * 2 ≤ List.length l14))
 (∃ n6 : Int,
 ((Says C 76 [(D.agg [(D.sl (n7) 2 (List.take (n7 * 2) (List.drop 0 l14))), (D.val (vI x9)), (D.val (vI x10)), (D.val (vI x11))]), (D.agg [(D.val (vI x10)), (D.val (vI x3))]), (D.val (vI n2)), (D.val (vI x0))] [(D.val (vI n6))]) ∧
 (((Qv (vI x0)) ∧
 ((∃ n8 : Int,
 ((At (l6) 0 1 [(vI n8)]) ∧
 ((vI n8) = (vI n3)))) ∧
 ((Qv (Pt 501 0)) ∧
 ((bcase (decide (0 < (↑n1 : Int)))
 (Qv (Pt 501 0))
 False) ∧
 ((Qv (Sl 501 (n1) (c2))) ∧
 ((Qv (Value.agg [(vI x11), (vI x3)].toArray)) ∧
 ((Qv (Value.agg [(Sl 500 (n7) (c8)), (vI x9), (vI x10), (vI x11)].toArray)) ∧
 ((Qv (Pt 501 0)) ∧
 ((bcase (decide (0 < (↑n1 : Int)))
 (Qv (Pt 501 0))
 False) ∧
 ((Qv (Sl 501 (n1) (c2))) ∧
 ((Qv (Sl 1001 (n4) (n4))) ∧
 True))))))))))) ∧
 (bcase (decide (0 + n7 * 2 ≤ List.length l14))
 (∃ n8 : Int,
 ((Says C 76 [(D.agg [(D.sl (n7) 2 (List.take (n7 * 2) (List.drop 0 l14))), (D.val (vI x9)), (D.val (vI x10)), (D.val (vI x11))]), (D.agg [(D.val (vI x11)), (D.val (vI x3))]), (D.val (vI n3)), (D.val (vI x0))] [(D.val (vI n8))]) ∧
 (bcase (decide (0 < (↑n4 : Int)))
 (((bcase (decide (0 < (↑n4 : Int)))
 (Qv (Pt 1001 0))
 False) ∧
 ((Qv (vI (if n8 < n6 then n8 else n6))) ∧
 ((Qv (Pt 501 0)) ∧
 ((bcase (decide (0 < (↑n1 : Int)))
 (Qv (Pt 501 0))
 False) ∧
 ((Qv (Sl 501 (n1) (c2))) ∧
 ((Qv (Pt 501 0)) ∧
 ((bcase (decide (0 < (↑n1 : Int)))
 (Qv (Pt 501 0))
 False) ∧
 ((Qv (Sl 501 (n1) (c2))) ∧
 ((Qv (Sl 1001 (n4) (n4))) ∧
 True))))))))) ∧
 (bcase (decide (1 ≤ List.length l12))
 (True ∧
 (bcase (decide (0 < (↑n1 : Int)))
 (∃ n9 : Int,
 ((At (l6) 1 1 [(vI n9)]) ∧
 (bcase (decide (0 < (↑n1 : Int)))
 (∃ n10 : Int,
 ((At (l6) 1 1 [(vI n10)]) ∧
 (((Qv (vI x0)) ∧
 ((∃ n11 : Int,
 ((At (l6) 1 1 [(vI n11)]) ∧
 ((vI n11) = (vI n10)))) ∧
 ((Qv (Pt 501 1)) ∧
 ((bcase (decide (0 < (↑n1 : Int)))
 (Qv (Pt 501 0))
 False) ∧
 ((Qv (Sl 501 (n1) (c2))) ∧
 ((Qv (Value.agg [(vI x11), (vI x3)].toArray)) ∧
 ((Qv (Value.agg [(Sl 500 (n7) (c8)), (vI x9), (vI x10), (vI x11)].toArray)) ∧
 ((Qv (vI x0)) ∧
 ((∃ n11 : Int,
 ((At (l6) 1 1 [(vI n11)]) ∧
 ((vI n11) = (vI n9)))) ∧
 ((Qv (Pt 501 1)) ∧
 ((bcase (decide (0 < (↑n1 : Int)))
 (Qv (Pt 501 0))
 False) ∧
 ((Qv (Sl 501 (n1) (c2))) ∧
 ((Qv (Value.agg [(vI x10), (vI x3)].toArray)) ∧
 ((Qv (Value.agg [(Sl 500 (n7) (c8)), (vI x9), (vI x10), (vI x11)].toArray)) ∧
 ((Qv (Sl 1002 (n5) (n5))) ∧
 True))))))))))))))) ∧
 (bcase (decide (0 + n7 * 2 ≤ List.length l14))
 (∃ n11 : Int,
 ((Says C 76 [(D.agg [(D.sl (n7) 2 (List.take (n7 * 2) (List.drop 0 l14))), (D.val (vI x9)), (D.val (vI x10)), (D.val (vI x11))]), (D.agg [(D.val (vI x10)), (D.val (vI x3))]), (D.val (vI n9)), (D.val (vI x0))] [(D.val (vI n11))]) ∧
 (((Qv (vI x0)) ∧
 ((∃ n12 : Int,
 ((At (l6) 1 1 [(vI n12)]) ∧
 ((vI n12) = (vI n10)))) ∧
 ((Qv (Pt 501 1)) ∧
 ((bcase (decide (0 < (↑n1 : Int)))
 (Qv (Pt 501 0))
 False) ∧
 ((Qv (Sl 501 (n1) (c2))) ∧
 ((Qv (Value.agg [(vI x11), (vI x3)].toArray)) ∧
 ((Qv (Value.agg [(Sl 500 (n7) (c8)), (vI x9), (vI x10), (vI x11)].toArray)) ∧
 ((Qv (Pt 501 1)) ∧
 ((bcase (decide (0 < (↑n1 : Int)))
 (Qv (Pt 501 0))
 False) ∧
 ((Qv (Sl 501 (n1) (c2))) ∧
 ((Qv (Sl 1002 (n5) (n5))) ∧
 True))))))))))) ∧
 (bcase (decide (0 + n7 * 2 ≤ List.length l14))
 (∃ n12 : Int,
 ((Says C 76 [(D.agg [(D.sl (n7) 2 (List.take (n7 * 2) (List.drop 0 l14))), (D.val (vI x9)), (D.val (vI x10)), (D.val (vI x11))]), (D.agg [(D.val (vI x11)), (D.val (vI x3))]), (D.val (vI n10)), (D.val (vI x0))] [(D.val (vI n12))]) ∧
 (bcase (decide (0 < (↑n5 : Int)))
 (((bcase (decide (0 < (↑n5 : Int)))
 (Qv (Pt 1002 0))
 False) ∧
 ((Qv (vI (if n12 > n11 then n12 else n11))) ∧
 ((Qv (Pt 501 1)) ∧
 ((bcase (decide (0 < (↑n1 : Int)))
 (Qv (Pt 501 0))
 False) ∧
 ((Qv (Sl 501 (n1) (c2))) ∧
 ((Qv (Pt 501 1)) ∧
 ((bcase (decide (0 < (↑n1 : Int)))
 (Qv (Pt 501 0))
 False) ∧
 ((Qv (Sl 501 (n1) (c2))) ∧
 ((Qv (Sl 1002 (n5) (n5))) ∧
 True))))))))) ∧
 (bcase (decide (1 ≤ List.length l13))
 (True ∧
 (bcase (decide (0 ≤ IntKind.wrap .i64 ((↑n1 : Int) - 1)))
 (bcase (decide (IntKind.wrap .i64 ((↑n1 : Int) - 1) < (↑n1 : Int)))
 (∃ n13 : Int,
 ((At (l6) (0 + Int.toNat (IntKind.wrap .i64 ((↑n1 : Int) - 1)) * 2) 1 [(vI n13)]) ∧
 (bcase (decide (0 ≤ IntKind.wrap .i64 ((↑n1 : Int) - 1)))
 (bcase (decide (IntKind.wrap .i64 ((↑n1 : Int) - 1) < (↑n1 : Int)))
 (∃ n14 : Int,
 ((At (l6) (0 + Int.toNat (IntKind.wrap .i64 ((↑n1 : Int) - 1)) * 2) 1 [(vI n14)]) ∧
 (((∃ n15 : Int,
 ((At (l6) (0 + Int.toNat (IntKind.wrap .i64 ((↑n1 : Int) - 1)) * 2) 1 [(vI n15)]) ∧
 ((vI n15) = (vI n14)))) ∧
 ((Qv (Pt 501 (0 + Int.toNat (IntKind.wrap .i64 ((↑n1 : Int) - 1)) * 2))) ∧
 ((bcase (decide (0 ≤ IntKind.wrap .i64 ((↑n1 : Int) - 1)))
 (bcase (decide (IntKind.wrap .i64 ((↑n1 : Int) - 1) < (↑n1 : Int)))
 (Qv (Pt 501 (0 + Int.toNat (IntKind.wrap .i64 ((↑n1 : Int) - 1)) * 2)))
 False)
 False) ∧
 ((Qv (vI (IntKind.wrap .i64 ((↑n1 : Int) - 1)))) ∧
 ((Qv (Sl 501 (n1) (c2))) ∧
 ((Qv (Value.agg [(vI x11), (vI x3)].toArray)) ∧
 ((Qv (Value.agg [(Sl 500 (n7) (c8)), (vI x9), (vI x10), (vI x11)].toArray)) ∧
 ((∃ n15 : Int,
 ((At (l6) (0 + Int.toNat (IntKind.wrap .i64 ((↑n1 : Int) - 1)) * 2) 1 [(vI n15)]) ∧
 ((vI n15) = (vI n13)))) ∧
 ((Qv (Pt 501 (0 + Int.toNat (IntKind.wrap .i64 ((↑n1 : Int) - 1)) * 2))) ∧
 ((bcase (decide (0 ≤ IntKind.wrap .i64 ((↑n1 : Int) - 1)))
 (bcase (decide (IntKind.wrap .i64 ((↑n1 : Int) - 1) < (↑n1 : Int)))
 (Qv (Pt 501 (0 + Int.toNat (IntKind.wrap .i64 ((↑n1 : Int) - 1)) * 2)))
 False)
 False) ∧
 ((Qv (vI (IntKind.wrap .i64 ((↑n1 : Int) - 1)))) ∧
 ((Qv (Sl 501 (n1) (c2))) ∧
 ((Qv (Value.agg [(vI x10), (vI x3)].toArray)) ∧
 ((Qv (Value.agg [(Sl 500 (n7) (c8)), (vI x9), (vI x10), (vI x11)].toArray)) ∧
 ((Qv (vI (IntKind.wrap .i64 ((↑n1 : Int) - 1)))) ∧
 ((Qv (Sl 1001 (n4) (n4))) ∧
 True)))))))))))))))) ∧
 (bcase (decide (0 + n7 * 2 ≤ List.length l14))
 (∃ n15 : Int,
 ((Says C 77 [(D.agg [(D.sl (n7) 2 (List.take (n7 * 2) (List.drop 0 l14))), (D.val (vI x9)), (D.val (vI x10)), (D.val (vI x11))]), (D.agg [(D.val (vI x10)), (D.val (vI x3))]), (D.val (vI n13))] [(D.val (vI n15))]) ∧
 (((∃ n16 : Int,
 ((At (l6) (0 + Int.toNat (IntKind.wrap .i64 ((↑n1 : Int) - 1)) * 2) 1 [(vI n16)]) ∧
 ((vI n16) = (vI n14)))) ∧
 ((Qv (Pt 501 (0 + Int.toNat (IntKind.wrap .i64 ((↑n1 : Int) - 1)) * 2))) ∧
 ((bcase (decide (0 ≤ IntKind.wrap .i64 ((↑n1 : Int) - 1)))
 (bcase (decide (IntKind.wrap .i64 ((↑n1 : Int) - 1) < (↑n1 : Int)))
 (Qv (Pt 501 (0 + Int.toNat (IntKind.wrap .i64 ((↑n1 : Int) - 1)) * 2)))
 False)
 False) ∧
 ((Qv (vI (IntKind.wrap .i64 ((↑n1 : Int) - 1)))) ∧
 ((Qv (Sl 501 (n1) (c2))) ∧
 ((Qv (Value.agg [(vI x11), (vI x3)].toArray)) ∧
 ((Qv (Value.agg [(Sl 500 (n7) (c8)), (vI x9), (vI x10), (vI x11)].toArray)) ∧
 ((Qv (Pt 501 (0 + Int.toNat (IntKind.wrap .i64 ((↑n1 : Int) - 1)) * 2))) ∧
 ((bcase (decide (0 ≤ IntKind.wrap .i64 ((↑n1 : Int) - 1)))
 (bcase (decide (IntKind.wrap .i64 ((↑n1 : Int) - 1) < (↑n1 : Int)))
 (Qv (Pt 501 (0 + Int.toNat (IntKind.wrap .i64 ((↑n1 : Int) - 1)) * 2)))
 False)
 False) ∧
 ((Qv (vI (IntKind.wrap .i64 ((↑n1 : Int) - 1)))) ∧
 ((Qv (Sl 501 (n1) (c2))) ∧
 ((Qv (vI (IntKind.wrap .i64 ((↑n1 : Int) - 1)))) ∧
 ((Qv (Sl 1001 (n4) (n4))) ∧
 True))))))))))))) ∧
 (bcase (decide (0 + n7 * 2 ≤ List.length l14))
 (∃ n16 : Int,
 ((Says C 77 [(D.agg [(D.sl (n7) 2 (List.take (n7 * 2) (List.drop 0 l14))), (D.val (vI x9)), (D.val (vI x10)), (D.val (vI x11))]), (D.agg [(D.val (vI x11)), (D.val (vI x3))]), (D.val (vI n14))] [(D.val (vI n16))]) ∧
 (bcase (decide (0 ≤ IntKind.wrap .i64 ((↑n1 : Int) - 1)))
 (bcase (decide (IntKind.wrap .i64 ((↑n1 : Int) - 1) < (↑n4 : Int)))
 (((bcase (decide (0 ≤ IntKind.wrap .i64 ((↑n1 : Int) - 1)))
 (bcase (decide (IntKind.wrap .i64 ((↑n1 : Int) - 1) < (↑n4 : Int)))
 (Qv (Pt 1001 (0 + Int.toNat (IntKind.wrap .i64 ((↑n1 : Int) - 1)) * 1)))
 False)
 False) ∧
 ((Qv (vI (if n16 < n15 then n16 else n15))) ∧
 ((Qv (Pt 501 (0 + Int.toNat (IntKind.wrap .i64 ((↑n1 : Int) - 1)) * 2))) ∧
 ((bcase (decide (0 ≤ IntKind.wrap .i64 ((↑n1 : Int) - 1)))
 (bcase (decide (IntKind.wrap .i64 ((↑n1 : Int) - 1) < (↑n1 : Int)))
 (Qv (Pt 501 (0 + Int.toNat (IntKind.wrap .i64 ((↑n1 : Int) - 1)) * 2)))
 False)
 False) ∧
 ((Qv (vI (IntKind.wrap .i64 ((↑n1 : Int) - 1)))) ∧
 ((Qv (Sl 501 (n1) (c2))) ∧
 ((Qv (Pt 501 (0 + Int.toNat (IntKind.wrap .i64 ((↑n1 : Int) - 1)) * 2))) ∧
 ((bcase (decide (0 ≤ IntKind.wrap .i64 ((↑n1 : Int) - 1)))
 (bcase (decide (IntKind.wrap .i64 ((↑n1 : Int) - 1) < (↑n1 : Int)))
 (Qv (Pt 501 (0 + Int.toNat (IntKind.wrap .i64 ((↑n1 : Int) - 1)) * 2)))
 False)
 False) ∧
 ((Qv (vI (IntKind.wrap .i64 ((↑n1 : Int) - 1)))) ∧
 ((Qv (Sl 501 (n1) (c2))) ∧
 ((Qv (vI (IntKind.wrap .i64 ((↑n1 : Int) - 1)))) ∧
 ((Qv (Sl 1001 (n4) (n4))) ∧
 True)))))))))))) ∧
 (bcase (decide (0 + Int.toNat (IntKind.wrap .i64 ((↑n1 : Int) - 1)) * 1 + 1 ≤ List.length (vI (if n8 < n6 then n8 else n6) :: (List.drop (0 + List.length [vI (if n8 < n6 then n8 else n6)]) l12))))
 (True ∧
 (bcase (decide (0 ≤ IntKind.wrap .i64 ((↑n1 : Int) - 1)))
 (bcase (decide (IntKind.wrap .i64 ((↑n1 : Int) - 1) < (↑n1 : Int)))
 (∃ n17 : Int,
 ((At (l6) (Addr.off { block := 501, off := 0 + Int.toNat (IntKind.wrap .i64 ((↑n1 : Int) - 1)) * 2 } + 1) 1 [(vI n17)]) ∧
 (bcase (decide (0 ≤ IntKind.wrap .i64 ((↑n1 : Int) - 1)))
 (bcase (decide (IntKind.wrap .i64 ((↑n1 : Int) - 1) < (↑n1 : Int)))
 (∃ n18 : Int,
 ((At (l6) (Addr.off { block := 501, off := 0 + Int.toNat (IntKind.wrap .i64 ((↑n1 : Int) - 1)) * 2 } + 1) 1 [(vI n18)]) ∧
 (((∃ n19 : Int,
 ((At (l6) (Addr.off { block := 501, off := 0 + Int.toNat (IntKind.wrap .i64 ((↑n1 : Int) - 1)) * 2 } + 1) 1 [(vI n19)]) ∧
 ((vI n19) = (vI n18)))) ∧
 ((Qv (Value.pointer (some (Addr.mk 501 (Addr.off { block := 501, off := 0 + Int.toNat (IntKind.wrap .i64 ((↑n1 : Int) - 1)) * 2 } + 1) none)))) ∧
 ((bcase (decide (0 ≤ IntKind.wrap .i64 ((↑n1 : Int) - 1)))
 (bcase (decide (IntKind.wrap .i64 ((↑n1 : Int) - 1) < (↑n1 : Int)))
 (Qv (Pt 501 (0 + Int.toNat (IntKind.wrap .i64 ((↑n1 : Int) - 1)) * 2)))
 False)
 False) ∧
 ((Qv (vI (IntKind.wrap .i64 ((↑n1 : Int) - 1)))) ∧
 ((Qv (Sl 501 (n1) (c2))) ∧
 ((Qv (Value.agg [(vI x11), (vI x3)].toArray)) ∧
 ((Qv (Value.agg [(Sl 500 (n7) (c8)), (vI x9), (vI x10), (vI x11)].toArray)) ∧
 ((∃ n19 : Int,
 ((At (l6) (Addr.off { block := 501, off := 0 + Int.toNat (IntKind.wrap .i64 ((↑n1 : Int) - 1)) * 2 } + 1) 1 [(vI n19)]) ∧
 ((vI n19) = (vI n17)))) ∧
 ((Qv (Value.pointer (some (Addr.mk 501 (Addr.off { block := 501, off := 0 + Int.toNat (IntKind.wrap .i64 ((↑n1 : Int) - 1)) * 2 } + 1) none)))) ∧
 ((bcase (decide (0 ≤ IntKind.wrap .i64 ((↑n1 : Int) - 1)))
 (bcase (decide (IntKind.wrap .i64 ((↑n1 : Int) - 1) < (↑n1 : Int)))
 (Qv (Pt 501 (0 + Int.toNat (IntKind.wrap .i64 ((↑n1 : Int) - 1)) * 2)))
 False)
 False) ∧
 ((Qv (vI (IntKind.wrap .i64 ((↑n1 : Int) - 1)))) ∧
 ((Qv (Sl 501 (n1) (c2))) ∧
 ((Qv (Value.agg [(vI x10), (vI x3)].toArray)) ∧
 ((Qv (Value.agg [(Sl 500 (n7) (c8)), (vI x9), (vI x10), (vI x11)].toArray)) ∧
 ((Qv (vI (IntKind.wrap .i64 ((↑n1 : Int) - 1)))) ∧
 ((Qv (Sl 1002 (n5) (n5))) ∧
 True)))))))))))))))) ∧
 (bcase (decide (0 + n7 * 2 ≤ List.length l14))
 (∃ n19 : Int,
 ((Says C 77 [(D.agg [(D.sl (n7) 2 (List.take (n7 * 2) (List.drop 0 l14))), (D.val (vI x9)), (D.val (vI x10)), (D.val (vI x11))]), (D.agg [(D.val (vI x10)), (D.val (vI x3))]), (D.val (vI n17))] [(D.val (vI n19))]) ∧
 (((∃ n20 : Int,
 ((At (l6) (Addr.off { block := 501, off := 0 + Int.toNat (IntKind.wrap .i64 ((↑n1 : Int) - 1)) * 2 } + 1) 1 [(vI n20)]) ∧
 ((vI n20) = (vI n18)))) ∧
 ((Qv (Value.pointer (some (Addr.mk 501 (Addr.off { block := 501, off := 0 + Int.toNat (IntKind.wrap .i64 ((↑n1 : Int) - 1)) * 2 } + 1) none)))) ∧
 ((bcase (decide (0 ≤ IntKind.wrap .i64 ((↑n1 : Int) - 1)))
 (bcase (decide (IntKind.wrap .i64 ((↑n1 : Int) - 1) < (↑n1 : Int)))
 (Qv (Pt 501 (0 + Int.toNat (IntKind.wrap .i64 ((↑n1 : Int) - 1)) * 2)))
 False)
 False) ∧
 ((Qv (vI (IntKind.wrap .i64 ((↑n1 : Int) - 1)))) ∧
 ((Qv (Sl 501 (n1) (c2))) ∧
 ((Qv (Value.agg [(vI x11), (vI x3)].toArray)) ∧
 ((Qv (Value.agg [(Sl 500 (n7) (c8)), (vI x9), (vI x10), (vI x11)].toArray)) ∧
 ((Qv (Value.pointer (some (Addr.mk 501 (Addr.off { block := 501, off := 0 + Int.toNat (IntKind.wrap .i64 ((↑n1 : Int) - 1)) * 2 } + 1) none)))) ∧
 ((bcase (decide (0 ≤ IntKind.wrap .i64 ((↑n1 : Int) - 1)))
 (bcase (decide (IntKind.wrap .i64 ((↑n1 : Int) - 1) < (↑n1 : Int)))
 (Qv (Pt 501 (0 + Int.toNat (IntKind.wrap .i64 ((↑n1 : Int) - 1)) * 2)))
 False)
 False) ∧
 ((Qv (vI (IntKind.wrap .i64 ((↑n1 : Int) - 1)))) ∧
 ((Qv (Sl 501 (n1) (c2))) ∧
 ((Qv (vI (IntKind.wrap .i64 ((↑n1 : Int) - 1)))) ∧
 ((Qv (Sl 1002 (n5) (n5))) ∧
 True))))))))))))) ∧
 (bcase (decide (0 + n7 * 2 ≤ List.length l14))
 (∃ n20 : Int,
 ((Says C 77 [(D.agg [(D.sl (n7) 2 (List.take (n7 * 2) (List.drop 0 l14))), (D.val (vI x9)), (D.val (vI x10)), (D.val (vI x11))]), (D.agg [(D.val (vI x11)), (D.val (vI x3))]), (D.val (vI n18))] [(D.val (vI n20))]) ∧
 (bcase (decide (0 ≤ IntKind.wrap .i64 ((↑n1 : Int) - 1)))
 (bcase (decide (IntKind.wrap .i64 ((↑n1 : Int) - 1) < (↑n5 : Int)))
 (((bcase (decide (0 ≤ IntKind.wrap .i64 ((↑n1 : Int) - 1)))
 (bcase (decide (IntKind.wrap .i64 ((↑n1 : Int) - 1) < (↑n5 : Int)))
 (Qv (Pt 1002 (0 + Int.toNat (IntKind.wrap .i64 ((↑n1 : Int) - 1)) * 1)))
 False)
 False) ∧
 ((Qv (vI (if n20 > n19 then n20 else n19))) ∧
 ((Qv (Value.pointer (some (Addr.mk 501 (Addr.off { block := 501, off := 0 + Int.toNat (IntKind.wrap .i64 ((↑n1 : Int) - 1)) * 2 } + 1) none)))) ∧
 ((bcase (decide (0 ≤ IntKind.wrap .i64 ((↑n1 : Int) - 1)))
 (bcase (decide (IntKind.wrap .i64 ((↑n1 : Int) - 1) < (↑n1 : Int)))
 (Qv (Pt 501 (0 + Int.toNat (IntKind.wrap .i64 ((↑n1 : Int) - 1)) * 2)))
 False)
 False) ∧
 ((Qv (vI (IntKind.wrap .i64 ((↑n1 : Int) - 1)))) ∧
 ((Qv (Sl 501 (n1) (c2))) ∧
 ((Qv (Value.pointer (some (Addr.mk 501 (Addr.off { block := 501, off := 0 + Int.toNat (IntKind.wrap .i64 ((↑n1 : Int) - 1)) * 2 } + 1) none)))) ∧
 ((bcase (decide (0 ≤ IntKind.wrap .i64 ((↑n1 : Int) - 1)))
 (bcase (decide (IntKind.wrap .i64 ((↑n1 : Int) - 1) < (↑n1 : Int)))
 (Qv (Pt 501 (0 + Int.toNat (IntKind.wrap .i64 ((↑n1 : Int) - 1)) * 2)))
 False)
 False) ∧
 ((Qv (vI (IntKind.wrap .i64 ((↑n1 : Int) - 1)))) ∧
 ((Qv (Sl 501 (n1) (c2))) ∧
 ((Qv (vI (IntKind.wrap .i64 ((↑n1 : Int) - 1)))) ∧
 ((Qv (Sl 1002 (n5) (n5))) ∧
 True)))))))))))) ∧
 (bcase (decide (0 + Int.toNat (IntKind.wrap .i64 ((↑n1 : Int) - 1)) * 1 + 1 ≤ List.length (vI (if n12 > n11 then n12 else n11) :: (List.drop (0 + List.length [vI (if n12 > n11 then n12 else n11)]) l13))))
 (True ∧
 (((Qv (Sl 1002 (n5) (n5))) ∧
 ((Qv (Value.agg [(Sl 500 (n7) (c8)), (vI x9), (vI x10), (vI x11)].toArray)) ∧
 ((Qv (Sl 1001 (n4) (n4))) ∧
 ((Qv (Value.agg [(Sl 500 (n7) (c8)), (vI x9), (vI x10), (vI x11)].toArray)) ∧
 True)))) ∧
 (bcase (decide (0 + n7 * 2 ≤ List.length l14))
 (bcase (decide (0 + n4 * 1 ≤ List.length (listSet (vI (if n8 < n6 then n8 else n6) :: (List.drop (0 + List.length [vI (if n8 < n6 then n8 else n6)]) l12)) (0 + Int.toNat (IntKind.wrap .i64 ((↑n1 : Int) - 1)) * 1) [vI (if n16 < n15 then n16 else n15)])))
 (((Says C 78 [(D.agg [(D.sl (n7) 2 (List.take (n7 * 2) (List.drop 0 l14))), (D.val (vI x9)), (D.val (vI x10)), (D.val (vI x11))]), (D.sl (n4) 1 (List.take (n4 * 1) (List.drop 0 (listSet (vI (if n8 < n6 then n8 else n6) :: (List.drop (0 + List.length [vI (if n8 < n6 then n8 else n6)]) l12)) (0 + Int.toNat (IntKind.wrap .i64 ((↑n1 : Int) - 1)) * 1) [vI (if n16 < n15 then n16 else n15)]))))] [D.nil]) ∧
 (((Qv (Sl 1002 (n5) (n5))) ∧
 ((Qv (Value.agg [(Sl 500 (n7) (c8)), (vI x9), (vI x10), (vI x11)].toArray)) ∧
 True)) ∧
 (bcase (decide (0 + n7 * 2 ≤ List.length l14))
 (bcase (decide (0 + n5 * 1 ≤ List.length (listSet (vI (if n12 > n11 then n12 else n11) :: (List.drop (0 + List.length [vI (if n12 > n11 then n12 else n11)]) l13)) (0 + Int.toNat (IntKind.wrap .i64 ((↑n1 : Int) - 1)) * 1) [vI (if n20 > n19 then n20 else n19)])))
 (((Says C 78 [(D.agg [(D.sl (n7) 2 (List.take (n7 * 2) (List.drop 0 l14))), (D.val (vI x9)), (D.val (vI x10)), (D.val (vI x11))]), (D.sl (n5) 1 (List.take (n5 * 1) (List.drop 0 (listSet (vI (if n12 > n11 then n12 else n11) :: (List.drop (0 + List.length [vI (if n12 > n11 then n12 else n11)]) l13)) (0 + Int.toNat (IntKind.wrap .i64 ((↑n1 : Int) - 1)) * 1) [vI (if n20 > n19 then n20 else n19)]))))] [D.nil]) ∧
 (True ∧
 (True ∧
 (True ∧
 (L 2 [(Prod.mk 2 (Sl 501 (n1) (c2))), (Prod.mk 9 (Value.slice none 0 0)), (Prod.mk 10 (Value.slice none 0 0)), (Prod.mk 15 (Value.slice none 0 0)), (Prod.mk 16 (vI 0))] [(Prod.mk 501 (AObj.sym (l6) false 2))]))))) ∨
 (∃ n21 : Nat,
 (∃ cs1 : List Go.Value,
 ((Says C 78 [(D.agg [(D.sl (n7) 2 (List.take (n7 * 2) (List.drop 0 l14))), (D.val (vI x9)), (D.val (vI x10)), (D.val (vI x11))]), (D.sl (n5) 1 (List.take (n5 * 1) (List.drop 0 (listSet (vI (if n12 > n11 then n12 else n11) :: (List.drop (0 + List.length [vI (if n12 > n11 then n12 else n11)]) l13)) (0 + Int.toNat (IntKind.wrap .i64 ((↑n1 : Int) - 1)) * 1) [vI (if n20 > n19 then n20 else n19)]))))] [(D.sl (n21) 1 (cs1))]) ∧
 (True ∧
 (True ∧
 (True ∧
 (L 2 [(Prod.mk 2 (Sl 501 (n1) (c2))), (Prod.mk 9 (Value.slice none 0 0)), (Prod.mk 10 (Sl 1000 (n21) (n21))), (Prod.mk 15 (Value.slice none 0 0)), (Prod.mk 16 (vI 0))] [(Prod.mk 501 (AObj.sym (l6) false 2)), (Prod.mk 1000 (AObj.sym (cs1) true 1))]))))))))
 False)
 False))) ∨
 (∃ n21 : Nat,
 (∃ cs1 : List Go.Value,
 ((Says C 78 [(D.agg [(D.sl (n7) 2 (List.take (n7 * 2) (List.drop 0 l14))), (D.val (vI x9)), (D.val (vI x10)), (D.val (vI x11))]), (D.sl (n4) 1 (List.take (n4 * 1) (List.drop 0 (listSet (vI (if n8 < n6 then n8 else n6) :: (List.drop (0 + List.length [vI (if n8 < n6 then n8 else n6)]) l12)) (0 + Int.toNat (IntKind.wrap .i64 ((↑n1 : Int) - 1)) * 1) [vI (if n16 < n15 then n16 else n15)]))))] [(D.sl (n21) 1 (cs1))]) ∧
 (((Qv (Sl 1002 (n5) (n5))) ∧
 ((Qv (Value.agg [(Sl 500 (n7) (c8)), (vI x9), (vI x10), (vI x11)].toArray)) ∧
 True)) ∧
 (bcase (decide (0 + n7 * 2 ≤ List.length l14))
 (bcase (decide (0 + n5 * 1 ≤ List.length (listSet (vI (if n12 > n11 then n12 else n11) :: (List.drop (0 + List.length [vI (if n12 > n11 then n12 else n11)]) l13)) (0 + Int.toNat (IntKind.wrap .i64 ((↑n1 : Int) - 1)) * 1) [vI (if n20 > n19 then n20 else n19)])))
 (((Says C 78 [(D.agg [(D.sl (n7) 2 (List.take (n7 * 2) (List.drop 0 l14))), (D.val (vI x9)), (D.val (vI x10)), (D.val (vI x11))]), (D.sl (n5) 1 (List.take (n5 * 1) (List.drop 0 (listSet (vI (if n12 > n11 then n12 else n11) :: (List.drop (0 + List.length [vI (if n12 > n11 then n12 else n11)]) l13)) (0 + Int.toNat (IntKind.wrap .i64 ((↑n1 : Int) - 1)) * 1) [vI (if n20 > n19 then n20 else n19)]))))] [D.nil]) ∧
 (True ∧
 (True ∧
 (True ∧
 (L 2 [(Prod.mk 2 (Sl 501 (n1) (c2))), (Prod.mk 9 (Sl 1000 (n21) (n21))), (Prod.mk 10 (Value.slice none 0 0)), (Prod.mk 15 (Value.slice none 0 0)), (Prod.mk 16 (vI 0))] [(Prod.mk 501 (AObj.sym (l6) false 2)), (Prod.mk 1000 (AObj.sym (cs1) true 1))]))))) ∨
 (∃ n22 : Nat,
 (∃ cs2 : List Go.Value,
 ((Says C 78 [(D.agg [(D.sl (n7) 2 (List.take (n7 * 2) (List.drop 0 l14))), (D.val (vI x9)), (D.val (vI x10)), (D.val (vI x11))]), (D.sl (n5) 1 (List.take (n5 * 1) (List.drop 0 (listSet (vI (if n12 > n11 then n12 else n11) :: (List.drop (0 + List.length [vI (if n12 > n11 then n12 else n11)]) l13)) (0 + Int.toNat (IntKind.wrap .i64 ((↑n1 : Int) - 1)) * 1) [vI (if n20 > n19 then n20 else n19)]))))] [(D.sl (n22) 1 (cs2))]) ∧
 (True ∧
 (True ∧
 (True ∧
 (L 2 [(Prod.mk 2 (Sl 501 (n1) (c2))), (Prod.mk 9 (Sl 1000 (n21) (n21))), (Prod.mk 10 (Sl 1001 (n22) (n22))), (Prod.mk 15 (Value.slice none 0 0)), (Prod.mk 16 (vI 0))] [(Prod.mk 501 (AObj.sym (l6) false 2)), (Prod.mk 1000 (AObj.sym (cs1) true 1)), (Prod.mk 1001 (AObj.sym (cs2) true 1))]))))))))
 False)
 False))))))
 False)
 False)))
 False))
 False)
 False)))
 False))))
 False))))
 False)
 False)))
 False)
 False))
 False))
 False)
 False)))
 False))))
 False))))
 False)
 False)))
 False)
 False))
 False))
 False)))
 False))))
 False))))
 False)))
 False))
 False))
 False)))
 False))))
 False))))
 False)))
 False)))) := by kernel_rfl
abbrev zen8 (n0 : Nat) (c1 : Nat) (n2 : Nat) (n3 : Nat) (x4 : Int) (l5 : List Value) (l6 : List Value) (l7 : List Value) : Slots × Blocks := ([(2, (Value.slice (some ⟨501, 0, none⟩) n0 c1)), (9, (Value.slice (some ⟨1000, 0, none⟩) n2 n2)), (10, (Value.slice (some ⟨1001, 0, none⟩) n3 n3)), (15, (Value.slice none 0 0)), (16, (Value.int .i64 x4))], [(501, (AObj.sym l5 false 2)), (1000, (AObj.sym l6 true 1)), (1001, (AObj.sym l7 true 1))])
def ren8 (C : Ct) (L : AtLoop) (n0 : Nat) (c1 : Nat) (n2 : Nat) (n3 : Nat) (x4 : Int) (l5 : List Value) (l6 : List Value) (l7 : List Value) (B : Bx) (X : Xx) (k : List D → Prop) : Prop := wpRound Try.prog (hZ C) L 66 2 [(2, (Value.slice (some ⟨501, 0, none⟩) n0 c1)), (9, (Value.slice (some ⟨1000, 0, none⟩) n2 n2)), (10, (Value.slice (some ⟨1001, 0, none⟩) n3 n3)), (15, (Value.slice none 0 0)), (16, (Value.int .i64 x4))] [(501, (AObj.sym l5 false 2)), (1000, (AObj.sym l6 true 1)), (1001, (AObj.sym l7 true 1))] B X (dataK k)
theorem ren8_text (C : Ct) (L : AtLoop) (n0 : Nat) (c1 : Nat) (n2 : Nat) (n3 : Nat) (x4 : Int) (l5 : List Go.Value) (l6 : List Go.Value) (l7 : List Go.Value) (B : Bx) (X : Xx) (k : List D → Prop) : ren8 C L n0 c1 n2 n3 x4 l5 l6 l7 B X k =
 (bcase (decide (x4 < (↑n0 : Int)))
 (bcase (decide (0 ≤ x4))
 (bcase (decide (x4 < (↑n2 : Int)))
 (∃ n1 : Int,
 ((At (l6) (0 + Int.toNat x4 * 1) 1 [(vI n1)]) ∧
 (bcase (decide (0 ≤ x4))
 (bcase (decide (x4 < (↑n3 : Int)))
 (∃ n4 : Int,
 ((At (l7) (0 + Int.toNat x4 * 1) 1 [(vI n4)]) ∧
 ((((Qv (Sl 1002 1 1)) ∧
 (Qv (some (AObj.cells [(vI n1), (vI n4)] 26 false 2)))) ∧
 ((Qv (Value.agg [(vI n1), (vI n4)].toArray)) ∧
 ((∃ n5 : Int,
 ((At (l7) (0 + Int.toNat x4 * 1) 1 [(vI n5)]) ∧
 ((vI n5) = (vI n4)))) ∧
 ((bcase (decide (0 ≤ x4))
 (bcase (decide (x4 < (↑n3 : Int)))
 (Qv (Pt 1001 (0 + Int.toNat x4 * 1)))
 False)
 False) ∧
 ((Qv (vI x4)) ∧
 ((Qv (Sl 1001 (n3) (n3))) ∧
 ((∃ n5 : Int,
 ((At (l6) (0 + Int.toNat x4 * 1) 1 [(vI n5)]) ∧
 ((vI n5) = (vI n1)))) ∧
 ((bcase (decide (0 ≤ x4))
 (bcase (decide (x4 < (↑n2 : Int)))
 (Qv (Pt 1000 (0 + Int.toNat x4 * 1)))
 False)
 False) ∧
 ((Qv (vI x4)) ∧
 ((Qv (Sl 1000 (n2) (n2))) ∧
 ((Qv (Value.slice none 0 0)) ∧
 True))))))))))) ∧
 (((Qv (Value.agg [(vI n1), (vI n4)].toArray)) ∧
 ((∃ n5 : Int,
 ((At (l7) (0 + Int.toNat x4 * 1) 1 [(vI n5)]) ∧
 ((vI n5) = (vI n4)))) ∧
 ((bcase (decide (0 ≤ x4))
 (bcase (decide (x4 < (↑n3 : Int)))
 (Qv (Pt 1001 (0 + Int.toNat x4 * 1)))
 False)
 False) ∧
 ((Qv (vI x4)) ∧
 ((Qv (Sl 1001 (n3) (n3))) ∧
 ((∃ n5 : Int,
 ((At (l6) (0 + Int.toNat x4 * 1) 1 [(vI n5)]) ∧
 ((vI n5) = (vI n1)))) ∧
 ((bcase (decide (0 ≤ x4))
 (bcase (decide (x4 < (↑n2 : Int)))
 (Qv (Pt 1000 (0 + Int.toNat x4 * 1)))
 False)
 False) ∧
 ((Qv (vI x4)) ∧
 ((Qv (Sl 1000 (n2) (n2))) ∧
 True))))))))) ∧
 (True ∧
 (B [(Prod.mk 2 (Sl 501 (n0) (c1))), (Prod.mk 9 (Sl 1000 (n2) (n2))), (Prod.mk 10 (Sl 1001 (n3) (n3))), (Prod.mk 15 (Sl 1002 1 1)), (Prod.mk 16 (vI (IntKind.wrap .i64 (x4 + 1))))] [(Prod.mk 501 (AObj.sym (l5) false 2)), (Prod.mk 1000 (AObj.sym (l6) true 1)), (Prod.mk 1001 (AObj.sym (l7) true 1)), (Prod.mk 1002 (AObj.sym [(vI n1), (vI n4)] true 2))]))))))
 False)
 False)))
 False)
 False)
 (X 2 [(Prod.mk 15 (Value.slice none 0 0))] [])) := by kernel_rfl
abbrev zen10 (n0 : Nat) (c1 : Nat) (n2 : Nat) (n3 : Nat) (n4 : Nat) (x5 : Int) (l6 : List Value) (l7 : List Value) (l8 : List Value) (l9 : List Value) : Slots × Blocks := ([(2, (Value.slice (some ⟨501, 0, none⟩) n0 c1)), (9, (Value.slice (some ⟨1000, 0, none⟩) n2 n2)), (10, (Value.slice (some ⟨1001, 0, none⟩) n3 n3)), (15, (Value.slice (some ⟨1002, 0, none⟩) n4 n4)), (16, (Value.int .i64 x5))], [(501, (AObj.sym l6 false 2)), (1000, (AObj.sym l7 true 1)), (1001, (AObj.sym l8 true 1)), (1002, (AObj.sym l9 true 2))])
def ren10 (C : Ct) (L : AtLoop) (n0 : Nat) (c1 : Nat) (n2 : Nat) (n3 : Nat) (n4 : Nat) (x5 : Int) (l6 : List Value) (l7 : List Value) (l8 : List Value) (l9 : List Value) (B : Bx) (X : Xx) (k : List D → Prop) : Prop := wpRound Try.prog (hZ C) L 66 2 [(2, (Value.slice (some ⟨501, 0, none⟩) n0 c1)), (9, (Value.slice (some ⟨1000, 0, none⟩) n2 n2)), (10, (Value.slice (some ⟨1001, 0, none⟩) n3 n3)), (15, (Value.slice (some ⟨1002, 0, none⟩) n4 n4)), (16, (Value.int .i64 x5))] [(501, (AObj.sym l6 false 2)), (1000, (AObj.sym l7 true 1)), (1001, (AObj.sym l8 true 1)), (1002, (AObj.sym l9 true 2))] B X (dataK k)
theorem ren10_text (C : Ct) (L : AtLoop) (n0 : Nat) (c1 : Nat) (n2 : Nat) (n3 : Nat) (n4 : Nat) (x5 : Int) (l6 : List Go.Value) (l7 : List Go.Value) (l8 : List Go.Value) (l9 : List Go.Value) (B : Bx) (X : Xx) (k : List D → Prop) : ren10 C L n0 c1 n2 n3 n4 x5 l6 l7 l8 l9 B X k =
 (bcase (decide (x5 < (↑n0 : Int)))
 (bcase (decide (0 ≤ x5))
 (bcase (decide (x5 < (↑n2 : Int)))
 (∃ n1 : Int,
 ((At (l7) (0 + Int.toNat x5 * 1) 1 [(vI n1)]) ∧
 (bcase (decide (0 ≤ x5))
 (bcase (decide (x5 < (↑n3 : Int)))
 (∃ n5 : Int,
 ((At (l8) (0 + Int.toNat x5 * 1) 1 [(vI n5)]) ∧
 ((((Qv (Sl 1003 1 1)) ∧
 (Qv (some (AObj.cells [(vI n1), (vI n5)] 26 false 2)))) ∧
 ((Qv (Value.agg [(vI n1), (vI n5)].toArray)) ∧
 ((∃ n6 : Int,
 ((At (l8) (0 + Int.toNat x5 * 1) 1 [(vI n6)]) ∧
 ((vI n6) = (vI n5)))) ∧
 ((bcase (decide (0 ≤ x5))
 (bcase (decide (x5 < (↑n3 : Int)))
 (Qv (Pt 1001 (0 + Int.toNat x5 * 1)))
 False)
 False) ∧
 ((Qv (vI x5)) ∧
 ((Qv (Sl 1001 (n3) (n3))) ∧
 ((∃ n6 : Int,
 ((At (l7) (0 + Int.toNat x5 * 1) 1 [(vI n6)]) ∧
 ((vI n6) = (vI n1)))) ∧
 ((bcase (decide (0 ≤ x5))
 (bcase (decide (x5 < (↑n2 : Int)))
 (Qv (Pt 1000 (0 + Int.toNat x5 * 1)))
 False)
 False) ∧
 ((Qv (vI x5)) ∧
 ((Qv (Sl 1000 (n2) (n2))) ∧
 ((Qv (Sl 1002 (n4) (n4))) ∧
 True))))))))))) ∧
 (bcase (decide (n4 < n4 + 1))
 (bcase (decide ((2 * (n4 + 1) + 768) * 16 ≤ 281474976710656))
 (bcase (decide (n4 + 1 ≤ 1099511627776))
 (bcase (decide (0 + n4 * 2 ≤ List.length l9))
 (bcase (decide (0 + n4 * 2 = List.length l9))
 (((Qv (Value.agg [(vI n1), (vI n5)].toArray)) ∧
 ((∃ n6 : Int,
 ((At (l8) (0 + Int.toNat x5 * 1) 1 [(vI n6)]) ∧
 ((vI n6) = (vI n5)))) ∧
 ((bcase (decide (0 ≤ x5))
 (bcase (decide (x5 < (↑n3 : Int)))
 (Qv (Pt 1001 (0 + Int.toNat x5 * 1)))
 False)
 False) ∧
 ((Qv (vI x5)) ∧
 ((Qv (Sl 1001 (n3) (n3))) ∧
 ((∃ n6 : Int,
 ((At (l7) (0 + Int.toNat x5 * 1) 1 [(vI n6)]) ∧
 ((vI n6) = (vI n1)))) ∧
 ((bcase (decide (0 ≤ x5))
 (bcase (decide (x5 < (↑n2 : Int)))
 (Qv (Pt 1000 (0 + Int.toNat x5 * 1)))
 False)
 False) ∧
 ((Qv (vI x5)) ∧
 ((Qv (Sl 1000 (n2) (n2))) ∧
 True))))))))) ∧
 (True ∧
 (B [(Prod.mk 2 (Sl 501 (n0) (c1))), (Prod.mk 9 (Sl 1000 (n2) (n2))), (Prod.mk 10 (Sl 1001 (n3) (n3))), (Prod.mk 15 (Sl 1002 (n4 + 1) (n4 + 1))), (Prod.mk 16 (vI (IntKind.wrap .i64 (x5 + 1))))] [(Prod.mk 501 (AObj.sym (l6) false 2)), (Prod.mk 1000 (AObj.sym (l7) true 1)), (Prod.mk 1001 (AObj.sym (l8) true 1)), (Prod.mk 1002 (AObj.sym ((List.take (n4 * 2) (List.drop 0 l9)) ++ [(vI n1), (vI n5)]) true 2))])))
 False)
 False)
 False)
 False)
 False))))
 False)
 False)))
 False)
 False)
 (X 2 [(Prod.mk 15 (Sl 1000 (n4) (n4)))] [(Prod.mk 1000 (AObj.sym (l9) true 2))])) := by kernel_rfl
def nen11 (C : Ct) (L : AtLoop) (n0 : Nat) (l1 : List Value) (k : List D → Prop) : Prop := wpNext Try.prog (hZ C) L 66 2 .normal [(15, (Value.slice (some ⟨1000, 0, none⟩) n0 n0))] [(1000, (AObj.sym l1 true 2))] (dataK k)
theorem nen11_text (C : Ct) (L : AtLoop) (n0 : Nat) (l1 : List Go.Value) (k : List D → Prop) : nen11 C L n0 l1 k =
 (((Qv (n0)) ∧
 ((List.length l1) = (n0 * 2))) ∧
 (k [(D.sl (n0) 2 (l1))])) := by kernel_rfl
def grO (C : Ct) (L : AtLoop) (n0 : Nat) (c0 : Nat) (l0 : List Value) (x1 : Int) (x2 : Int) (x3 : Int) (n4 : Nat) (c4 : Nat) (l4 : List Value) (x5 : Int) (n6 : Nat) (c6 : Nat) (l6 : List Value) (k : List D → Prop) : Prop := jFn Try.prog (hZ C) L [] 64 #[.agg #[.slice (some ⟨500, 0, none⟩) n0 c0, .int .i64 x1, .int .i64 x2, .int .i64 x3], .agg #[.slice (some ⟨501, 0, none⟩) n4 c4, .int .i64 x5], .slice (some ⟨502, 0, none⟩) n6 c6] (heapOf [(500, .sym l0 false 2), (501, .sym l4 false 1), (502, .sym l6 false 2)]) (dataK k)
theorem grO_text (C : Ct) (L : AtLoop) (n0 : Nat) (c0 : Nat) (l0 : List Go.Value) (x1 : Int) (x2 : Int) (x3 : Int) (n4 : Nat) (c4 : Nat) (l4 : List Go.Value) (x5 : Int) (n6 : Nat) (c6 : Nat) (l6 : List Go.Value) (k : List D → Prop) : grO C L n0 c0 l0 x1 x2 x3 n4 c4 l4 x5 n6 c6 l6 k =
 (bcase (decide (0 + n4 * 1 ≤ List.length l4))
 (((Says C 75 [(D.agg [(D.sl (n4) 1 (List.take (n4 * 1) (List.drop 0 l4))), (D.val (vI x5))])] [D.nil]) ∧
 (L 0 [(Prod.mk 2 (Sl 502 (n6) (c6))), (Prod.mk 3 (Pt 1000 0)), (Prod.mk 4 (Pt 1001 0)), (Prod.mk 7 (Value.slice none 0 0)), (Prod.mk 8 (vI 0))] [(Prod.mk 502 (AObj.sym (l6) false 2)), (Prod.mk 1000 (AObj.cells [(Sl 500 (n0) (c0)), (vI x1), (vI x2), (vI x3)] 28 false 1)), (Prod.mk 1001 (AObj.cells [(Sl 501 (n4) (c4)), (vI x5)] 31 false 1)), (Prod.mk 500 (AObj.sym (l0) false 2)), (Prod.mk 501 (AObj.sym (l4) false 1))])) ∨
 (∃ n1 : Nat,
 (∃ cs1 : List Go.Value,
 ((Says C 75 [(D.agg [(D.sl (n4) 1 (List.take (n4 * 1) (List.drop 0 l4))), (D.val (vI x5))])] [(D.sl (n1) 2 (cs1))]) ∧
 (L 0 [(Prod.mk 2 (Sl 502 (n6) (c6))), (Prod.mk 3 (Pt 1000 0)), (Prod.mk 4 (Pt 1001 0)), (Prod.mk 7 (Sl 1002 (n1) (n1))), (Prod.mk 8 (vI 0))] [(Prod.mk 502 (AObj.sym (l6) false 2)), (Prod.mk 1000 (AObj.cells [(Sl 500 (n0) (c0)), (vI x1), (vI x2), (vI x3)] 28 false 1)), (Prod.mk 1001 (AObj.cells [(Sl 501 (n4) (c4)), (vI x5)] 31 false 1)), (Prod.mk 1002 (AObj.sym (cs1) true 2)), (Prod.mk 500 (AObj.sym (l0) false 2)), (Prod.mk 501 (AObj.sym (l4) false 1))])))))
 False) := by kernel_rfl
abbrev zrO2 (n0 : Nat) (c1 : Nat) (n2 : Nat) (x3 : Int) (l4 : List Value) (n5 : Nat) (c6 : Nat) (x7 : Int) (x8 : Int) (x9 : Int) (n10 : Nat) (c11 : Nat) (x12 : Int) (l13 : List Value) (l14 : List Value) (l15 : List Value) : Slots × Blocks := ([(2, (Value.slice (some ⟨502, 0, none⟩) n0 c1)), (3, (Value.pointer (some ⟨1000, 0, none⟩))), (4, (Value.pointer (some ⟨1001, 0, none⟩))), (7, (Value.slice (some ⟨1002, 0, none⟩) n2 n2)), (8, (Value.int .i64 x3))], [(502, (AObj.sym l4 false 2)), (1000, (AObj.cells [(Value.slice (some ⟨500, 0, none⟩) n5 c6), (Value.int .i64 x7), (Value.int .i64 x8), (Value.int .i64 x9)] 28 false 1)), (1001, (AObj.cells [(Value.slice (some ⟨501, 0, none⟩) n10 c11), (Value.int .i64 x12)] 31 false 1)), (1002, (AObj.sym l13 true 2)), (500, (AObj.sym l14 false 2)), (501, (AObj.sym l15 false 1))])
def rrO2 (C : Ct) (L : AtLoop) (n0 : Nat) (c1 : Nat) (n2 : Nat) (x3 : Int) (l4 : List Value) (n5 : Nat) (c6 : Nat) (x7 : Int) (x8 : Int) (x9 : Int) (n10 : Nat) (c11 : Nat) (x12 : Int) (l13 : List Value) (l14 : List Value) (l15 : List Value) (B : Bx) (X : Xx) (k : List D → Prop) : Prop := jRound Try.prog (hZ C) L [] 64 0 [(2, (Value.slice (some ⟨502, 0, none⟩) n0 c1)), (3, (Value.pointer (some ⟨1000, 0, none⟩))), (4, (Value.pointer (some ⟨1001, 0, none⟩))), (7, (Value.slice (some ⟨1002, 0, none⟩) n2 n2)), (8, (Value.int .i64 x3))] [(502, (AObj.sym l4 false 2)), (1000, (AObj.cells [(Value.slice (some ⟨500, 0, none⟩) n5 c6), (Value.int .i64 x7), (Value.int .i64 x8), (Value.int .i64 x9)] 28 false 1)), (1001, (AObj.cells [(Value.slice (some ⟨501, 0, none⟩) n10 c11), (Value.int .i64 x12)] 31 false 1)), (1002, (AObj.sym l13 true 2)), (500, (AObj.sym l14 false 2)), (501, (AObj.sym l15 false 1))] B X (dataK k)
theorem rrO2_text (C : Ct) (L : AtLoop) (n0 : Nat) (c1 : Nat) (n2 : Nat) (x3 : Int) (l4 : List Go.Value) (n5 : Nat) (c6 : Nat) (x7 : Int) (x8 : Int) (x9 : Int) (n10 : Nat) (c11 : Nat) (x12 : Int) (l13 : List Go.Value) (l14 : List Go.Value) (l15 : List Go.Value) (B : Bx) (X : Xx) (k : List D → Prop) : rrO2 C L n0 c1 n2 x3 l4 n5 c6 x7 x8 x9 n10 c11 x12 l13 l14 l15 B X k =
 (bcase (decide (x3 < (↑n0 : Int)))
 (L 2 [(Prod.mk 2 (Sl 502 (n0) (c1))), (Prod.mk 3 (Pt 1000 0)), (Prod.mk 4 (Pt 1001 0)), (Prod.mk 7 (Sl 1002 (n2) (n2))), (Prod.mk 8 (vI x3)), (Prod.mk 9 (vI 0))] [(Prod.mk 502 (AObj.sym (l4) false 2)), (Prod.mk 1000 (AObj.cells [(Sl 500 (n5) (c6)), (vI x7), (vI x8), (vI x9)] 28 false 1)), (Prod.mk 1001 (AObj.cells [(Sl 501 (n10) (c11)), (vI x12)] 31 false 1)), (Prod.mk 1002 (AObj.sym (l13) true 2)), (Prod.mk 500 (AObj.sym (l14) false 2)), (Prod.mk 501 (AObj.sym (l15) false 1))])
 (X 0 [(Prod.mk 7 (Sl 1000 (n2) (n2)))] [(Prod.mk 1000 (AObj.sym (l13) true 2))])) := by kernel_rfl
abbrev zrO5 (n0 : Nat) (c1 : Nat) (n2 : Nat) (x3 : Int) (x4 : Int) (l5 : List Value) (n6 : Nat) (c7 : Nat) (x8 : Int) (x9 : Int) (x10 : Int) (n11 : Nat) (c12 : Nat) (x13 : Int) (l14 : List Value) (l15 : List Value) (l16 : List Value) : Slots × Blocks := ([(2, (Value.slice (some ⟨502, 0, none⟩) n0 c1)), (3, (Value.pointer (some ⟨1000, 0, none⟩))), (4, (Value.pointer (some ⟨1001, 0, none⟩))), (7, (Value.slice (some ⟨1002, 0, none⟩) n2 n2)), (8, (Value.int .i64 x3)), (9, (Value.int .i64 x4))], [(502, (AObj.sym l5 false 2)), (1000, (AObj.cells [(Value.slice (some ⟨500, 0, none⟩) n6 c7), (Value.int .i64 x8), (Value.int .i64 x9), (Value.int .i64 x10)] 28 false 1)), (1001, (AObj.cells [(Value.slice (some ⟨501, 0, none⟩) n11 c12), (Value.int .i64 x13)] 31 false 1)), (1002, (AObj.sym l14 true 2)), (500, (AObj.sym l15 false 2)), (501, (AObj.sym l16 false 1))])
def rrO5 (C : Ct) (L : AtLoop) (n0 : Nat) (c1 : Nat) (n2 : Nat) (x3 : Int) (x4 : Int) (l5 : List Value) (n6 : Nat) (c7 : Nat) (x8 : Int) (x9 : Int) (x10 : Int) (n11 : Nat) (c12 : Nat) (x13 : Int) (l14 : List Value) (l15 : List Value) (l16 : List Value) (B : Bx) (X : Xx) (k : List D → Prop) : Prop := jRound2 Try.prog (hZ C) L [] 64 0 2 [(2, (Value.slice (some ⟨502, 0, none⟩) n0 c1)), (3, (Value.pointer (some ⟨1000, 0, none⟩))), (4, (Value.pointer (some ⟨1001, 0, none⟩))), (7, (Value.slice (some ⟨1002, 0, none⟩) n2 n2)), (8, (Value.int .i64 x3)), (9, (Value.int .i64 x4))] [(502, (AObj.sym l5 false 2)), (1000, (AObj.cells [(Value.slice (some ⟨500, 0, none⟩) n6 c7), (Value.int .i64 x8), (Value.int .i64 x9), (Value.int .i64 x10)] 28 false 1)), (1001, (AObj.cells [(Value.slice (some ⟨501, 0, none⟩) n11 c12), (Value.int .i64 x13)] 31 false 1)), (1002, (AObj.sym l14 true 2)), (500, (AObj.sym l15 false 2)), (501, (AObj.sym l16 false 1))] B X (dataK k)
theorem rrO5_text (C : Ct) (L : AtLoop) (n0 : Nat) (c1 : Nat) (n2 : Nat) (x3 : Int) (x4 : Int) (l5 : List Go.Value) (n6 : Nat) (c7 : Nat) (x8 : Int) (x9 : Int) (x10 : Int) (n11 : Nat) (c12 : Nat) (x13 : Int) (l14 : List Go.Value) (l15 : List Go.Value) (l16 : List Go.Value) (B : Bx) (X : Xx) (k : List D → Prop) : rrO5 C L n0 c1 n2 x3 x4 l5 n6 c7 x8 x9 x10 n11 c12 x13 l14 l15 l16 B X k =
 (bcase (decide (0 ≤ x3))
 (bcase (decide (x3 < (↑n0 : Int)))
 (∃ n1 : Int,
 ((At (l5) (Addr.off { block := 502, off := 0 + Int.toNat x3 * 2 } + 1) 1 [(vI n1)]) ∧
 (bcase (decide (x4 < n1))
 (bcase (decide (0 ≤ x3))
 (bcase (decide (x3 < (↑n0 : Int)))
 (∃ n3 : Int,
 ((At (l5) (0 + Int.toNat x3 * 2) 1 [(vI n3)]) ∧
 (((∃ n4 : Int,
 ((At (l5) (0 + Int.toNat x3 * 2) 1 [(vI n4)]) ∧
 ((vI n4) = (vI n3)))) ∧
 ((Qv (Pt 502 (0 + Int.toNat x3 * 2))) ∧
 ((bcase (decide (0 ≤ x3))
 (bcase (decide (x3 < (↑n0 : Int)))
 (Qv (Pt 502 (0 + Int.toNat x3 * 2)))
 False)
 False) ∧
 ((Qv (vI x3)) ∧
 ((Qv (Sl 502 (n0) (c1))) ∧
 ((Qv (Sl 1002 (n2) (n2))) ∧
 ((Qv (vI x13)) ∧
 ((Qv (Pt 1001 1)) ∧
 ((Qv (Value.agg [(Sl 500 (n6) (c7)), (vI x8), (vI x9), (vI x10)].toArray)) ∧
 True))))))))) ∧
 (bcase (decide (0 + n6 * 2 ≤ List.length l15))
 (bcase (decide (0 + n2 * 2 ≤ List.length l14))
 (((Says C 66 [(D.agg [(D.sl (n6) 2 (List.take (n6 * 2) (List.drop 0 l15))), (D.val (vI x8)), (D.val (vI x9)), (D.val (vI x10))]), (D.val (vI x13)), (D.sl (n2) 2 (List.take (n2 * 2) (List.drop 0 l14))), (D.val (vI n3))] [D.nil]) ∧
 (((Qv (Pt 502 (0 + Int.toNat x3 * 2))) ∧
 ((bcase (decide (0 ≤ x3))
 (bcase (decide (x3 < (↑n0 : Int)))
 (Qv (Pt 502 (0 + Int.toNat x3 * 2)))
 False)
 False) ∧
 ((Qv (vI x3)) ∧
 ((Qv (Sl 502 (n0) (c1))) ∧
 ((Qv (Pt 1001 1)) ∧
 True))))) ∧
 (True ∧
 (B [(Prod.mk 2 (Sl 502 (n0) (c1))), (Prod.mk 3 (Pt 1000 0)), (Prod.mk 4 (Pt 1001 0)), (Prod.mk 7 (Value.slice none 0 0)), (Prod.mk 8 (vI x3)), (Prod.mk 9 (vI (IntKind.wrap .i64 (x4 + 1))))] [(Prod.mk 502 (AObj.sym (l5) false 2)), (Prod.mk 1000 (AObj.cells [(Sl 500 (n6) (c7)), (vI x8), (vI x9), (vI x10)] 28 false 1)), (Prod.mk 1001 (AObj.cells [(Sl 501 (n11) (c12)), (vI x13)] 31 false 1)), (Prod.mk 500 (AObj.sym (l15) false 2)), (Prod.mk 501 (AObj.sym (l16) false 1))])))) ∨
 (∃ n4 : Nat,
 (∃ cs1 : List Go.Value,
 ((Says C 66 [(D.agg [(D.sl (n6) 2 (List.take (n6 * 2) (List.drop 0 l15))), (D.val (vI x8)), (D.val (vI x9)), (D.val (vI x10))]), (D.val (vI x13)), (D.sl (n2) 2 (List.take (n2 * 2) (List.drop 0 l14))), (D.val (vI n3))] [(D.sl (n4) 2 (cs1))]) ∧
 (((Qv (Pt 502 (0 + Int.toNat x3 * 2))) ∧
 ((bcase (decide (0 ≤ x3))
 (bcase (decide (x3 < (↑n0 : Int)))
 (Qv (Pt 502 (0 + Int.toNat x3 * 2)))
 False)
 False) ∧
 ((Qv (vI x3)) ∧
 ((Qv (Sl 502 (n0) (c1))) ∧
 ((Qv (Pt 1001 1)) ∧
 True))))) ∧
 (True ∧
 (B [(Prod.mk 2 (Sl 502 (n0) (c1))), (Prod.mk 3 (Pt 1000 0)), (Prod.mk 4 (Pt 1001 0)), (Prod.mk 7 (Sl 1002 (n4) (n4))), (Prod.mk 8 (vI x3)), (Prod.mk 9 (vI (IntKind.wrap .i64 (x4 + 1))))] [(Prod.mk 502 (AObj.sym (l5) false 2)), (Prod.mk 1000 (AObj.cells [(Sl 500 (n6) (c7)), (vI x8), (vI x9), (vI x10)] 28 false 1)), (Prod.mk 1001 (AObj.cells [(Sl 501 (n11) (c12)), (vI x13)] 31 false 1)), (Prod.mk 1002 (AObj.sym (cs1) true 2)), (Prod.mk 500 (AObj.sym (l15) false 2)), (Prod.mk 501 (AObj.sym (l16) false 1))])))))))
 False)
 False))))
 False)
 False)
 (X 2 [(Prod.mk 2 (Sl 502 (n0) (c1))), (Prod.mk 3 (Pt 1000 0)), (Prod.mk 4 (Pt 1001 0)), (Prod.mk 7 (Sl 1002 (n2) (n2))), (Prod.mk 8 (vI x3))] [(Prod.mk 502 (AObj.sym (l5) false 2)), (Prod.mk 1000 (AObj.cells [(Sl 500 (n6) (c7)), (vI x8), (vI x9), (vI x10)] 28 false 1)), (Prod.mk 1001 (AObj.cells [(Sl 501 (n11) (c12)), (vI x13)] 31 false 1)), (Prod.mk 1002 (AObj.sym (l14) true 2)), (Prod.mk 500 (AObj.sym (l15) false 2)), (Prod.mk 501 (AObj.sym (l16) false 1))]))))
 False)
 False) := by kernel_rfl
def nrO6 (C : Ct) (L : AtLoop) (n0 : Nat) (l1 : List Value) (k : List D → Prop) : Prop := jNext Try.prog (hZ C) L [] 64 0 .normal [(7, (Value.slice (some ⟨1000, 0, none⟩) n0 n0))] [(1000, (AObj.sym l1 true 2))] (dataK k)
theorem nrO6_text (C : Ct) (L : AtLoop) (n0 : Nat) (l1 : List Go.Value) (k : List D → Prop) : nrO6 C L n0 l1 k =
 (((Qv (n0)) ∧
 ((List.length l1) = (n0 * 2))) ∧
 (k [(D.sl (n0) 2 (l1))])) := by kernel_rfl
def irO8 (C : Ct) (L : AtLoop) (n0 : Nat) (c1 : Nat) (n2 : Nat) (x3 : Int) (l4 : List Value) (n5 : Nat) (c6 : Nat) (x7 : Int) (x8 : Int) (x9 : Int) (n10 : Nat) (c11 : Nat) (x12 : Int) (l13 : List Value) (l14 : List Value) (l15 : List Value) (B : Bx) (X : Xx) (k : List D → Prop) : Prop := jIn Try.prog (hZ C) L [] 64 0 2 .normal [(2, (Value.slice (some ⟨502, 0, none⟩) n0 c1)), (3, (Value.pointer (some ⟨1000, 0, none⟩))), (4, (Value.pointer (some ⟨1001, 0, none⟩))), (7, (Value.slice (some ⟨1002, 0, none⟩) n2 n2)), (8, (Value.int .i64 x3))] [(502, (AObj.sym l4 false 2)), (1000, (AObj.cells [(Value.slice (some ⟨500, 0, none⟩) n5 c6), (Value.int .i64 x7), (Value.int .i64 x8), (Value.int .i64 x9)] 28 false 1)), (1001, (AObj.cells [(Value.slice (some ⟨501, 0, none⟩) n10 c11), (Value.int .i64 x12)] 31 false 1)), (1002, (AObj.sym l13 true 2)), (500, (AObj.sym l14 false 2)), (501, (AObj.sym l15 false 1))] B X (dataK k)
theorem irO8_text (C : Ct) (L : AtLoop) (n0 : Nat) (c1 : Nat) (n2 : Nat) (x3 : Int) (l4 : List Go.Value) (n5 : Nat) (c6 : Nat) (x7 : Int) (x8 : Int) (x9 : Int) (n10 : Nat) (c11 : Nat) (x12 : Int) (l13 : List Go.Value) (l14 : List Go.Value) (l15 : List Go.Value) (B : Bx) (X : Xx) (k : List D → Prop) : irO8 C L n0 c1 n2 x3 l4 n5 c6 x7 x8 x9 n10 c11 x12 l13 l14 l15 B X k =
 (B [(Prod.mk 2 (Sl 502 (n0) (c1))), (Prod.mk 3 (Pt 1000 0)), (Prod.mk 4 (Pt 1001 0)), (Prod.mk 7 (Sl 1002 (n2) (n2))), (Prod.mk 8 (vI (IntKind.wrap .i64 (x3 + 1))))] [(Prod.mk 502 (AObj.sym (l4) false 2)), (Prod.mk 1000 (AObj.cells [(Sl 500 (n5) (c6)), (vI x7), (vI x8), (vI x9)] 28 false 1)), (Prod.mk 1001 (AObj.cells [(Sl 501 (n10) (c11)), (vI x12)] 31 false 1)), (Prod.mk 1002 (AObj.sym (l13) true 2)), (Prod.mk 500 (AObj.sym (l14) false 2)), (Prod.mk 501 (AObj.sym (l15) false 1))]) := by kernel_rfl
def grd (C : Ct) (L : AtLoop) (n0 : Nat) (c0 : Nat) (l0 : List Value) (x1 : Int) (x2 : Int) (k : List D → Prop) : Prop := wpFn Try.prog (hZ C) L 0 65 #[.slice (some ⟨500, 0, none⟩) n0 c0, .agg #[.int .i64 x1, .int .i64 x2]] (heapOf [(500, .sym l0 false 2)]) (dataK k)
theorem grd_text (C : Ct) (L : AtLoop) (n0 : Nat) (c0 : Nat) (l0 : List Go.Value) (x1 : Int) (x2 : Int) (k : List D → Prop) : grd C L n0 c0 l0 x1 x2 k =
 (L 0 [(Prod.mk 0 (Sl 500 (n0) (c0))), (Prod.mk 3 (Pt 1000 0)), (Prod.mk 5 (vI 2)), (Prod.mk 6 (vI 0))] [(Prod.mk 500 (AObj.sym (l0) false 2)), (Prod.mk 1000 (AObj.cells [(vI x1), (vI x2)] 26 false 1))]) := by kernel_rfl
abbrev zrd1 (n0 : Nat) (c1 : Nat) (x2 : Int) (x3 : Int) (l4 : List Value) (x5 : Int) (x6 : Int) : Slots × Blocks := ([(0, (Value.slice (some ⟨500, 0, none⟩) n0 c1)), (3, (Value.pointer (some ⟨1000, 0, none⟩))), (5, (Value.int .i64 x2)), (6, (Value.int .i64 x3))], [(500, (AObj.sym l4 false 2)), (1000, (AObj.cells [(Value.int .i64 x5), (Value.int .i64 x6)] 26 false 1))])
def rrd1 (C : Ct) (L : AtLoop) (n0 : Nat) (c1 : Nat) (x2 : Int) (x3 : Int) (l4 : List Value) (x5 : Int) (x6 : Int) (B : Bx) (X : Xx) (k : List D → Prop) : Prop := wpRound Try.prog (hZ C) L 65 0 [(0, (Value.slice (some ⟨500, 0, none⟩) n0 c1)), (3, (Value.pointer (some ⟨1000, 0, none⟩))), (5, (Value.int .i64 x2)), (6, (Value.int .i64 x3))] [(500, (AObj.sym l4 false 2)), (1000, (AObj.cells [(Value.int .i64 x5), (Value.int .i64 x6)] 26 false 1))] B X (dataK k)
theorem rrd1_text (C : Ct) (L : AtLoop) (n0 : Nat) (c1 : Nat) (x2 : Int) (x3 : Int) (l4 : List Go.Value) (x5 : Int) (x6 : Int) (B : Bx) (X : Xx) (k : List D → Prop) : rrd1 C L n0 c1 x2 x3 l4 x5 x6 B X k =
 (bcase (decide (x3 < (↑n0 : Int)))
 (bcase (decide (0 ≤ x3))
 (bcase (decide (x3 < (↑n0 : Int)))
 (∃ n1 : Int,
 ((At (l4) (Addr.off { block := 500, off := 0 + Int.toNat x3 * 2 } + 1) 1 [(vI n1)]) ∧
 (bcase (decide (n1 < x5))
 (((Qv (Value.bool true)) ∧
 ((Qv (Value.tuple [].toArray)) ∧
 ((Qv (Value.tuple [].toArray)) ∧
 ((Qv (Value.tuple [].toArray)) ∧
 ((Qv (Value.tuple [].toArray)) ∧
 ((Qv (Value.tuple [].toArray)) ∧
 ((Qv (Value.tuple [].toArray)) ∧
 ((Qv (Value.tuple [].toArray)) ∧
 ((Qv (Value.tuple [].toArray)) ∧
 ((Qv (Value.bool true)) ∧
 ((bcase (decide (n1 < x5))
 (Qv (Value.bool true))
 ((Value.bool false) = (Value.bool true))) ∧
 ((Qv (vI x5)) ∧
 ((Qv (Pt 1000 0)) ∧
 ((∃ n2 : Int,
 ((At (l4) (Addr.off { block := 500, off := 0 + Int.toNat x3 * 2 } + 1) 1 [(vI n2)]) ∧
 ((vI n2) = (vI n1)))) ∧
 ((Qv (Value.pointer (some (Addr.mk 500 (Addr.off { block := 500, off := 0 + Int.toNat x3 * 2 } + 1) none)))) ∧
 ((bcase (decide (0 ≤ x3))
 (bcase (decide (x3 < (↑n0 : Int)))
 (Qv (Pt 500 (0 + Int.toNat x3 * 2)))
 False)
 False) ∧
 ((Qv (vI x3)) ∧
 ((Qv (Sl 500 (n0) (c1))) ∧
 True)))))))))))))))))) ∧
 (k [(D.val (vI 0))]))
 (bcase (decide (0 ≤ x3))
 (bcase (decide (x3 < (↑n0 : Int)))
 (∃ n2 : Int,
 ((At (l4) (0 + Int.toNat x3 * 2) 1 [(vI n2)]) ∧
 (bcase (decide (n2 > x6))
 (((Qv (Value.bool true)) ∧
 ((bcase (decide (n2 > x6))
 (Qv (Value.bool true))
 ((Value.bool false) = (Value.bool true))) ∧
 ((Qv (vI x6)) ∧
 ((Qv (Pt 1000 1)) ∧
 ((∃ n3 : Int,
 ((At (l4) (0 + Int.toNat x3 * 2) 1 [(vI n3)]) ∧
 ((vI n3) = (vI n2)))) ∧
 ((Qv (Pt 500 (0 + Int.toNat x3 * 2))) ∧
 ((bcase (decide (0 ≤ x3))
 (bcase (decide (x3 < (↑n0 : Int)))
 (Qv (Pt 500 (0 + Int.toNat x3 * 2)))
 False)
 False) ∧
 ((Qv (vI x3)) ∧
 ((Qv (Sl 500 (n0) (c1))) ∧
 ((Qv (Value.bool false)) ∧
 ((bcase (decide (n1 < x5))
 ((Value.bool true) = (Value.bool false))
 (Qv (Value.bool false))) ∧
 ((Qv (vI x5)) ∧
 ((Qv (Pt 1000 0)) ∧
 ((∃ n3 : Int,
 ((At (l4) (Addr.off { block := 500, off := 0 + Int.toNat x3 * 2 } + 1) 1 [(vI n3)]) ∧
 ((vI n3) = (vI n1)))) ∧
 ((Qv (Value.pointer (some (Addr.mk 500 (Addr.off { block := 500, off := 0 + Int.toNat x3 * 2 } + 1) none)))) ∧
 ((bcase (decide (0 ≤ x3))
 (bcase (decide (x3 < (↑n0 : Int)))
 (Qv (Pt 500 (0 + Int.toNat x3 * 2)))
 False)
 False) ∧
 ((Qv (vI x3)) ∧
 ((Qv (Sl 500 (n0) (c1))) ∧
 True)))))))))))))))))) ∧
 (k [(D.val (vI 0))]))
 (((Qv (Value.bool false)) ∧
 ((bcase (decide (n2 > x6))
 ((Value.bool true) = (Value.bool false))
 (Qv (Value.bool false))) ∧
 ((Qv (vI x6)) ∧
 ((Qv (Pt 1000 1)) ∧
 ((∃ n3 : Int,
 ((At (l4) (0 + Int.toNat x3 * 2) 1 [(vI n3)]) ∧
 ((vI n3) = (vI n2)))) ∧
 ((Qv (Pt 500 (0 + Int.toNat x3 * 2))) ∧
 ((bcase (decide (0 ≤ x3))
 (bcase (decide (x3 < (↑n0 : Int)))
 (Qv (Pt 500 (0 + Int.toNat x3 * 2)))
 False)
 False) ∧
 ((Qv (vI x3)) ∧
 ((Qv (Sl 500 (n0) (c1))) ∧
 ((Qv (Value.bool false)) ∧
 ((bcase (decide (n1 < x5))
 ((Value.bool true) = (Value.bool false))
 (Qv (Value.bool false))) ∧
 ((Qv (vI x5)) ∧
 ((Qv (Pt 1000 0)) ∧
 ((∃ n3 : Int,
 ((At (l4) (Addr.off { block := 500, off := 0 + Int.toNat x3 * 2 } + 1) 1 [(vI n3)]) ∧
 ((vI n3) = (vI n1)))) ∧
 ((Qv (Value.pointer (some (Addr.mk 500 (Addr.off { block := 500, off := 0 + Int.toNat x3 * 2 } + 1) none)))) ∧
 ((bcase (decide (0 ≤ x3))
 (bcase (decide (x3 < (↑n0 : Int)))
 (Qv (Pt 500 (0 + Int.toNat x3 * 2)))
 False)
 False) ∧
 ((Qv (vI x3)) ∧
 ((Qv (Sl 500 (n0) (c1))) ∧
 True)))))))))))))))))) ∧
 (bcase (decide (0 ≤ x3))
 (bcase (decide (x3 < (↑n0 : Int)))
 (∃ n3 : Int,
 ((At (l4) (0 + Int.toNat x3 * 2) 1 [(vI n3)]) ∧
 (bcase (decide (n3 < x5))
 (((Qv (Value.bool true)) ∧
 ((Qv (Value.tuple [].toArray)) ∧
 ((Qv (Value.tuple [].toArray)) ∧
 ((Qv (Value.tuple [].toArray)) ∧
 ((Qv (Value.tuple [].toArray)) ∧
 ((Qv (Value.tuple [].toArray)) ∧
 ((Qv (Value.tuple [].toArray)) ∧
 ((Qv (Value.tuple [].toArray)) ∧
 ((Qv (Value.tuple [].toArray)) ∧
 ((Qv (Value.bool true)) ∧
 ((bcase (decide (n3 < x5))
 (Qv (Value.bool true))
 ((Value.bool false) = (Value.bool true))) ∧
 ((Qv (vI x5)) ∧
 ((Qv (Pt 1000 0)) ∧
 ((∃ n4 : Int,
 ((At (l4) (0 + Int.toNat x3 * 2) 1 [(vI n4)]) ∧
 ((vI n4) = (vI n3)))) ∧
 ((Qv (Pt 500 (0 + Int.toNat x3 * 2))) ∧
 ((bcase (decide (0 ≤ x3))
 (bcase (decide (x3 < (↑n0 : Int)))
 (Qv (Pt 500 (0 + Int.toNat x3 * 2)))
 False)
 False) ∧
 ((Qv (vI x3)) ∧
 ((Qv (Sl 500 (n0) (c1))) ∧
 True)))))))))))))))))) ∧
 (B [(Prod.mk 0 (Sl 500 (n0) (c1))), (Prod.mk 3 (Pt 1000 0)), (Prod.mk 5 (vI 1)), (Prod.mk 6 (vI (IntKind.wrap .i64 (x3 + 1))))] [(Prod.mk 500 (AObj.sym (l4) false 2)), (Prod.mk 1000 (AObj.cells [(vI x5), (vI x6)] 26 false 1))]))
 (bcase (decide (0 ≤ x3))
 (bcase (decide (x3 < (↑n0 : Int)))
 (∃ n4 : Int,
 ((At (l4) (Addr.off { block := 500, off := 0 + Int.toNat x3 * 2 } + 1) 1 [(vI n4)]) ∧
 (bcase (decide (n4 > x6))
 (((Qv (Value.bool true)) ∧
 ((bcase (decide (n4 > x6))
 (Qv (Value.bool true))
 ((Value.bool false) = (Value.bool true))) ∧
 ((Qv (vI x6)) ∧
 ((Qv (Pt 1000 1)) ∧
 ((∃ n5 : Int,
 ((At (l4) (Addr.off { block := 500, off := 0 + Int.toNat x3 * 2 } + 1) 1 [(vI n5)]) ∧
 ((vI n5) = (vI n4)))) ∧
 ((Qv (Value.pointer (some (Addr.mk 500 (Addr.off { block := 500, off := 0 + Int.toNat x3 * 2 } + 1) none)))) ∧
 ((bcase (decide (0 ≤ x3))
 (bcase (decide (x3 < (↑n0 : Int)))
 (Qv (Pt 500 (0 + Int.toNat x3 * 2)))
 False)
 False) ∧
 ((Qv (vI x3)) ∧
 ((Qv (Sl 500 (n0) (c1))) ∧
 ((Qv (Value.bool false)) ∧
 ((bcase (decide (n3 < x5))
 ((Value.bool true) = (Value.bool false))
 (Qv (Value.bool false))) ∧
 ((Qv (vI x5)) ∧
 ((Qv (Pt 1000 0)) ∧
 ((∃ n5 : Int,
 ((At (l4) (0 + Int.toNat x3 * 2) 1 [(vI n5)]) ∧
 ((vI n5) = (vI n3)))) ∧
 ((Qv (Pt 500 (0 + Int.toNat x3 * 2))) ∧
 ((bcase (decide (0 ≤ x3))
 (bcase (decide (x3 < (↑n0 : Int)))
 (Qv (Pt 500 (0 + Int.toNat x3 * 2)))
 False)
 False) ∧
 ((Qv (vI x3)) ∧
 ((Qv (Sl 500 (n0) (c1))) ∧
 True)))))))))))))))))) ∧
 (B [(Prod.mk 0 (Sl 500 (n0) (c1))), (Prod.mk 3 (Pt 1000 0)), (Prod.mk 5 (vI 1)), (Prod.mk 6 (vI (IntKind.wrap .i64 (x3 + 1))))] [(Prod.mk 500 (AObj.sym (l4) false 2)), (Prod.mk 1000 (AObj.cells [(vI x5), (vI x6)] 26 false 1))]))
 (((Qv (Value.bool false)) ∧
 ((bcase (decide (n4 > x6))
 ((Value.bool true) = (Value.bool false))
 (Qv (Value.bool false))) ∧
 ((Qv (vI x6)) ∧
 ((Qv (Pt 1000 1)) ∧
 ((∃ n5 : Int,
 ((At (l4) (Addr.off { block := 500, off := 0 + Int.toNat x3 * 2 } + 1) 1 [(vI n5)]) ∧
 ((vI n5) = (vI n4)))) ∧
 ((Qv (Value.pointer (some (Addr.mk 500 (Addr.off { block := 500, off := 0 + Int.toNat x3 * 2 } + 1) none)))) ∧
 ((bcase (decide (0 ≤ x3))
 (bcase (decide (x3 < (↑n0 : Int)))
 (Qv (Pt 500 (0 + Int.toNat x3 * 2)))
 False)
 False) ∧
 ((Qv (vI x3)) ∧
 ((Qv (Sl 500 (n0) (c1))) ∧
 ((Qv (Value.bool false)) ∧
 ((bcase (decide (n3 < x5))
 ((Value.bool true) = (Value.bool false))
 (Qv (Value.bool false))) ∧
 ((Qv (vI x5)) ∧
 ((Qv (Pt 1000 0)) ∧
 ((∃ n5 : Int,
 ((At (l4) (0 + Int.toNat x3 * 2) 1 [(vI n5)]) ∧
 ((vI n5) = (vI n3)))) ∧
 ((Qv (Pt 500 (0 + Int.toNat x3 * 2))) ∧
 ((bcase (decide (0 ≤ x3))
 (bcase (decide (x3 < (↑n0 : Int)))
 (Qv (Pt 500 (0 + Int.toNat x3 * 2)))
 False)
 False) ∧
 ((Qv (vI x3)) ∧
 ((Qv (Sl 500 (n0) (c1))) ∧
 True)))))))))))))))))) ∧
 (B [(Prod.mk 0 (Sl 500 (n0) (c1))), (Prod.mk 3 (Pt 1000 0)), (Prod.mk 5 (vI x2)), (Prod.mk 6 (vI (IntKind.wrap .i64 (x3 + 1))))] [(Prod.mk 500 (AObj.sym (l4) false 2)), (Prod.mk 1000 (AObj.cells [(vI x5), (vI x6)] 26 false 1))])))))
 False)
 False))))
 False)
 False)))))
 False)
 False))))
 False)
 False)
 (X 0 [(Prod.mk 5 (vI x2))] [])) := by kernel_rfl
def nrd2 (C : Ct) (L : AtLoop) (x0 : Int) (k : List D → Prop) : Prop := wpNext Try.prog (hZ C) L 65 0 .normal [(5, (Value.int .i64 x0))] [] (dataK k)
theorem nrd2_text (C : Ct) (L : AtLoop) (x0 : Int) (k : List D → Prop) : nrd2 C L x0 k =
 (k [(D.val (vI x0))]) := by kernel_rfl
def gyR (C : Ct) (L : AtLoop) (n0 : Nat) (c0 : Nat) (l0 : List Value) (k : List D → Prop) : Prop := wpFn Try.prog (hE C) L 0 15 #[.slice (some ⟨500, 0, none⟩) n0 c0] (heapOf [(500, .sym l0 false 2)]) (dataK k)
theorem gyR_text (C : Ct) (L : AtLoop) (n0 : Nat) (c0 : Nat) (l0 : List Go.Value) (k : List D → Prop) : gyR C L n0 c0 l0 k =
 (bcase (decide (0 + n0 * 2 ≤ List.length l0))
 (bcase (n0 == 0)
 (((0 = 0) ∧
 (0 = 0)) ∧
 (k [(D.sl 0 2 [])]))
 (bcase (decide (0 < 0 + n0))
 (bcase (decide ((2 * (0 + n0) + 768) * 16 ≤ 281474976710656))
 (bcase (decide (0 + n0 ≤ 1099511627776))
 (((Qv (0 + n0)) ∧
 ((List.length (List.take 0 (List.drop 0 []) ++ List.take (n0 * 2) (List.drop 0 l0))) = ((0 + n0) * 2))) ∧
 (k [(D.sl (0 + n0) 2 ([] ++ (List.take (n0 * 2) (List.drop 0 l0))))]))
 False)
 False)
 False))
 False) := by kernel_rfl
def gyRn (C : Ct) (L : AtLoop) (k : List D → Prop) : Prop := wpFn Try.prog (hE C) L 0 15 #[.slice none 0 0] (heapOf []) (dataK k)
theorem gyRn_text (C : Ct) (L : AtLoop) (k : List D → Prop) : gyRn C L k =
 (((0 = 0) ∧
 (0 = 0)) ∧
 (k [(D.sl 0 2 [])])) := by kernel_rfl
def gyG (C : Ct) (L : AtLoop) (n0 : Nat) (c0 : Nat) (l0 : List Value) (x1 : Int) (x2 : Int) (k : List D → Prop) : Prop := wpFn Try.prog (hZ C) L 0 19 #[.agg #[.slice (some ⟨500, 0, none⟩) n0 c0, .int .i64 x1, .int .i64 x2]] (heapOf [(500, .sym l0 false 2)]) (dataK k)
theorem gyG_text (C : Ct) (L : AtLoop) (n0 : Nat) (c0 : Nat) (l0 : List Go.Value) (x1 : Int) (x2 : Int) (k : List D → Prop) : gyG C L n0 c0 l0 x1 x2 k =
 (((Qv (Value.agg [(vI x1), (vI x2)].toArray)) ∧
 ((Qv (Pt 1000 1)) ∧
 ((Qv (Sl 500 (n0) (c0))) ∧
 ((Qv (Pt 1000 0)) ∧
 True)))) ∧
 (bcase (decide (0 + n0 * 2 ≤ List.length l0))
 (((Says C 15 [(D.sl (n0) 2 (List.take (n0 * 2) (List.drop 0 l0)))] [D.nil]) ∧
 (((Qv (Value.agg [(Value.slice none 0 0), (vI x1), (vI x2)].toArray)) ∧
 ((Qv (Value.agg [(vI x1), (vI x2)].toArray)) ∧
 ((Qv (Pt 1000 1)) ∧
 ((Qv (Pt 1000 0)) ∧
 True)))) ∧
 (True ∧
 (k [(D.agg [D.nil, (D.val (vI x1)), (D.val (vI x2))])])))) ∨
 (∃ n1 : Nat,
 (∃ cs1 : List Go.Value,
 ((Says C 15 [(D.sl (n0) 2 (List.take (n0 * 2) (List.drop 0 l0)))] [(D.sl (n1) 2 (cs1))]) ∧
 (((Qv (Value.agg [(Sl 1002 (n1) (n1)), (vI x1), (vI x2)].toArray)) ∧
 ((Qv (Value.agg [(vI x1), (vI x2)].toArray)) ∧
 ((Qv (Pt 1000 1)) ∧
 ((Qv (Pt 1000 0)) ∧
 True)))) ∧
 (True ∧
 (((Qv (n1)) ∧
 ((List.length cs1) = (n1 * 2))) ∧
 (k [(D.agg [(D.sl (n1) 2 (cs1)), (D.val (vI x1)), (D.val (vI x2))])]))))))))
 False)) := by kernel_rfl
def gyGn (C : Ct) (L : AtLoop) (x1 : Int) (x2 : Int) (k : List D → Prop) : Prop := wpFn Try.prog (hZ C) L 0 19 #[.agg #[.slice none 0 0, .int .i64 x1, .int .i64 x2]] (heapOf []) (dataK k)
theorem gyGn_text (C : Ct) (L : AtLoop) (x1 : Int) (x2 : Int) (k : List D → Prop) : gyGn C L x1 x2 k =
 (((Qv (Value.agg [(vI x1), (vI x2)].toArray)) ∧
 ((Qv (Pt 1000 1)) ∧
 ((Qv (Value.slice none 0 0)) ∧
 ((Qv (Pt 1000 0)) ∧
 True)))) ∧
 (((Says C 15 [D.nil] [D.nil]) ∧
 (((Qv (Value.agg [(Value.slice none 0 0), (vI x1), (vI x2)].toArray)) ∧
 ((Qv (Value.agg [(vI x1), (vI x2)].toArray)) ∧
 ((Qv (Pt 1000 1)) ∧
 ((Qv (Pt 1000 0)) ∧
 True)))) ∧
 (True ∧
 (k [(D.agg [D.nil, (D.val (vI x1)), (D.val (vI x2))])])))) ∨
 (∃ n1 : Nat,
 (∃ cs1 : List Go.Value,
 ((Says C 15 [D.nil] [(D.sl (n1) 2 (cs1))]) ∧
 (((Qv (Value.agg [(Sl 1002 (n1) (n1)), (vI x1), (vI x2)].toArray)) ∧
 ((Qv (Value.agg [(vI x1), (vI x2)].toArray)) ∧
 ((Qv (Pt 1000 1)) ∧
 ((Qv (Pt 1000 0)) ∧
 True)))) ∧
 (True ∧
 (((Qv (n1)) ∧
 ((List.length cs1) = (n1 * 2))) ∧
 (k [(D.agg [(D.sl (n1) 2 (cs1)), (D.val (vI x1)), (D.val (vI x2))])]))))))))) := by kernel_rfl
def gas (C : Ct) (L : AtLoop) (n0 : Nat) (c0 : Nat) (l0 : List Value) (x1 : Int) (x2 : Int) (x3 : Int) (n4 : Nat) (c4 : Nat) (l4 : List Value) (x5 : Int) (n6 : Nat) (c6 : Nat) (l6 : List Value) (x7 : Int) (x8 : Int) (k : List D → Prop) : Prop := wpFn Try.prog (hL C) L 0 47 #[.agg #[.slice (some ⟨500, 0, none⟩) n0 c0, .int .i64 x1, .int .i64 x2, .int .i64 x3], .agg #[.slice (some ⟨501, 0, none⟩) n4 c4, .int .i64 x5], .agg #[.slice (some ⟨502, 0, none⟩) n6 c6, .int .i64 x7, .int .i64 x8]] (heapOf [(500, .sym l0 false 2), (501, .sym l4 false 1), (502, .sym l6 false 2)]) (dataK k)
theorem gas_text (C : Ct) (L : AtLoop) (n0 : Nat) (c0 : Nat) (l0 : List Go.Value) (x1 : Int) (x2 : Int) (x3 : Int) (n4 : Nat) (c4 : Nat) (l4 : List Go.Value) (x5 : Int) (n6 : Nat) (c6 : Nat) (l6 : List Go.Value) (x7 : Int) (x8 : Int) (k : List D → Prop) : gas C L n0 c0 l0 x1 x2 x3 n4 c4 l4 x5 n6 c6 l6 x7 x8 k =
 (bcase (decide (0 + n0 * 2 ≤ List.length l0))
 (bcase (decide (0 + n4 * 1 ≤ List.length l4))
 (bcase (decide (0 + n6 * 2 ≤ List.length l6))
 (((Says C 64 [(D.agg [(D.sl (n0) 2 (List.take (n0 * 2) (List.drop 0 l0))), (D.val (vI x1)), (D.val (vI x2)), (D.val (vI x3))]), (D.agg [(D.sl (n4) 1 (List.take (n4 * 1) (List.drop 0 l4))), (D.val (vI x5))]), (D.sl (n6) 2 (List.take (n6 * 2) (List.drop 0 l6)))] [D.nil]) ∧
 (L 0 [(Prod.mk 3 (Pt 1000 0)), (Prod.mk 4 (Pt 1001 0)), (Prod.mk 5 (Pt 1002 0)), (Prod.mk 7 (Value.slice none 0 0)), (Prod.mk 8 (Value.slice none 0 0)), (Prod.mk 9 (vI 0))] [(Prod.mk 1000 (AObj.cells [(Sl 500 (n0) (c0)), (vI x1), (vI x2), (vI x3)] 28 false 1)), (Prod.mk 1001 (AObj.cells [(Sl 501 (n4) (c4)), (vI x5)] 31 false 1)), (Prod.mk 1002 (AObj.cells [(Sl 502 (n6) (c6)), (vI x7), (vI x8)] 58 false 1)), (Prod.mk 500 (AObj.sym (l0) false 2)), (Prod.mk 501 (AObj.sym (l4) false 1)), (Prod.mk 502 (AObj.sym (l6) false 2))])) ∨
 (∃ n1 : Nat,
 (∃ cs1 : List Go.Value,
 ((Says C 64 [(D.agg [(D.sl (n0) 2 (List.take (n0 * 2) (List.drop 0 l0))), (D.val (vI x1)), (D.val (vI x2)), (D.val (vI x3))]), (D.agg [(D.sl (n4) 1 (List.take (n4 * 1) (List.drop 0 l4))), (D.val (vI x5))]), (D.sl (n6) 2 (List.take (n6 * 2) (List.drop 0 l6)))] [(D.sl (n1) 2 (cs1))]) ∧
 (L 0 [(Prod.mk 3 (Pt 1000 0)), (Prod.mk 4 (Pt 1001 0)), (Prod.mk 5 (Pt 1002 0)), (Prod.mk 7 (Sl 1003 (n1) (n1))), (Prod.mk 8 (Value.slice none 0 0)), (Prod.mk 9 (vI 0))] [(Prod.mk 1000 (AObj.cells [(Sl 500 (n0) (c0)), (vI x1), (vI x2), (vI x3)] 28 false 1)), (Prod.mk 1001 (AObj.cells [(Sl 501 (n4) (c4)), (vI x5)] 31 false 1)), (Prod.mk 1002 (AObj.cells [(Sl 502 (n6) (c6)), (vI x7), (vI x8)] 58 false 1)), (Prod.mk 1003 (AObj.sym (cs1) true 2)), (Prod.mk 500 (AObj.sym (l0) false 2)), (Prod.mk 501 (AObj.sym (l4) false 1)), (Prod.mk 502 (AObj.sym (l6) false 2))])))))
 False)
 False)
 False) := by kernel_rfl
abbrev zas2 (n0 : Nat) (x1 : Int) (n2 : Nat) (c3 : Nat) (x4 : Int) (x5 : Int) (x6 : Int) (n7 : Nat) (c8 : Nat) (x9 : Int) (n10 : Nat) (c11 : Nat) (x12 : Int) (x13 : Int) (l14 : List Value) (l15 : List Value) (l16 : List Value) (l17 : List Value) : Slots × Blocks := ([(3, (Value.pointer (some ⟨1000, 0, none⟩))), (4, (Value.pointer (some ⟨1001, 0, none⟩))), (5, (Value.pointer (some ⟨1002, 0, none⟩))), (7, (Value.slice (some ⟨1003, 0, none⟩) n0 n0)), (8, (Value.slice none 0 0)), (9, (Value.int .i64 x1))], [(1000, (AObj.cells [(Value.slice (some ⟨500, 0, none⟩) n2 c3), (Value.int .i64 x4), (Value.int .i64 x5), (Value.int .i64 x6)] 28 false 1)), (1001, (AObj.cells [(Value.slice (some ⟨501, 0, none⟩) n7 c8), (Value.int .i64 x9)] 31 false 1)), (1002, (AObj.cells [(Value.slice (some ⟨502, 0, none⟩) n10 c11), (Value.int .i64 x12), (Value.int .i64 x13)] 58 false 1)), (1003, (AObj.sym l14 true 2)), (500, (AObj.sym l15 false 2)), (501, (AObj.sym l16 false 1)), (502, (AObj.sym l17 false 2))])
def ras2 (C : Ct) (L : AtLoop) (n0 : Nat) (x1 : Int) (n2 : Nat) (c3 : Nat) (x4 : Int) (x5 : Int) (x6 : Int) (n7 : Nat) (c8 : Nat) (x9 : Int) (n10 : Nat) (c11 : Nat) (x12 : Int) (x13 : Int) (l14 : List Value) (l15 : List Value) (l16 : List Value) (l17 : List Value) (B : Bx) (X : Xx) (k : List D → Prop) : Prop := wpRound Try.prog (hL C) L 47 0 [(3, (Value.pointer (some ⟨1000, 0, none⟩))), (4, (Value.pointer (some ⟨1001, 0, none⟩))), (5, (Value.pointer (some ⟨1002, 0, none⟩))), (7, (Value.slice (some ⟨1003, 0, none⟩) n0 n0)), (8, (Value.slice none 0 0)), (9, (Value.int .i64 x1))] [(1000, (AObj.cells [(Value.slice (some ⟨500, 0, none⟩) n2 c3), (Value.int .i64 x4), (Value.int .i64 x5), (Value.int .i64 x6)] 28 false 1)), (1001, (AObj.cells [(Value.slice (some ⟨501, 0, none⟩) n7 c8), (Value.int .i64 x9)] 31 false 1)), (1002, (AObj.cells [(Value.slice (some ⟨502, 0, none⟩) n10 c11), (Value.int .i64 x12), (Value.int .i64 x13)] 58 false 1)), (1003, (AObj.sym l14 true 2)), (500, (AObj.sym l15 false 2)), (501, (AObj.sym l16 false 1)), (502, (AObj.sym l17 false 2))] B X (dataK k)
theorem ras2_text (C : Ct) (L : AtLoop) (n0 : Nat) (x1 : Int) (n2 : Nat) (c3 : Nat) (x4 : Int) (x5 : Int) (x6 : Int) (n7 : Nat) (c8 : Nat) (x9 : Int) (n10 : Nat) (c11 : Nat) (x12 : Int) (x13 : Int) (l14 : List Go.Value) (l15 : List Go.Value) (l16 : List Go.Value) (l17 : List Go.Value) (B : Bx) (X : Xx) (k : List D → Prop) : ras2 C L n0 x1 n2 c3 x4 x5 x6 n7 c8 x9 n10 c11 x12 x13 l14 l15 l16 l17 B X k =
 (bcase (decide (x1 ≤ 200))
 (bcase (decide (0 + n0 * 2 ≤ List.length l14))
 (∃ n1 : Int,
 ((Says C 65 [(D.sl (n0) 2 (List.take (n0 * 2) (List.drop 0 l14))), (D.agg [(D.val (vI x12)), (D.val (vI x13))])] [(D.val (vI n1))]) ∧
 (bcase (decide (0 ≤ IntKind.wrap .i64 ((↑n10 : Int) - 1)))
 (bcase (decide (IntKind.wrap .i64 ((↑n10 : Int) - 1) < (↑n10 : Int)))
 (∃ n3 : Int,
 ((At (l17) (0 + Int.toNat (IntKind.wrap .i64 ((↑n10 : Int) - 1)) * 2) 1 [(vI n3)]) ∧
 (((∃ n4 : Int,
 ((At (l17) (0 + Int.toNat (IntKind.wrap .i64 ((↑n10 : Int) - 1)) * 2) 1 [(vI n4)]) ∧
 ((vI n4) = (vI n3)))) ∧
 ((Qv (Pt 502 (0 + Int.toNat (IntKind.wrap .i64 ((↑n10 : Int) - 1)) * 2))) ∧
 ((bcase (decide (0 ≤ IntKind.wrap .i64 ((↑n10 : Int) - 1)))
 (bcase (decide (IntKind.wrap .i64 ((↑n10 : Int) - 1) < (↑n10 : Int)))
 (Qv (Pt 502 (0 + Int.toNat (IntKind.wrap .i64 ((↑n10 : Int) - 1)) * 2)))
 False)
 False) ∧
 ((Qv (vI (IntKind.wrap .i64 ((↑n10 : Int) - 1)))) ∧
 ((Qv (vI ((↑n10 : Int)))) ∧
 ((Qv (Sl 502 (n10) (c11))) ∧
 ((Qv (Pt 1002 0)) ∧
 ((Qv (Sl 502 (n10) (c11))) ∧
 ((Qv (Pt 1002 0)) ∧
 ((Qv (Sl 1003 (n0) (n0))) ∧
 ((Qv (vI x9)) ∧
 ((Qv (Pt 1001 1)) ∧
 ((Qv (Value.agg [(Sl 500 (n2) (c3)), (vI x4), (vI x5), (vI x6)].toArray)) ∧
 True))))))))))))) ∧
 (bcase (decide (0 + n2 * 2 ≤ List.length l15))
 (bcase (decide (0 + n0 * 2 ≤ List.length l14))
 (((Says C 66 [(D.agg [(D.sl (n2) 2 (List.take (n2 * 2) (List.drop 0 l15))), (D.val (vI x4)), (D.val (vI x5)), (D.val (vI x6))]), (D.val (vI x9)), (D.sl (n0) 2 (List.take (n0 * 2) (List.drop 0 l14))), (D.val (vI n3))] [D.nil]) ∧
 (((Qv (Pt 502 (0 + Int.toNat (IntKind.wrap .i64 ((↑n10 : Int) - 1)) * 2))) ∧
 ((bcase (decide (0 ≤ IntKind.wrap .i64 ((↑n10 : Int) - 1)))
 (bcase (decide (IntKind.wrap .i64 ((↑n10 : Int) - 1) < (↑n10 : Int)))
 (Qv (Pt 502 (0 + Int.toNat (IntKind.wrap .i64 ((↑n10 : Int) - 1)) * 2)))
 False)
 False) ∧
 ((Qv (vI (IntKind.wrap .i64 ((↑n10 : Int) - 1)))) ∧
 ((Qv (vI ((↑n10 : Int)))) ∧
 ((Qv (Sl 502 (n10) (c11))) ∧
 ((Qv (Pt 1002 0)) ∧
 ((Qv (Sl 502 (n10) (c11))) ∧
 ((Qv (Pt 1002 0)) ∧
 ((Qv (Pt 1001 1)) ∧
 True))))))))) ∧
 (True ∧
 (B [(Prod.mk 3 (Pt 1000 0)), (Prod.mk 4 (Pt 1001 0)), (Prod.mk 5 (Pt 1002 0)), (Prod.mk 7 (Value.slice none 0 0)), (Prod.mk 8 (Sl 1003 1 1)), (Prod.mk 9 (vI (IntKind.wrap .i64 (x1 + 1))))] [(Prod.mk 1000 (AObj.cells [(Sl 500 (n2) (c3)), (vI x4), (vI x5), (vI x6)] 28 false 1)), (Prod.mk 1001 (AObj.cells [(Sl 501 (n7) (c8)), (vI x9)] 31 false 1)), (Prod.mk 1002 (AObj.cells [(Sl 502 (n10) (c11)), (vI x12), (vI x13)] 58 false 1)), (Prod.mk 1003 (AObj.sym [(vI n1)] true 1)), (Prod.mk 500 (AObj.sym (l15) false 2)), (Prod.mk 501 (AObj.sym (l16) false 1)), (Prod.mk 502 (AObj.sym (l17) false 2))])))) ∨
 (∃ n4 : Nat,
 (∃ cs1 : List Go.Value,
 ((Says C 66 [(D.agg [(D.sl (n2) 2 (List.take (n2 * 2) (List.drop 0 l15))), (D.val (vI x4)), (D.val (vI x5)), (D.val (vI x6))]), (D.val (vI x9)), (D.sl (n0) 2 (List.take (n0 * 2) (List.drop 0 l14))), (D.val (vI n3))] [(D.sl (n4) 2 (cs1))]) ∧
 (((Qv (Pt 502 (0 + Int.toNat (IntKind.wrap .i64 ((↑n10 : Int) - 1)) * 2))) ∧
 ((bcase (decide (0 ≤ IntKind.wrap .i64 ((↑n10 : Int) - 1)))
 (bcase (decide (IntKind.wrap .i64 ((↑n10 : Int) - 1) < (↑n10 : Int)))
 (Qv (Pt 502 (0 + Int.toNat (IntKind.wrap .i64 ((↑n10 : Int) - 1)) * 2)))
 False)
 False) ∧
 ((Qv (vI (IntKind.wrap .i64 ((↑n10 : Int) - 1)))) ∧
 ((Qv (vI ((↑n10 : Int)))) ∧
 ((Qv (Sl 502 (n10) (c11))) ∧
 ((Qv (Pt 1002 0)) ∧
 ((Qv (Sl 502 (n10) (c11))) ∧
 ((Qv (Pt 1002 0)) ∧
 ((Qv (Pt 1001 1)) ∧
 True))))))))) ∧
 (True ∧
 (B [(Prod.mk 3 (Pt 1000 0)), (Prod.mk 4 (Pt 1001 0)), (Prod.mk 5 (Pt 1002 0)), (Prod.mk 7 (Sl 1003 (n4) (n4))), (Prod.mk 8 (Sl 1004 1 1)), (Prod.mk 9 (vI (IntKind.wrap .i64 (x1 + 1))))] [(Prod.mk 1000 (AObj.cells [(Sl 500 (n2) (c3)), (vI x4), (vI x5), (vI x6)] 28 false 1)), (Prod.mk 1001 (AObj.cells [(Sl 501 (n7) (c8)), (vI x9)] 31 false 1)), (Prod.mk 1002 (AObj.cells [(Sl 502 (n10) (c11)), (vI x12), (vI x13)] 58 false 1)), (Prod.mk 1003 (AObj.sym (cs1) true 2)), (Prod.mk 1004 (AObj.sym [(vI n1)] true 1)), (Prod.mk 500 (AObj.sym (l15) false 2)), (Prod.mk 501 (AObj.sym (l16) false 1)), (Prod.mk 502 (AObj.sym (l17) false 2))])))))))
 False)
 False))))
 False)
 False)))
 False)
 (X 0 [(Prod.mk 8 (Value.slice none 0 0))] [])) := by kernel_rfl
abbrev zas4 (n0 : Nat) (n1 : Nat) (x2 : Int) (n3 : Nat) (c4 : Nat) (x5 : Int) (x6 : Int) (x7 : Int) (n8 : Nat) (c9 : Nat) (x10 : Int) (n11 : Nat) (c12 : Nat) (x13 : Int) (x14 : Int) (l15 : List Value) (l16 : List Value) (l17 : List Value) (l18 : List Value) (l19 : List Value) : Slots × Blocks := ([(3, (Value.pointer (some ⟨1000, 0, none⟩))), (4, (Value.pointer (some ⟨1001, 0, none⟩))), (5, (Value.pointer (some ⟨1002, 0, none⟩))), (7, (Value.slice (some ⟨1003, 0, none⟩) n0 n0)), (8, (Value.slice (some ⟨1004, 0, none⟩) n1 n1)), (9, (Value.int .i64 x2))], [(1000, (AObj.cells [(Value.slice (some ⟨500, 0, none⟩) n3 c4), (Value.int .i64 x5), (Value.int .i64 x6), (Value.int .i64 x7)] 28 false 1)), (1001, (AObj.cells [(Value.slice (some ⟨501, 0, none⟩) n8 c9), (Value.int .i64 x10)] 31 false 1)), (1002, (AObj.cells [(Value.slice (some ⟨502, 0, none⟩) n11 c12), (Value.int .i64 x13), (Value.int .i64 x14)] 58 false 1)), (1003, (AObj.sym l15 true 2)), (1004, (AObj.sym l16 true 1)), (500, (AObj.sym l17 false 2)), (501, (AObj.sym l18 false 1)), (502, (AObj.sym l19 false 2))])
def ras4 (C : Ct) (L : AtLoop) (n0 : Nat) (n1 : Nat) (x2 : Int) (n3 : Nat) (c4 : Nat) (x5 : Int) (x6 : Int) (x7 : Int) (n8 : Nat) (c9 : Nat) (x10 : Int) (n11 : Nat) (c12 : Nat) (x13 : Int) (x14 : Int) (l15 : List Value) (l16 : List Value) (l17 : List Value) (l18 : List Value) (l19 : List Value) (B : Bx) (X : Xx) (k : List D → Prop) : Prop := wpRound Try.prog (hL C) L 47 0 [(3, (Value.pointer (some ⟨1000, 0, none⟩))), (4, (Value.pointer (some ⟨1001, 0, none⟩))), (5, (Value.pointer (some ⟨1002, 0, none⟩))), (7, (Value.slice (some ⟨1003, 0, none⟩) n0 n0)), (8, (Value.slice (some ⟨1004, 0, none⟩) n1 n1)), (9, (Value.int .i64 x2))] [(1000, (AObj.cells [(Value.slice (some ⟨500, 0, none⟩) n3 c4), (Value.int .i64 x5), (Value.int .i64 x6), (Value.int .i64 x7)] 28 false 1)), (1001, (AObj.cells [(Value.slice (some ⟨501, 0, none⟩) n8 c9), (Value.int .i64 x10)] 31 false 1)), (1002, (AObj.cells [(Value.slice (some ⟨502, 0, none⟩) n11 c12), (Value.int .i64 x13), (Value.int .i64 x14)] 58 false 1)), (1003, (AObj.sym l15 true 2)), (1004, (AObj.sym l16 true 1)), (500, (AObj.sym l17 false 2)), (501, (AObj.sym l18 false 1)), (502, (AObj.sym l19 false 2))] B X (dataK k)
theorem ras4_text (C : Ct) (L : AtLoop) (n0 : Nat) (n1 : Nat) (x2 : Int) (n3 : Nat) (c4 : Nat) (x5 : Int) (x6 : Int) (x7 : Int) (n8 : Nat) (c9 : Nat) (x10 : Int) (n11 : Nat) (c12 : Nat) (x13 : Int) (x14 : Int) (l15 : List Go.Value) (l16 : List Go.Value) (l17 : List Go.Value) (l18 : List Go.Value) (l19 : List Go.Value) (B : Bx) (X : Xx) (k : List D → Prop) : ras4 C L n0 n1 x2 n3 c4 x5 x6 x7 n8 c9 x10 n11 c12 x13 x14 l15 l16 l17 l18 l19 B X k =
 (bcase (decide (x2 ≤ 200))
 (bcase (decide (0 + n0 * 2 ≤ List.length l15))
 (∃ n2 : Int,
 ((Says C 65 [(D.sl (n0) 2 (List.take (n0 * 2) (List.drop 0 l15))), (D.agg [(D.val (vI x13)), (D.val (vI x14))])] [(D.val (vI n2))]) ∧
 (bcase (decide (n1 < n1 + 1))
 (bcase (decide ((2 * (n1 + 1) + 768) * 8 ≤ 281474976710656))
 (bcase (decide (n1 + 1 ≤ 1099511627776))
 (bcase (decide (0 + n1 * 1 ≤ List.length l16))
 (bcase (decide (0 + n1 * 1 = List.length l16))
 (bcase (decide (0 ≤ IntKind.wrap .i64 ((↑n11 : Int) - 1)))
 (bcase (decide (IntKind.wrap .i64 ((↑n11 : Int) - 1) < (↑n11 : Int)))
 (∃ n4 : Int,
 ((At (l19) (0 + Int.toNat (IntKind.wrap .i64 ((↑n11 : Int) - 1)) * 2) 1 [(vI n4)]) ∧
 (((∃ n5 : Int,
 ((At (l19) (0 + Int.toNat (IntKind.wrap .i64 ((↑n11 : Int) - 1)) * 2) 1 [(vI n5)]) ∧
 ((vI n5) = (vI n4)))) ∧
 ((Qv (Pt 502 (0 + Int.toNat (IntKind.wrap .i64 ((↑n11 : Int) - 1)) * 2))) ∧
 ((bcase (decide (0 ≤ IntKind.wrap .i64 ((↑n11 : Int) - 1)))
 (bcase (decide (IntKind.wrap .i64 ((↑n11 : Int) - 1) < (↑n11 : Int)))
 (Qv (Pt 502 (0 + Int.toNat (IntKind.wrap .i64 ((↑n11 : Int) - 1)) * 2)))
 False)
 False) ∧
 ((Qv (vI (IntKind.wrap .i64 ((↑n11 : Int) - 1)))) ∧
 ((Qv (vI ((↑n11 : Int)))) ∧
 ((Qv (Sl 502 (n11) (c12))) ∧
 ((Qv (Pt 1002 0)) ∧
 ((Qv (Sl 502 (n11) (c12))) ∧
 ((Qv (Pt 1002 0)) ∧
 ((Qv (Sl 1003 (n0) (n0))) ∧
 ((Qv (vI x10)) ∧
 ((Qv (Pt 1001 1)) ∧
 ((Qv (Value.agg [(Sl 500 (n3) (c4)), (vI x5), (vI x6), (vI x7)].toArray)) ∧
 True))))))))))))) ∧
 (bcase (decide (0 + n3 * 2 ≤ List.length l17))
 (bcase (decide (0 + n0 * 2 ≤ List.length l15))
 (((Says C 66 [(D.agg [(D.sl (n3) 2 (List.take (n3 * 2) (List.drop 0 l17))), (D.val (vI x5)), (D.val (vI x6)), (D.val (vI x7))]), (D.val (vI x10)), (D.sl (n0) 2 (List.take (n0 * 2) (List.drop 0 l15))), (D.val (vI n4))] [D.nil]) ∧
 (((Qv (Pt 502 (0 + Int.toNat (IntKind.wrap .i64 ((↑n11 : Int) - 1)) * 2))) ∧
 ((bcase (decide (0 ≤ IntKind.wrap .i64 ((↑n11 : Int) - 1)))
 (bcase (decide (IntKind.wrap .i64 ((↑n11 : Int) - 1) < (↑n11 : Int)))
 (Qv (Pt 502 (0 + Int.toNat (IntKind.wrap .i64 ((↑n11 : Int) - 1)) * 2)))
 False)
 False) ∧
 ((Qv (vI (IntKind.wrap .i64 ((↑n11 : Int) - 1)))) ∧
 ((Qv (vI ((↑n11 : Int)))) ∧
 ((Qv (Sl 502 (n11) (c12))) ∧
 ((Qv (Pt 1002 0)) ∧
 ((Qv (Sl 502 (n11) (c12))) ∧
 ((Qv (Pt 1002 0)) ∧
 ((Qv (Pt 1001 1)) ∧
 True))))))))) ∧
 (True ∧
 (B [(Prod.mk 3 (Pt 1000 0)), (Prod.mk 4 (Pt 1001 0)), (Prod.mk 5 (Pt 1002 0)), (Prod.mk 7 (Value.slice none 0 0)), (Prod.mk 8 (Sl 1003 (n1 + 1) (n1 + 1))), (Prod.mk 9 (vI (IntKind.wrap .i64 (x2 + 1))))] [(Prod.mk 1000 (AObj.cells [(Sl 500 (n3) (c4)), (vI x5), (vI x6), (vI x7)] 28 false 1)), (Prod.mk 1001 (AObj.cells [(Sl 501 (n8) (c9)), (vI x10)] 31 false 1)), (Prod.mk 1002 (AObj.cells [(Sl 502 (n11) (c12)), (vI x13), (vI x14)] 58 false 1)), (Prod.mk 1003 (AObj.sym ((List.take (n1 * 1) (List.drop 0 l16)) ++ [(vI n2)]) true 1)), (Prod.mk 500 (AObj.sym (l17) false 2)), (Prod.mk 501 (AObj.sym (l18) false 1)), (Prod.mk 502 (AObj.sym (l19) false 2))])))) ∨
 (∃ n5 : Nat,
 (∃ cs1 : List Go.Value,
 ((Says C 66 [(D.agg [(D.sl (n3) 2 (List.take (n3 * 2) (List.drop 0 l17))), (D.val (vI x5)), (D.val (vI x6)), (D.val (vI x7))]), (D.val (vI x10)), (D.sl (n0) 2 (List.take (n0 * 2) (List.drop 0 l15))), (D.val (vI n4))] [(D.sl (n5) 2 (cs1))]) ∧
 (((Qv (Pt 502 (0 + Int.toNat (IntKind.wrap .i64 ((↑n11 : Int) - 1)) * 2))) ∧
 ((bcase (decide (0 ≤ IntKind.wrap .i64 ((↑n11 : Int) - 1)))
 (bcase (decide (IntKind.wrap .i64 ((↑n11 : Int) - 1) < (↑n11 : Int)))
 (Qv (Pt 502 (0 + Int.toNat (IntKind.wrap .i64 ((↑n11 : Int) - 1)) * 2)))
 False)
 False) ∧
 ((Qv (vI (IntKind.wrap .i64 ((↑n11 : Int) - 1)))) ∧
 ((Qv (vI ((↑n11 : Int)))) ∧
 ((Qv (Sl 502 (n11) (c12))) ∧
 ((Qv (Pt 1002 0)) ∧
 ((Qv (Sl 502 (n11) (c12))) ∧
 ((Qv (Pt 1002 0)) ∧
 ((Qv (Pt 1001 1)) ∧
 True))))))))) ∧
 (True ∧
 (B [(Prod.mk 3 (Pt 1000 0)), (Prod.mk 4 (Pt 1001 0)), (Prod.mk 5 (Pt 1002 0)), (Prod.mk 7 (Sl 1003 (n5) (n5))), (Prod.mk 8 (Sl 1004 (n1 + 1) (n1 + 1))), (Prod.mk 9 (vI (IntKind.wrap .i64 (x2 + 1))))] [(Prod.mk 1000 (AObj.cells [(Sl 500 (n3) (c4)), (vI x5), (vI x6), (vI x7)] 28 false 1)), (Prod.mk 1001 (AObj.cells [(Sl 501 (n8) (c9)), (vI x10)] 31 false 1)), (Prod.mk 1002 (AObj.cells [(Sl 502 (n11) (c12)), (vI x13), (vI x14)] 58 false 1)), (Prod.mk 1003 (AObj.sym (cs1) true 2)), (Prod.mk 1004 (AObj.sym ((List.take (n1 * 1) (List.drop 0 l16)) ++ [(vI n2)]) true 1)), (Prod.mk 500 (AObj.sym (l17) false 2)), (Prod.mk 501 (AObj.sym (l18) false 1)), (Prod.mk 502 (AObj.sym (l19) false 2))])))))))
 False)
 False))))
 False)
 False)
 False)
 False)
 False)
 False)
 False)))
 False)
 (X 0 [(Prod.mk 8 (Sl 1000 (n1) (n1)))] [(Prod.mk 1000 (AObj.sym (l16) true 1))])) := by kernel_rfl
def nas6 (C : Ct) (L : AtLoop) (n0 : Nat) (l1 : List Value) (k : List D → Prop) : Prop := wpNext Try.prog (hL C) L 47 0 .normal [(8, (Value.slice (some ⟨1000, 0, none⟩) n0 n0))] [(1000, (AObj.sym l1 true 1))] (dataK k)
theorem nas6_text (C : Ct) (L : AtLoop) (n0 : Nat) (l1 : List Go.Value) (k : List D → Prop) : nas6 C L n0 l1 k =
 (((Qv (n0)) ∧
 ((List.length l1) = (n0 * 1))) ∧
 (k [(D.sl (n0) 1 (l1))])) := by kernel_rfl
def grEa (C : Ct) (L : AtLoop) (n0 : Nat) (c0 : Nat) (l0 : List Value) (x1 : Int) (x2 : Int) (x3 : Int) (n4 : Nat) (c4 : Nat) (l4 : List Value) (x5 : Int) (n6 : Nat) (c6 : Nat) (l6 : List Value) (x7 : Int) (x8 : Int) (k : List D → Prop) : Prop := wpFn Try.prog (hL C) L 0 22 #[.agg #[.slice (some ⟨500, 0, none⟩) n0 c0, .int .i64 x1, .int .i64 x2, .int .i64 x3], .agg #[.slice (some ⟨501, 0, none⟩) n4 c4, .int .i64 x5], .agg #[.slice (some ⟨502, 0, none⟩) n6 c6, .int .i64 x7, .int .i64 x8]] (heapOf [(500, .sym l0 false 2), (501, .sym l4 false 1), (502, .sym l6 false 2)]) (dataK k)
theorem grEa_text (C : Ct) (L : AtLoop) (n0 : Nat) (c0 : Nat) (l0 : List Go.Value) (x1 : Int) (x2 : Int) (x3 : Int) (n4 : Nat) (c4 : Nat) (l4 : List Go.Value) (x5 : Int) (n6 : Nat) (c6 : Nat) (l6 : List Go.Value) (x7 : Int) (x8 : Int) (k : List D → Prop) : grEa C L n0 c0 l0 x1 x2 x3 n4 c4 l4 x5 n6 c6 l6 x7 x8 k =
 (bcase (decide (0 + n0 * 2 ≤ List.length l0))
 (bcase (decide (0 + n4 * 1 ≤ List.length l4))
 (bcase (decide (0 + n6 * 2 ≤ List.length l6))
 (((Says C 47 [(D.agg [(D.sl (n0) 2 (List.take (n0 * 2) (List.drop 0 l0))), (D.val (vI x1)), (D.val (vI x2)), (D.val (vI x3))]), (D.agg [(D.sl (n4) 1 (List.take (n4 * 1) (List.drop 0 l4))), (D.val (vI x5))]), (D.agg [(D.sl (n6) 2 (List.take (n6 * 2) (List.drop 0 l6))), (D.val (vI x7)), (D.val (vI x8))])] [D.nil]) ∧
 (L 0 [(Prod.mk 8 (Value.slice none 0 0)), (Prod.mk 9 (vI 0))] [])) ∨
 (∃ n1 : Nat,
 (∃ cs1 : List Go.Value,
 ((Says C 47 [(D.agg [(D.sl (n0) 2 (List.take (n0 * 2) (List.drop 0 l0))), (D.val (vI x1)), (D.val (vI x2)), (D.val (vI x3))]), (D.agg [(D.sl (n4) 1 (List.take (n4 * 1) (List.drop 0 l4))), (D.val (vI x5))]), (D.agg [(D.sl (n6) 2 (List.take (n6 * 2) (List.drop 0 l6))), (D.val (vI x7)), (D.val (vI x8))])] [(D.sl (n1) 1 (cs1))]) ∧
 (L 0 [(Prod.mk 8 (Sl 1000 (n1) (n1))), (Prod.mk 9 (vI 0))] [(Prod.mk 1000 (AObj.sym (cs1) true 1))])))))
 False)
 False)
 False) := by kernel_rfl
abbrev zrEa2 (n0 : Nat) (x1 : Int) (l2 : List Value) : Slots × Blocks := ([(8, (Value.slice (some ⟨1000, 0, none⟩) n0 n0)), (9, (Value.int .i64 x1))], [(1000, (AObj.sym l2 true 1))])
def rrEa2 (C : Ct) (L : AtLoop) (n0 : Nat) (x1 : Int) (l2 : List Value) (B : Bx) (X : Xx) (k : List D → Prop) : Prop := wpRound Try.prog (hL C) L 22 0 [(8, (Value.slice (some ⟨1000, 0, none⟩) n0 n0)), (9, (Value.int .i64 x1))] [(1000, (AObj.sym l2 true 1))] B X (dataK k)
theorem rrEa2_text (C : Ct) (L : AtLoop) (n0 : Nat) (x1 : Int) (l2 : List Go.Value) (B : Bx) (X : Xx) (k : List D → Prop) : rrEa2 C L n0 x1 l2 B X k =
 (bcase (decide (x1 < (↑n0 : Int)))
 (bcase (decide (0 ≤ x1))
 (bcase (decide (x1 < (↑n0 : Int)))
 (∃ n1 : Int,
 ((At (l2) (0 + Int.toNat x1 * 1) 1 [(vI n1)]) ∧
 (bcase (n1 == 2)
 (k [(D.val (vI x1)), (D.val (Value.bool true))])
 (B [(Prod.mk 8 (Sl 1000 (n0) (n0))), (Prod.mk 9 (vI (IntKind.wrap .i64 (x1 + 1))))] [(Prod.mk 1000 (AObj.sym (l2) true 1))]))))
 False)
 False)
 (X 0 [] [])) := by kernel_rfl
def nrEa3 (C : Ct) (L : AtLoop) (k : List D → Prop) : Prop := wpNext Try.prog (hL C) L 22 0 .normal [] [] (dataK k)
theorem nrEa3_text (C : Ct) (L : AtLoop) (k : List D → Prop) : nrEa3 C L k =
 (k [(D.val (vI 0)), (D.val (Value.bool false))]) := by kernel_rfl
def grMx (C : Ct) (L : AtLoop) (n0 : Nat) (c0 : Nat) (l0 : List Value) (x1 : Int) (x2 : Int) (x3 : Int) (n4 : Nat) (c4 : Nat) (l4 : List Value) (x5 : Int) (n6 : Nat) (c6 : Nat) (l6 : List Value) (x7 : Int) (x8 : Int) (k : List D → Prop) : Prop := wpFn Try.prog (hL C) L 0 23 #[.agg #[.slice (some ⟨500, 0, none⟩) n0 c0, .int .i64 x1, .int .i64 x2, .int .i64 x3], .agg #[.slice (some ⟨501, 0, none⟩) n4 c4, .int .i64 x5], .agg #[.slice (some ⟨502, 0, none⟩) n6 c6, .int .i64 x7, .int .i64 x8]] (heapOf [(500, .sym l0 false 2), (501, .sym l4 false 1), (502, .sym l6 false 2)]) (dataK k)
theorem grMx_text (C : Ct) (L : AtLoop) (n0 : Nat) (c0 : Nat) (l0 : List Go.Value) (x1 : Int) (x2 : Int) (x3 : Int) (n4 : Nat) (c4 : Nat) (l4 : List Go.Value) (x5 : Int) (n6 : Nat) (c6 : Nat) (l6 : List Go.Value) (x7 : Int) (x8 : Int) (k : List D → Prop) : grMx C L n0 c0 l0 x1 x2 x3 n4 c4 l4 x5 n6 c6 l6 x7 x8 k =
 (bcase (decide (0 + n0 * 2 ≤ List.length l0))
 (bcase (decide (0 + n4 * 1 ≤ List.length l4))
 (bcase (decide (0 + n6 * 2 ≤ List.length l6))
 (((Says C 47 [(D.agg [(D.sl (n0) 2 (List.take (n0 * 2) (List.drop 0 l0))), (D.val (vI x1)), (D.val (vI x2)), (D.val (vI x3))]), (D.agg [(D.sl (n4) 1 (List.take (n4 * 1) (List.drop 0 l4))), (D.val (vI x5))]), (D.agg [(D.sl (n6) 2 (List.take (n6 * 2) (List.drop 0 l6))), (D.val (vI x7)), (D.val (vI x8))])] [D.nil]) ∧
 False) ∨
 (∃ n1 : Nat,
 (∃ cs1 : List Go.Value,
 ((Says C 47 [(D.agg [(D.sl (n0) 2 (List.take (n0 * 2) (List.drop 0 l0))), (D.val (vI x1)), (D.val (vI x2)), (D.val (vI x3))]), (D.agg [(D.sl (n4) 1 (List.take (n4 * 1) (List.drop 0 l4))), (D.val (vI x5))]), (D.agg [(D.sl (n6) 2 (List.take (n6 * 2) (List.drop 0 l6))), (D.val (vI x7)), (D.val (vI x8))])] [(D.sl (n1) 1 (cs1))]) ∧
 (bcase (decide (0 < (↑n1 : Int)))
 (∃ n2 : Int,
 ((At (cs1) 0 1 [(vI n2)]) ∧
 (bcase (n2 != 2)
 (k [(D.val (vI 0)), (D.val (Value.bool false))])
 (L 0 [(Prod.mk 8 (Sl 1000 (n1) (n1))), (Prod.mk 9 (vI 0))] [(Prod.mk 1000 (AObj.sym (cs1) true 1))]))))
 False)))))
 False)
 False)
 False) := by kernel_rfl
abbrev zrMx1 (n0 : Nat) (x1 : Int) (l2 : List Value) : Slots × Blocks := ([(8, (Value.slice (some ⟨1000, 0, none⟩) n0 n0)), (9, (Value.int .i64 x1))], [(1000, (AObj.sym l2 true 1))])
def rrMx1 (C : Ct) (L : AtLoop) (n0 : Nat) (x1 : Int) (l2 : List Value) (B : Bx) (X : Xx) (k : List D → Prop) : Prop := wpRound Try.prog (hL C) L 23 0 [(8, (Value.slice (some ⟨1000, 0, none⟩) n0 n0)), (9, (Value.int .i64 x1))] [(1000, (AObj.sym l2 true 1))] B X (dataK k)
theorem rrMx1_text (C : Ct) (L : AtLoop) (n0 : Nat) (x1 : Int) (l2 : List Go.Value) (B : Bx) (X : Xx) (k : List D → Prop) : rrMx1 C L n0 x1 l2 B X k =
 (bcase (decide (IntKind.wrap .i64 (x1 + 1) < (↑n0 : Int)))
 (bcase (decide (0 ≤ IntKind.wrap .i64 (x1 + 1)))
 (bcase (decide (IntKind.wrap .i64 (x1 + 1) < (↑n0 : Int)))
 (∃ n1 : Int,
 ((At (l2) (0 + Int.toNat (IntKind.wrap .i64 (x1 + 1)) * 1) 1 [(vI n1)]) ∧
 (bcase (n1 == 2)
 (B [(Prod.mk 8 (Sl 1000 (n0) (n0))), (Prod.mk 9 (vI (IntKind.wrap .i64 (x1 + 1))))] [(Prod.mk 1000 (AObj.sym (l2) true 1))])
 (X 0 [(Prod.mk 9 (vI x1))] []))))
 False)
 False)
 (X 0 [(Prod.mk 9 (vI x1))] [])) := by kernel_rfl
def nrMx2 (C : Ct) (L : AtLoop) (x0 : Int) (k : List D → Prop) : Prop := wpNext Try.prog (hL C) L 23 0 .normal [(9, (Value.int .i64 x0))] [] (dataK k)
theorem nrMx2_text (C : Ct) (L : AtLoop) (x0 : Int) (k : List D → Prop) : nrMx2 C L x0 k =
 (k [(D.val (vI x0)), (D.val (Value.bool true))]) := by kernel_rfl
end Go.Proofs.G5j

/- Chapter 2, heating: what routes, targets and goals are valid, in data. -/
namespace Go.Proofs.G5j
open Go Go.Abs Go.Proofs Go.Proofs.G2
set_option maxRecDepth 100000
theorem vp_thd {l : List (Int × Int)} {i : Nat} (h : i < l.length) : At (vp l) (0 + i * 2 + 1) 1 [vI l[i].2] := vp_snd l i h
/-- the error of a zone -/
def zE (p : Int × Int) : Int := if (0 ≤ p.1 ∧ p.1 ≤ 20000) ∧ 0 ≤ p.2 ∧ p.2 ≤ 200 then 0 else 2
def rtGo : Int → List (Int × Int) → Int × Int
  | _, [] => (0, 0)
  | i, p :: r => if zE p = 0 then rtGo (i + 1) r else (i, 2)
def rtR (z : List (Int × Int)) : Int × Int := if 5 < z.length then (0, 8) else rtGo 0 z
def rtE (z : List (Int × Int)) : Int := (rtR z).2
theorem rtGo_snd {i : Int} {z : List (Int × Int)} (h : (rtGo i z).2 = 0) : ∀ p ∈ z, zE p = 0 := by
  induction z generalizing i with
  | nil => simp
  | cons q r ih =>
    intro p hp
    rw [rtGo] at h
    by_cases hq : zE q = 0
    · rw [if_pos hq] at h
      rcases List.mem_cons.1 hp with rfl | hp
      · exact hq
      · exact ih h p hp
    · rw [if_neg hq] at h; exact absurd h (by simp)
theorem zE0 {p : Int × Int} (h : zE p = 0) : (0 ≤ p.1 ∧ p.1 ≤ 20000) ∧ 0 ≤ p.2 ∧ p.2 ≤ 200 := by
  unfold zE at h; split at h
  · assumption
  · exact absurd h (by decide)
theorem rt_ok {z : List (Int × Int)} (h : rtE z = 0) : z.length ≤ 5 ∧ OkZ z := by
  unfold rtE rtR at h
  split at h
  · exact absurd h (by decide)
  · exact ⟨by omega, fun p hp => by have := zE0 (rtGo_snd h p hp); omega⟩
theorem conCk (z : List (Int × Int)) (hz : z.length < 1000000000) : C5 41 [.sl z.length 2 (vp z)] [dI (rtR z).1, dI (rtR z).2] := by
  let inv : Nat × Nat → Prop := fun x => x.1 ≤ z.length ∧ rtR z = rtGo (x.1 : Int) (z.drop x.1)
  let st : Nat × Nat → Slots × Blocks := fun x => zCk1 z.length x.2 z.length x.1 (vp z)
  refine con_of (L := fun _ s b => ∃ x, inv x ∧ st x = (s, b)) hokZ mixed Try.func41 rfl (by show 1 ≤ 400; omega) rfl (ids := [0]) (by kernel_rfl) rfl (fun caps => ?_) (fun id hid => ?_)
  · show gCk _ _ z.length (caps 500) (vp z) _
    rw [gCk_text]
    refine bc_dec (fun h => ?_) (fun h => ?_)
    · show [dI _, dI _] = [dI _, dI _]
      rw [rtR, if_pos (by omega)]
    · exact ⟨(0, caps 500), ⟨Nat.zero_le _, by rw [rtR, if_neg (by omega)]; rfl⟩, rfl⟩
  · obtain rfl := List.mem_singleton.1 hid
    refine ⟨Nat × Nat, st, inv, fun x => z.length - x.1, ⟨fun s b h => h, by kernel_rfl, ?_⟩⟩
    rintro ⟨i, c⟩ ⟨hi, hr⟩
    show rCk1 _ _ z.length c z.length (i : Int) (vp z) _ _ _
    rw [rCk1_text]
    have hi : i ≤ z.length := hi
    refine bc_dec (fun h => ?_) (fun h => ?_)
    · have h2 : i < z.length := by omega
      have p0 : (0 : Int) ≤ (i : Int) := by omega
      simp only [bc_t p0, bc_t h, Int.toNat_natCast, Qv, eq_self, true_and, and_true]
      rw [List.drop_eq_getElem_cons h2, rtGo] at hr
      refine ⟨_, _, vp_two z i h2, _, ⟨concT1 _⟩, _, ⟨limC_of (limE1 0 200 z[i].2).symm⟩, _, ⟨conFE [tErr z[i].1, if 0 ≤ z[i].2 ∧ z[i].2 ≤ 200 then 0 else 2] (by simp)⟩, ?_⟩
      have e : fst0 [tErr z[i].1, if 0 ≤ z[i].2 ∧ z[i].2 ≤ 200 then 0 else 2] = zE z[i] := by
        rw [fst0_two, tErr, zE]; repeat' split
        all_goals first | rfl | omega
      rw [e]
      refine bc_bne (fun hn => ?_) (fun h0 => ?_)
      · rw [if_neg hn] at hr
        have : zE z[i] = 2 := by unfold zE at hn ⊢; split at hn <;> simp_all
        show [dI _, dI _] = [dI _, dI _]
        rw [hr, this]
      · rw [if_pos h0] at hr
        refine ⟨(i + 1, c), ⟨h2, ?_⟩, by show z.length - (i + 1) < z.length - i; omega, ?_⟩
        · rw [hr]; rfl
        · rw [w64 (by omega) (by omega)]; rfl
    · show (if 0 = 0 then _ else _)
      rw [if_pos rfl]
      show nCk2 _ _ _
      rw [nCk2_text]
      rw [List.drop_eq_nil_of_le (by omega)] at hr
      show [dI _, dI _] = [dI _, dI _]
      rw [hr]; rfl
theorem conkR (z : List (Int × Int)) (hz : z.length < 1000000000) : C5 31 [.sl z.length 2 (vp z)] [dI (rtR z).1, dI (rtR z).2] := by
  let inv : Nat × Nat → Prop := fun x => x.1 ≤ z.length ∧ rtR z = rtGo (x.1 : Int) (z.drop x.1)
  let st : Nat × Nat → Slots × Blocks := fun x => zkR1 z.length x.2 x.1 (vp z)
  refine con_of (L := fun _ s b => ∃ x, inv x ∧ st x = (s, b)) hokZ mixed Try.func31 rfl (by show 1 ≤ 400; omega) rfl (ids := [0]) (by kernel_rfl) rfl (fun caps => ?_) (fun id hid => ?_)
  · show gkR _ _ z.length (caps 500) (vp z) _
    rw [gkR_text]
    refine bc_dec (fun h => ?_) (fun h => ?_)
    · show [dI _, dI _] = [dI _, dI _]
      rw [rtR, if_pos (by omega)]
    · exact ⟨(0, caps 500), ⟨Nat.zero_le _, by rw [rtR, if_neg (by omega)]; rfl⟩, rfl⟩
  · obtain rfl := List.mem_singleton.1 hid
    refine ⟨Nat × Nat, st, inv, fun x => z.length - x.1, ⟨fun s b h => h, by kernel_rfl, ?_⟩⟩
    rintro ⟨i, c⟩ ⟨hi, hr⟩
    show rkR1 _ _ z.length c (i : Int) (vp z) _ _ _
    rw [rkR1_text]
    have hi : i ≤ z.length := hi
    refine bc_dec (fun h => ?_) (fun h => ?_)
    · have h2 : i < z.length := by omega
      have p0 : (0 : Int) ≤ (i : Int) := by omega
      simp only [bc_t p0, bc_t h, Int.toNat_natCast]
      rw [List.drop_eq_getElem_cons h2, rtGo] at hr
      refine ⟨_, vp_one z i h2, _, ⟨conTE _⟩, bc_bne (fun hn => ?_) (fun h0 => ⟨_, vp_thd h2, ?_⟩)⟩
      · have : zE z[i] ≠ 0 := fun he => hn (tErr0.2 (zE0 he).1)
        rw [if_neg this] at hr
        show [dI _, dI _] = [dI _, dI _]
        rw [hr]
      · by_cases h3 : 0 ≤ z[i].2 ∧ z[i].2 ≤ 200
        · have : zE z[i] = 0 := if_pos ⟨tErr0.1 h0, h3⟩
          rw [if_pos this] at hr
          refine .inl ⟨sayWt h3, (i + 1, c), ⟨h2, ?_⟩, by show z.length - (i + 1) < z.length - i; omega, ?_⟩
          · rw [hr]; rfl
          · rw [w64 (by omega) (by omega)]; rfl
        · have : zE z[i] ≠ 0 := fun he => h3 (zE0 he).2
          rw [if_neg this] at hr
          refine .inr ⟨sayWf h3, ?_⟩
          show [dI _, dI _] = [dI _, dI _]
          rw [hr]
    · show (if 0 = 0 then _ else _)
      rw [if_pos rfl]
      show nkR2 _ _ _
      rw [nkR2_text]
      rw [List.drop_eq_nil_of_le (by omega)] at hr
      show [dI _, dI _] = [dI _, dI _]
      rw [hr]; rfl
theorem conkRn : C5 31 [.nil] [dI 0, dI 0] := by
  refine con_of (L := fun _ s b => zkRn1 0 = (s, b)) hokZ mixed Try.func31 rfl (by show 0 ≤ 400; omega) rfl (ids := [0]) (by kernel_rfl) rfl (fun caps => ?_) (fun id hid => ?_)
  · show gkRn _ _ _
    rw [gkRn_text]
  · obtain rfl := List.mem_singleton.1 hid
    refine ⟨Unit, fun _ => zkRn1 0, fun _ => True, fun _ => 0, ⟨fun s b h => ⟨(), trivial, h⟩, by kernel_rfl, ?_⟩⟩
    intro _ _
    show rkRn1 _ _ 0 _ _ _
    rw [rkRn1_text]
    refine bc_false (by decide) ?_
    show (if 0 = 0 then _ else _)
    rw [if_pos rfl]
    show nkRn2 _ _ _
    rw [nkRn2_text]
theorem conrE (z : List (Int × Int)) (hz : z.length < 1000000000) : C5 8 [.sl z.length 2 (vp z)] [dI (rtE z)] := by
  refine con_flat hokZ mixed Try.func8 rfl (by show 1 ≤ 400; omega) rfl (by kernel_rfl) (fun caps => ?_)
  show grE _ _ z.length (caps 500) (vp z) _
  rw [grE_text]
  simp only [vp_whole, bc_t (v2le z)]
  exact ⟨_, _, ⟨conkR z hz⟩, rfl⟩
theorem conrEn : C5 8 [.nil] [dI 0] := by
  refine con_flat hokZ mixed Try.func8 rfl (by show 0 ≤ 400; omega) rfl (by kernel_rfl) (fun caps => ?_)
  show grEn _ _ _
  rw [grEn_text]
  exact ⟨_, _, ⟨conkRn⟩, rfl⟩
/-- the error of a target -/
def tgE (a b : Int) : Int := if (0 ≤ a ∧ a ≤ 20000) ∧ 0 ≤ b ∧ b ≤ 20000 then (if a > b then 9 else 0) else 2
theorem concg (a b : Int) : C5 74 [.agg [dI a, dI b]] [dI (tgE a b)] := by
  refine con_flat hokZ mixed Try.func74 rfl (by show 0 ≤ 400; omega) rfl (by kernel_rfl) (fun caps => ?_)
  show gcg _ _ a b _
  rw [gcg_text]
  have c2 := concT [a, b] (by simp)
  rw [show limE 0 20000 (vi [a, b]) = _ from limE2 ..] at c2
  simp only [Qv, eq_self, true_and, and_true]
  refine ⟨_, ⟨c2⟩, _, ⟨concE a b⟩, _, ⟨conFE [if (0 ≤ a ∧ a ≤ 20000) ∧ 0 ≤ b ∧ b ≤ 20000 then 0 else 2, if a > b then 9 else 0] (by simp)⟩, ?_⟩
  show [dI _] = [dI _]
  rw [fst0_two, tgE]
  repeat' split
  all_goals first | rfl | omega
theorem contE (a b : Int) : C5 46 [.agg [dI a, dI b]] [dI (tgE a b)] := by
  refine con_flat hokZ mixed Try.func46 rfl (by show 0 ≤ 400; omega) rfl (by kernel_rfl) (fun caps => ?_)
  show gtE _ _ a b _
  rw [gtE_text]
  refine ⟨_, ⟨conTE a⟩, bc_bne (fun h1 => ?_) (fun h1 => ⟨_, ⟨conTE b⟩, bc_bne (fun h2 => ?_) (fun h2 => bc_dec (fun h3 => ?_) (fun h3 => ?_))⟩)⟩ <;> show [dI _] = [dI _] <;> unfold tgE
  · rw [if_neg (fun h => h1 (tErr0.2 h.1))]
  · rw [if_neg (fun h => h2 (tErr0.2 h.2))]
  · rw [if_pos ⟨tErr0.1 h1, tErr0.1 h2⟩, if_pos h3]
  · rw [if_pos ⟨tErr0.1 h1, tErr0.1 h2⟩, if_neg h3]
/-- the error of a goal -/
def goE (z : List (Int × Int)) (a b : Int) : Int := if rtE z ≠ 0 then rtE z else if z.length = 0 then 10 else tgE a b
abbrev dGo (z : List (Int × Int)) (a b : Int) : D := .agg [.sl z.length 2 (vp z), dI a, dI b]
abbrev dGn (a b : Int) : D := .agg [.nil, dI a, dI b]
theorem concG (z : List (Int × Int)) (hz : z.length < 1000000000) (a b : Int) : C5 61 [dGo z a b] [dI (goE z a b)] := by
  refine con_flat hokZ mixed Try.func61 rfl (by show 1 ≤ 400; omega) rfl (by kernel_rfl) (fun caps => ?_)
  show gcG _ _ z.length (caps 500) (vp z) a b _
  rw [gcG_text]
  simp only [vp_whole, bc_t (v2le z)]
  refine ⟨_, _, ⟨conCk z hz⟩, bc_bne (fun h => ?_) (fun h => bc_beq (fun h1 => ?_) (fun h1 => ⟨_, ⟨concg a b⟩, ?_⟩))⟩ <;> show [dI _] = [dI _] <;> unfold goE
  · rw [if_pos (show rtE z ≠ 0 from h)]; rfl
  · rw [if_neg (show ¬ rtE z ≠ 0 from fun hh => hh h), if_pos (by omega)]
  · rw [if_neg (show ¬ rtE z ≠ 0 from fun hh => hh h), if_neg (by omega)]
theorem conGE (z : List (Int × Int)) (hz : z.length < 1000000000) (a b : Int) : C5 21 [dGo z a b] [dI (goE z a b)] := by
  refine con_flat hokZ mixed Try.func21 rfl (by show 1 ≤ 400; omega) rfl (by kernel_rfl) (fun caps => ?_)
  show gGE _ _ z.length (caps 500) (vp z) a b _
  rw [gGE_text]
  simp only [vp_whole, bc_t (v2le z)]
  refine ⟨_, ⟨conrE z hz⟩, bc_bne (fun h => ?_) (fun h => bc_beq (fun h1 => ?_) (fun h1 => ⟨_, ⟨contE a b⟩, ?_⟩))⟩ <;> show [dI _] = [dI _] <;> unfold goE
  · rw [if_pos h]
  · rw [if_neg (fun hh => hh h), if_pos (by omega)]
  · rw [if_neg (fun hh => hh h), if_neg (by omega)]
theorem conGEn (a b : Int) : C5 21 [dGn a b] [dI 10] := by
  refine con_flat hokZ mixed Try.func21 rfl (by show 0 ≤ 400; omega) rfl (by kernel_rfl) (fun caps => ?_)
  show gGEn _ _ a b _
  rw [gGEn_text]
  exact ⟨_, ⟨conrEn⟩, bc_false (by decide) rfl⟩
end Go.Proofs.G5j

/- Chapter 2, heating: ranges of nodes, and whether they lie in a target, in data. -/
namespace Go.Proofs.G5j
open Go Go.Abs Go.Proofs Go.Proofs.G2
set_option maxRecDepth 100000
theorem vp_snoc {l : List (Int × Int)} {i : Nat} (h : i < l.length) : vp (l.take i) ++ [vI l[i].1, vI l[i].2] = vp (l.take (i + 1)) := by
  rw [List.take_succ_eq_append_getElem h]
  induction l.take i with
  | nil => rfl
  | cons p r ih => show vI p.1 :: vI p.2 :: (vp r ++ _) = vI p.1 :: vI p.2 :: vp (r ++ _); rw [ih]
theorem vp_tk {l : List (Int × Int)} {n : Nat} (h : l.length = n) : List.take (n * 2) (List.drop 0 (vp l)) = vp l := by subst h; exact vp_whole l
/-- an enclosure, in data -/
abbrev dEn (n0 : Nat) (l0 : List Value) (mi a b : Int) (lo hi : List Int) (bo : Int) : D := .agg [.sl n0 2 l0, dI mi, dI a, dI b, .sl lo.length 1 (vi lo), dI bo, .sl n0 2 l0, dI mi, dI a, dI b, .sl hi.length 1 (vi hi), dI bo]
theorem conrg (n0 : Nat) (l0 : List Value) (mi a b : Int) {lo hi : List Int} (h1 : 1 ≤ lo.length) (hh : hi.length = lo.length) (h3 : lo.length ≤ 1000) (bo : Int) : C5 44 [dEn n0 l0 mi a b lo hi bo] [.sl lo.length 2 (vp (lo.zip hi))] := by
  have hz : (lo.zip hi).length = lo.length := by rw [List.length_zip, hh, Nat.min_self]
  let inv : Nat × (Nat → Nat) → Prop := fun x => x.1 ≤ lo.length
  let st : Nat × (Nat → Nat) → Slots × Blocks := fun x => match x.1 with
    | 0 => zrg1 lo.length (x.2 501) lo.length ((0 : Nat) : Int) n0 (x.2 500) mi a b lo.length (x.2 501) bo n0 (x.2 502) mi a b hi.length (x.2 503) bo (vi lo) l0 l0 (vi hi)
    | i + 1 => zrg2 (i + 1) lo.length (x.2 501) lo.length ((i + 1 : Nat) : Int) n0 (x.2 500) mi a b lo.length (x.2 501) bo n0 (x.2 502) mi a b hi.length (x.2 503) bo (vp ((lo.zip hi).take (i + 1))) (vi lo) l0 l0 (vi hi)
  refine con_of (L := fun _ s b => ∃ x, inv x ∧ st x = (s, b)) hokZ mixed Try.func44 rfl (by show 4 ≤ 400; omega) rfl (ids := [0]) (by kernel_rfl) rfl (fun caps => ?_) (fun id hid => ?_)
  · show grg _ _ n0 (caps 500) l0 mi a b lo.length (caps 501) (vi lo) bo n0 (caps 502) l0 mi a b hi.length (caps 503) (vi hi) bo _
    rw [grg_text]
    exact ⟨(0, caps), Nat.zero_le _, rfl⟩
  · obtain rfl := List.mem_singleton.1 hid
    refine ⟨_, st, inv, fun x => lo.length - x.1, ⟨fun s b h => h, by kernel_rfl, ?_⟩⟩
    rintro ⟨i, c⟩ hi'
    have hi' : i ≤ lo.length := hi'
    cases i with
    | zero =>
      show rrg1 _ _ lo.length (c 501) lo.length ((0 : Nat) : Int) n0 (c 500) mi a b lo.length (c 501) bo n0 (c 502) mi a b hi.length (c 503) bo (vi lo) l0 l0 (vi hi) _ _ _
      rw [rrg1_text]
      have p0 : (0 : Int) ≤ ((0 : Nat) : Int) := by omega
      have p1 : ((0 : Nat) : Int) < (lo.length : Int) := by omega
      have p2 : ((0 : Nat) : Int) < (hi.length : Int) := by omega
      simp only [bc_t p0, bc_t p1, bc_t p2, Int.toNat_natCast]
      refine ⟨_, vi_at lo 0 (by omega), _, vi_at hi 0 (by omega), (1, c), by show 1 ≤ lo.length; omega, by show lo.length - 1 < lo.length - 0; omega, ?_⟩
      have e := vp_snoc (l := lo.zip hi) (i := 0) (by omega)
      rw [List.getElem_zip] at e
      show zrg2 _ _ _ _ _ _ _ _ _ _ _ _ _ _ _ _ _ _ _ _ _ (vp ((lo.zip hi).take (0 + 1))) _ _ _ _ = _
      rw [← e, w64 (by omega) (by omega)]; rfl
    | succ i =>
      show rrg2 _ _ (i + 1) lo.length (c 501) lo.length ((i + 1 : Nat) : Int) n0 (c 500) mi a b lo.length (c 501) bo n0 (c 502) mi a b hi.length (c 503) bo (vp ((lo.zip hi).take (i + 1))) (vi lo) l0 l0 (vi hi) _ _ _
      rw [rrg2_text]
      have hT : ((lo.zip hi).take (i + 1)).length = i + 1 := by rw [List.length_take, hz]; omega
      refine bc_dec (fun h => ?_) (fun h => ?_)
      · have h2 : i + 1 < lo.length := by omega
        have p0 : (0 : Int) ≤ ((i + 1 : Nat) : Int) := by omega
        have p2 : ((i + 1 : Nat) : Int) < (hi.length : Int) := by omega
        simp only [bc_t p0, bc_t h, bc_t p2, Int.toNat_natCast]
        refine ⟨_, vi_at lo (i + 1) h2, _, vi_at hi (i + 1) (by omega), bc_yes (by omega) (bc_yes (by omega) (bc_yes (by omega) (bc_yes (by rw [vp_length, hT]; omega) (bc_yes (by rw [vp_length, hT]; omega) ?_))))⟩
        refine ⟨(i + 2, c), by show i + 2 ≤ lo.length; omega, by show lo.length - (i + 2) < lo.length - (i + 1); omega, ?_⟩
        have e := vp_snoc (l := lo.zip hi) (i := i + 1) (by omega)
        rw [List.getElem_zip] at e
        show zrg2 _ _ _ _ _ _ _ _ _ _ _ _ _ _ _ _ _ _ _ _ _ (vp ((lo.zip hi).take (i + 1 + 1))) _ _ _ _ = _
        rw [← e, vp_tk hT, w64 (by omega) (by omega)]; rfl
      · show (if 0 = 0 then _ else _)
        rw [if_pos rfl]
        show nrg4 _ _ (i + 1) (vp ((lo.zip hi).take (i + 1))) _
        rw [nrg4_text]
        have e : i + 1 = lo.length := by omega
        rw [e, List.take_of_length_le (by omega)]
        exact ⟨⟨rfl, by rw [vp_length, hz]⟩, rfl⟩
/-- whether ranges lie in a target: 2 yes, 1 perhaps, 0 no -/
def rdy (a b : Int) : Int → List (Int × Int) → Int
  | o, [] => o
  | o, p :: r => if p.2 < a ∨ p.1 > b then 0 else if p.1 < a ∨ p.2 > b then rdy a b 1 r else rdy a b o r
theorem conan (n0 : Nat) {l0 : List Value} (hl : l0.length = n0 * 2) (mi a b : Int) {lo hi : List Int} (h1 : 1 ≤ lo.length) (hh : hi.length = lo.length) (h3 : lo.length ≤ 1000) (bo ta tb : Int) : C5 63 [dEn n0 l0 mi a b lo hi bo, .agg [dI ta, dI tb]] [dI (rdy ta tb 2 (lo.zip hi))] := by
  have hz : (lo.zip hi).length = lo.length := by rw [List.length_zip, hh, Nat.min_self]
  let inv : Nat × Int → Prop := fun x => x.1 ≤ lo.length ∧ rdy ta tb 2 (lo.zip hi) = rdy ta tb x.2 ((lo.zip hi).drop x.1)
  let st : Nat × Int → Slots × Blocks := fun x => zan2 x.2 lo.length lo.length x.1 ta tb (vp (lo.zip hi))
  have hT : List.take (n0 * 2) (List.drop 0 l0) = l0 := by rw [List.drop_zero, ← hl, List.take_length]
  have hl0 : 0 + n0 * 2 ≤ l0.length := by omega
  refine con_of (L := fun _ s b => ∃ x, inv x ∧ st x = (s, b)) hokZ mixed Try.func63 rfl (by show 4 ≤ 400; omega) rfl (ids := [0]) (by kernel_rfl) rfl (fun caps => ?_) (fun id hid => ?_)
  · show gan _ _ n0 (caps 500) l0 mi a b lo.length (caps 501) (vi lo) bo n0 (caps 502) l0 mi a b hi.length (caps 503) (vi hi) bo ta tb _
    rw [gan_text]
    simp only [hT, bc_t hl0, bc_t (v1le lo), bc_t (v1le hi), vi_whole]
    exact .inr ⟨_, _, ⟨conrg n0 l0 mi a b h1 hh h3 bo⟩, (0, 2), ⟨Nat.zero_le _, rfl⟩, rfl⟩
  · obtain rfl := List.mem_singleton.1 hid
    refine ⟨_, st, inv, fun x => lo.length - x.1, ⟨fun s b h => h, by kernel_rfl, ?_⟩⟩
    rintro ⟨i, o⟩ ⟨hi', hr⟩
    have hi' : i ≤ lo.length := hi'
    show ran2 _ _ o lo.length lo.length (i : Int) ta tb (vp (lo.zip hi)) _ _ _
    rw [ran2_text]
    refine bc_dec (fun h => ?_) (fun h => ?_)
    · have h2 : i < (lo.zip hi).length := by omega
      have p0 : (0 : Int) ≤ (i : Int) := by omega
      simp only [bc_t p0, bc_t h, Int.toNat_natCast]
      rw [List.drop_eq_getElem_cons h2, rdy] at hr
      have go : ∀ o' : Int, rdy ta tb 2 (lo.zip hi) = rdy ta tb o' ((lo.zip hi).drop (i + 1)) → ∃ x, inv x ∧ lo.length - x.1 < lo.length - i ∧ st x = (zan2 o' lo.length lo.length (IntKind.wrap .i64 ((i : Int) + 1)) ta tb (vp (lo.zip hi))) := fun o' ho =>
        ⟨(i + 1, o'), ⟨by show i + 1 ≤ lo.length; omega, ho⟩, by show lo.length - (i + 1) < lo.length - i; omega, by rw [w64 (by omega) (by omega)]; rfl⟩
      refine ⟨_, _, vp_two (lo.zip hi) i h2, bc_dec (fun q1 => ?_) (fun q1 => bc_dec (fun q2 => ?_) (fun q2 => bc_dec (fun q3 => ?_) (fun q3 => bc_dec (fun q4 => ?_) (fun q4 => ?_))))⟩
      · rw [if_pos (.inl q1)] at hr; show [dI _] = [dI _]; rw [hr]
      · rw [if_pos (.inr q2)] at hr; show [dI _] = [dI _]; rw [hr]
      · rw [if_neg (by omega), if_pos (.inl q3)] at hr; exact go 1 hr
      · rw [if_neg (by omega), if_pos (.inr q4)] at hr; exact go 1 hr
      · rw [if_neg (by omega), if_neg (by omega)] at hr; exact go o hr
    · show (if 0 = 0 then _ else _)
      rw [if_pos rfl]
      show nan3 _ _ o _
      rw [nan3_text]
      rw [List.drop_eq_nil_of_le (by omega)] at hr
      show [dI _] = [dI _]
      rw [hr]; rfl
theorem conrd (l : List (Int × Int)) (hl : l.length < 1000000000) (ta tb : Int) : C5 65 [.sl l.length 2 (vp l), .agg [dI ta, dI tb]] [dI (rdy ta tb 2 l)] := by
  let inv : Nat × Int × Nat → Prop := fun x => x.1 ≤ l.length ∧ rdy ta tb 2 l = rdy ta tb x.2.1 (l.drop x.1)
  let st : Nat × Int × Nat → Slots × Blocks := fun x => zrd1 l.length x.2.2 x.2.1 x.1 (vp l) ta tb
  refine con_of (L := fun _ s b => ∃ x, inv x ∧ st x = (s, b)) hokZ mixed Try.func65 rfl (by show 1 ≤ 400; omega) rfl (ids := [0]) (by kernel_rfl) rfl (fun caps => ?_) (fun id hid => ?_)
  · show grd _ _ l.length (caps 500) (vp l) ta tb _
    rw [grd_text]
    exact ⟨(0, 2, caps 500), ⟨Nat.zero_le _, rfl⟩, rfl⟩
  · obtain rfl := List.mem_singleton.1 hid
    refine ⟨_, st, inv, fun x => l.length - x.1, ⟨fun s b h => h, by kernel_rfl, ?_⟩⟩
    rintro ⟨i, o, c⟩ ⟨hi', hr⟩
    have hi' : i ≤ l.length := hi'
    show rrd1 _ _ l.length c o (i : Int) (vp l) ta tb _ _ _
    rw [rrd1_text]
    refine bc_dec (fun h => ?_) (fun h => ?_)
    · have h2 : i < l.length := by omega
      have p0 : (0 : Int) ≤ (i : Int) := by omega
      have a1 : At (vp l) (0 + i * 2) 1 [vI l[i].1] := vp_one l i h2
      have a2 := vp_sndA l i h2 500
      simp only [bc_t p0, bc_t h, Int.toNat_natCast, at1 a1, at1 a2]
      rw [List.drop_eq_getElem_cons h2, rdy] at hr
      have go : ∀ o' : Int, rdy ta tb 2 l = rdy ta tb o' (l.drop (i + 1)) → ∃ x, inv x ∧ l.length - x.1 < l.length - i ∧ st x = (zrd1 l.length c o' (IntKind.wrap .i64 ((i : Int) + 1)) (vp l) ta tb) := fun o' ho =>
        ⟨(i + 1, o', c), ⟨by show i + 1 ≤ l.length; omega, ho⟩, by show l.length - (i + 1) < l.length - i; omega, by rw [w64 (by omega) (by omega)]; rfl⟩
      refine bc_dec (fun q1 => ?_) (fun q1 => bc_dec (fun q2 => ?_) (fun q2 => ?_))
      · refine ⟨?_, ?_⟩
        · simp [bcase, q1]
        · rw [if_pos (.inl q1)] at hr; show [dI _] = [dI _]; rw [hr]
      · refine ⟨?_, ?_⟩
        · simp [bcase, q1, q2]
        · rw [if_pos (.inr q2)] at hr; show [dI _] = [dI _]; rw [hr]
      · refine ⟨?_, bc_dec (fun q3 => ?_) (fun q3 => bc_dec (fun q4 => ?_) (fun q4 => ?_))⟩
        · simp [bcase, q1, q2]
        · refine ⟨?_, ?_⟩
          · simp [bcase, q3]
          · rw [if_neg (by omega), if_pos (.inl q3)] at hr; exact go 1 hr
        · refine ⟨?_, ?_⟩
          · simp [bcase, q3, q4]
          · rw [if_neg (by omega), if_pos (.inr q4)] at hr; exact go 1 hr
        · refine ⟨?_, ?_⟩
          · simp [bcase, q3, q4]
          · rw [if_neg (by omega), if_neg (by omega)] at hr; exact go o hr
    · show (if 0 = 0 then _ else _)
      rw [if_pos rfl]
      show nrd2 _ _ o _
      rw [nrd2_text]
      rw [List.drop_eq_nil_of_le (by omega)] at hr
      show [dI _] = [dI _]
      rw [hr]; rfl
end Go.Proofs.G5j

/- Chapter 2, heating: the enclosure after a route, by the program; copies, comparison. -/
namespace Go.Proofs.G5j
open Go Go.Abs Go.Proofs Go.Proofs.G2
set_option maxRecDepth 100000
theorem half_ok {ps : List Pt} (hv : OkT ps) {em : Int} (he : 0 ≤ em ∧ em ≤ 1000) {set s x : Int} (hs : 0 ≤ set ∧ set ≤ 20000) (h1 : 0 ≤ s ∧ s ≤ 1000) (hx : 0 ≤ x ∧ x ≤ 20000) : 0 ≤ half ps em set s x ∧ half ps em set s x ≤ 20000 := by
  have := first_in (T := ps) (mix := 0) (em := em) (bo := s) ⟨hv, by decide, he, h1⟩ (lo := 0) (hi := 20000) (set := set) hs (l := [x, x]) (fun i hi => by
    match i, hi with
    | 0, _ => exact hx
    | 1, _ => exact hx) (i := 0) (by simp)
  rwa [gd_first (by simp), if_neg (by simp), if_pos rfl] at this
theorem radOK {ps : List Pt} {m lo hi bo : Int} (hv : OkT ps) (hl : ps.length ≤ 10) (hm : 0 ≤ m ∧ m ≤ 50) (ha : 0 ≤ lo ∧ lo ≤ 1000) (hb : 0 ≤ hi ∧ hi ≤ 1000) (hbo : 0 ≤ bo ∧ bo ≤ 1000) : RadOK C5 57 (vp ps) ps.length m lo hi bo (fun x => rad x ps) where
  len := by simp
  says x := ⟨conrI hv hl x⟩
  rdb x := rad_in hv x
  fmi := hm
  fa := ha
  fb := hb
  fbo := hbo
  half em set s x he hs h1 hx := by
    have : 0 ≤ em ∧ em ≤ 1000 := by rcases he with rfl | rfl <;> first | exact ha | exact hb
    exact half_ok hv this hs h1 hx
theorem rul_all {ps : List Pt} {m lo hi : Int} (h : rulE ps m lo hi = 0) : (OkT ps ∧ ps.length ≤ 10) ∧ (0 ≤ m ∧ m ≤ 50) ∧ (0 ≤ lo ∧ lo ≤ 1000) ∧ (0 ≤ hi ∧ hi ≤ 1000) := by
  have h0 := rul_ok h
  refine ⟨h0.1, h0.2, ?_⟩
  unfold rulE at h
  repeat' split at h
  all_goals first | omega | (simp_all; done)
/-- both ends of the enclosure after a route -/
def encR (ps : List Pt) (up : Bool) (m lo hi bo : Int) (z : List (Int × Int)) (l : List Int) : List Int := encZ (fun x => rad x ps) up m lo hi bo z l
abbrev encP (ps : List Pt) (m lo hi bo : Int) (z : List (Int × Int)) (l : List Int) : List (Int × Int) := (encR ps false m lo hi bo z l).zip (encR ps true m lo hi bo z l)
theorem vi_tk {l : List Int} {n : Nat} (h : l.length = n) : List.take (n * 1) (List.drop 0 (vi l)) = vi l := by subst h; exact vi_whole l
end Go.Proofs.G5j

/- A range over a function: definitions. -/
namespace Go.Abs
/-- The blocks that the function that is ranged over reaches, each with its number within: they are only read. -/
def reachV (H : Heap) : Nat → List Nat → Mu → Nat → Mu
  | 0, _, μ, _ => μ
  | _, [], μ, _ => μ
  | f + 1, i :: work, μ, ro =>
    match μ.find i with
    | some _ => reachV H f work μ ro
    | none =>
      match H.get i with
      | none => reachV H f work μ ro
      | some o => reachV H f (work ++ blocksO o) (μ ++ [(i, ro)]) (ro + 1)
def iterMu (fv : Value) (H : Heap) : Mu := reachV H 1000 (blocksV 8 fv) [] hbase
def aliveIn (μ : Mu) (H : Heap) (i : Nat) : Bool := match H.get i with | some o => (match mapO μ o with | some (.taken) => false | some _ => true | none => false) | none => false
def iterGood (μ : Mu) (H : Heap) : Bool :=
  nodupB (μ.map (·.1)) && nodupB (μ.map (·.2)) && μ.all fun p => decide (abase ≤ p.1) && (decide (p.1 < mbase) || decide (gbase ≤ p.1)) && decide (hbase ≤ p.2) && decide (p.2 < mbase) && aliveIn μ H p.1
def iterArgs (fv : Value) (H : Heap) : List Value :=
  match fv with
  | .func (.func _) a b => a.toList.map (mapV (iterMu fv H) 8) ++ [.func (.yield ynum) #[] #[]] ++ b.toList.map (mapV (iterMu fv H) 8)
  | _ => []
def iterBlocks (fv : Value) (H : Heap) (rows : List (List D)) : Blocks := (ynum, .yld false (some rows)) :: gcB H (iterMu fv H) (iterMu fv H)
/-- The caller's own view while the rounds run: what the function that is ranged over reaches is only looked at. -/
def wbase : Nat := 460
def reachD (H : Heap) (Z : List Nat) : Nat → List Nat → Mu → Nat → Nat → Mu
  | 0, _, μ, _, _ => μ
  | _, [], μ, _, _ => μ
  | f + 1, i :: work, μ, next, view =>
    match μ.find i with
    | some _ => reachD H Z f work μ next view
    | none =>
      match H.get i with
      | none => reachD H Z f work μ next view
      | some o => if i < gbase then reachD H Z f (work ++ blocksO o) (μ ++ [(i, i)]) next view else if Z.contains i then reachD H Z f (work ++ blocksO o) (μ ++ [(i, view)]) next (view + 1) else reachD H Z f (work ++ blocksO o) (μ ++ [(i, next)]) (next + 1) view
def demGood (Z : List Nat) (μ : Mu) (H : Heap) (b : Blocks) : Bool :=
  nodupB (μ.map (·.1)) && nodupB (μ.map (·.2)) && μ.all fun p => aliveIn μ H p.1 && (decide (p.1 < wbase) || decide (hbase ≤ p.1)) && (if p.1 < gbase then p.2 == p.1 && (decide (p.1 < mbase) || !Z.contains p.1) else if Z.contains p.1 then decide (abase ≤ p.2) && decide (p.2 < wbase) else decide (gbase ≤ p.2) && decide (p.2 < (heapOf b).next))
/-- What is read in the rounds and behind them. -/
def liveR (ps : Array Tmp) (x y : Code) (l : Lv) : List Tmp := sortT (uni l.normal (uni ((liveIn x { l with normal := liveIn y l }).filter fun t => !ps.contains t) l.ret))
/-- With the mark of deferred calls. -/
def markA (s : Slots) (b : Blocks) (sz : Nat) : AAct := { actOf sz s with defers := (heapOf b).next :: (actOf sz s).defers }
def markH (b : Blocks) : Heap := (heapOf b).new .deferred
def demMu (fv : Value) (keep : List Tmp) (sz : Nat) (s : Slots) (b : Blocks) : Mu :=
  reachD (markH b) ((iterMu fv (heapOf b)).map (·.1)) 1000 ((keep.flatMap fun k => blocksV 8 ((markA s b sz).slot k)) ++ mroots (markH b) ++ (markA s b sz).defers) [] gbase abase
def enterS (fv : Value) (keep : List Tmp) (sz : Nat) (s : Slots) (b : Blocks) : Slots := gcS (demMu fv keep sz s b) keep (markA s b sz)
def enterB (fv : Value) (keep : List Tmp) (sz : Nat) (s : Slots) (b : Blocks) : Blocks := gcB (markH b) (demMu fv keep sz s b) (demMu fv keep sz s b)
def enterGood (fv : Value) (keep : List Tmp) (sz : Nat) (s : Slots) (b : Blocks) : Bool :=
  iterGood (iterMu fv (heapOf b)) (heapOf b) && demGood ((iterMu fv (heapOf b)).map (·.1)) (demMu fv keep sz s b) (markH b) (enterB fv keep sz s b) && gcDef (demMu fv keep sz s b) keep (markA s b sz)
/-- The end of a round: the slots are what they were. -/
def rowGood (μ : Mu) (keep : List Tmp) (A : AAct) (b : Blocks) : Bool := gcAll μ keep A b && μ.all fun p => decide (p.1 < wbase) || decide (hbase ≤ p.1)
def rendK (keep : List Tmp) (A : AAct) (B : Slots → Blocks → Prop) (X : Exit → Slots → Blocks → Prop) : Exit → AAct → Heap → Prop := fun e _ H =>
  match e with
  | .normal => bcase (rowGood (gcMu keep A H) keep A (gcB H (gcMu keep A H) (gcMu keep A H))) (B (gcS (gcMu keep A H) keep A) (gcB H (gcMu keep A H) (gcMu keep A H))) False
  | .exit i => bcase (rowGood (gcMu keep A H) keep A (gcB H (gcMu keep A H) (gcMu keep A H))) (X (.exit i) (gcS (gcMu keep A H) keep A) (gcB H (gcMu keep A H) (gcMu keep A H))) False
  | .ret => bcase (rowGood (gcMu keep A H) keep A (gcB H (gcMu keep A H) (gcMu keep A H))) (X .ret (gcS (gcMu keep A H) keep A) (gcB H (gcMu keep A H) (gcMu keep A H))) False
  | _ => False
def onlyN (k : AAct → Heap → Prop) : Exit → AAct → Heap → Prop := fun e A H =>
  match e with
  | .normal => k A H
  | _ => False
/-- A round: what is handed on lies behind the caller's blocks. -/
def roundR (P : Program) (h : Handler) (u : Nat) (sz : Nat) (ps : Array Tmp) (x y : Code) (l : Lv) (keep : List Tmp) (s : Slots) (b : Blocks) (row : List D) (B : Slots → Blocks → Prop) (X : Exit → Slots → Blocks → Prop) : Prop :=
  bcase (decide (countV row ≤ 40) && decide (row.length = ps.size)) (∀ caps,
    wpT P h (fun _ _ _ => False) u x { l with normal := liveIn y l } (AAct.putAll { actOf sz s with defers := [] } (ps.toList.zip (layVals caps wbase row).1)) (heapOf (b ++ (layVals caps wbase row).2))
      (onlyN fun A1 H1 => wpT P h (fun _ _ _ => False) u y l A1 H1 (rendK keep (actOf sz s) B X))) False
/-- A range over a function of the function: its head. -/
def headOf (P : Program) (sz : Nat) (r : Code × Lv) (s : Slots) (b : Blocks) (k : FuncId → List Value → Blocks → Slots → Blocks → Prop) : Prop :=
  match r with
  | (.rangeFunc f ps x y, l) =>
    match (actOf sz s).eval f with
    | .func (.func g) first captured =>
      bcase (enterable P g && enterGood (.func (.func g) first captured) (liveR ps x y l) sz s b)
        (k g (iterArgs (.func (.func g) first captured) (heapOf b)) (gcB (heapOf b) (iterMu (.func (.func g) first captured) (heapOf b)) (iterMu (.func (.func g) first captured) (heapOf b)))
          (enterS (.func (.func g) first captured) (liveR ps x y l) sz s b) (enterB (.func (.func g) first captured) (liveR ps x y l) sz s b)) False
    | _ => False
  | _ => False
def rowOfR (P : Program) (h : Handler) (sz : Nat) (r : Code × Lv) (s : Slots) (b : Blocks) (row : List D) (B : Slots → Blocks → Prop) (X : Exit → Slots → Blocks → Prop) : Prop :=
  match r with
  | (.rangeFunc _ ps x y, l) => roundR P h 8 sz ps x y l (liveR ps x y l) s b row B X
  | _ => False
/-- (at the top of the function) -/
def rHead (P : Program) (f : FuncId) (id : Nat) (s : Slots) (b : Blocks) (k : FuncId → List Value → Blocks → Slots → Blocks → Prop) : Prop :=
  match P.funcs[f]? with
  | some fn => match fn.body with
    | some c => match findLoop c (fnLv fn) id with
      | some r => headOf P (fnSize fn) r s b k
      | none => False
    | none => False
  | none => False
def rRound (P : Program) (h : Handler) (f : FuncId) (id : Nat) (s : Slots) (b : Blocks) (row : List D) (B : Slots → Blocks → Prop) (X : Exit → Slots → Blocks → Prop) : Prop :=
  match P.funcs[f]? with
  | some fn => match fn.body with
    | some c => match findLoop c (fnLv fn) id with
      | some r => rowOfR P h (fnSize fn) r s b row B X
      | none => False
    | none => False
  | none => False
/-- (within a loop) -/
def rHead2 (P : Program) (f : FuncId) (id id2 : Nat) (s : Slots) (b : Blocks) (k : FuncId → List Value → Blocks → Slots → Blocks → Prop) : Prop :=
  match P.funcs[f]? with
  | some fn => match fn.body with
    | some c => match findLoop c (fnLv fn) id with
      | some (body, l) => match findLoop body l id2 with
        | some r => headOf P (fnSize fn) r s b k
        | none => False
      | none => False
    | none => False
  | none => False
def rRound2 (P : Program) (h : Handler) (f : FuncId) (id id2 : Nat) (s : Slots) (b : Blocks) (row : List D) (B : Slots → Blocks → Prop) (X : Exit → Slots → Blocks → Prop) : Prop :=
  match P.funcs[f]? with
  | some fn => match fn.body with
    | some c => match findLoop c (fnLv fn) id with
      | some (body, l) => match findLoop body l id2 with
        | some r => rowOfR P h (fnSize fn) r s b row B X
        | none => False
      | none => False
    | none => False
  | none => False
end Go.Abs

/- A range over a function: it is sound. -/
namespace Go.Abs
open Go.RowKit
variable {P : Program} {ρ : Ren} {w0 : Start P} {w : World} {H : Heap} {h : Handler}

/-! ### The same call, seen from a later world -/
/-- What the rounds of an outer range may change, named. -/
structure Wit (w0 : Start P) (ρ : Ren) (H : Heap) (w : World) (Fo : Nat → Prop) : Prop where
  is : ∀ own rest, H.get ynum = some (.yld own rest) → ∃ m, ρ ynum = some m ∧ w0.it own rest Fo m.b w ∧ ∀ j n, ρ j = some n → H.live j → j ≠ ynum → ¬ Fo n.b
  no : (∀ own rest, H.get ynum ≠ some (.yld own rest)) → ∀ k, ¬ Fo k
theorem Gam.wit (g : Gam w0 ρ H w) : ∃ Fo, Wit w0 ρ H w Fo := by
  by_cases hy : ∃ own rest, H.get ynum = some (.yld own rest)
  · obtain ⟨own, rest, hget⟩ := hy
    obtain ⟨m, F, h1, h2, h3⟩ := g.yld own rest hget
    refine ⟨F, ⟨fun own' rest' h => ?_, fun h => absurd hget (h own rest)⟩⟩
    rw [hget] at h
    cases h
    exact ⟨m, h1, h2, h3⟩
  · exact ⟨fun _ => False, ⟨fun own rest h => absurd ⟨own, rest, h⟩ hy, fun _ _ h => h⟩⟩
variable {Fo : Nat → Prop}
theorem Wit.bound (wt : Wit w0 ρ H w Fo) (g : Gam w0 ρ H w) {k : Nat} (hk : Fo k) : k < w.heap.size := by
  by_cases hy : ∃ own rest, H.get ynum = some (.yld own rest)
  · obtain ⟨own, rest, hget⟩ := hy
    obtain ⟨m, h1, h2, h3⟩ := wt.is own rest hget
    exact g.itok.bound h2 k hk
  · exact absurd hk (wt.no (fun own rest h => hy ⟨own, rest, h⟩) k)
theorem Wit.free (wt : Wit w0 ρ H w Fo) (g : Gam w0 ρ H w) {k : Nat} (hk : Fo k) (hlt : k < w0.w.heap.size) : w0.free k := by
  by_cases hy : ∃ own rest, H.get ynum = some (.yld own rest)
  · obtain ⟨own, rest, hget⟩ := hy
    obtain ⟨m, h1, h2, h3⟩ := wt.is own rest hget
    exact g.itok.free h2 k hk hlt
  · exact absurd hk (wt.no (fun own rest h => hy ⟨own, rest, h⟩) k)
theorem Wit.yld (wt : Wit w0 ρ H w Fo) : YldR w0 ρ H w := fun own rest h => let ⟨m, h1, h2, h3⟩ := wt.is own rest h; ⟨m, Fo, h1, h2, h3⟩

def startAt (w0 : Start P) (ρ : Ren) (w : World) (Fo : Nat → Prop) : Start P :=
  { w := w, pin := ρ, mine := fun k => ∃ i m, gbase ≤ i ∧ ρ i = some m ∧ m.b = k, free := Fo, it := fun own rest F l w' => w0.it own rest F l w' ∧ w.heap.size ≤ w'.heap.size ∧ ∀ k, F k → k < w.heap.size → Fo k }
theorem at_own (g : Gam w0 ρ H w) {k : Nat} (h : (startAt w0 ρ w Fo).own k) (hk : k < w0.w.heap.size) : w0.own k := by
  rcases h with ⟨i, m, h1, h2, h3, h4⟩ | ⟨i, m, h1, h3, h4⟩
  · exact .inl ⟨i, m, h1, h2, g.pins i m (Nat.le_trans (by decide) h1) h2 h3, h4⟩
  · rcases (g.own i m h3).2 h1 with h | h
    · omega
    · exact .inr (h4 ▸ h)
theorem at_itok (g : Gam w0 ρ H w) (wt : Wit w0 ρ H w Fo) : ItOK (startAt w0 ρ w Fo) := by
  refine ⟨?_, ?_, ?_, ?_⟩
  · intro own rest F' l w' h; exact g.itok.bound h.1
  · intro own rest F' l w' h k hk hlt; exact h.2.2 k hk hlt
  · intro own rest F' l w1 w2 h h1 h2 h3 hs hk
    refine ⟨g.itok.stable h.1 h1 h2 h3 hs (fun k hk1 hc => hk k hk1 ?_), Nat.le_trans h.2.1 hs, h.2.2⟩
    rcases hc with ⟨c1, c2⟩ | hc
    · exact .inl ⟨Nat.lt_of_lt_of_le c1 g.below.size, fun ho => c2 (ho.elim (fun ho => .inl (at_own g ho c1)) (fun ho => .inr (wt.free g ho c1)))⟩
    · exact .inr hc
  · intro row rest F' l w1 h args' ha
    obtain ⟨L, hL, hsz, hr⟩ := g.itok.round h.1 args' ha
    refine ⟨L, hL, hsz, fun rC n => (hr rC n).mono ?_⟩
    rintro e w2 ⟨b, F2, rfl, q1, q2, q3, q4, q5, q6, q7⟩
    refine ⟨b, F2, rfl, ⟨q1, Nat.le_trans h.2.1 q5, fun k hk hlt => ?_⟩, q2, q3, q4, q5, q6, q7⟩
    rcases q7 k hk with h7 | h7
    · exact h.2.2 k h7 hlt
    · have := h.2.1; omega
theorem Gam.atNow (g : Gam w0 ρ H w) (wt : Wit w0 ρ H w Fo) : Gam (startAt w0 ρ w Fo) ρ H w := by
  refine ⟨g.gb, g.fresh, Kept.refl (startAt w0 ρ w Fo), fun i m hm => ⟨(g.own i m hm).1, fun hi => .inr ⟨i, m, hi, hm, rfl⟩⟩, g.glob, g.inj, g.obj, g.gmap, fun _ _ _ _ h => h, ?_, at_itok g wt, ?_⟩
  · intro q hq
    obtain ⟨v1, v2⟩ := g.vars q hq
    have h6 := VarKind.ok_some v1
    have h7 : q.1 < w0.w.heap.size := by
      rcases Nat.lt_or_ge q.1 w0.w.heap.size with h | h
      · exact h
      · rw [Array.getElem?_eq_none h] at h6; cases h6
    refine ⟨g.good q hq, fun h => ?_⟩
    rcases h with h | h
    · exact v2 (.inl (at_own g h h7))
    · exact v2 (.inr (wt.free g h h7))
  · intro own rest hget
    obtain ⟨m, h1, h2, h3⟩ := wt.is own rest hget
    exact ⟨m, Fo, h1, ⟨h2, Nat.le_refl _, fun _ hk _ => hk⟩, h3⟩
/-- The blocks that a call may change from here on. -/
def Foot (ρ : Ren) (Fo : Nat → Prop) (k : Nat) : Prop := (∃ i m, mbase ≤ i ∧ ρ i = some m ∧ m.b = k) ∨ Fo k
theorem at_foot {k : Nat} (h : (startAt w0 ρ w Fo).may k) : Foot ρ Fo k := by
  rcases h with (⟨i, m, h1, h2, h3, h4⟩ | ⟨i, m, h1, h3, h4⟩) | h
  · exact .inl ⟨i, m, h1, h3, h4⟩
  · exact .inl ⟨i, m, mb_of h1, h3, h4⟩
  · exact .inr h
/-- Back at the call's own beginning. -/
theorem Gam.atBack (g : Gam w0 ρ H w) (wt : Wit w0 ρ H w Fo) {ρ2 : Ren} {H2 : Heap} {w2 : World} (g2 : Gam (startAt w0 ρ w Fo) ρ2 H2 w2) :
    Gam w0 ρ2 H2 w2 ∧ (∀ k, k < w.heap.size → ¬ Foot ρ Fo k → w2.heap[k]? = w.heap[k]?) ∧ (∃ Fo2, Wit w0 ρ2 H2 w2 Fo2 ∧ ∀ k, Fo2 k → Fo k ∨ w.heap.size ≤ k) ∧ (∀ i m, mbase ≤ i → ρ2 i = some m → Foot ρ Fo m.b ∨ w.heap.size ≤ m.b) := by
  have hsz : w.heap.size ≤ w2.heap.size := g2.below.size
  have key : ∀ k, k < w.heap.size → ¬ Foot ρ Fo k → w2.heap[k]? = w.heap[k]? := fun k hk hf => g2.below.block k hk (fun h => hf (at_foot h))
  have own2 : ∀ i m, gbase ≤ i → ρ2 i = some m → w.heap.size ≤ m.b ∨ ∃ j n, gbase ≤ j ∧ ρ j = some n ∧ n.b = m.b := fun i m hi hm => (g2.own i m hm).2 hi
  have hit : ∀ {own rest F l w'}, (startAt w0 ρ w Fo).it own rest F l w' → w0.it own rest F l w' ∧ ∀ k, F k → Fo k ∨ w.heap.size ≤ k := fun {own rest F l w'} h =>
    ⟨h.1, fun k hk => by
      rcases Nat.lt_or_ge k w.heap.size with hl | hl
      · exact .inl (h.2.2 k hk hl)
      · exact .inr hl⟩
  refine ⟨⟨g2.gb, g2.fresh, ⟨g2.below.os.trans g.below.os, g2.below.tape.trans g.below.tape, g2.below.output.trans g.below.output, Nat.le_trans g.below.size hsz, fun k hk hm => ?_⟩, fun i m hm => ⟨(g2.own i m hm).1, fun hi => ?_⟩, g2.glob, g2.inj, g2.obj, g2.gmap, fun i m h1 h2 hm => g.pins i m h1 h2 (g2.pins i m h1 h2 hm), g.vars, g.itok, ?_⟩, key, ?_, ?_⟩
  · refine (g2.below.block k (Nat.lt_of_lt_of_le hk g.below.size) (fun h => ?_)).trans (g.below.block k hk hm)
    rcases h with h | h
    · exact hm (.inl (at_own g h hk))
    · exact hm (.inr (wt.free g h hk))
  · rcases own2 i m hi hm with h | ⟨j, n, hj, hn, hb⟩
    · exact .inl (Nat.le_trans g.below.size h)
    · rw [← hb]; exact (g.own j n hn).2 hj
  · intro own rest hget
    obtain ⟨m, F, h1, h2, h3⟩ := g2.yld own rest hget
    exact ⟨m, F, h1, h2.1, h3⟩
  · by_cases hy : ∃ own rest, H2.get ynum = some (.yld own rest)
    · obtain ⟨own, rest, hget⟩ := hy
      obtain ⟨m, F, h1, h2, h3⟩ := g2.yld own rest hget
      refine ⟨F, ⟨fun own' rest' h => ?_, fun h => absurd hget (h own rest)⟩, (hit h2).2⟩
      rw [hget] at h
      cases h
      exact ⟨m, h1, h2.1, h3⟩
    · exact ⟨fun _ => False, ⟨fun own rest h => absurd ⟨own, rest, h⟩ hy, fun _ _ h => h⟩, fun _ h => h.elim⟩
  · intro i m hi hm
    rcases Nat.lt_or_ge i gbase with hl | hl
    · exact .inl (.inl ⟨i, m, hi, g2.pins i m (Nat.le_trans (by decide) hi) hl hm, rfl⟩)
    · rcases own2 i m hl hm with h | ⟨j, n, hj, hn, hb⟩
      · exact .inr h
      · exact .inl (.inl ⟨j, n, mb_of hj, hn, hb⟩)

/-- The world changes elsewhere. -/
theorem Gam.same (g : Gam w0 ρ H w) (wt : Wit w0 ρ H w Fo) {w' : World} (h1 : w'.os = w.os) (h2 : w'.tape = w.tape) (h3 : w'.output = w.output) (hs : w.heap.size ≤ w'.heap.size)
    (hw : ∀ k, k < w0.w.heap.size → ¬ w0.may k → w'.heap[k]? = w.heap[k]?) (hb : ∀ i m, ρ i = some m → H.live i → w'.heap[m.b]? = w.heap[m.b]?) (hf : ∀ k, Fo k → w'.heap[k]? = w.heap[k]?) : Gam w0 ρ H w' ∧ Wit w0 ρ H w' Fo := by
  have wt' : Wit w0 ρ H w' Fo := by
    refine ⟨fun own rest hget => ?_, wt.no⟩
    obtain ⟨m, q1, q2, q3⟩ := wt.is own rest hget
    refine ⟨m, q1, g.itok.stable q2 h1 h2 h3 hs (fun k hk hc => ?_), q3⟩
    rcases hc with ⟨c1, c2⟩ | hc
    · exact hw k c1 c2
    · exact hf k hc
  exact ⟨⟨g.gb, g.fresh, ⟨h1.trans g.below.os, h2.trans g.below.tape, h3.trans g.below.output, Nat.le_trans g.below.size hs, fun k hk hm => (hw k hk hm).trans (g.below.block k hk hm)⟩, fun i m hm => ⟨Nat.lt_of_lt_of_le (g.own i m hm).1 hs, (g.own i m hm).2⟩, g.glob, g.inj,
    fun i m o hm ho => (g.obj i m o hm ho).mono ρ.le_refl (fun hal => hb i m hm ⟨o, ho, hal⟩), g.gmap, g.pins, g.vars, g.itok, wt'.yld⟩, wt'⟩

/-! ### What is handed on is laid -/
theorem heapOf_next {b r : Blocks} (h : ∀ p ∈ r, p.1 < gbase) : (heapOf (b ++ r)).next = (heapOf b).next := by
  have e : r.filter (fun p => decide (gbase ≤ p.1)) = [] := List.filter_eq_nil_iff.2 (fun p hp => by have := h p hp; simp; omega)
  simp [heapOf, List.filter_append, e]
theorem foldl_set_out (r : Blocks) : ∀ (t : Tree AObj) (i : Nat), (∀ p ∈ r, p.1 ≠ i) → (r.foldl (fun t (p : Nat × AObj) => t.set (p.1 + 1) p.1 p.2) t).get i = t.get i := by
  induction r with
  | nil => intro t i _; rfl
  | cons p r ih =>
    intro t i h
    simp only [List.foldl_cons]
    rw [ih _ i (fun q hq => h q (List.mem_cons_of_mem _ hq)), Tree.get_set _ _ _ _ _ (by omega), if_neg (fun e => h p (List.mem_cons_self ..) e.symm)]
theorem heapOf_out {b r : Blocks} {i : Nat} (h : ∀ p ∈ r, p.1 ≠ i) : (heapOf (b ++ r)).get i = (heapOf b).get i := by
  simp only [heapOf, Heap.get, List.foldl_append]
  exact foldl_set_out r _ i h
theorem Gam.layRow {b : Blocks} (g : Gam w0 ρ (heapOf b) w) (wt : Wit w0 ρ (heapOf b) w Fo) (hno : ∀ q, wbase ≤ q → q < hbase → ρ q = none ∧ ∀ o, (q, o) ∉ b) {F : Nat → Prop} (hF : ∀ k, Foot ρ Fo k → F k)
    {row : List D} {vs' : List Value} (h : ReadsL (hide F w) row vs') (hc : countV row ≤ 40) :
    ∃ caps ρ3, Gam w0 ρ3 (heapOf (b ++ (layVals caps wbase row).2)) w ∧ LR ρ3 (layVals caps wbase row).1 vs' ∧ ρ.le ρ3 ∧ (∀ i m, ρ3 i = some m → ρ i = some m ∨ (wbase ≤ i ∧ i < hbase ∧ ¬ F m.b)) ∧ Wit w0 ρ3 (heapOf (b ++ (layVals caps wbase row).2)) w Fo := by
  obtain ⟨pl, h1, h2, h3⟩ := layVals_ok row wbase h
  let caps : Nat → Nat := fun q => ((pl q).map (·.1)).getD 0
  let ρ3 : Ren := fun q => if wbase ≤ q ∧ q < wbase + countV row then (pl q).map (·.2) else ρ q
  have hhi : wbase + countV row ≤ hbase := by unfold wbase hbase; omega
  have hρ : ∀ q m, ρ3 q = some m → (wbase ≤ q ∧ q < wbase + countV row ∧ (m.b < w.heap.size ∧ ¬ F m.b) ∧ ∃ c, pl q = some (c, m)) ∨ (¬ (wbase ≤ q ∧ q < wbase + countV row) ∧ ρ q = some m) := by
    intro q m hm
    simp only [ρ3] at hm
    split at hm
    · rename_i hq
      obtain ⟨⟨c, m'⟩, hx, e⟩ := Option.map_eq_some_iff.1 hm
      cases e
      obtain ⟨c2, m2, hx2, hb⟩ := h2 q hq.1 hq.2
      rw [hx] at hx2; cases hx2
      exact .inl ⟨hq.1, hq.2, ⟨by rw [hide_size] at hb; exact hb.1, let ⟨_, _, _, hcl⟩ := hb.2; (hide_cells hcl).1⟩, c, hx⟩
    · rename_i hq; exact .inr ⟨hq, hm⟩
  have hbl := h1 caps
  have hle : ρ.le ρ3 := by
    intro q m hm
    have : ¬ (wbase ≤ q ∧ q < wbase + countV row) := fun hq => by
      rw [(hno q hq.1 (by omega)).1] at hm; cases hm
    simp only [ρ3]; rw [if_neg this]; exact hm
  have hlow : ∀ p ∈ (layVals caps wbase row).2, wbase ≤ p.1 ∧ p.1 < wbase + countV row := fun p hp => let ⟨a, c, _⟩ := hbl p.1 p.2 hp; ⟨a, c⟩
  have hgb : ∀ p ∈ (layVals caps wbase row).2, p.1 < gbase := fun p hp => by have := (hlow p hp).2; unfold hbase at hhi; unfold gbase; omega
  have hn := heapOf_next (b := b) hgb
  have hold : ∀ {i : Nat}, ¬ (wbase ≤ i ∧ i < wbase + countV row) → (heapOf (b ++ (layVals caps wbase row).2)).get i = (heapOf b).get i := fun {i} hi => heapOf_out (fun p hp e => hi (by rw [← e]; exact hlow p hp))
  have hnew : ∀ {i : Nat} {o : AObj}, wbase ≤ i → i < wbase + countV row → (heapOf (b ++ (layVals caps wbase row).2)).get i = some o → (i, o) ∈ (layVals caps wbase row).2 := by
    intro i o h1 h2 h
    rcases List.mem_append.1 (heapOf_get h) with h | h
    · exact absurd h ((hno i h1 (by omega)).2 o)
    · exact h
  have hmbn : ∀ {i : Nat}, mbase ≤ i → ¬ (wbase ≤ i ∧ i < wbase + countV row) := fun {i} hi h => by unfold mbase at hi; unfold hbase at hhi; omega
  have hobj : ∀ {q : Nat} {m : Meta} {o : AObj}, wbase ≤ q → q < wbase + countV row → ρ3 q = some m → (heapOf (b ++ (layVals caps wbase row).2)).get q = some o → ObjR ρ3 w m o ∧ ¬ F m.b := by
    intro q m o q1 q2 hm ho
    obtain ⟨_, _, c', m', hx, hb, cs, es, rfl, r1, r2, r3, ⟨a, ty, fz, r4, r5, r6⟩, r7⟩ := hbl q o (hnew q1 q2 ho)
    rcases hρ q m hm with ⟨_, _, _, c, hx2⟩ | ⟨hq, _⟩
    · rw [hx] at hx2
      cases hx2
      obtain ⟨r8, r9⟩ := hide_cells r4
      refine ⟨⟨⟨r1, r2, r3, a, ty, fz, ⟨r9, fun h => by cases h⟩, r5, ?_⟩, r7⟩, r8⟩
      rw [r6]
      exact LR.plain (fun v => plain_refl _ 8 v) cs (List.all_eq_true.2 (fun v hv => cellP_plain (r7 v hv)))
    · exact absurd ⟨q1, q2⟩ hq
  have live3 : ∀ {i : Nat}, ¬ (wbase ≤ i ∧ i < wbase + countV row) → (heapOf (b ++ (layVals caps wbase row).2)).live i → (heapOf b).live i := fun {i} hi ⟨o, ho, ha⟩ => ⟨o, by rw [← hold hi]; exact ho, ha⟩
  have hyn : ¬ (wbase ≤ ynum ∧ ynum < wbase + countV row) := hmbn (by decide)
  have wt3 : Wit w0 ρ3 (heapOf (b ++ (layVals caps wbase row).2)) w Fo := by
    refine ⟨fun own rest hget => ?_, fun h => wt.no (fun own rest h' => h own rest (by rw [hold hyn]; exact h'))⟩
    rw [hold hyn] at hget
    obtain ⟨m, q1, q2, q3⟩ := wt.is own rest hget
    refine ⟨m, hle _ _ q1, q2, fun j n hj hl hne hf => ?_⟩
    by_cases hj2 : wbase ≤ j ∧ j < wbase + countV row
    · obtain ⟨o, ho, _⟩ := hl
      exact (hobj hj2.1 hj2.2 hj ho).2 (hF _ (.inr hf))
    · rcases hρ j n hj with ⟨a, c, _⟩ | ⟨_, hj3⟩
      · exact hj2 ⟨a, c⟩
      · exact q3 j n hj3 (live3 hj2 hl) hne hf
  refine ⟨caps, ρ3, ⟨by rw [hn]; exact g.gb, ?_, g.below, ?_, ?_, ?_, ?_, ?_, ?_, g.vars, g.itok, wt3.yld⟩, h3 caps ρ3 ⟨fun q q1 q2 => ?_⟩, hle, ?_, wt3⟩
  · intro i hi
    rw [hn] at hi
    have := g.gb
    have hni : ¬ (wbase ≤ i ∧ i < wbase + countV row) := hmbn (by unfold gbase at this; unfold mbase; omega)
    simp only [ρ3]; rw [if_neg hni]; exact g.fresh i hi
  · intro i m hm
    rcases hρ i m hm with ⟨a, c, hb, _⟩ | ⟨_, hm⟩
    · exact ⟨hb.1, fun hg => absurd ⟨a, c⟩ (hmbn (mb_of hg))⟩
    · exact g.own i m hm
  · intro i m hm hi
    rcases hρ i m hm with ⟨a, c, hb, _⟩ | ⟨_, hm⟩
    · unfold wbase at a; unfold abase at hi; omega
    · exact g.glob i m hm hi
  · intro i j mi mj hgi hi hj ei ej hbb
    have hi2 := hmbn hgi
    rcases hρ i mi ei with ⟨a, c, _⟩ | ⟨_, ei⟩
    · exact absurd ⟨a, c⟩ hi2
    · rcases hρ j mj ej with ⟨a, c, _⟩ | ⟨hj2, ej⟩
      · obtain ⟨o, ho, _⟩ := hj
        exact absurd (hF _ (.inl ⟨i, mi, hgi, ei, hbb⟩)) (hobj a c (by simp only [ρ3]; rw [if_pos ⟨a, c⟩]; obtain ⟨c2, m2, hx, _⟩ := h2 j a c; have := ‹ρ3 j = some mj›; simp only [ρ3] at this; rw [if_pos ⟨a, c⟩] at this; exact this) ho).2
      · exact g.inj i j mi mj hgi (live3 hi2 hi) (live3 hj2 hj) ei ej hbb
  · intro i m o hm ho
    rcases hρ i m hm with ⟨a, c, _⟩ | ⟨hi2, hm2⟩
    · exact (hobj a c hm ho).1
    · rw [hold hi2] at ho
      exact (g.obj i m o hm2 ho).mono hle (fun _ => rfl)
  · intro i hi hne
    have hi2 : ¬ (wbase ≤ i ∧ i < wbase + countV row) := by
      rcases hi with h | h
      · intro h2; unfold abase at h; unfold wbase at h2; omega
      · exact hmbn h.1
    rw [hold hi2] at hne
    obtain ⟨m, hm⟩ := g.gmap i hi hne
    exact ⟨m, hle _ _ hm⟩
  · intro i m ha hi hm
    rcases hρ i m hm with ⟨a, c, _⟩ | ⟨_, hm⟩
    · omega
    · exact g.pins i m ha hi hm
  · obtain ⟨c, m, hx, _⟩ := h2 q q1 q2
    exact ⟨c, m, hx, by simp [caps, hx], by simp [ρ3, q1, q2, hx]⟩
  · intro i m hm
    rcases hρ i m hm with ⟨a, c, hb, _⟩ | ⟨_, hm⟩
    · exact .inr ⟨a, by omega, hb.2⟩
    · exact .inl hm

/-! ### The caller's view while the rounds run -/
theorem aliveIn_out {μ : Mu} {H : Heap} {i : Nat} (h : aliveIn μ H i = true) : ∃ o o2, H.get i = some o ∧ mapO μ o = some o2 ∧ o.alive = true := by
  unfold aliveIn at h
  cases hg : H.get i with
  | none => simp [hg] at h
  | some o =>
    simp only [hg] at h
    cases hm : mapO μ o with
    | none => simp [hm] at h
    | some o2 =>
      refine ⟨o, o2, rfl, hm, mapO_alive hm (fun e => ?_)⟩
      subst e
      simp [hm] at h
structure DemOK (Z : List Nat) (μ : Mu) (H : Heap) (nx : Nat) : Prop where
  fst : (μ.map (·.1)).Nodup
  snd : (μ.map (·.2)).Nodup
  live : ∀ i j, (i, j) ∈ μ → ∃ o o2, H.get i = some o ∧ mapO μ o = some o2 ∧ o.alive = true
  win : ∀ i j, (i, j) ∈ μ → i < wbase ∨ hbase ≤ i
  cls : ∀ i j, (i, j) ∈ μ → (i < gbase ∧ j = i ∧ (i < mbase ∨ i ∉ Z)) ∨ (gbase ≤ i ∧ i ∈ Z ∧ abase ≤ j ∧ j < wbase) ∨ (gbase ≤ i ∧ i ∉ Z ∧ gbase ≤ j ∧ j < nx)
theorem demGood_ok {Z : List Nat} {μ : Mu} {H : Heap} {b : Blocks} (h : demGood Z μ H b = true) : DemOK Z μ H (heapOf b).next := by
  simp only [demGood, Bool.and_eq_true] at h
  have hall := fun p hp => List.all_eq_true.1 h.2 p hp
  refine ⟨nodupB_spec h.1.1, nodupB_spec h.1.2, fun i j hij => ?_, fun i j hij => ?_, fun i j hij => ?_⟩
  all_goals
    have := hall _ hij
    simp only [Bool.and_eq_true, Bool.or_eq_true, decide_eq_true_eq] at this
    obtain ⟨⟨h1, h2⟩, h3⟩ := this
  · exact aliveIn_out h1
  · exact h2
  · split at h3
    · rename_i hlt
      simp only [Bool.and_eq_true, Bool.or_eq_true, decide_eq_true_eq, beq_iff_eq, Bool.not_eq_true', List.contains_eq_mem, decide_eq_false_iff_not] at h3
      exact .inl ⟨hlt, h3.1, h3.2⟩
    · rename_i hge
      split at h3
      · rename_i hz
        simp only [Bool.and_eq_true, decide_eq_true_eq] at h3
        exact .inr (.inl ⟨by omega, by simpa using hz, h3⟩)
      · rename_i hz
        simp only [Bool.and_eq_true, decide_eq_true_eq] at h3
        exact .inr (.inr ⟨by omega, by simpa using hz, h3⟩)
theorem mu_eq_snd {μ : Mu} (h : (μ.map (·.2)).Nodup) {i i' j : Nat} (h1 : (i, j) ∈ μ) (h2 : (i', j) ∈ μ) : i = i' := by have := nodup_inj h h1 h2 rfl; cases this; rfl
theorem mu_eq_fst {μ : Mu} (h : (μ.map (·.1)).Nodup) {i j j' : Nat} (h1 : (i, j) ∈ μ) (h2 : (i, j') ∈ μ) : j = j' := by have := nodup_inj h h1 h2 rfl; cases this; rfl
theorem ren_obj {μ : Mu} (ok : MuS μ) (g : Gam w0 ρ H w) {i : Nat} {m : Meta} {o : AObj} (hm : μ.ren ρ i = some m) (ho : (heapOf (gcB H μ μ)).get i = some o) : ObjR (μ.ren ρ) w m o ∧ ∃ i0 o0, (i0, i) ∈ μ ∧ ρ i0 = some m ∧ H.get i0 = some o0 ∧ mapO μ o0 = some o ∧ o.alive = o0.alive := by
  obtain ⟨i0, hi0, hr0⟩ := Mu.ren_some hm
  obtain ⟨i1, o1, hi1, hg1, hmo⟩ := gcB_mem (heapOf_get ho)
  obtain rfl := mu_eq_snd ok.snd hi0 hi1
  obtain ⟨r1, r2⟩ := mapO_S ok hmo (g.obj _ m _ hr0 hg1)
  exact ⟨r1, i0, o1, hi0, hr0, hg1, hmo, r2⟩
theorem act_S {μ : Mu} (ok : MuS μ) {A : AAct} {a : Act} (ra : ActR ρ A a) {keep : List Tmp} (hdef : gcDef μ keep A = true) : ActR (μ.ren ρ) (actOf A.size (gcS μ keep A)) a := by
  refine ⟨ra.size, ?_, ?_⟩
  · intro t
    unfold AAct.slot actOf
    simp only
    rcases foldlS_tree (gcS μ keep A) (blank A.size) t with h | ⟨p, hp, h0, h1, h2⟩
    · rw [h, blank_get]
      by_cases ht : t < A.size
      · rw [if_pos ht]; exact .unknown _ _
      · rw [if_neg ht]
        have : a.tmps.getD t undef = undef := by
          rw [Array.getD_eq_getD_getElem?, Array.getElem?_eq_none (by rw [ra.size]; exact Nat.le_of_not_lt ht)]
          rfl
        rw [this]
        exact VR.undef _
    · rw [h2]
      unfold gcS at hp
      rcases List.mem_append.1 hp with hp | hp
      · obtain ⟨k, _, rfl⟩ := List.mem_map.1 hp
        simp only at h1
        subst h1
        exact mapV_S ok 8 _ _ (ra.slot k)
      · obtain ⟨D, _, rfl⟩ := List.mem_map.1 hp
        exact absurd h0 (Nat.lt_irrefl _)
  · have hde : (actOf A.size (gcS μ keep A)).defers = A.defers.map fun D => (μ.find D).getD 0 := defOf_gcS hdef
    rw [hde]
    refine ⟨by rw [List.length_map]; exact ra.defers.1, fun j D' h => ?_⟩
    rw [List.getElem?_map] at h
    obtain ⟨D, hD, rfl⟩ := Option.map_eq_some_iff.1 h
    obtain ⟨m, h1, h2⟩ := ra.defers.2 j D hD
    simp only [gcDef, Bool.and_eq_true] at hdef
    obtain ⟨q, hq⟩ := Option.isSome_iff_exists.1 (List.all_eq_true.1 hdef.2 D (List.mem_of_getElem? hD))
    exact ⟨m, by rw [hq]; simp only [Option.getD_some]; rw [Mu.ren_of ok.snd (Mu.find_mem hq)]; exact h1, h2⟩
theorem DemOK.toS {Z : List Nat} {μ : Mu} {nx : Nat} (ok : DemOK Z μ H nx) : MuS μ := ⟨ok.snd, fun i j hij hlt => by
  rcases ok.cls i j hij with h | h | h
  · exact h.2.1
  · have := h.1; unfold gbase at this; unfold abase at hlt; omega
  · have := h.1; unfold gbase at this; unfold abase at hlt; omega⟩
theorem dem_gam {Z : List Nat} {μ : Mu} (g : Gam w0 ρ H w) (wt : Wit w0 ρ H w Fo) (ok : DemOK Z μ H (heapOf (gcB H μ μ)).next) :
    Gam w0 (μ.ren ρ) (heapOf (gcB H μ μ)) w ∧ Wit w0 (μ.ren ρ) (heapOf (gcB H μ μ)) w (fun k => (∃ own rest, (heapOf (gcB H μ μ)).get ynum = some (.yld own rest)) ∧ Fo k) ∧
    (∀ j m, mbase ≤ j → μ.ren ρ j = some m → ∃ i, (i, j) ∈ μ ∧ ρ i = some m ∧ H.live i ∧ mbase ≤ i ∧ i ∉ Z) ∧ (∀ j m, j < mbase → μ.ren ρ j = some m → ∃ i, (i, j) ∈ μ ∧ ρ i = some m ∧ H.live i ∧ (i < mbase ∨ i ∈ Z)) ∧
    (∀ q, wbase ≤ q → q < hbase → μ.ren ρ q = none ∧ ∀ o, (q, o) ∉ gcB H μ μ) := by
  have okS := ok.toS
  have big : ∀ {i j : Nat}, (i, j) ∈ μ → mbase ≤ j → mbase ≤ i ∧ i ∉ Z := by
    intro i j hij hj
    rcases ok.cls i j hij with ⟨h1, h2, h3⟩ | h | h
    · subst h2; exact ⟨hj, h3.resolve_left (by omega)⟩
    · have := h.2.2.2; unfold wbase at this; unfold mbase at hj; omega
    · exact ⟨mb_of h.1, h.2.1⟩
  have big' : ∀ {i j : Nat}, (i, j) ∈ μ → gbase ≤ j → gbase ≤ i := by
    intro i j hij hj
    rcases ok.cls i j hij with ⟨h1, h2, h3⟩ | h | h
    · omega
    · exact h.1
    · exact h.1
  have same : ∀ {i j : Nat}, (i, j) ∈ μ → (j < abase ∨ (hbase ≤ j ∧ j < gbase)) → j = i := by
    intro i j hij hj
    rcases ok.cls i j hij with h | h | h
    · exact h.2.1
    · have h1 := h.2.2.1; have h2 := h.2.2.2; unfold wbase at h2; unfold hbase at hj; omega
    · have h1 := h.2.2.1; unfold gbase at h1 hj; unfold abase at hj; omega
  have liveOf : ∀ {i j : Nat}, (i, j) ∈ μ → H.live i := fun hij => let ⟨o, _, h1, _, h2⟩ := ok.live _ _ hij; ⟨o, h1, h2⟩
  have obj := fun {i : Nat} {m : Meta} {o : AObj} (hm : μ.ren ρ i = some m) (ho : (heapOf (gcB H μ μ)).get i = some o) => ren_obj okS g hm ho
  have wt2 : Wit w0 (μ.ren ρ) (heapOf (gcB H μ μ)) w (fun k => (∃ own rest, (heapOf (gcB H μ μ)).get ynum = some (.yld own rest)) ∧ Fo k) := by
    refine ⟨fun own rest hget => ?_, fun h k hk => let ⟨⟨own, rest, h'⟩, _⟩ := hk; h own rest h'⟩
    obtain ⟨i, o', hi, hg, hmo⟩ := gcB_mem (heapOf_get hget)
    have ho' := isYld_of hmo
    subst ho'
    obtain rfl : ynum = i := same hi (.inr (by decide))
    obtain ⟨m, q1, q2, q3⟩ := wt.is own rest hg
    have eF : (fun k => (∃ own rest, (heapOf (gcB H μ μ)).get ynum = some (.yld own rest)) ∧ Fo k) = Fo := by
      funext k
      exact propext ⟨fun h => h.2, fun h => ⟨⟨own, rest, hget⟩, h⟩⟩
    refine ⟨m, by rw [Mu.ren_of ok.snd hi]; exact q1, by rw [eF]; exact q2, fun j n hj hl hne hF => ?_⟩
    obtain ⟨oj, gj, aj⟩ := hl
    obtain ⟨_, j0, oj0, hj0, rj0, gj0, _, haj⟩ := obj hj gj
    exact q3 j0 n rj0 ⟨oj0, gj0, by rw [← haj]; exact aj⟩ (fun e => by subst e; exact hne (mu_eq_fst ok.fst hj0 hi)) hF.2
  refine ⟨⟨Nat.le_add_right _ _, ?_, g.below, ?_, ?_, ?_, fun i m o hm ho => (obj hm ho).1, ?_, ?_, g.vars, g.itok, wt2.yld⟩, wt2, ?_, ?_, ?_⟩
  · intro i hi
    cases hr : μ.ren ρ i with
    | none => rfl
    | some m =>
      obtain ⟨i0, hi0, _⟩ := Mu.ren_some hr
      have hgb : gbase ≤ (heapOf (gcB H μ μ)).next := Nat.le_add_right _ _
      rcases ok.cls _ _ hi0 with h | h | h
      · omega
      · have := h.2.2.2; unfold wbase at this; unfold gbase at hgb; omega
      · omega
  · intro j m hm
    obtain ⟨i, hi, hr⟩ := Mu.ren_some hm
    exact ⟨(g.own i m hr).1, fun hj => (g.own i m hr).2 (big' hi hj)⟩
  · intro j m hm hj
    obtain ⟨i, hi, hr⟩ := Mu.ren_some hm
    have := same hi (.inl hj)
    subst this
    exact g.glob _ m hr hj
  · rintro i j mi mj hgi ⟨oi, gi, ai⟩ ⟨oj, gj, aj⟩ ei ej hb
    obtain ⟨_, i0, oi0, hi0, ri0, gi0, _, hai⟩ := obj ei gi
    obtain ⟨_, j0, oj0, hj0, rj0, gj0, _, haj⟩ := obj ej gj
    have := g.inj i0 j0 mi mj (big hi0 hgi).1 ⟨oi0, gi0, by rw [← hai]; exact ai⟩ ⟨oj0, gj0, by rw [← haj]; exact aj⟩ ri0 rj0 hb
    subst this
    exact mu_eq_fst ok.fst hi0 hj0
  · intro j hj hn
    cases ho : (heapOf (gcB H μ μ)).get j with
    | none => exact absurd ho hn
    | some o =>
      obtain ⟨i, o', hi, hg, _⟩ := gcB_mem (heapOf_get ho)
      have := same hi (hj.imp id (fun h => ⟨Nat.le_trans (by decide) h.1, h.2⟩))
      subst this
      obtain ⟨m, hm⟩ := g.gmap j hj (by rw [hg]; simp)
      exact ⟨m, by rw [Mu.ren_of ok.snd hi]; exact hm⟩
  · intro j m ha hj hm
    obtain ⟨i, hi, hr⟩ := Mu.ren_some hm
    have := same hi (.inr ⟨ha, hj⟩)
    subst this
    exact g.pins _ m ha hj hr
  · intro j m hj hm
    obtain ⟨i, hi, hr⟩ := Mu.ren_some hm
    exact ⟨i, hi, hr, liveOf hi, big hi hj⟩
  · intro j m hj hm
    obtain ⟨i, hi, hr⟩ := Mu.ren_some hm
    refine ⟨i, hi, hr, liveOf hi, ?_⟩
    rcases ok.cls i j hi with ⟨h1, h2, h3⟩ | h | h
    · subst h2; exact .inl hj
    · exact .inr h.2.1
    · have := h.2.2.1; unfold gbase at this; unfold mbase at hj; omega
  · intro q q1 q2
    have no : ∀ i, (i, q) ∉ μ := by
      intro i hi
      rcases ok.cls i q hi with ⟨h1, h2, h3⟩ | h | h
      · subst h2; rcases ok.win _ _ hi with h | h <;> omega
      · omega
      · have := h.2.2.1; unfold gbase at this; unfold hbase at q2; omega
    refine ⟨?_, fun o ho => ?_⟩
    · cases hr : μ.ren ρ q with
      | none => rfl
      | some m => obtain ⟨i, hi, _⟩ := Mu.ren_some hr; exact absurd hi (no i)
    · obtain ⟨i, _, hi, _⟩ := gcB_mem ho
      exact no i hi

/-! ### The view of the function that is ranged over -/
structure IterOK (μ : Mu) (H : Heap) : Prop where
  fst : (μ.map (·.1)).Nodup
  snd : (μ.map (·.2)).Nodup
  cls : ∀ i j, (i, j) ∈ μ → abase ≤ i ∧ (i < mbase ∨ gbase ≤ i) ∧ hbase ≤ j ∧ j < mbase
  live : ∀ i j, (i, j) ∈ μ → ∃ o o2, H.get i = some o ∧ mapO μ o = some o2 ∧ o.alive = true
theorem iterGood_ok {μ : Mu} {H : Heap} (h : iterGood μ H = true) : IterOK μ H := by
  simp only [iterGood, Bool.and_eq_true] at h
  have hall := fun p hp => List.all_eq_true.1 h.2 p hp
  refine ⟨nodupB_spec h.1.1, nodupB_spec h.1.2, fun i j hij => ?_, fun i j hij => ?_⟩
  all_goals
    have := hall _ hij
    simp only [Bool.and_eq_true, Bool.or_eq_true, decide_eq_true_eq] at this
    obtain ⟨⟨⟨⟨h1, h2⟩, h3⟩, h4⟩, h5⟩ := this
  · exact ⟨h1, h2, h3, h4⟩
  · exact aliveIn_out h5
theorem IterOK.toS {μ : Mu} (ok : IterOK μ H) : MuS μ := ⟨ok.snd, fun i j hij hlt => by have := (ok.cls i j hij).1; omega⟩
theorem reachV_placed (g : Gam w0 ρ H w) : ∀ (f : Nat) (work : List Nat) (μ : Mu) (ro : Nat), (∀ i ∈ work, Placed ρ i) → (∀ p ∈ μ, Placed ρ p.1) → ∀ p ∈ reachV H f work μ ro, Placed ρ p.1
  | 0, _, μ, _, _, h => by simpa [reachV] using h
  | f + 1, [], μ, _, _, h => by simpa [reachV] using h
  | f + 1, i :: work, μ, ro, hw, h => by
    have hw2 : ∀ j ∈ work, Placed ρ j := fun j hj => hw j (List.mem_cons_of_mem _ hj)
    have hi := hw i (List.mem_cons_self ..)
    unfold reachV
    split
    · exact reachV_placed g f work μ ro hw2 h
    · split
      · exact reachV_placed g f work μ ro hw2 h
      · rename_i o ho
        have hm : ∃ m, ρ i = some m := by
          rcases hi with hlt | hm
          · exact g.gmap i (.inl hlt) (by rw [ho]; simp)
          · exact hm
        obtain ⟨m, hm⟩ := hm
        refine reachV_placed g f _ _ _ (fun j hj => ?_) (fun p hp => ?_)
        · rcases List.mem_append.1 hj with hj | hj
          · exact hw2 j hj
          · exact blocksO_placed (g.obj i m o hm ho) j hj
        · rcases List.mem_append.1 hp with hp | hp
          · exact h p hp
          · rw [List.mem_singleton.1 hp]; exact hi
def iterRen (μ : Mu) (ρ : Ren) (ml : Meta) : Ren := fun j => if j = ynum then some ml else μ.ren ρ j
theorem iter_gam {μ : Mu} (g : Gam w0 ρ H w) (ok : IterOK μ H) {rows : List (List D)} {ml : Meta} (hml : w.heap.size ≤ ml.b) (hml2 : ml.b < w.heap.size + 2) {w1 : World} (hbl : Below w.heap.size w w1) (hsz1 : ml.b < w1.heap.size) {s : Start P} (hsw : s.w = w1) (hsp : s.pin = iterRen μ ρ ml) (hmine : ∀ k, ¬ s.mine k)
    (hvars : ∀ q ∈ varsOf P, ¬ s.free q.1) (hok : ItOK s) {F0 : Nat → Prop} (hit : s.it false (some rows) F0 ml.b w1) (hd : ∀ i j n, (i, j) ∈ μ → ρ i = some n → ¬ F0 n.b) : Gam s (iterRen μ ρ ml) (heapOf ((ynum, .yld false (some rows)) :: gcB H μ μ)) w1 := by
  have okS := ok.toS
  have g1 : Gam w0 ρ H w1 := g.grow hbl
  have ine : ∀ {i j : Nat}, (i, j) ∈ μ → j ≠ ynum := fun hij e => by have := (ok.cls _ _ hij).2.2.2; subst e; exact absurd this (by decide)
  have rOf : ∀ {j : Nat} {m : Meta}, iterRen μ ρ ml j = some m → (j = ynum ∧ m = ml) ∨ (j ≠ ynum ∧ ∃ i, (i, j) ∈ μ ∧ ρ i = some m) := by
    intro j m h
    unfold iterRen at h
    split at h
    · rename_i e; cases h; exact .inl ⟨e, rfl⟩
    · rename_i e
      obtain ⟨i, hi, hr⟩ := Mu.ren_some h
      exact .inr ⟨e, i, hi, hr⟩
  have hle : (μ.ren ρ).le (iterRen μ ρ ml) := by
    intro j m h
    obtain ⟨i, hi, _⟩ := Mu.ren_some h
    unfold iterRen
    rw [if_neg (ine hi)]; exact h
  have getY : ∀ {j : Nat} {o : AObj}, (heapOf ((ynum, .yld false (some rows)) :: gcB H μ μ)).get j = some o → (j = ynum ∧ o = .yld false (some rows)) ∨ (j ≠ ynum ∧ ∃ i o0, (i, j) ∈ μ ∧ H.get i = some o0 ∧ mapO μ o0 = some o) := by
    intro j o h
    rcases List.mem_cons.1 (heapOf_get h) with e | h
    · cases e; exact .inl ⟨rfl, rfl⟩
    · obtain ⟨i, o0, hi, hg, hmo⟩ := gcB_mem h
      exact .inr ⟨ine hi, i, o0, hi, hg, hmo⟩
  have hs1 := hbl.size
  refine ⟨Nat.le_add_right _ _, ?_, ?_, ?_, ?_, ?_, ?_, ?_, fun i m _ _ h => by rw [hsp]; exact h, ?_, hok, ?_⟩
  · intro i hi
    have hgb : gbase ≤ i := Nat.le_trans (Nat.le_add_right _ _) hi
    cases hr : iterRen μ ρ ml i with
    | none => rfl
    | some m =>
      rcases rOf hr with ⟨e, _⟩ | ⟨_, i0, hi0, _⟩
      · subst e; exact absurd hgb (by decide)
      · have := (ok.cls _ _ hi0).2.2.2; unfold mbase at this; unfold gbase at hgb; omega
  · have := Kept.refl s
    rwa [hsw] at this
  · intro j m hm
    rcases rOf hm with ⟨e, rfl⟩ | ⟨_, i, hi, hr⟩
    · exact ⟨hsz1, fun h => by subst e; exact absurd h (by decide)⟩
    · exact ⟨(g1.own i m hr).1, fun h => by have := (ok.cls _ _ hi).2.2.2; unfold mbase at this; unfold gbase at h; omega⟩
  · intro j m hm hj
    rcases rOf hm with ⟨e, _⟩ | ⟨_, i, hi, hr⟩
    · subst e; exact absurd hj (by decide)
    · have := (ok.cls _ _ hi).2.2.1; unfold hbase at this; unfold abase at hj; omega
  · intro i j mi mj hgi hi hj ei ej hb
    rcases rOf ei with ⟨e, rfl⟩ | ⟨_, i0, hi0, _⟩
    · rcases rOf ej with ⟨e2, _⟩ | ⟨_, j0, hj0, rj0⟩
      · rw [e, e2]
      · have := (g.own j0 mj rj0).1; omega
    · have := (ok.cls _ _ hi0).2.2.2; omega
  · intro j m o hm ho
    rcases getY ho with ⟨_, rfl⟩ | ⟨hne, i, o0, hi, hg, hmo⟩
    · trivial
    · rcases rOf hm with ⟨e, _⟩ | ⟨_, i2, hi2, hr2⟩
      · exact absurd e hne
      · obtain rfl := mu_eq_snd ok.snd hi hi2
        exact (mapO_S okS hmo (g1.obj _ m _ hr2 hg)).1.mono hle (fun _ => rfl)
  · intro j hj hn
    cases ho : (heapOf ((ynum, .yld false (some rows)) :: gcB H μ μ)).get j with
    | none => exact absurd ho hn
    | some o =>
      rcases getY ho with ⟨e, _⟩ | ⟨_, i, o0, hi, _⟩
      · exact ⟨ml, by simp [iterRen, e]⟩
      · have := (ok.cls _ _ hi).2.2; unfold hbase mbase at this; unfold abase mbase at hj; omega
  · intro q hq
    refine ⟨by rw [hsw]; exact g1.good q hq, ?_⟩
    have h6 := VarKind.ok_some (g.good q hq)
    have h7 : q.1 < w.heap.size := by
      rcases Nat.lt_or_ge q.1 w.heap.size with h | h
      · exact h
      · rw [Array.getElem?_eq_none h] at h6; cases h6
    rintro ((⟨j, m, h1, h2, h3, h4⟩ | h) | h)
    · rw [hsp] at h3
      rcases rOf h3 with ⟨_, rfl⟩ | ⟨_, i, hi, _⟩
      · omega
      · have := (ok.cls _ _ hi).2.2.2; omega
    · exact hmine _ h
    · exact hvars q hq h
  · intro own rest hget
    rcases getY hget with ⟨_, e⟩ | ⟨hne, _⟩
    · cases e
      refine ⟨ml, F0, by simp [iterRen], hit, fun j n hj hl hne hF => ?_⟩
      rcases rOf hj with ⟨e, _⟩ | ⟨_, i, hi, hr⟩
      · exact hne e
      · exact hd i j n hi hr hF
    · exact absurd rfl hne
end Go.Abs
