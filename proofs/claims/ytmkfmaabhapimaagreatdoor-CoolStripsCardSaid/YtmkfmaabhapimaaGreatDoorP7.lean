/- Texts of the proof, put together: Gd8T3, Gd8G, Gd8R, AbsShort2. -/
import Derived.Test.YtmkfmaabhapimaaGreatDoorP6
import Derived.Test.YtmkfmaabhapimaaGreatDoorP3
/- What is left to show of each function, written out; the kernel reckons it. -/
namespace Go.Proofs.G5d
open Go Go.Abs Go.Proofs
set_option maxRecDepth 100000
set_option linter.unusedVariables false
def gSK (C : Ct) (L : AtLoop) (n0 : Nat) (c0 : Nat) (l0 : List Value) (n1 : Nat) (c1 : Nat) (l1 : List Value) (k : List D → Prop) : Prop := wpFn Tryz.prog (hC C) L 0 7 #[.agg #[.slice (some ⟨500, 0, none⟩) n0 c0, .slice (some ⟨501, 0, none⟩) n1 c1]] (heapOf [(500, .sym l0 false 2), (501, .sym l1 false 2)]) (dataK k)
theorem gSK_text (C : Ct) (L : AtLoop) (n0 : Nat) (c0 : Nat) (l0 : List Go.Value) (n1 : Nat) (c1 : Nat) (l1 : List Go.Value) (k : List D → Prop) : gSK C L n0 c0 l0 n1 c1 l1 k =
 (∃ n2 : Int,
 ((Says C 30 [(D.val (vI ((↑n0 : Int)))), (D.sl 1 1 [(vI ((↑n1 : Int)))])] [(D.val (vI n2))]) ∧
 (∃ n3 : Int,
 ((Says C 31 [(D.val (vI ((↑n0 : Int)))), (D.val (vI (1 : Int))), (D.val (vI (12 : Int)))] [(D.val (vI n3))]) ∧
 (∃ n4 : Int,
 ((Says C 29 [(D.sl 2 1 [(vI n2), (vI n3)])] [(D.val (vI n4))]) ∧
 (bcase (n4 != 0)
 (k [(D.val (vI (0 : Int))), (D.val (vI n4))])
 (L 0 [(Prod.mk 1 (Pt 1000 0)), (Prod.mk 26 (Sl 500 (n0) (c0))), (Prod.mk 27 (vI ((↑n0 : Int)))), (Prod.mk 28 (vI (0 : Int)))] [(Prod.mk 1000 (AObj.cells [(Sl 500 (n0) (c0)), (Sl 501 (n1) (c1))] 27 false 1)), (Prod.mk 500 (AObj.sym (l0) false 2)), (Prod.mk 501 (AObj.sym (l1) false 2))])))))))) := by kernel_rfl
abbrev zSK1 (n0 : Nat) (c1 : Nat) (x2 : Int) (x3 : Int) (n4 : Nat) (c5 : Nat) (n6 : Nat) (c7 : Nat) (l8 : List Value) (l9 : List Value) : Slots × Blocks := ([(1, (Value.pointer (some ⟨1000, 0, none⟩))), (26, (Value.slice (some ⟨500, 0, none⟩) n0 c1)), (27, (Value.int .i64 x2)), (28, (Value.int .i64 x3))], [(1000, (AObj.cells [(Value.slice (some ⟨500, 0, none⟩) n4 c5), (Value.slice (some ⟨501, 0, none⟩) n6 c7)] 27 false 1)), (500, (AObj.sym l8 false 2)), (501, (AObj.sym l9 false 2))])
def rSK1 (C : Ct) (L : AtLoop) (n0 : Nat) (c1 : Nat) (x2 : Int) (x3 : Int) (n4 : Nat) (c5 : Nat) (n6 : Nat) (c7 : Nat) (l8 : List Value) (l9 : List Value) (B : Bx) (X : Xx) (k : List D → Prop) : Prop := wpRound Tryz.prog (hC C) L 7 0 [(1, (Value.pointer (some ⟨1000, 0, none⟩))), (26, (Value.slice (some ⟨500, 0, none⟩) n0 c1)), (27, (Value.int .i64 x2)), (28, (Value.int .i64 x3))] [(1000, (AObj.cells [(Value.slice (some ⟨500, 0, none⟩) n4 c5), (Value.slice (some ⟨501, 0, none⟩) n6 c7)] 27 false 1)), (500, (AObj.sym l8 false 2)), (501, (AObj.sym l9 false 2))] B X (dataK k)
theorem rSK1_text (C : Ct) (L : AtLoop) (n0 : Nat) (c1 : Nat) (x2 : Int) (x3 : Int) (n4 : Nat) (c5 : Nat) (n6 : Nat) (c7 : Nat) (l8 : List Go.Value) (l9 : List Go.Value) (B : Bx) (X : Xx) (k : List D → Prop) : rSK1 C L n0 c1 x2 x3 n4 c5 n6 c7 l8 l9 B X k =
 (bcase (decide (x3 < x2))
 (bcase (decide (0 ≤ x3))
 (bcase (decide (x3 < (↑n0 : Int)))
 (∃ n1 : Int,
 (∃ n2 : Int,
 ((At (l8) (0 + Int.toNat x3 * 2) 2 [(vI n1), (vI n2)]) ∧
 (bcase (decide (0 ≤ x3))
 (bcase (decide (x3 < (↑n6 : Int)))
 (∃ n3 : Int,
 (∃ n5 : Int,
 ((At (l9) (0 + Int.toNat x3 * 2) 2 [(vI n3), (vI n5)]) ∧
 ((((Qv (Sl 1002 2 2)) ∧
 (Qv (Option.some (AObj.cells [(vI n1), (vI n2), (vI n3), (vI n5)] 52 false 2)))) ∧
 ((∃ n7 : Int,
 (∃ n8 : Int,
 ((At (l9) (0 + Int.toNat x3 * 2) 2 [(vI n7), (vI n8)]) ∧
 ((Go.Value.agg [(vI n7), (vI n8)].toArray) = (Go.Value.agg [(vI n3), (vI n5)].toArray))))) ∧
 ((bcase (decide (0 ≤ x3))
 (bcase (decide (x3 < (↑n6 : Int)))
 (Qv (Pt 501 (0 + Int.toNat x3 * 2)))
 False)
 False) ∧
 ((Qv (vI x3)) ∧
 ((Qv (Sl 501 (n6) (c7))) ∧
 ((Qv (Pt 1000 1)) ∧
 ((Qv (Go.Value.agg [(vI n1), (vI n2)].toArray)) ∧
 True))))))) ∧
 (∃ n7 : Int,
 ((Says C 32 [(D.sl 2 2 [(vI n1), (vI n2), (vI n3), (vI n5)])] [(D.val (vI n7))]) ∧
 (((∃ n8 : Int,
 (∃ n9 : Int,
 ((At (l9) (0 + Int.toNat x3 * 2) 2 [(vI n8), (vI n9)]) ∧
 ((Go.Value.agg [(vI n8), (vI n9)].toArray) = (Go.Value.agg [(vI n3), (vI n5)].toArray))))) ∧
 ((bcase (decide (0 ≤ x3))
 (bcase (decide (x3 < (↑n6 : Int)))
 (Qv (Pt 501 (0 + Int.toNat x3 * 2)))
 False)
 False) ∧
 ((Qv (vI x3)) ∧
 ((Qv (Sl 501 (n6) (c7))) ∧
 ((Qv (Pt 1000 1)) ∧
 ((Qv (Go.Value.agg [(vI n1), (vI n2)].toArray)) ∧
 True)))))) ∧
 (True ∧
 (bcase (n7 != 0)
 (k [(D.val (vI x3)), (D.val (vI n7))])
 (B [(Prod.mk 1 (Pt 1000 0)), (Prod.mk 26 (Sl 500 (n0) (c1))), (Prod.mk 27 (vI x2)), (Prod.mk 28 (vI (IntKind.wrap .i64 (x3 + 1))))] [(Prod.mk 1000 (AObj.cells [(Sl 500 (n4) (c5)), (Sl 501 (n6) (c7))] 27 false 1)), (Prod.mk 500 (AObj.sym (l8) false 2)), (Prod.mk 501 (AObj.sym (l9) false 2))]))))))))))
 False)
 False))))
 False)
 False)
 (X 0 [] [])) := by kernel_rfl
def nSK2 (C : Ct) (L : AtLoop) (k : List D → Prop) : Prop := wpNext Tryz.prog (hC C) L 7 0 .normal [] [] (dataK k)
theorem nSK2_text (C : Ct) (L : AtLoop) (k : List D → Prop) : nSK2 C L k =
 (k [(D.val (vI (0 : Int))), (D.val (vI (0 : Int)))]) := by kernel_rfl
def gCO (C : Ct) (L : AtLoop) (x0 : Int) (x1 : Int) (n2 : Nat) (c2 : Nat) (l2 : List Value) (n3 : Nat) (c3 : Nat) (l3 : List Value) (k : List D → Prop) : Prop := wpFn Tryz.prog (hC C) L 0 69 #[.agg #[.int .i64 x0, .int .i64 x1, .slice (some ⟨500, 0, none⟩) n2 c2], .slice (some ⟨501, 0, none⟩) n3 c3] (heapOf [(500, .sym l2 false 3), (501, .sym l3 false 1)]) (dataK k)
theorem gCO_text (C : Ct) (L : AtLoop) (x0 : Int) (x1 : Int) (n2 : Nat) (c2 : Nat) (l2 : List Go.Value) (n3 : Nat) (c3 : Nat) (l3 : List Go.Value) (k : List D → Prop) : gCO C L x0 x1 n2 c2 l2 n3 c3 l3 k =
 (L 0 [(Prod.mk 2 (Pt 1000 0)), (Prod.mk 8 (Sl 501 (n3) (c3))), (Prod.mk 9 (vI ((↑n3 : Int)))), (Prod.mk 10 (vI (0 : Int)))] [(Prod.mk 1000 (AObj.cells [(vI x0), (vI x1), (Sl 500 (n2) (c2))] 79 false 1)), (Prod.mk 501 (AObj.sym (l3) false 1)), (Prod.mk 500 (AObj.sym (l2) false 3))]) := by kernel_rfl
abbrev zCO1 (n0 : Nat) (c1 : Nat) (x2 : Int) (x3 : Int) (x4 : Int) (x5 : Int) (n6 : Nat) (c7 : Nat) (l8 : List Value) (l9 : List Value) : Slots × Blocks := ([(2, (Value.pointer (some ⟨1000, 0, none⟩))), (8, (Value.slice (some ⟨501, 0, none⟩) n0 c1)), (9, (Value.int .i64 x2)), (10, (Value.int .i64 x3))], [(1000, (AObj.cells [(Value.int .i64 x4), (Value.int .i64 x5), (Value.slice (some ⟨500, 0, none⟩) n6 c7)] 79 false 1)), (501, (AObj.sym l8 false 1)), (500, (AObj.sym l9 false 3))])
def rCO1 (C : Ct) (L : AtLoop) (n0 : Nat) (c1 : Nat) (x2 : Int) (x3 : Int) (x4 : Int) (x5 : Int) (n6 : Nat) (c7 : Nat) (l8 : List Value) (l9 : List Value) (B : Bx) (X : Xx) (k : List D → Prop) : Prop := wpRound Tryz.prog (hC C) L 69 0 [(2, (Value.pointer (some ⟨1000, 0, none⟩))), (8, (Value.slice (some ⟨501, 0, none⟩) n0 c1)), (9, (Value.int .i64 x2)), (10, (Value.int .i64 x3))] [(1000, (AObj.cells [(Value.int .i64 x4), (Value.int .i64 x5), (Value.slice (some ⟨500, 0, none⟩) n6 c7)] 79 false 1)), (501, (AObj.sym l8 false 1)), (500, (AObj.sym l9 false 3))] B X (dataK k)
theorem rCO1_text (C : Ct) (L : AtLoop) (n0 : Nat) (c1 : Nat) (x2 : Int) (x3 : Int) (x4 : Int) (x5 : Int) (n6 : Nat) (c7 : Nat) (l8 : List Go.Value) (l9 : List Go.Value) (B : Bx) (X : Xx) (k : List D → Prop) : rCO1 C L n0 c1 x2 x3 x4 x5 n6 c7 l8 l9 B X k =
 (bcase (decide (x3 < x2))
 (bcase (decide (0 ≤ x3))
 (bcase (decide (x3 < (↑n0 : Int)))
 (∃ n1 : Int,
 ((At (l8) (0 + Int.toNat x3 * 1) 1 [(vI n1)]) ∧
 (bcase (decide (0 + n6 * 3 ≤ List.length l9))
 (∃ n2 : Int,
 ((Says C 45 [(D.agg [(D.val (vI x4)), (D.val (vI x5)), (D.sl (n6) 3 (List.take (n6 * 3) (List.drop 0 l9)))]), (D.val (vI n1))] [(D.val (vI n2))]) ∧
 (bcase (n2 != 0)
 (k [(D.val (vI n2))])
 (bcase (decide (0 + n6 * 3 ≤ List.length l9))
 (∃ n3 : Int,
 ((Says C 94 [(D.agg [(D.val (vI x4)), (D.val (vI x5)), (D.sl (n6) 3 (List.take (n6 * 3) (List.drop 0 l9)))]), (D.val (vI x3))] [(D.val (vI n3))]) ∧
 (bcase (IntKind.wrap .i64 (↑(BitVec.toNat (BitVec.ofInt 64 n1 &&& ~~~BitVec.ofInt 64 n3)) : Int) != 0)
 (k [(D.val (vI (24 : Int)))])
 (B [(Prod.mk 2 (Pt 1000 0)), (Prod.mk 8 (Sl 501 (n0) (c1))), (Prod.mk 9 (vI x2)), (Prod.mk 10 (vI (IntKind.wrap .i64 (x3 + 1))))] [(Prod.mk 1000 (AObj.cells [(vI x4), (vI x5), (Sl 500 (n6) (c7))] 79 false 1)), (Prod.mk 501 (AObj.sym (l8) false 1)), (Prod.mk 500 (AObj.sym (l9) false 3))]))))
 False))))
 False)))
 False)
 False)
 (X 0 [] [])) := by kernel_rfl
def nCO2 (C : Ct) (L : AtLoop) (k : List D → Prop) : Prop := wpNext Tryz.prog (hC C) L 69 0 .normal [] [] (dataK k)
theorem nCO2_text (C : Ct) (L : AtLoop) (k : List D → Prop) : nCO2 C L k =
 (k [(D.val (vI (0 : Int)))]) := by kernel_rfl
def gCOz (C : Ct) (L : AtLoop) (x0 : Int) (x1 : Int) (n3 : Nat) (c3 : Nat) (l3 : List Value) (k : List D → Prop) : Prop := wpFn Tryz.prog (hC C) L 0 69 #[.agg #[.int .i64 x0, .int .i64 x1, .slice none 0 0], .slice (some ⟨500, 0, none⟩) n3 c3] (heapOf [(500, .sym l3 false 1)]) (dataK k)
theorem gCOz_text (C : Ct) (L : AtLoop) (x0 : Int) (x1 : Int) (n3 : Nat) (c3 : Nat) (l3 : List Go.Value) (k : List D → Prop) : gCOz C L x0 x1 n3 c3 l3 k =
 (L 0 [(Prod.mk 2 (Pt 1000 0)), (Prod.mk 8 (Sl 500 (n3) (c3))), (Prod.mk 9 (vI ((↑n3 : Int)))), (Prod.mk 10 (vI (0 : Int)))] [(Prod.mk 1000 (AObj.cells [(vI x0), (vI x1), (Go.Value.slice Option.none 0 0)] 79 false 1)), (Prod.mk 500 (AObj.sym (l3) false 1))]) := by kernel_rfl
abbrev zCOz1 (n0 : Nat) (c1 : Nat) (x2 : Int) (x3 : Int) (x4 : Int) (x5 : Int) (l6 : List Value) : Slots × Blocks := ([(2, (Value.pointer (some ⟨1000, 0, none⟩))), (8, (Value.slice (some ⟨500, 0, none⟩) n0 c1)), (9, (Value.int .i64 x2)), (10, (Value.int .i64 x3))], [(1000, (AObj.cells [(Value.int .i64 x4), (Value.int .i64 x5), (Value.slice none 0 0)] 79 false 1)), (500, (AObj.sym l6 false 1))])
def rCOz1 (C : Ct) (L : AtLoop) (n0 : Nat) (c1 : Nat) (x2 : Int) (x3 : Int) (x4 : Int) (x5 : Int) (l6 : List Value) (B : Bx) (X : Xx) (k : List D → Prop) : Prop := wpRound Tryz.prog (hC C) L 69 0 [(2, (Value.pointer (some ⟨1000, 0, none⟩))), (8, (Value.slice (some ⟨500, 0, none⟩) n0 c1)), (9, (Value.int .i64 x2)), (10, (Value.int .i64 x3))] [(1000, (AObj.cells [(Value.int .i64 x4), (Value.int .i64 x5), (Value.slice none 0 0)] 79 false 1)), (500, (AObj.sym l6 false 1))] B X (dataK k)
theorem rCOz1_text (C : Ct) (L : AtLoop) (n0 : Nat) (c1 : Nat) (x2 : Int) (x3 : Int) (x4 : Int) (x5 : Int) (l6 : List Go.Value) (B : Bx) (X : Xx) (k : List D → Prop) : rCOz1 C L n0 c1 x2 x3 x4 x5 l6 B X k =
 (bcase (decide (x3 < x2))
 (bcase (decide (0 ≤ x3))
 (bcase (decide (x3 < (↑n0 : Int)))
 (∃ n1 : Int,
 ((At (l6) (0 + Int.toNat x3 * 1) 1 [(vI n1)]) ∧
 (∃ n2 : Int,
 ((Says C 45 [(D.agg [(D.val (vI x4)), (D.val (vI x5)), D.nil]), (D.val (vI n1))] [(D.val (vI n2))]) ∧
 (bcase (n2 != 0)
 (k [(D.val (vI n2))])
 (∃ n3 : Int,
 ((Says C 94 [(D.agg [(D.val (vI x4)), (D.val (vI x5)), D.nil]), (D.val (vI x3))] [(D.val (vI n3))]) ∧
 (bcase (IntKind.wrap .i64 (↑(BitVec.toNat (BitVec.ofInt 64 n1 &&& ~~~BitVec.ofInt 64 n3)) : Int) != 0)
 (k [(D.val (vI (24 : Int)))])
 (B [(Prod.mk 2 (Pt 1000 0)), (Prod.mk 8 (Sl 500 (n0) (c1))), (Prod.mk 9 (vI x2)), (Prod.mk 10 (vI (IntKind.wrap .i64 (x3 + 1))))] [(Prod.mk 1000 (AObj.cells [(vI x4), (vI x5), (Go.Value.slice Option.none 0 0)] 79 false 1)), (Prod.mk 500 (AObj.sym (l6) false 1))])))))))))
 False)
 False)
 (X 0 [] [])) := by kernel_rfl
def nCOz2 (C : Ct) (L : AtLoop) (k : List D → Prop) : Prop := wpNext Tryz.prog (hC C) L 69 0 .normal [] [] (dataK k)
theorem nCOz2_text (C : Ct) (L : AtLoop) (k : List D → Prop) : nCOz2 C L k =
 (k [(D.val (vI (0 : Int)))]) := by kernel_rfl
def gXO (C : Ct) (L : AtLoop) (x0 : Int) (x1 : Int) (n2 : Nat) (c2 : Nat) (l2 : List Value) (n3 : Nat) (c3 : Nat) (l3 : List Value) (n4 : Nat) (c4 : Nat) (l4 : List Value) (x5 : Int) (x6 : Int) (k : List D → Prop) : Prop := wpFn Tryz.prog (hC C) L 0 36 #[.agg #[.int .i64 x0, .int .i64 x1, .slice (some ⟨500, 0, none⟩) n2 c2, .slice (some ⟨501, 0, none⟩) n3 c3, .slice (some ⟨502, 0, none⟩) n4 c4], .int .i64 x5, .int .i64 x6] (heapOf [(500, .sym l2 false 3), (501, .sym l3 false 2), (502, .sym l4 false 2)]) (dataK k)
theorem gXO_text (C : Ct) (L : AtLoop) (x0 : Int) (x1 : Int) (n2 : Nat) (c2 : Nat) (l2 : List Go.Value) (n3 : Nat) (c3 : Nat) (l3 : List Go.Value) (n4 : Nat) (c4 : Nat) (l4 : List Go.Value) (x5 : Int) (x6 : Int) (k : List D → Prop) : gXO C L x0 x1 n2 c2 l2 n3 c3 l3 n4 c4 l4 x5 x6 k =
 (bcase (decide (0 ≤ x5))
 (bcase (decide (x5 < (↑n3 : Int)))
 (∃ n1 : Int,
 (∃ n5 : Int,
 ((At (l3) (0 + Int.toNat x5 * 2) 2 [(vI n1), (vI n5)]) ∧
 (((∃ n6 : Int,
 (∃ n7 : Int,
 ((At (l3) (0 + Int.toNat x5 * 2) 2 [(vI n6), (vI n7)]) ∧
 ((Go.Value.agg [(vI n6), (vI n7)].toArray) = (Go.Value.agg [(vI n1), (vI n5)].toArray))))) ∧
 ((bcase (decide (0 ≤ x5))
 (bcase (decide (x5 < (↑n3 : Int)))
 (Qv (Pt 501 (0 + Int.toNat x5 * 2)))
 False)
 False) ∧
 ((Qv (vI x5)) ∧
 ((Qv (Sl 501 (n3) (c3))) ∧
 ((Qv (Pt 1000 3)) ∧
 ((Qv (Pt 1000 3)) ∧
 ((Qv (vI x6)) ∧
 ((Qv (Go.Value.agg [(vI x0), (vI x1), (Sl 500 (n2) (c2))].toArray)) ∧
 ((Qv (Pt 1000 0)) ∧
 True))))))))) ∧
 (bcase (decide (0 + n2 * 3 ≤ List.length l2))
 (∃ n6 : Int,
 (∃ n7 : Int,
 ((Says C 46 [(D.agg [(D.val (vI x0)), (D.val (vI x1)), (D.sl (n2) 3 (List.take (n2 * 3) (List.drop 0 l2)))]), (D.val (vI x6)), (D.agg [(D.val (vI n1)), (D.val (vI n5))])] [(D.agg [(D.val (vI n6)), (D.val (vI n7))])]) ∧
 (((bcase (decide (0 ≤ x5))
 (bcase (decide (x5 < (↑n3 : Int)))
 (Qv (Pt 501 (0 + Int.toNat x5 * 2)))
 False)
 False) ∧
 ((Qv (vI x5)) ∧
 ((Qv (Sl 501 (n3) (c3))) ∧
 ((Qv (Pt 1000 3)) ∧
 ((Qv (Pt 1000 3)) ∧
 ((Qv (Pt 1000 0)) ∧
 True)))))) ∧
 (True ∧
 (k [(D.agg [(D.val (vI n6)), (D.val (vI n7))])]))))))
 False)))))
 False)
 False) := by kernel_rfl
def gXA (C : Ct) (L : AtLoop) (x0 : Int) (x1 : Int) (n2 : Nat) (c2 : Nat) (l2 : List Value) (n3 : Nat) (c3 : Nat) (l3 : List Value) (n4 : Nat) (c4 : Nat) (l4 : List Value) (x5 : Int) (x6 : Int) (k : List D → Prop) : Prop := wpFn Tryz.prog (hC C) L 0 37 #[.agg #[.int .i64 x0, .int .i64 x1, .slice (some ⟨500, 0, none⟩) n2 c2, .slice (some ⟨501, 0, none⟩) n3 c3, .slice (some ⟨502, 0, none⟩) n4 c4], .int .i64 x5, .int .i64 x6] (heapOf [(500, .sym l2 false 3), (501, .sym l3 false 2), (502, .sym l4 false 2)]) (dataK k)
theorem gXA_text (C : Ct) (L : AtLoop) (x0 : Int) (x1 : Int) (n2 : Nat) (c2 : Nat) (l2 : List Go.Value) (n3 : Nat) (c3 : Nat) (l3 : List Go.Value) (n4 : Nat) (c4 : Nat) (l4 : List Go.Value) (x5 : Int) (x6 : Int) (k : List D → Prop) : gXA C L x0 x1 n2 c2 l2 n3 c3 l3 n4 c4 l4 x5 x6 k =
 (bcase (decide (0 ≤ x5))
 (bcase (decide (x5 < (↑n4 : Int)))
 (∃ n1 : Int,
 (∃ n5 : Int,
 ((At (l4) (0 + Int.toNat x5 * 2) 2 [(vI n1), (vI n5)]) ∧
 ((((Qv (Pt 1002 0)) ∧
 (Qv (Option.some (AObj.cells [(vI (0 : Int)), (vI (0 : Int))] 52 false 2)))) ∧
 (((Qv (Pt 1001 0)) ∧
 (Qv (Option.some (AObj.cells [(vI (0 : Int)), (vI (0 : Int))] 52 false 2)))) ∧
 ((∃ n6 : Int,
 (∃ n7 : Int,
 ((At (l4) (0 + Int.toNat x5 * 2) 2 [(vI n6), (vI n7)]) ∧
 ((Go.Value.agg [(vI n6), (vI n7)].toArray) = (Go.Value.agg [(vI n1), (vI n5)].toArray))))) ∧
 ((bcase (decide (0 ≤ x5))
 (bcase (decide (x5 < (↑n4 : Int)))
 (Qv (Pt 502 (0 + Int.toNat x5 * 2)))
 False)
 False) ∧
 ((Qv (vI x5)) ∧
 ((Qv (Sl 502 (n4) (c4))) ∧
 ((Qv (Pt 1000 4)) ∧
 ((Qv (Pt 1000 3)) ∧
 ((Qv (vI x6)) ∧
 ((Qv (vI x5)) ∧
 ((Qv (Go.Value.agg [(vI x0), (vI x1), (Sl 500 (n2) (c2)), (Sl 501 (n3) (c3)), (Sl 502 (n4) (c4))].toArray)) ∧
 True))))))))))) ∧
 (bcase (decide (0 + n2 * 3 ≤ List.length l2))
 (bcase (decide (0 + n3 * 2 ≤ List.length l3))
 (bcase (decide (0 + n4 * 2 ≤ List.length l4))
 (∃ n6 : Int,
 (∃ n7 : Int,
 ((Says C 36 [(D.agg [(D.val (vI x0)), (D.val (vI x1)), (D.sl (n2) 3 (List.take (n2 * 3) (List.drop 0 l2))), (D.sl (n3) 2 (List.take (n3 * 2) (List.drop 0 l3))), (D.sl (n4) 2 (List.take (n4 * 2) (List.drop 0 l4)))]), (D.val (vI x5)), (D.val (vI x6))] [(D.agg [(D.val (vI n6)), (D.val (vI n7))])]) ∧
 ((((Qv (Pt 1002 0)) ∧
 (Qv (Option.some (AObj.cells [(vI (0 : Int)), (vI (0 : Int))] 52 false 2)))) ∧
 (((Qv (Pt 1001 0)) ∧
 (Qv (Option.some (AObj.cells [(vI (0 : Int)), (vI (0 : Int))] 52 false 2)))) ∧
 ((∃ n8 : Int,
 (∃ n9 : Int,
 ((At (l4) (0 + Int.toNat x5 * 2) 2 [(vI n8), (vI n9)]) ∧
 ((Go.Value.agg [(vI n8), (vI n9)].toArray) = (Go.Value.agg [(vI n1), (vI n5)].toArray))))) ∧
 ((bcase (decide (0 ≤ x5))
 (bcase (decide (x5 < (↑n4 : Int)))
 (Qv (Pt 502 (0 + Int.toNat x5 * 2)))
 False)
 False) ∧
 ((Qv (vI x5)) ∧
 ((Qv (Sl 502 (n4) (c4))) ∧
 ((Qv (Pt 1000 4)) ∧
 ((Qv (Pt 1000 3)) ∧
 True)))))))) ∧
 (((∃ n8 : Int,
 (∃ n9 : Int,
 ((At (l4) (0 + Int.toNat x5 * 2) 2 [(vI n8), (vI n9)]) ∧
 ((Go.Value.agg [(vI n8), (vI n9)].toArray) = (Go.Value.agg [(vI n1), (vI n5)].toArray))))) ∧
 ((bcase (decide (0 ≤ x5))
 (bcase (decide (x5 < (↑n4 : Int)))
 (Qv (Pt 502 (0 + Int.toNat x5 * 2)))
 False)
 False) ∧
 ((Qv (vI x5)) ∧
 ((Qv (Sl 502 (n4) (c4))) ∧
 ((Qv (Pt 1000 4)) ∧
 ((Qv (Pt 1000 3)) ∧
 True)))))) ∧
 (True ∧
 (bcase (decide (n1 ≤ n6))
 (bcase (decide (n7 ≤ n5))
 (k [(D.val (vI (2 : Int)))])
 (((Says C 70 [(D.agg [(D.val (vI n6)), (D.val (vI n7))]), (D.agg [(D.val (vI n1)), (D.val (vI n5))])] [(D.val (Value.bool true))]) ∧
 (k [(D.val (vI (1 : Int)))])) ∨
 ((Says C 70 [(D.agg [(D.val (vI n6)), (D.val (vI n7))]), (D.agg [(D.val (vI n1)), (D.val (vI n5))])] [(D.val (Value.bool false))]) ∧
 (k [(D.val (vI (0 : Int)))]))))
 (((Says C 70 [(D.agg [(D.val (vI n6)), (D.val (vI n7))]), (D.agg [(D.val (vI n1)), (D.val (vI n5))])] [(D.val (Value.bool true))]) ∧
 (k [(D.val (vI (1 : Int)))])) ∨
 ((Says C 70 [(D.agg [(D.val (vI n6)), (D.val (vI n7))]), (D.agg [(D.val (vI n1)), (D.val (vI n5))])] [(D.val (Value.bool false))]) ∧
 (k [(D.val (vI (0 : Int)))]))))))))))
 False)
 False)
 False)))))
 False)
 False) := by kernel_rfl
def gXM (C : Ct) (L : AtLoop) (x0 : Int) (x1 : Int) (x2 : Int) (x3 : Int) (k : List D → Prop) : Prop := wpFn Tryz.prog (hC C) L 0 70 #[.agg #[.int .i64 x0, .int .i64 x1], .agg #[.int .i64 x2, .int .i64 x3]] (heapOf []) (dataK k)
theorem gXM_text (C : Ct) (L : AtLoop) (x0 : Int) (x1 : Int) (x2 : Int) (x3 : Int) (k : List D → Prop) : gXM C L x0 x1 x2 x3 k =
 (bcase (decide (x0 ≤ x3))
 (bcase (decide (x2 ≤ x1))
 (k [(D.val (Value.bool true))])
 (k [(D.val (Value.bool false))]))
 (k [(D.val (Value.bool false))])) := by kernel_rfl
def gEO (C : Ct) (L : AtLoop) (x0 : Int) (x1 : Int) (n2 : Nat) (c2 : Nat) (l2 : List Value) (n3 : Nat) (c3 : Nat) (l3 : List Value) (n4 : Nat) (c4 : Nat) (l4 : List Value) (n5 : Nat) (c5 : Nat) (l5 : List Value) (k : List D → Prop) : Prop := wpFn Tryz.prog (hC C) L 0 9 #[.agg #[.int .i64 x0, .int .i64 x1, .slice (some ⟨500, 0, none⟩) n2 c2], .agg #[.slice (some ⟨501, 0, none⟩) n3 c3, .slice (some ⟨502, 0, none⟩) n4 c4], .slice (some ⟨503, 0, none⟩) n5 c5] (heapOf [(500, .sym l2 false 3), (501, .sym l3 false 2), (502, .sym l4 false 2), (503, .sym l5 false 1)]) (dataK k)
theorem gEO_text (C : Ct) (L : AtLoop) (x0 : Int) (x1 : Int) (n2 : Nat) (c2 : Nat) (l2 : List Go.Value) (n3 : Nat) (c3 : Nat) (l3 : List Go.Value) (n4 : Nat) (c4 : Nat) (l4 : List Go.Value) (n5 : Nat) (c5 : Nat) (l5 : List Go.Value) (k : List D → Prop) : gEO C L x0 x1 n2 c2 l2 n3 c3 l3 n4 c4 l4 n5 c5 l5 k =
 (bcase (decide (0 + n2 * 3 ≤ List.length l2))
 (∃ n1 : Int,
 (∃ n6 : Int,
 ((Says C 76 [(D.agg [(D.val (vI x0)), (D.val (vI x1)), (D.sl (n2) 3 (List.take (n2 * 3) (List.drop 0 l2)))])] [(D.val (vI n1)), (D.val (vI n6))]) ∧
 (bcase (n6 != 0)
 (bcase (decide (0 + n3 * 2 ≤ List.length l3))
 (bcase (decide (0 + n4 * 2 ≤ List.length l4))
 (∃ n7 : Int,
 (∃ n8 : Int,
 ((Says C 7 [(D.agg [(D.sl (n3) 2 (List.take (n3 * 2) (List.drop 0 l3))), (D.sl (n4) 2 (List.take (n4 * 2) (List.drop 0 l4)))])] [(D.val (vI n7)), (D.val (vI n8))]) ∧
 (∃ n9 : Int,
 ((Says C 29 [(D.sl 2 1 [(vI n6), (vI n8)])] [(D.val (vI n9))]) ∧
 (bcase (n9 != 0)
 (((Qv (Sl 503 (n5) (c5))) ∧
 ((Qv (Go.Value.agg [(vI (0 : Int)), (vI (0 : Int)), (Go.Value.slice Option.none 0 0)].toArray)) ∧
 ((Qv (Pt 1010 0)) ∧
 (((Qv (Sl 1011 1 1)) ∧
 (Qv (Option.some (AObj.cells [(vI ((↑n5 : Int)))] 3 false 1)))) ∧
 ((Qv (vI ((↑n5 : Int)))) ∧
 ((Qv (Sl 503 (n5) (c5))) ∧
 ((Qv (vI (0 : Int))) ∧
 ((Qv (Go.Value.slice Option.none 0 0)) ∧
 ((Qv (Pt 1010 3)) ∧
 ((Qv (Pt 1010 3)) ∧
 True)))))))))) ∧
 (∃ n10 : Int,
 ((Says C 30 [(D.val (vI (0 : Int))), (D.sl 1 1 [(vI ((↑n5 : Int)))])] [(D.val (vI n10))]) ∧
 (((Qv (Sl 503 (n5) (c5))) ∧
 ((Qv (Go.Value.agg [(vI (0 : Int)), (vI (0 : Int)), (Go.Value.slice Option.none 0 0)].toArray)) ∧
 ((Qv (Pt 1010 0)) ∧
 ((Qv (vI ((↑n5 : Int)))) ∧
 ((Qv (Sl 503 (n5) (c5))) ∧
 ((Qv (Go.Value.slice Option.none 0 0)) ∧
 ((Qv (Pt 1010 3)) ∧
 ((Qv (Pt 1010 3)) ∧
 True)))))))) ∧
 (bcase (decide (0 + n5 * 1 ≤ List.length l5))
 (∃ n11 : Int,
 ((Says C 69 [(D.agg [(D.val (vI (0 : Int))), (D.val (vI (0 : Int))), D.nil]), (D.sl (n5) 1 (List.take (n5 * 1) (List.drop 0 l5)))] [(D.val (vI n11))]) ∧
 ((((Qv (Sl 1012 2 2)) ∧
 (Qv (Option.some (AObj.cells [(vI n10), (vI n11)] 32 false 1)))) ∧
 ((Qv (Pt 1010 0)) ∧
 ((Qv (vI ((↑n5 : Int)))) ∧
 ((Qv (Sl 503 (n5) (c5))) ∧
 ((Qv (Go.Value.slice Option.none 0 0)) ∧
 ((Qv (Pt 1010 3)) ∧
 ((Qv (Pt 1010 3)) ∧
 True))))))) ∧
 (∃ n12 : Int,
 ((Says C 29 [(D.sl 2 1 [(vI n10), (vI n11)])] [(D.val (vI n12))]) ∧
 (((Qv (Pt 1010 0)) ∧
 ((Qv (vI ((↑n5 : Int)))) ∧
 ((Qv (Sl 503 (n5) (c5))) ∧
 ((Qv (Go.Value.slice Option.none 0 0)) ∧
 ((Qv (Pt 1010 3)) ∧
 ((Qv (Pt 1010 3)) ∧
 True)))))) ∧
 (True ∧
 (∃ n13 : Int,
 ((Says C 29 [(D.sl 2 1 [(vI n9), (vI n12)])] [(D.val (vI n13))]) ∧
 (bcase (n13 != 0)
 (k [D.nil, (D.val (vI n13))])
 (L 0 [(Prod.mk 8 (Pt 1000 0)), (Prod.mk 11 (Go.Value.slice Option.none 0 0)), (Prod.mk 29 (Sl 503 (n5) (c5))), (Prod.mk 30 (vI ((↑n5 : Int)))), (Prod.mk 31 (vI (0 : Int)))] [(Prod.mk 1000 (AObj.cells [(vI (0 : Int)), (vI (0 : Int)), (Go.Value.slice Option.none 0 0), (Go.Value.slice Option.none 0 0), (Go.Value.slice Option.none 0 0)] 81 false 5)), (Prod.mk 503 (AObj.sym (l5) false 1))])))))))))))
 False)))))
 (((Qv (Sl 503 (n5) (c5))) ∧
 ((Qv (Go.Value.agg [(vI (0 : Int)), (vI (0 : Int)), (Go.Value.slice Option.none 0 0)].toArray)) ∧
 ((Qv (Pt 1010 0)) ∧
 (((Qv (Sl 1011 1 1)) ∧
 (Qv (Option.some (AObj.cells [(vI ((↑n5 : Int)))] 3 false 1)))) ∧
 ((Qv (vI ((↑n5 : Int)))) ∧
 ((Qv (Sl 503 (n5) (c5))) ∧
 ((Qv (vI ((↑n3 : Int)))) ∧
 ((Qv (Sl 501 (n3) (c3))) ∧
 ((Qv (Pt 1010 3)) ∧
 ((Qv (Pt 1010 3)) ∧
 True)))))))))) ∧
 (∃ n10 : Int,
 ((Says C 30 [(D.val (vI ((↑n3 : Int)))), (D.sl 1 1 [(vI ((↑n5 : Int)))])] [(D.val (vI n10))]) ∧
 (((Qv (Sl 503 (n5) (c5))) ∧
 ((Qv (Go.Value.agg [(vI (0 : Int)), (vI (0 : Int)), (Go.Value.slice Option.none 0 0)].toArray)) ∧
 ((Qv (Pt 1010 0)) ∧
 ((Qv (vI ((↑n5 : Int)))) ∧
 ((Qv (Sl 503 (n5) (c5))) ∧
 ((Qv (Sl 501 (n3) (c3))) ∧
 ((Qv (Pt 1010 3)) ∧
 ((Qv (Pt 1010 3)) ∧
 True)))))))) ∧
 (bcase (decide (0 + n5 * 1 ≤ List.length l5))
 (∃ n11 : Int,
 ((Says C 69 [(D.agg [(D.val (vI (0 : Int))), (D.val (vI (0 : Int))), D.nil]), (D.sl (n5) 1 (List.take (n5 * 1) (List.drop 0 l5)))] [(D.val (vI n11))]) ∧
 ((((Qv (Sl 1012 2 2)) ∧
 (Qv (Option.some (AObj.cells [(vI n10), (vI n11)] 32 false 1)))) ∧
 ((Qv (Pt 1010 0)) ∧
 ((Qv (vI ((↑n5 : Int)))) ∧
 ((Qv (Sl 503 (n5) (c5))) ∧
 ((Qv (Sl 501 (n3) (c3))) ∧
 ((Qv (Pt 1010 3)) ∧
 ((Qv (Pt 1010 3)) ∧
 True))))))) ∧
 (∃ n12 : Int,
 ((Says C 29 [(D.sl 2 1 [(vI n10), (vI n11)])] [(D.val (vI n12))]) ∧
 (((Qv (Pt 1010 0)) ∧
 ((Qv (vI ((↑n5 : Int)))) ∧
 ((Qv (Sl 503 (n5) (c5))) ∧
 ((Qv (Sl 501 (n3) (c3))) ∧
 ((Qv (Pt 1010 3)) ∧
 ((Qv (Pt 1010 3)) ∧
 True)))))) ∧
 (True ∧
 (∃ n13 : Int,
 ((Says C 29 [(D.sl 2 1 [(vI (0 : Int)), (vI n12)])] [(D.val (vI n13))]) ∧
 (bcase (n13 != 0)
 (k [D.nil, (D.val (vI n13))])
 (L 0 [(Prod.mk 8 (Pt 1000 0)), (Prod.mk 11 (Go.Value.slice Option.none 0 0)), (Prod.mk 29 (Sl 503 (n5) (c5))), (Prod.mk 30 (vI ((↑n5 : Int)))), (Prod.mk 31 (vI (0 : Int)))] [(Prod.mk 1000 (AObj.cells [(vI (0 : Int)), (vI (0 : Int)), (Go.Value.slice Option.none 0 0), (Sl 501 (n3) (c3)), (Sl 502 (n4) (c4))] 81 false 5)), (Prod.mk 503 (AObj.sym (l5) false 1)), (Prod.mk 501 (AObj.sym (l3) false 2)), (Prod.mk 502 (AObj.sym (l4) false 2))])))))))))))
 False)))))))))))
 False)
 False)
 (bcase (decide (0 + n3 * 2 ≤ List.length l3))
 (bcase (decide (0 + n4 * 2 ≤ List.length l4))
 (∃ n7 : Int,
 (∃ n8 : Int,
 ((Says C 7 [(D.agg [(D.sl (n3) 2 (List.take (n3 * 2) (List.drop 0 l3))), (D.sl (n4) 2 (List.take (n4 * 2) (List.drop 0 l4)))])] [(D.val (vI n7)), (D.val (vI n8))]) ∧
 (∃ n9 : Int,
 ((Says C 29 [(D.sl 2 1 [(vI (0 : Int)), (vI n8)])] [(D.val (vI n9))]) ∧
 (bcase (n9 != 0)
 (((Qv (Sl 503 (n5) (c5))) ∧
 ((Qv (Go.Value.agg [(vI (0 : Int)), (vI (0 : Int)), (Go.Value.slice Option.none 0 0)].toArray)) ∧
 ((Qv (Pt 1010 0)) ∧
 (((Qv (Sl 1011 1 1)) ∧
 (Qv (Option.some (AObj.cells [(vI ((↑n5 : Int)))] 3 false 1)))) ∧
 ((Qv (vI ((↑n5 : Int)))) ∧
 ((Qv (Sl 503 (n5) (c5))) ∧
 ((Qv (vI (0 : Int))) ∧
 ((Qv (Go.Value.slice Option.none 0 0)) ∧
 ((Qv (Pt 1010 3)) ∧
 ((Qv (Pt 1010 3)) ∧
 True)))))))))) ∧
 (∃ n10 : Int,
 ((Says C 30 [(D.val (vI (0 : Int))), (D.sl 1 1 [(vI ((↑n5 : Int)))])] [(D.val (vI n10))]) ∧
 (((Qv (Sl 503 (n5) (c5))) ∧
 ((Qv (Go.Value.agg [(vI (0 : Int)), (vI (0 : Int)), (Go.Value.slice Option.none 0 0)].toArray)) ∧
 ((Qv (Pt 1010 0)) ∧
 ((Qv (vI ((↑n5 : Int)))) ∧
 ((Qv (Sl 503 (n5) (c5))) ∧
 ((Qv (Go.Value.slice Option.none 0 0)) ∧
 ((Qv (Pt 1010 3)) ∧
 ((Qv (Pt 1010 3)) ∧
 True)))))))) ∧
 (bcase (decide (0 + n5 * 1 ≤ List.length l5))
 (∃ n11 : Int,
 ((Says C 69 [(D.agg [(D.val (vI (0 : Int))), (D.val (vI (0 : Int))), D.nil]), (D.sl (n5) 1 (List.take (n5 * 1) (List.drop 0 l5)))] [(D.val (vI n11))]) ∧
 ((((Qv (Sl 1012 2 2)) ∧
 (Qv (Option.some (AObj.cells [(vI n10), (vI n11)] 32 false 1)))) ∧
 ((Qv (Pt 1010 0)) ∧
 ((Qv (vI ((↑n5 : Int)))) ∧
 ((Qv (Sl 503 (n5) (c5))) ∧
 ((Qv (Go.Value.slice Option.none 0 0)) ∧
 ((Qv (Pt 1010 3)) ∧
 ((Qv (Pt 1010 3)) ∧
 True))))))) ∧
 (∃ n12 : Int,
 ((Says C 29 [(D.sl 2 1 [(vI n10), (vI n11)])] [(D.val (vI n12))]) ∧
 (((Qv (Pt 1010 0)) ∧
 ((Qv (vI ((↑n5 : Int)))) ∧
 ((Qv (Sl 503 (n5) (c5))) ∧
 ((Qv (Go.Value.slice Option.none 0 0)) ∧
 ((Qv (Pt 1010 3)) ∧
 ((Qv (Pt 1010 3)) ∧
 True)))))) ∧
 (True ∧
 (∃ n13 : Int,
 ((Says C 29 [(D.sl 2 1 [(vI n9), (vI n12)])] [(D.val (vI n13))]) ∧
 (bcase (n13 != 0)
 (k [D.nil, (D.val (vI n13))])
 (L 0 [(Prod.mk 8 (Pt 1000 0)), (Prod.mk 11 (Go.Value.slice Option.none 0 0)), (Prod.mk 29 (Sl 503 (n5) (c5))), (Prod.mk 30 (vI ((↑n5 : Int)))), (Prod.mk 31 (vI (0 : Int)))] [(Prod.mk 1000 (AObj.cells [(vI (0 : Int)), (vI (0 : Int)), (Go.Value.slice Option.none 0 0), (Go.Value.slice Option.none 0 0), (Go.Value.slice Option.none 0 0)] 81 false 5)), (Prod.mk 503 (AObj.sym (l5) false 1))])))))))))))
 False)))))
 (((Qv (Sl 503 (n5) (c5))) ∧
 ((Qv (Go.Value.agg [(vI x0), (vI x1), (Sl 500 (n2) (c2))].toArray)) ∧
 ((Qv (Pt 1010 0)) ∧
 (((Qv (Sl 1011 1 1)) ∧
 (Qv (Option.some (AObj.cells [(vI ((↑n5 : Int)))] 3 false 1)))) ∧
 ((Qv (vI ((↑n5 : Int)))) ∧
 ((Qv (Sl 503 (n5) (c5))) ∧
 ((Qv (vI ((↑n3 : Int)))) ∧
 ((Qv (Sl 501 (n3) (c3))) ∧
 ((Qv (Pt 1010 3)) ∧
 ((Qv (Pt 1010 3)) ∧
 True)))))))))) ∧
 (∃ n10 : Int,
 ((Says C 30 [(D.val (vI ((↑n3 : Int)))), (D.sl 1 1 [(vI ((↑n5 : Int)))])] [(D.val (vI n10))]) ∧
 (((Qv (Sl 503 (n5) (c5))) ∧
 ((Qv (Go.Value.agg [(vI x0), (vI x1), (Sl 500 (n2) (c2))].toArray)) ∧
 ((Qv (Pt 1010 0)) ∧
 ((Qv (vI ((↑n5 : Int)))) ∧
 ((Qv (Sl 503 (n5) (c5))) ∧
 ((Qv (Sl 501 (n3) (c3))) ∧
 ((Qv (Pt 1010 3)) ∧
 ((Qv (Pt 1010 3)) ∧
 True)))))))) ∧
 (bcase (decide (0 + n2 * 3 ≤ List.length l2))
 (bcase (decide (0 + n5 * 1 ≤ List.length l5))
 (∃ n11 : Int,
 ((Says C 69 [(D.agg [(D.val (vI x0)), (D.val (vI x1)), (D.sl (n2) 3 (List.take (n2 * 3) (List.drop 0 l2)))]), (D.sl (n5) 1 (List.take (n5 * 1) (List.drop 0 l5)))] [(D.val (vI n11))]) ∧
 ((((Qv (Sl 1012 2 2)) ∧
 (Qv (Option.some (AObj.cells [(vI n10), (vI n11)] 32 false 1)))) ∧
 ((Qv (Pt 1010 0)) ∧
 ((Qv (vI ((↑n5 : Int)))) ∧
 ((Qv (Sl 503 (n5) (c5))) ∧
 ((Qv (Sl 501 (n3) (c3))) ∧
 ((Qv (Pt 1010 3)) ∧
 ((Qv (Pt 1010 3)) ∧
 True))))))) ∧
 (∃ n12 : Int,
 ((Says C 29 [(D.sl 2 1 [(vI n10), (vI n11)])] [(D.val (vI n12))]) ∧
 (((Qv (Pt 1010 0)) ∧
 ((Qv (vI ((↑n5 : Int)))) ∧
 ((Qv (Sl 503 (n5) (c5))) ∧
 ((Qv (Sl 501 (n3) (c3))) ∧
 ((Qv (Pt 1010 3)) ∧
 ((Qv (Pt 1010 3)) ∧
 True)))))) ∧
 (True ∧
 (∃ n13 : Int,
 ((Says C 29 [(D.sl 2 1 [(vI (0 : Int)), (vI n12)])] [(D.val (vI n13))]) ∧
 (bcase (n13 != 0)
 (k [D.nil, (D.val (vI n13))])
 (L 0 [(Prod.mk 8 (Pt 1000 0)), (Prod.mk 11 (Go.Value.slice Option.none 0 0)), (Prod.mk 29 (Sl 503 (n5) (c5))), (Prod.mk 30 (vI ((↑n5 : Int)))), (Prod.mk 31 (vI (0 : Int)))] [(Prod.mk 1000 (AObj.cells [(vI x0), (vI x1), (Sl 500 (n2) (c2)), (Sl 501 (n3) (c3)), (Sl 502 (n4) (c4))] 81 false 5)), (Prod.mk 503 (AObj.sym (l5) false 1)), (Prod.mk 500 (AObj.sym (l2) false 3)), (Prod.mk 501 (AObj.sym (l3) false 2)), (Prod.mk 502 (AObj.sym (l4) false 2))])))))))))))
 False)
 False)))))))))))
 False)
 False)))))
 False) := by kernel_rfl
abbrev zEO1 (n0 : Nat) (c1 : Nat) (x2 : Int) (x3 : Int) (x4 : Int) (x5 : Int) (n6 : Nat) (c7 : Nat) (n8 : Nat) (c9 : Nat) (n10 : Nat) (c11 : Nat) (l12 : List Value) (l13 : List Value) (l14 : List Value) (l15 : List Value) : Slots × Blocks := ([(8, (Value.pointer (some ⟨1000, 0, none⟩))), (11, (Value.slice none 0 0)), (29, (Value.slice (some ⟨503, 0, none⟩) n0 c1)), (30, (Value.int .i64 x2)), (31, (Value.int .i64 x3))], [(1000, (AObj.cells [(Value.int .i64 x4), (Value.int .i64 x5), (Value.slice (some ⟨500, 0, none⟩) n6 c7), (Value.slice (some ⟨501, 0, none⟩) n8 c9), (Value.slice (some ⟨502, 0, none⟩) n10 c11)] 81 false 5)), (503, (AObj.sym l12 false 1)), (500, (AObj.sym l13 false 3)), (501, (AObj.sym l14 false 2)), (502, (AObj.sym l15 false 2))])
def rEO1 (C : Ct) (L : AtLoop) (n0 : Nat) (c1 : Nat) (x2 : Int) (x3 : Int) (x4 : Int) (x5 : Int) (n6 : Nat) (c7 : Nat) (n8 : Nat) (c9 : Nat) (n10 : Nat) (c11 : Nat) (l12 : List Value) (l13 : List Value) (l14 : List Value) (l15 : List Value) (B : Bx) (X : Xx) (k : List D → Prop) : Prop := wpRound Tryz.prog (hC C) L 9 0 [(8, (Value.pointer (some ⟨1000, 0, none⟩))), (11, (Value.slice none 0 0)), (29, (Value.slice (some ⟨503, 0, none⟩) n0 c1)), (30, (Value.int .i64 x2)), (31, (Value.int .i64 x3))] [(1000, (AObj.cells [(Value.int .i64 x4), (Value.int .i64 x5), (Value.slice (some ⟨500, 0, none⟩) n6 c7), (Value.slice (some ⟨501, 0, none⟩) n8 c9), (Value.slice (some ⟨502, 0, none⟩) n10 c11)] 81 false 5)), (503, (AObj.sym l12 false 1)), (500, (AObj.sym l13 false 3)), (501, (AObj.sym l14 false 2)), (502, (AObj.sym l15 false 2))] B X (dataK k)
theorem rEO1_text (C : Ct) (L : AtLoop) (n0 : Nat) (c1 : Nat) (x2 : Int) (x3 : Int) (x4 : Int) (x5 : Int) (n6 : Nat) (c7 : Nat) (n8 : Nat) (c9 : Nat) (n10 : Nat) (c11 : Nat) (l12 : List Go.Value) (l13 : List Go.Value) (l14 : List Go.Value) (l15 : List Go.Value) (B : Bx) (X : Xx) (k : List D → Prop) : rEO1 C L n0 c1 x2 x3 x4 x5 n6 c7 n8 c9 n10 c11 l12 l13 l14 l15 B X k =
 (bcase (decide (x3 < x2))
 (bcase (decide (0 ≤ x3))
 (bcase (decide (x3 < (↑n0 : Int)))
 (∃ n1 : Int,
 ((At (l12) (0 + Int.toNat x3 * 1) 1 [(vI n1)]) ∧
 (bcase (decide (0 + n6 * 3 ≤ List.length l13))
 (bcase (decide (0 + n8 * 2 ≤ List.length l14))
 (bcase (decide (0 + n10 * 2 ≤ List.length l15))
 (∃ n2 : Int,
 (∃ n3 : Int,
 ((Says C 36 [(D.agg [(D.val (vI x4)), (D.val (vI x5)), (D.sl (n6) 3 (List.take (n6 * 3) (List.drop 0 l13))), (D.sl (n8) 2 (List.take (n8 * 2) (List.drop 0 l14))), (D.sl (n10) 2 (List.take (n10 * 2) (List.drop 0 l15)))]), (D.val (vI x3)), (D.val (vI n1))] [(D.agg [(D.val (vI n2)), (D.val (vI n3))])]) ∧
 (B [(Prod.mk 8 (Pt 1000 0)), (Prod.mk 11 (Sl 1001 1 1)), (Prod.mk 29 (Sl 503 (n0) (c1))), (Prod.mk 30 (vI x2)), (Prod.mk 31 (vI (IntKind.wrap .i64 (x3 + 1))))] [(Prod.mk 1000 (AObj.cells [(vI x4), (vI x5), (Sl 500 (n6) (c7)), (Sl 501 (n8) (c9)), (Sl 502 (n10) (c11))] 81 false 5)), (Prod.mk 1001 (AObj.sym [(vI n2), (vI n3)] true 2)), (Prod.mk 503 (AObj.sym (l12) false 1)), (Prod.mk 500 (AObj.sym (l13) false 3)), (Prod.mk 501 (AObj.sym (l14) false 2)), (Prod.mk 502 (AObj.sym (l15) false 2))]))))
 False)
 False)
 False)))
 False)
 False)
 (X 0 [(Prod.mk 11 (Go.Value.slice Option.none 0 0))] [])) := by kernel_rfl
abbrev zEO2 (n0 : Nat) (n1 : Nat) (c2 : Nat) (x3 : Int) (x4 : Int) (x5 : Int) (x6 : Int) (n7 : Nat) (c8 : Nat) (n9 : Nat) (c10 : Nat) (n11 : Nat) (c12 : Nat) (l13 : List Value) (l14 : List Value) (l15 : List Value) (l16 : List Value) (l17 : List Value) : Slots × Blocks := ([(8, (Value.pointer (some ⟨1000, 0, none⟩))), (11, (Value.slice (some ⟨1001, 0, none⟩) n0 n0)), (29, (Value.slice (some ⟨503, 0, none⟩) n1 c2)), (30, (Value.int .i64 x3)), (31, (Value.int .i64 x4))], [(1000, (AObj.cells [(Value.int .i64 x5), (Value.int .i64 x6), (Value.slice (some ⟨500, 0, none⟩) n7 c8), (Value.slice (some ⟨501, 0, none⟩) n9 c10), (Value.slice (some ⟨502, 0, none⟩) n11 c12)] 81 false 5)), (1001, (AObj.sym l13 true 2)), (503, (AObj.sym l14 false 1)), (500, (AObj.sym l15 false 3)), (501, (AObj.sym l16 false 2)), (502, (AObj.sym l17 false 2))])
def rEO2 (C : Ct) (L : AtLoop) (n0 : Nat) (n1 : Nat) (c2 : Nat) (x3 : Int) (x4 : Int) (x5 : Int) (x6 : Int) (n7 : Nat) (c8 : Nat) (n9 : Nat) (c10 : Nat) (n11 : Nat) (c12 : Nat) (l13 : List Value) (l14 : List Value) (l15 : List Value) (l16 : List Value) (l17 : List Value) (B : Bx) (X : Xx) (k : List D → Prop) : Prop := wpRound Tryz.prog (hC C) L 9 0 [(8, (Value.pointer (some ⟨1000, 0, none⟩))), (11, (Value.slice (some ⟨1001, 0, none⟩) n0 n0)), (29, (Value.slice (some ⟨503, 0, none⟩) n1 c2)), (30, (Value.int .i64 x3)), (31, (Value.int .i64 x4))] [(1000, (AObj.cells [(Value.int .i64 x5), (Value.int .i64 x6), (Value.slice (some ⟨500, 0, none⟩) n7 c8), (Value.slice (some ⟨501, 0, none⟩) n9 c10), (Value.slice (some ⟨502, 0, none⟩) n11 c12)] 81 false 5)), (1001, (AObj.sym l13 true 2)), (503, (AObj.sym l14 false 1)), (500, (AObj.sym l15 false 3)), (501, (AObj.sym l16 false 2)), (502, (AObj.sym l17 false 2))] B X (dataK k)
theorem rEO2_text (C : Ct) (L : AtLoop) (n0 : Nat) (n1 : Nat) (c2 : Nat) (x3 : Int) (x4 : Int) (x5 : Int) (x6 : Int) (n7 : Nat) (c8 : Nat) (n9 : Nat) (c10 : Nat) (n11 : Nat) (c12 : Nat) (l13 : List Go.Value) (l14 : List Go.Value) (l15 : List Go.Value) (l16 : List Go.Value) (l17 : List Go.Value) (B : Bx) (X : Xx) (k : List D → Prop) : rEO2 C L n0 n1 c2 x3 x4 x5 x6 n7 c8 n9 c10 n11 c12 l13 l14 l15 l16 l17 B X k =
 (bcase (decide (x4 < x3))
 (bcase (decide (0 ≤ x4))
 (bcase (decide (x4 < (↑n1 : Int)))
 (∃ n2 : Int,
 ((At (l14) (0 + Int.toNat x4 * 1) 1 [(vI n2)]) ∧
 (bcase (decide (0 + n7 * 3 ≤ List.length l15))
 (bcase (decide (0 + n9 * 2 ≤ List.length l16))
 (bcase (decide (0 + n11 * 2 ≤ List.length l17))
 (∃ n3 : Int,
 (∃ n4 : Int,
 ((Says C 36 [(D.agg [(D.val (vI x5)), (D.val (vI x6)), (D.sl (n7) 3 (List.take (n7 * 3) (List.drop 0 l15))), (D.sl (n9) 2 (List.take (n9 * 2) (List.drop 0 l16))), (D.sl (n11) 2 (List.take (n11 * 2) (List.drop 0 l17)))]), (D.val (vI x4)), (D.val (vI n2))] [(D.agg [(D.val (vI n3)), (D.val (vI n4))])]) ∧
 (bcase (decide (n0 < n0 + 1))
 (bcase (decide ((2 * (n0 + 1) + 768) * 16 ≤ 281474976710656))
 (bcase (decide (n0 + 1 ≤ 1099511627776))
 (bcase (decide (0 + n0 * 2 ≤ List.length l13))
 (bcase (decide (0 + n0 * 2 = List.length l13))
 (B [(Prod.mk 8 (Pt 1000 0)), (Prod.mk 11 (Sl 1001 (n0 + 1) (n0 + 1))), (Prod.mk 29 (Sl 503 (n1) (c2))), (Prod.mk 30 (vI x3)), (Prod.mk 31 (vI (IntKind.wrap .i64 (x4 + 1))))] [(Prod.mk 1000 (AObj.cells [(vI x5), (vI x6), (Sl 500 (n7) (c8)), (Sl 501 (n9) (c10)), (Sl 502 (n11) (c12))] 81 false 5)), (Prod.mk 1001 (AObj.sym ((List.take (n0 * 2) (List.drop 0 l13)) ++ [(vI n3), (vI n4)]) true 2)), (Prod.mk 503 (AObj.sym (l14) false 1)), (Prod.mk 500 (AObj.sym (l15) false 3)), (Prod.mk 501 (AObj.sym (l16) false 2)), (Prod.mk 502 (AObj.sym (l17) false 2))])
 False)
 False)
 False)
 False)
 False))))
 False)
 False)
 False)))
 False)
 False)
 (X 0 [(Prod.mk 11 (Sl 1000 (n0) (n0)))] [(Prod.mk 1000 (AObj.sym (l13) true 2))])) := by kernel_rfl
def nEO4 (C : Ct) (L : AtLoop) (n0 : Nat) (l1 : List Value) (k : List D → Prop) : Prop := wpNext Tryz.prog (hC C) L 9 0 .normal [(11, (Value.slice (some ⟨1000, 0, none⟩) n0 n0))] [(1000, (AObj.sym l1 true 2))] (dataK k)
theorem nEO4_text (C : Ct) (L : AtLoop) (n0 : Nat) (l1 : List Go.Value) (k : List D → Prop) : nEO4 C L n0 l1 k =
 (((Qv (n0)) ∧
 ((List.length l1) = (n0 * 2))) ∧
 (k [(D.sl (n0) 2 (l1)), (D.val (vI (0 : Int)))])) := by kernel_rfl
def gAO (C : Ct) (L : AtLoop) (x0 : Int) (x1 : Int) (n2 : Nat) (c2 : Nat) (l2 : List Value) (n3 : Nat) (c3 : Nat) (l3 : List Value) (n4 : Nat) (c4 : Nat) (l4 : List Value) (n5 : Nat) (c5 : Nat) (l5 : List Value) (k : List D → Prop) : Prop := wpFn Tryz.prog (hC C) L 0 12 #[.agg #[.int .i64 x0, .int .i64 x1, .slice (some ⟨500, 0, none⟩) n2 c2], .agg #[.slice (some ⟨501, 0, none⟩) n3 c3, .slice (some ⟨502, 0, none⟩) n4 c4], .slice (some ⟨503, 0, none⟩) n5 c5] (heapOf [(500, .sym l2 false 3), (501, .sym l3 false 2), (502, .sym l4 false 2), (503, .sym l5 false 1)]) (dataK k)
theorem gAO_text (C : Ct) (L : AtLoop) (x0 : Int) (x1 : Int) (n2 : Nat) (c2 : Nat) (l2 : List Go.Value) (n3 : Nat) (c3 : Nat) (l3 : List Go.Value) (n4 : Nat) (c4 : Nat) (l4 : List Go.Value) (n5 : Nat) (c5 : Nat) (l5 : List Go.Value) (k : List D → Prop) : gAO C L x0 x1 n2 c2 l2 n3 c3 l3 n4 c4 l4 n5 c5 l5 k =
 (bcase (decide (0 + n2 * 3 ≤ List.length l2))
 (∃ n1 : Int,
 (∃ n6 : Int,
 ((Says C 76 [(D.agg [(D.val (vI x0)), (D.val (vI x1)), (D.sl (n2) 3 (List.take (n2 * 3) (List.drop 0 l2)))])] [(D.val (vI n1)), (D.val (vI n6))]) ∧
 (bcase (n6 != 0)
 (bcase (decide (0 + n3 * 2 ≤ List.length l3))
 (bcase (decide (0 + n4 * 2 ≤ List.length l4))
 (∃ n7 : Int,
 (∃ n8 : Int,
 ((Says C 7 [(D.agg [(D.sl (n3) 2 (List.take (n3 * 2) (List.drop 0 l3))), (D.sl (n4) 2 (List.take (n4 * 2) (List.drop 0 l4)))])] [(D.val (vI n7)), (D.val (vI n8))]) ∧
 (∃ n9 : Int,
 ((Says C 29 [(D.sl 2 1 [(vI n6), (vI n8)])] [(D.val (vI n9))]) ∧
 (bcase (n9 != 0)
 (((Qv (Sl 503 (n5) (c5))) ∧
 ((Qv (Go.Value.agg [(vI (0 : Int)), (vI (0 : Int)), (Go.Value.slice Option.none 0 0)].toArray)) ∧
 ((Qv (Pt 1010 0)) ∧
 (((Qv (Sl 1011 1 1)) ∧
 (Qv (Option.some (AObj.cells [(vI ((↑n5 : Int)))] 3 false 1)))) ∧
 ((Qv (vI ((↑n5 : Int)))) ∧
 ((Qv (Sl 503 (n5) (c5))) ∧
 ((Qv (vI (0 : Int))) ∧
 ((Qv (Go.Value.slice Option.none 0 0)) ∧
 ((Qv (Pt 1010 3)) ∧
 ((Qv (Pt 1010 3)) ∧
 True)))))))))) ∧
 (∃ n10 : Int,
 ((Says C 30 [(D.val (vI (0 : Int))), (D.sl 1 1 [(vI ((↑n5 : Int)))])] [(D.val (vI n10))]) ∧
 (((Qv (Sl 503 (n5) (c5))) ∧
 ((Qv (Go.Value.agg [(vI (0 : Int)), (vI (0 : Int)), (Go.Value.slice Option.none 0 0)].toArray)) ∧
 ((Qv (Pt 1010 0)) ∧
 ((Qv (vI ((↑n5 : Int)))) ∧
 ((Qv (Sl 503 (n5) (c5))) ∧
 ((Qv (Go.Value.slice Option.none 0 0)) ∧
 ((Qv (Pt 1010 3)) ∧
 ((Qv (Pt 1010 3)) ∧
 True)))))))) ∧
 (bcase (decide (0 + n5 * 1 ≤ List.length l5))
 (∃ n11 : Int,
 ((Says C 69 [(D.agg [(D.val (vI (0 : Int))), (D.val (vI (0 : Int))), D.nil]), (D.sl (n5) 1 (List.take (n5 * 1) (List.drop 0 l5)))] [(D.val (vI n11))]) ∧
 ((((Qv (Sl 1012 2 2)) ∧
 (Qv (Option.some (AObj.cells [(vI n10), (vI n11)] 32 false 1)))) ∧
 ((Qv (Pt 1010 0)) ∧
 ((Qv (vI ((↑n5 : Int)))) ∧
 ((Qv (Sl 503 (n5) (c5))) ∧
 ((Qv (Go.Value.slice Option.none 0 0)) ∧
 ((Qv (Pt 1010 3)) ∧
 ((Qv (Pt 1010 3)) ∧
 True))))))) ∧
 (∃ n12 : Int,
 ((Says C 29 [(D.sl 2 1 [(vI n10), (vI n11)])] [(D.val (vI n12))]) ∧
 (((Qv (Pt 1010 0)) ∧
 ((Qv (vI ((↑n5 : Int)))) ∧
 ((Qv (Sl 503 (n5) (c5))) ∧
 ((Qv (Go.Value.slice Option.none 0 0)) ∧
 ((Qv (Pt 1010 3)) ∧
 ((Qv (Pt 1010 3)) ∧
 True)))))) ∧
 (True ∧
 (∃ n13 : Int,
 ((Says C 29 [(D.sl 2 1 [(vI n9), (vI n12)])] [(D.val (vI n13))]) ∧
 (bcase (n13 != 0)
 (k [D.nil, (D.val (vI n13))])
 (L 0 [(Prod.mk 8 (Pt 1000 0)), (Prod.mk 11 (Go.Value.slice Option.none 0 0)), (Prod.mk 29 (Sl 503 (n5) (c5))), (Prod.mk 30 (vI ((↑n5 : Int)))), (Prod.mk 31 (vI (0 : Int)))] [(Prod.mk 1000 (AObj.cells [(vI (0 : Int)), (vI (0 : Int)), (Go.Value.slice Option.none 0 0), (Go.Value.slice Option.none 0 0), (Go.Value.slice Option.none 0 0)] 81 false 5)), (Prod.mk 503 (AObj.sym (l5) false 1))])))))))))))
 False)))))
 (((Qv (Sl 503 (n5) (c5))) ∧
 ((Qv (Go.Value.agg [(vI (0 : Int)), (vI (0 : Int)), (Go.Value.slice Option.none 0 0)].toArray)) ∧
 ((Qv (Pt 1010 0)) ∧
 (((Qv (Sl 1011 1 1)) ∧
 (Qv (Option.some (AObj.cells [(vI ((↑n5 : Int)))] 3 false 1)))) ∧
 ((Qv (vI ((↑n5 : Int)))) ∧
 ((Qv (Sl 503 (n5) (c5))) ∧
 ((Qv (vI ((↑n3 : Int)))) ∧
 ((Qv (Sl 501 (n3) (c3))) ∧
 ((Qv (Pt 1010 3)) ∧
 ((Qv (Pt 1010 3)) ∧
 True)))))))))) ∧
 (∃ n10 : Int,
 ((Says C 30 [(D.val (vI ((↑n3 : Int)))), (D.sl 1 1 [(vI ((↑n5 : Int)))])] [(D.val (vI n10))]) ∧
 (((Qv (Sl 503 (n5) (c5))) ∧
 ((Qv (Go.Value.agg [(vI (0 : Int)), (vI (0 : Int)), (Go.Value.slice Option.none 0 0)].toArray)) ∧
 ((Qv (Pt 1010 0)) ∧
 ((Qv (vI ((↑n5 : Int)))) ∧
 ((Qv (Sl 503 (n5) (c5))) ∧
 ((Qv (Sl 501 (n3) (c3))) ∧
 ((Qv (Pt 1010 3)) ∧
 ((Qv (Pt 1010 3)) ∧
 True)))))))) ∧
 (bcase (decide (0 + n5 * 1 ≤ List.length l5))
 (∃ n11 : Int,
 ((Says C 69 [(D.agg [(D.val (vI (0 : Int))), (D.val (vI (0 : Int))), D.nil]), (D.sl (n5) 1 (List.take (n5 * 1) (List.drop 0 l5)))] [(D.val (vI n11))]) ∧
 ((((Qv (Sl 1012 2 2)) ∧
 (Qv (Option.some (AObj.cells [(vI n10), (vI n11)] 32 false 1)))) ∧
 ((Qv (Pt 1010 0)) ∧
 ((Qv (vI ((↑n5 : Int)))) ∧
 ((Qv (Sl 503 (n5) (c5))) ∧
 ((Qv (Sl 501 (n3) (c3))) ∧
 ((Qv (Pt 1010 3)) ∧
 ((Qv (Pt 1010 3)) ∧
 True))))))) ∧
 (∃ n12 : Int,
 ((Says C 29 [(D.sl 2 1 [(vI n10), (vI n11)])] [(D.val (vI n12))]) ∧
 (((Qv (Pt 1010 0)) ∧
 ((Qv (vI ((↑n5 : Int)))) ∧
 ((Qv (Sl 503 (n5) (c5))) ∧
 ((Qv (Sl 501 (n3) (c3))) ∧
 ((Qv (Pt 1010 3)) ∧
 ((Qv (Pt 1010 3)) ∧
 True)))))) ∧
 (True ∧
 (∃ n13 : Int,
 ((Says C 29 [(D.sl 2 1 [(vI (0 : Int)), (vI n12)])] [(D.val (vI n13))]) ∧
 (bcase (n13 != 0)
 (k [D.nil, (D.val (vI n13))])
 (L 0 [(Prod.mk 8 (Pt 1000 0)), (Prod.mk 11 (Go.Value.slice Option.none 0 0)), (Prod.mk 29 (Sl 503 (n5) (c5))), (Prod.mk 30 (vI ((↑n5 : Int)))), (Prod.mk 31 (vI (0 : Int)))] [(Prod.mk 1000 (AObj.cells [(vI (0 : Int)), (vI (0 : Int)), (Go.Value.slice Option.none 0 0), (Sl 501 (n3) (c3)), (Sl 502 (n4) (c4))] 81 false 5)), (Prod.mk 503 (AObj.sym (l5) false 1)), (Prod.mk 501 (AObj.sym (l3) false 2)), (Prod.mk 502 (AObj.sym (l4) false 2))])))))))))))
 False)))))))))))
 False)
 False)
 (bcase (decide (0 + n3 * 2 ≤ List.length l3))
 (bcase (decide (0 + n4 * 2 ≤ List.length l4))
 (∃ n7 : Int,
 (∃ n8 : Int,
 ((Says C 7 [(D.agg [(D.sl (n3) 2 (List.take (n3 * 2) (List.drop 0 l3))), (D.sl (n4) 2 (List.take (n4 * 2) (List.drop 0 l4)))])] [(D.val (vI n7)), (D.val (vI n8))]) ∧
 (∃ n9 : Int,
 ((Says C 29 [(D.sl 2 1 [(vI (0 : Int)), (vI n8)])] [(D.val (vI n9))]) ∧
 (bcase (n9 != 0)
 (((Qv (Sl 503 (n5) (c5))) ∧
 ((Qv (Go.Value.agg [(vI (0 : Int)), (vI (0 : Int)), (Go.Value.slice Option.none 0 0)].toArray)) ∧
 ((Qv (Pt 1010 0)) ∧
 (((Qv (Sl 1011 1 1)) ∧
 (Qv (Option.some (AObj.cells [(vI ((↑n5 : Int)))] 3 false 1)))) ∧
 ((Qv (vI ((↑n5 : Int)))) ∧
 ((Qv (Sl 503 (n5) (c5))) ∧
 ((Qv (vI (0 : Int))) ∧
 ((Qv (Go.Value.slice Option.none 0 0)) ∧
 ((Qv (Pt 1010 3)) ∧
 ((Qv (Pt 1010 3)) ∧
 True)))))))))) ∧
 (∃ n10 : Int,
 ((Says C 30 [(D.val (vI (0 : Int))), (D.sl 1 1 [(vI ((↑n5 : Int)))])] [(D.val (vI n10))]) ∧
 (((Qv (Sl 503 (n5) (c5))) ∧
 ((Qv (Go.Value.agg [(vI (0 : Int)), (vI (0 : Int)), (Go.Value.slice Option.none 0 0)].toArray)) ∧
 ((Qv (Pt 1010 0)) ∧
 ((Qv (vI ((↑n5 : Int)))) ∧
 ((Qv (Sl 503 (n5) (c5))) ∧
 ((Qv (Go.Value.slice Option.none 0 0)) ∧
 ((Qv (Pt 1010 3)) ∧
 ((Qv (Pt 1010 3)) ∧
 True)))))))) ∧
 (bcase (decide (0 + n5 * 1 ≤ List.length l5))
 (∃ n11 : Int,
 ((Says C 69 [(D.agg [(D.val (vI (0 : Int))), (D.val (vI (0 : Int))), D.nil]), (D.sl (n5) 1 (List.take (n5 * 1) (List.drop 0 l5)))] [(D.val (vI n11))]) ∧
 ((((Qv (Sl 1012 2 2)) ∧
 (Qv (Option.some (AObj.cells [(vI n10), (vI n11)] 32 false 1)))) ∧
 ((Qv (Pt 1010 0)) ∧
 ((Qv (vI ((↑n5 : Int)))) ∧
 ((Qv (Sl 503 (n5) (c5))) ∧
 ((Qv (Go.Value.slice Option.none 0 0)) ∧
 ((Qv (Pt 1010 3)) ∧
 ((Qv (Pt 1010 3)) ∧
 True))))))) ∧
 (∃ n12 : Int,
 ((Says C 29 [(D.sl 2 1 [(vI n10), (vI n11)])] [(D.val (vI n12))]) ∧
 (((Qv (Pt 1010 0)) ∧
 ((Qv (vI ((↑n5 : Int)))) ∧
 ((Qv (Sl 503 (n5) (c5))) ∧
 ((Qv (Go.Value.slice Option.none 0 0)) ∧
 ((Qv (Pt 1010 3)) ∧
 ((Qv (Pt 1010 3)) ∧
 True)))))) ∧
 (True ∧
 (∃ n13 : Int,
 ((Says C 29 [(D.sl 2 1 [(vI n9), (vI n12)])] [(D.val (vI n13))]) ∧
 (bcase (n13 != 0)
 (k [D.nil, (D.val (vI n13))])
 (L 0 [(Prod.mk 8 (Pt 1000 0)), (Prod.mk 11 (Go.Value.slice Option.none 0 0)), (Prod.mk 29 (Sl 503 (n5) (c5))), (Prod.mk 30 (vI ((↑n5 : Int)))), (Prod.mk 31 (vI (0 : Int)))] [(Prod.mk 1000 (AObj.cells [(vI (0 : Int)), (vI (0 : Int)), (Go.Value.slice Option.none 0 0), (Go.Value.slice Option.none 0 0), (Go.Value.slice Option.none 0 0)] 81 false 5)), (Prod.mk 503 (AObj.sym (l5) false 1))])))))))))))
 False)))))
 (((Qv (Sl 503 (n5) (c5))) ∧
 ((Qv (Go.Value.agg [(vI x0), (vI x1), (Sl 500 (n2) (c2))].toArray)) ∧
 ((Qv (Pt 1010 0)) ∧
 (((Qv (Sl 1011 1 1)) ∧
 (Qv (Option.some (AObj.cells [(vI ((↑n5 : Int)))] 3 false 1)))) ∧
 ((Qv (vI ((↑n5 : Int)))) ∧
 ((Qv (Sl 503 (n5) (c5))) ∧
 ((Qv (vI ((↑n3 : Int)))) ∧
 ((Qv (Sl 501 (n3) (c3))) ∧
 ((Qv (Pt 1010 3)) ∧
 ((Qv (Pt 1010 3)) ∧
 True)))))))))) ∧
 (∃ n10 : Int,
 ((Says C 30 [(D.val (vI ((↑n3 : Int)))), (D.sl 1 1 [(vI ((↑n5 : Int)))])] [(D.val (vI n10))]) ∧
 (((Qv (Sl 503 (n5) (c5))) ∧
 ((Qv (Go.Value.agg [(vI x0), (vI x1), (Sl 500 (n2) (c2))].toArray)) ∧
 ((Qv (Pt 1010 0)) ∧
 ((Qv (vI ((↑n5 : Int)))) ∧
 ((Qv (Sl 503 (n5) (c5))) ∧
 ((Qv (Sl 501 (n3) (c3))) ∧
 ((Qv (Pt 1010 3)) ∧
 ((Qv (Pt 1010 3)) ∧
 True)))))))) ∧
 (bcase (decide (0 + n2 * 3 ≤ List.length l2))
 (bcase (decide (0 + n5 * 1 ≤ List.length l5))
 (∃ n11 : Int,
 ((Says C 69 [(D.agg [(D.val (vI x0)), (D.val (vI x1)), (D.sl (n2) 3 (List.take (n2 * 3) (List.drop 0 l2)))]), (D.sl (n5) 1 (List.take (n5 * 1) (List.drop 0 l5)))] [(D.val (vI n11))]) ∧
 ((((Qv (Sl 1012 2 2)) ∧
 (Qv (Option.some (AObj.cells [(vI n10), (vI n11)] 32 false 1)))) ∧
 ((Qv (Pt 1010 0)) ∧
 ((Qv (vI ((↑n5 : Int)))) ∧
 ((Qv (Sl 503 (n5) (c5))) ∧
 ((Qv (Sl 501 (n3) (c3))) ∧
 ((Qv (Pt 1010 3)) ∧
 ((Qv (Pt 1010 3)) ∧
 True))))))) ∧
 (∃ n12 : Int,
 ((Says C 29 [(D.sl 2 1 [(vI n10), (vI n11)])] [(D.val (vI n12))]) ∧
 (((Qv (Pt 1010 0)) ∧
 ((Qv (vI ((↑n5 : Int)))) ∧
 ((Qv (Sl 503 (n5) (c5))) ∧
 ((Qv (Sl 501 (n3) (c3))) ∧
 ((Qv (Pt 1010 3)) ∧
 ((Qv (Pt 1010 3)) ∧
 True)))))) ∧
 (True ∧
 (∃ n13 : Int,
 ((Says C 29 [(D.sl 2 1 [(vI (0 : Int)), (vI n12)])] [(D.val (vI n13))]) ∧
 (bcase (n13 != 0)
 (k [D.nil, (D.val (vI n13))])
 (L 0 [(Prod.mk 8 (Pt 1000 0)), (Prod.mk 11 (Go.Value.slice Option.none 0 0)), (Prod.mk 29 (Sl 503 (n5) (c5))), (Prod.mk 30 (vI ((↑n5 : Int)))), (Prod.mk 31 (vI (0 : Int)))] [(Prod.mk 1000 (AObj.cells [(vI x0), (vI x1), (Sl 500 (n2) (c2)), (Sl 501 (n3) (c3)), (Sl 502 (n4) (c4))] 81 false 5)), (Prod.mk 503 (AObj.sym (l5) false 1)), (Prod.mk 500 (AObj.sym (l2) false 3)), (Prod.mk 501 (AObj.sym (l3) false 2)), (Prod.mk 502 (AObj.sym (l4) false 2))])))))))))))
 False)
 False)))))))))))
 False)
 False)))))
 False) := by kernel_rfl
abbrev zAO1 (n0 : Nat) (c1 : Nat) (x2 : Int) (x3 : Int) (x4 : Int) (x5 : Int) (n6 : Nat) (c7 : Nat) (n8 : Nat) (c9 : Nat) (n10 : Nat) (c11 : Nat) (l12 : List Value) (l13 : List Value) (l14 : List Value) (l15 : List Value) : Slots × Blocks := ([(8, (Value.pointer (some ⟨1000, 0, none⟩))), (11, (Value.slice none 0 0)), (29, (Value.slice (some ⟨503, 0, none⟩) n0 c1)), (30, (Value.int .i64 x2)), (31, (Value.int .i64 x3))], [(1000, (AObj.cells [(Value.int .i64 x4), (Value.int .i64 x5), (Value.slice (some ⟨500, 0, none⟩) n6 c7), (Value.slice (some ⟨501, 0, none⟩) n8 c9), (Value.slice (some ⟨502, 0, none⟩) n10 c11)] 81 false 5)), (503, (AObj.sym l12 false 1)), (500, (AObj.sym l13 false 3)), (501, (AObj.sym l14 false 2)), (502, (AObj.sym l15 false 2))])
def rAO1 (C : Ct) (L : AtLoop) (n0 : Nat) (c1 : Nat) (x2 : Int) (x3 : Int) (x4 : Int) (x5 : Int) (n6 : Nat) (c7 : Nat) (n8 : Nat) (c9 : Nat) (n10 : Nat) (c11 : Nat) (l12 : List Value) (l13 : List Value) (l14 : List Value) (l15 : List Value) (B : Bx) (X : Xx) (k : List D → Prop) : Prop := wpRound Tryz.prog (hC C) L 12 0 [(8, (Value.pointer (some ⟨1000, 0, none⟩))), (11, (Value.slice none 0 0)), (29, (Value.slice (some ⟨503, 0, none⟩) n0 c1)), (30, (Value.int .i64 x2)), (31, (Value.int .i64 x3))] [(1000, (AObj.cells [(Value.int .i64 x4), (Value.int .i64 x5), (Value.slice (some ⟨500, 0, none⟩) n6 c7), (Value.slice (some ⟨501, 0, none⟩) n8 c9), (Value.slice (some ⟨502, 0, none⟩) n10 c11)] 81 false 5)), (503, (AObj.sym l12 false 1)), (500, (AObj.sym l13 false 3)), (501, (AObj.sym l14 false 2)), (502, (AObj.sym l15 false 2))] B X (dataK k)
theorem rAO1_text (C : Ct) (L : AtLoop) (n0 : Nat) (c1 : Nat) (x2 : Int) (x3 : Int) (x4 : Int) (x5 : Int) (n6 : Nat) (c7 : Nat) (n8 : Nat) (c9 : Nat) (n10 : Nat) (c11 : Nat) (l12 : List Go.Value) (l13 : List Go.Value) (l14 : List Go.Value) (l15 : List Go.Value) (B : Bx) (X : Xx) (k : List D → Prop) : rAO1 C L n0 c1 x2 x3 x4 x5 n6 c7 n8 c9 n10 c11 l12 l13 l14 l15 B X k =
 (bcase (decide (x3 < x2))
 (bcase (decide (0 ≤ x3))
 (bcase (decide (x3 < (↑n0 : Int)))
 (∃ n1 : Int,
 ((At (l12) (0 + Int.toNat x3 * 1) 1 [(vI n1)]) ∧
 (bcase (decide (0 + n6 * 3 ≤ List.length l13))
 (bcase (decide (0 + n8 * 2 ≤ List.length l14))
 (bcase (decide (0 + n10 * 2 ≤ List.length l15))
 (∃ n2 : Int,
 ((Says C 37 [(D.agg [(D.val (vI x4)), (D.val (vI x5)), (D.sl (n6) 3 (List.take (n6 * 3) (List.drop 0 l13))), (D.sl (n8) 2 (List.take (n8 * 2) (List.drop 0 l14))), (D.sl (n10) 2 (List.take (n10 * 2) (List.drop 0 l15)))]), (D.val (vI x3)), (D.val (vI n1))] [(D.val (vI n2))]) ∧
 (B [(Prod.mk 8 (Pt 1000 0)), (Prod.mk 11 (Sl 1001 1 1)), (Prod.mk 29 (Sl 503 (n0) (c1))), (Prod.mk 30 (vI x2)), (Prod.mk 31 (vI (IntKind.wrap .i64 (x3 + 1))))] [(Prod.mk 1000 (AObj.cells [(vI x4), (vI x5), (Sl 500 (n6) (c7)), (Sl 501 (n8) (c9)), (Sl 502 (n10) (c11))] 81 false 5)), (Prod.mk 1001 (AObj.sym [(vI n2)] true 1)), (Prod.mk 503 (AObj.sym (l12) false 1)), (Prod.mk 500 (AObj.sym (l13) false 3)), (Prod.mk 501 (AObj.sym (l14) false 2)), (Prod.mk 502 (AObj.sym (l15) false 2))])))
 False)
 False)
 False)))
 False)
 False)
 (X 0 [(Prod.mk 11 (Go.Value.slice Option.none 0 0))] [])) := by kernel_rfl
abbrev zAO2 (n0 : Nat) (n1 : Nat) (c2 : Nat) (x3 : Int) (x4 : Int) (x5 : Int) (x6 : Int) (n7 : Nat) (c8 : Nat) (n9 : Nat) (c10 : Nat) (n11 : Nat) (c12 : Nat) (l13 : List Value) (l14 : List Value) (l15 : List Value) (l16 : List Value) (l17 : List Value) : Slots × Blocks := ([(8, (Value.pointer (some ⟨1000, 0, none⟩))), (11, (Value.slice (some ⟨1001, 0, none⟩) n0 n0)), (29, (Value.slice (some ⟨503, 0, none⟩) n1 c2)), (30, (Value.int .i64 x3)), (31, (Value.int .i64 x4))], [(1000, (AObj.cells [(Value.int .i64 x5), (Value.int .i64 x6), (Value.slice (some ⟨500, 0, none⟩) n7 c8), (Value.slice (some ⟨501, 0, none⟩) n9 c10), (Value.slice (some ⟨502, 0, none⟩) n11 c12)] 81 false 5)), (1001, (AObj.sym l13 true 1)), (503, (AObj.sym l14 false 1)), (500, (AObj.sym l15 false 3)), (501, (AObj.sym l16 false 2)), (502, (AObj.sym l17 false 2))])
def rAO2 (C : Ct) (L : AtLoop) (n0 : Nat) (n1 : Nat) (c2 : Nat) (x3 : Int) (x4 : Int) (x5 : Int) (x6 : Int) (n7 : Nat) (c8 : Nat) (n9 : Nat) (c10 : Nat) (n11 : Nat) (c12 : Nat) (l13 : List Value) (l14 : List Value) (l15 : List Value) (l16 : List Value) (l17 : List Value) (B : Bx) (X : Xx) (k : List D → Prop) : Prop := wpRound Tryz.prog (hC C) L 12 0 [(8, (Value.pointer (some ⟨1000, 0, none⟩))), (11, (Value.slice (some ⟨1001, 0, none⟩) n0 n0)), (29, (Value.slice (some ⟨503, 0, none⟩) n1 c2)), (30, (Value.int .i64 x3)), (31, (Value.int .i64 x4))] [(1000, (AObj.cells [(Value.int .i64 x5), (Value.int .i64 x6), (Value.slice (some ⟨500, 0, none⟩) n7 c8), (Value.slice (some ⟨501, 0, none⟩) n9 c10), (Value.slice (some ⟨502, 0, none⟩) n11 c12)] 81 false 5)), (1001, (AObj.sym l13 true 1)), (503, (AObj.sym l14 false 1)), (500, (AObj.sym l15 false 3)), (501, (AObj.sym l16 false 2)), (502, (AObj.sym l17 false 2))] B X (dataK k)
theorem rAO2_text (C : Ct) (L : AtLoop) (n0 : Nat) (n1 : Nat) (c2 : Nat) (x3 : Int) (x4 : Int) (x5 : Int) (x6 : Int) (n7 : Nat) (c8 : Nat) (n9 : Nat) (c10 : Nat) (n11 : Nat) (c12 : Nat) (l13 : List Go.Value) (l14 : List Go.Value) (l15 : List Go.Value) (l16 : List Go.Value) (l17 : List Go.Value) (B : Bx) (X : Xx) (k : List D → Prop) : rAO2 C L n0 n1 c2 x3 x4 x5 x6 n7 c8 n9 c10 n11 c12 l13 l14 l15 l16 l17 B X k =
 (bcase (decide (x4 < x3))
 (bcase (decide (0 ≤ x4))
 (bcase (decide (x4 < (↑n1 : Int)))
 (∃ n2 : Int,
 ((At (l14) (0 + Int.toNat x4 * 1) 1 [(vI n2)]) ∧
 (bcase (decide (0 + n7 * 3 ≤ List.length l15))
 (bcase (decide (0 + n9 * 2 ≤ List.length l16))
 (bcase (decide (0 + n11 * 2 ≤ List.length l17))
 (∃ n3 : Int,
 ((Says C 37 [(D.agg [(D.val (vI x5)), (D.val (vI x6)), (D.sl (n7) 3 (List.take (n7 * 3) (List.drop 0 l15))), (D.sl (n9) 2 (List.take (n9 * 2) (List.drop 0 l16))), (D.sl (n11) 2 (List.take (n11 * 2) (List.drop 0 l17)))]), (D.val (vI x4)), (D.val (vI n2))] [(D.val (vI n3))]) ∧
 (bcase (decide (n0 < n0 + 1))
 (bcase (decide ((2 * (n0 + 1) + 768) * 8 ≤ 281474976710656))
 (bcase (decide (n0 + 1 ≤ 1099511627776))
 (bcase (decide (0 + n0 * 1 ≤ List.length l13))
 (bcase (decide (0 + n0 * 1 = List.length l13))
 (B [(Prod.mk 8 (Pt 1000 0)), (Prod.mk 11 (Sl 1001 (n0 + 1) (n0 + 1))), (Prod.mk 29 (Sl 503 (n1) (c2))), (Prod.mk 30 (vI x3)), (Prod.mk 31 (vI (IntKind.wrap .i64 (x4 + 1))))] [(Prod.mk 1000 (AObj.cells [(vI x5), (vI x6), (Sl 500 (n7) (c8)), (Sl 501 (n9) (c10)), (Sl 502 (n11) (c12))] 81 false 5)), (Prod.mk 1001 (AObj.sym ((List.take (n0 * 1) (List.drop 0 l13)) ++ [(vI n3)]) true 1)), (Prod.mk 503 (AObj.sym (l14) false 1)), (Prod.mk 500 (AObj.sym (l15) false 3)), (Prod.mk 501 (AObj.sym (l16) false 2)), (Prod.mk 502 (AObj.sym (l17) false 2))])
 False)
 False)
 False)
 False)
 False)))
 False)
 False)
 False)))
 False)
 False)
 (X 0 [(Prod.mk 11 (Sl 1000 (n0) (n0)))] [(Prod.mk 1000 (AObj.sym (l13) true 1))])) := by kernel_rfl
def nAO4 (C : Ct) (L : AtLoop) (n0 : Nat) (l1 : List Value) (k : List D → Prop) : Prop := wpNext Tryz.prog (hC C) L 12 0 .normal [(11, (Value.slice (some ⟨1000, 0, none⟩) n0 n0))] [(1000, (AObj.sym l1 true 1))] (dataK k)
theorem nAO4_text (C : Ct) (L : AtLoop) (n0 : Nat) (l1 : List Go.Value) (k : List D → Prop) : nAO4 C L n0 l1 k =
 (((Qv (n0)) ∧
 ((List.length l1) = (n0 * 1))) ∧
 (k [(D.sl (n0) 1 (l1)), (D.val (vI (0 : Int)))])) := by kernel_rfl
def gRS (C : Ct) (L : AtLoop) (n0 : Nat) (c0 : Nat) (l0 : List Value) (n1 : Nat) (c1 : Nat) (l1 : List Value) (k : List D → Prop) : Prop := wpFn Tryz.prog (hC C) L 0 13 #[.agg #[.slice (some ⟨500, 0, none⟩) n0 c0, .slice (some ⟨501, 0, none⟩) n1 c1]] (heapOf [(500, .sym l0 false 2), (501, .sym l1 false 2)]) (dataK k)
theorem gRS_text (C : Ct) (L : AtLoop) (n0 : Nat) (c0 : Nat) (l0 : List Go.Value) (n1 : Nat) (c1 : Nat) (l1 : List Go.Value) (k : List D → Prop) : gRS C L n0 c0 l0 n1 c1 l1 k =
 (bcase ((↑n0 : Int) == 0)
 (k [(D.val (vI (0 : Int))), (D.val (vI (10 : Int)))])
 (bcase ((↑n1 : Int) != (↑n0 : Int))
 (k [(D.val (vI (0 : Int))), (D.val (vI (10 : Int)))])
 (bcase (decide ((↑n0 : Int) > 12))
 (k [(D.val (vI (0 : Int))), (D.val (vI (8 : Int)))])
 (L 0 [(Prod.mk 1 (Pt 1000 0)), (Prod.mk 4 (vI (0 : Int)))] [(Prod.mk 1000 (AObj.cells [(Sl 500 (n0) (c0)), (Sl 501 (n1) (c1))] 27 false 1)), (Prod.mk 500 (AObj.sym (l0) false 2)), (Prod.mk 501 (AObj.sym (l1) false 2))])))) := by kernel_rfl
abbrev zRS1 (x0 : Int) (n1 : Nat) (c2 : Nat) (n3 : Nat) (c4 : Nat) (l5 : List Value) (l6 : List Value) : Slots × Blocks := ([(1, (Value.pointer (some ⟨1000, 0, none⟩))), (4, (Value.int .i64 x0))], [(1000, (AObj.cells [(Value.slice (some ⟨500, 0, none⟩) n1 c2), (Value.slice (some ⟨501, 0, none⟩) n3 c4)] 27 false 1)), (500, (AObj.sym l5 false 2)), (501, (AObj.sym l6 false 2))])
def rRS1 (C : Ct) (L : AtLoop) (x0 : Int) (n1 : Nat) (c2 : Nat) (n3 : Nat) (c4 : Nat) (l5 : List Value) (l6 : List Value) (B : Bx) (X : Xx) (k : List D → Prop) : Prop := wpRound Tryz.prog (hC C) L 13 0 [(1, (Value.pointer (some ⟨1000, 0, none⟩))), (4, (Value.int .i64 x0))] [(1000, (AObj.cells [(Value.slice (some ⟨500, 0, none⟩) n1 c2), (Value.slice (some ⟨501, 0, none⟩) n3 c4)] 27 false 1)), (500, (AObj.sym l5 false 2)), (501, (AObj.sym l6 false 2))] B X (dataK k)
theorem rRS1_text (C : Ct) (L : AtLoop) (x0 : Int) (n1 : Nat) (c2 : Nat) (n3 : Nat) (c4 : Nat) (l5 : List Go.Value) (l6 : List Go.Value) (B : Bx) (X : Xx) (k : List D → Prop) : rRS1 C L x0 n1 c2 n3 c4 l5 l6 B X k =
 (bcase (decide (x0 < (↑n1 : Int)))
 (bcase (decide (0 ≤ x0))
 (bcase (decide (x0 < (↑n1 : Int)))
 (∃ n2 : Int,
 (∃ n4 : Int,
 ((At (l5) (0 + Int.toNat x0 * 2) 2 [(vI n2), (vI n4)]) ∧
 (∃ n5 : Int,
 ((Says C 38 [(D.agg [(D.val (vI n2)), (D.val (vI n4))])] [(D.val (vI n5))]) ∧
 (bcase (n5 != 0)
 (k [(D.val (vI x0)), (D.val (vI n5))])
 (bcase (decide (0 ≤ x0))
 (bcase (decide (x0 < (↑n3 : Int)))
 (∃ n6 : Int,
 (∃ n7 : Int,
 ((At (l6) (0 + Int.toNat x0 * 2) 2 [(vI n6), (vI n7)]) ∧
 (∃ n8 : Int,
 ((Says C 38 [(D.agg [(D.val (vI n6)), (D.val (vI n7))])] [(D.val (vI n8))]) ∧
 (bcase (n8 != 0)
 (k [(D.val (vI x0)), (D.val (vI n8))])
 (B [(Prod.mk 1 (Pt 1000 0)), (Prod.mk 4 (vI (IntKind.wrap .i64 (x0 + 1))))] [(Prod.mk 1000 (AObj.cells [(Sl 500 (n1) (c2)), (Sl 501 (n3) (c4))] 27 false 1)), (Prod.mk 500 (AObj.sym (l5) false 2)), (Prod.mk 501 (AObj.sym (l6) false 2))])))))))
 False)
 False)))))))
 False)
 False)
 (X 0 [] [])) := by kernel_rfl
def nRS2 (C : Ct) (L : AtLoop) (k : List D → Prop) : Prop := wpNext Tryz.prog (hC C) L 13 0 .normal [] [] (dataK k)
theorem nRS2_text (C : Ct) (L : AtLoop) (k : List D → Prop) : nRS2 C L k =
 (k [(D.val (vI (0 : Int))), (D.val (vI (0 : Int)))]) := by kernel_rfl
def gRSa (C : Ct) (L : AtLoop) (n1 : Nat) (c1 : Nat) (l1 : List Value) (k : List D → Prop) : Prop := wpFn Tryz.prog (hC C) L 0 13 #[.agg #[.slice none 0 0, .slice (some ⟨500, 0, none⟩) n1 c1]] (heapOf [(500, .sym l1 false 2)]) (dataK k)
theorem gRSa_text (C : Ct) (L : AtLoop) (n1 : Nat) (c1 : Nat) (l1 : List Go.Value) (k : List D → Prop) : gRSa C L n1 c1 l1 k =
 (k [(D.val (vI (0 : Int))), (D.val (vI (10 : Int)))]) := by kernel_rfl
def gRSb (C : Ct) (L : AtLoop) (n0 : Nat) (c0 : Nat) (l0 : List Value) (k : List D → Prop) : Prop := wpFn Tryz.prog (hC C) L 0 13 #[.agg #[.slice (some ⟨500, 0, none⟩) n0 c0, .slice none 0 0]] (heapOf [(500, .sym l0 false 2)]) (dataK k)
theorem gRSb_text (C : Ct) (L : AtLoop) (n0 : Nat) (c0 : Nat) (l0 : List Go.Value) (k : List D → Prop) : gRSb C L n0 c0 l0 k =
 (bcase ((↑n0 : Int) == 0)
 (k [(D.val (vI (0 : Int))), (D.val (vI (10 : Int)))])
 (bcase ((↑0 : Int) != (↑n0 : Int))
 (k [(D.val (vI (0 : Int))), (D.val (vI (10 : Int)))])
 (bcase (decide ((↑n0 : Int) > 12))
 (k [(D.val (vI (0 : Int))), (D.val (vI (8 : Int)))])
 (L 0 [(Prod.mk 1 (Pt 1000 0)), (Prod.mk 4 (vI (0 : Int)))] [(Prod.mk 1000 (AObj.cells [(Sl 500 (n0) (c0)), (Go.Value.slice Option.none 0 0)] 27 false 1)), (Prod.mk 500 (AObj.sym (l0) false 2))])))) := by kernel_rfl
def gRSc (C : Ct) (L : AtLoop) (k : List D → Prop) : Prop := wpFn Tryz.prog (hC C) L 0 13 #[.agg #[.slice none 0 0, .slice none 0 0]] (heapOf []) (dataK k)
theorem gRSc_text (C : Ct) (L : AtLoop) (k : List D → Prop) : gRSc C L k =
 (k [(D.val (vI (0 : Int))), (D.val (vI (10 : Int)))]) := by kernel_rfl
def gSR (C : Ct) (L : AtLoop) (n0 : Nat) (c0 : Nat) (l0 : List Value) (n1 : Nat) (c1 : Nat) (l1 : List Value) (k : List D → Prop) : Prop := wpFn Tryz.prog (hC C) L 0 40 #[.agg #[.slice (some ⟨500, 0, none⟩) n0 c0, .slice (some ⟨501, 0, none⟩) n1 c1]] (heapOf [(500, .sym l0 false 2), (501, .sym l1 false 2)]) (dataK k)
theorem gSR_text (C : Ct) (L : AtLoop) (n0 : Nat) (c0 : Nat) (l0 : List Go.Value) (n1 : Nat) (c1 : Nat) (l1 : List Go.Value) (k : List D → Prop) : gSR C L n0 c0 l0 n1 c1 l1 k =
 (bcase (decide (0 + n0 * 2 ≤ List.length l0))
 (bcase (decide (0 + n1 * 2 ≤ List.length l1))
 (∃ n2 : Int,
 (∃ n3 : Int,
 ((Says C 13 [(D.agg [(D.sl (n0) 2 (List.take (n0 * 2) (List.drop 0 l0))), (D.sl (n1) 2 (List.take (n1 * 2) (List.drop 0 l1)))])] [(D.val (vI n2)), (D.val (vI n3))]) ∧
 (k [(D.val (vI n3))]))))
 False)
 False) := by kernel_rfl
def gSRa (C : Ct) (L : AtLoop) (n1 : Nat) (c1 : Nat) (l1 : List Value) (k : List D → Prop) : Prop := wpFn Tryz.prog (hC C) L 0 40 #[.agg #[.slice none 0 0, .slice (some ⟨500, 0, none⟩) n1 c1]] (heapOf [(500, .sym l1 false 2)]) (dataK k)
theorem gSRa_text (C : Ct) (L : AtLoop) (n1 : Nat) (c1 : Nat) (l1 : List Go.Value) (k : List D → Prop) : gSRa C L n1 c1 l1 k =
 (bcase (decide (0 + n1 * 2 ≤ List.length l1))
 (∃ n2 : Int,
 (∃ n3 : Int,
 ((Says C 13 [(D.agg [D.nil, (D.sl (n1) 2 (List.take (n1 * 2) (List.drop 0 l1)))])] [(D.val (vI n2)), (D.val (vI n3))]) ∧
 (k [(D.val (vI n3))]))))
 False) := by kernel_rfl
def gSRb (C : Ct) (L : AtLoop) (n0 : Nat) (c0 : Nat) (l0 : List Value) (k : List D → Prop) : Prop := wpFn Tryz.prog (hC C) L 0 40 #[.agg #[.slice (some ⟨500, 0, none⟩) n0 c0, .slice none 0 0]] (heapOf [(500, .sym l0 false 2)]) (dataK k)
theorem gSRb_text (C : Ct) (L : AtLoop) (n0 : Nat) (c0 : Nat) (l0 : List Go.Value) (k : List D → Prop) : gSRb C L n0 c0 l0 k =
 (bcase (decide (0 + n0 * 2 ≤ List.length l0))
 (∃ n1 : Int,
 (∃ n2 : Int,
 ((Says C 13 [(D.agg [(D.sl (n0) 2 (List.take (n0 * 2) (List.drop 0 l0))), D.nil])] [(D.val (vI n1)), (D.val (vI n2))]) ∧
 (k [(D.val (vI n2))]))))
 False) := by kernel_rfl
def gSRc (C : Ct) (L : AtLoop) (k : List D → Prop) : Prop := wpFn Tryz.prog (hC C) L 0 40 #[.agg #[.slice none 0 0, .slice none 0 0]] (heapOf []) (dataK k)
theorem gSRc_text (C : Ct) (L : AtLoop) (k : List D → Prop) : gSRc C L k =
 (∃ n1 : Int,
 (∃ n2 : Int,
 ((Says C 13 [(D.agg [D.nil, D.nil])] [(D.val (vI n1)), (D.val (vI n2))]) ∧
 (k [(D.val (vI n2))])))) := by kernel_rfl
def gBE (C : Ct) (L : AtLoop) (x0 : Int) (x1 : Int) (n2 : Nat) (c2 : Nat) (l2 : List Value) (n3 : Nat) (c3 : Nat) (l3 : List Value) (n4 : Nat) (c4 : Nat) (l4 : List Value) (k : List D → Prop) : Prop := wpFn Tryz.prog (hC C) L 0 14 #[.agg #[.int .i64 x0, .int .i64 x1, .slice (some ⟨500, 0, none⟩) n2 c2], .agg #[.slice (some ⟨501, 0, none⟩) n3 c3, .slice (some ⟨502, 0, none⟩) n4 c4]] (heapOf [(500, .sym l2 false 3), (501, .sym l3 false 2), (502, .sym l4 false 2)]) (dataK k)
theorem gBE_text (C : Ct) (L : AtLoop) (x0 : Int) (x1 : Int) (n2 : Nat) (c2 : Nat) (l2 : List Go.Value) (n3 : Nat) (c3 : Nat) (l3 : List Go.Value) (n4 : Nat) (c4 : Nat) (l4 : List Go.Value) (k : List D → Prop) : gBE C L x0 x1 n2 c2 l2 n3 c3 l3 n4 c4 l4 k =
 (bcase (decide (0 + n2 * 3 ≤ List.length l2))
 (∃ n1 : Int,
 ((Says C 39 [(D.agg [(D.val (vI x0)), (D.val (vI x1)), (D.sl (n2) 3 (List.take (n2 * 3) (List.drop 0 l2)))])] [(D.val (vI n1))]) ∧
 (bcase (n1 != 0)
 (k [(D.val (vI n1))])
 (bcase (decide (0 + n3 * 2 ≤ List.length l3))
 (bcase (decide (0 + n4 * 2 ≤ List.length l4))
 (∃ n5 : Int,
 ((Says C 40 [(D.agg [(D.sl (n3) 2 (List.take (n3 * 2) (List.drop 0 l3))), (D.sl (n4) 2 (List.take (n4 * 2) (List.drop 0 l4)))])] [(D.val (vI n5))]) ∧
 (k [(D.val (vI n5))])))
 False)
 False))))
 False) := by kernel_rfl
def gBEa (C : Ct) (L : AtLoop) (x0 : Int) (x1 : Int) (n2 : Nat) (c2 : Nat) (l2 : List Value) (n4 : Nat) (c4 : Nat) (l4 : List Value) (k : List D → Prop) : Prop := wpFn Tryz.prog (hC C) L 0 14 #[.agg #[.int .i64 x0, .int .i64 x1, .slice (some ⟨500, 0, none⟩) n2 c2], .agg #[.slice none 0 0, .slice (some ⟨501, 0, none⟩) n4 c4]] (heapOf [(500, .sym l2 false 3), (501, .sym l4 false 2)]) (dataK k)
theorem gBEa_text (C : Ct) (L : AtLoop) (x0 : Int) (x1 : Int) (n2 : Nat) (c2 : Nat) (l2 : List Go.Value) (n4 : Nat) (c4 : Nat) (l4 : List Go.Value) (k : List D → Prop) : gBEa C L x0 x1 n2 c2 l2 n4 c4 l4 k =
 (bcase (decide (0 + n2 * 3 ≤ List.length l2))
 (∃ n1 : Int,
 ((Says C 39 [(D.agg [(D.val (vI x0)), (D.val (vI x1)), (D.sl (n2) 3 (List.take (n2 * 3) (List.drop 0 l2)))])] [(D.val (vI n1))]) ∧
 (bcase (n1 != 0)
 (k [(D.val (vI n1))])
 (bcase (decide (0 + n4 * 2 ≤ List.length l4))
 (∃ n3 : Int,
 ((Says C 40 [(D.agg [D.nil, (D.sl (n4) 2 (List.take (n4 * 2) (List.drop 0 l4)))])] [(D.val (vI n3))]) ∧
 (k [(D.val (vI n3))])))
 False))))
 False) := by kernel_rfl
def gBEb (C : Ct) (L : AtLoop) (x0 : Int) (x1 : Int) (n2 : Nat) (c2 : Nat) (l2 : List Value) (n3 : Nat) (c3 : Nat) (l3 : List Value) (k : List D → Prop) : Prop := wpFn Tryz.prog (hC C) L 0 14 #[.agg #[.int .i64 x0, .int .i64 x1, .slice (some ⟨500, 0, none⟩) n2 c2], .agg #[.slice (some ⟨501, 0, none⟩) n3 c3, .slice none 0 0]] (heapOf [(500, .sym l2 false 3), (501, .sym l3 false 2)]) (dataK k)
theorem gBEb_text (C : Ct) (L : AtLoop) (x0 : Int) (x1 : Int) (n2 : Nat) (c2 : Nat) (l2 : List Go.Value) (n3 : Nat) (c3 : Nat) (l3 : List Go.Value) (k : List D → Prop) : gBEb C L x0 x1 n2 c2 l2 n3 c3 l3 k =
 (bcase (decide (0 + n2 * 3 ≤ List.length l2))
 (∃ n1 : Int,
 ((Says C 39 [(D.agg [(D.val (vI x0)), (D.val (vI x1)), (D.sl (n2) 3 (List.take (n2 * 3) (List.drop 0 l2)))])] [(D.val (vI n1))]) ∧
 (bcase (n1 != 0)
 (k [(D.val (vI n1))])
 (bcase (decide (0 + n3 * 2 ≤ List.length l3))
 (∃ n4 : Int,
 ((Says C 40 [(D.agg [(D.sl (n3) 2 (List.take (n3 * 2) (List.drop 0 l3))), D.nil])] [(D.val (vI n4))]) ∧
 (k [(D.val (vI n4))])))
 False))))
 False) := by kernel_rfl
def gBEc (C : Ct) (L : AtLoop) (x0 : Int) (x1 : Int) (n2 : Nat) (c2 : Nat) (l2 : List Value) (k : List D → Prop) : Prop := wpFn Tryz.prog (hC C) L 0 14 #[.agg #[.int .i64 x0, .int .i64 x1, .slice (some ⟨500, 0, none⟩) n2 c2], .agg #[.slice none 0 0, .slice none 0 0]] (heapOf [(500, .sym l2 false 3)]) (dataK k)
theorem gBEc_text (C : Ct) (L : AtLoop) (x0 : Int) (x1 : Int) (n2 : Nat) (c2 : Nat) (l2 : List Go.Value) (k : List D → Prop) : gBEc C L x0 x1 n2 c2 l2 k =
 (bcase (decide (0 + n2 * 3 ≤ List.length l2))
 (∃ n1 : Int,
 ((Says C 39 [(D.agg [(D.val (vI x0)), (D.val (vI x1)), (D.sl (n2) 3 (List.take (n2 * 3) (List.drop 0 l2)))])] [(D.val (vI n1))]) ∧
 (bcase (n1 != 0)
 (k [(D.val (vI n1))])
 (∃ n3 : Int,
 ((Says C 40 [(D.agg [D.nil, D.nil])] [(D.val (vI n3))]) ∧
 (k [(D.val (vI n3))]))))))
 False) := by kernel_rfl
def gBe (C : Ct) (L : AtLoop) (x0 : Int) (x1 : Int) (n3 : Nat) (c3 : Nat) (l3 : List Value) (n4 : Nat) (c4 : Nat) (l4 : List Value) (k : List D → Prop) : Prop := wpFn Tryz.prog (hC C) L 0 14 #[.agg #[.int .i64 x0, .int .i64 x1, .slice none 0 0], .agg #[.slice (some ⟨500, 0, none⟩) n3 c3, .slice (some ⟨501, 0, none⟩) n4 c4]] (heapOf [(500, .sym l3 false 2), (501, .sym l4 false 2)]) (dataK k)
theorem gBe_text (C : Ct) (L : AtLoop) (x0 : Int) (x1 : Int) (n3 : Nat) (c3 : Nat) (l3 : List Go.Value) (n4 : Nat) (c4 : Nat) (l4 : List Go.Value) (k : List D → Prop) : gBe C L x0 x1 n3 c3 l3 n4 c4 l4 k =
 (∃ n1 : Int,
 ((Says C 39 [(D.agg [(D.val (vI x0)), (D.val (vI x1)), D.nil])] [(D.val (vI n1))]) ∧
 (bcase (n1 != 0)
 (k [(D.val (vI n1))])
 (bcase (decide (0 + n3 * 2 ≤ List.length l3))
 (bcase (decide (0 + n4 * 2 ≤ List.length l4))
 (∃ n2 : Int,
 ((Says C 40 [(D.agg [(D.sl (n3) 2 (List.take (n3 * 2) (List.drop 0 l3))), (D.sl (n4) 2 (List.take (n4 * 2) (List.drop 0 l4)))])] [(D.val (vI n2))]) ∧
 (k [(D.val (vI n2))])))
 False)
 False)))) := by kernel_rfl
def gBea (C : Ct) (L : AtLoop) (x0 : Int) (x1 : Int) (n4 : Nat) (c4 : Nat) (l4 : List Value) (k : List D → Prop) : Prop := wpFn Tryz.prog (hC C) L 0 14 #[.agg #[.int .i64 x0, .int .i64 x1, .slice none 0 0], .agg #[.slice none 0 0, .slice (some ⟨500, 0, none⟩) n4 c4]] (heapOf [(500, .sym l4 false 2)]) (dataK k)
theorem gBea_text (C : Ct) (L : AtLoop) (x0 : Int) (x1 : Int) (n4 : Nat) (c4 : Nat) (l4 : List Go.Value) (k : List D → Prop) : gBea C L x0 x1 n4 c4 l4 k =
 (∃ n1 : Int,
 ((Says C 39 [(D.agg [(D.val (vI x0)), (D.val (vI x1)), D.nil])] [(D.val (vI n1))]) ∧
 (bcase (n1 != 0)
 (k [(D.val (vI n1))])
 (bcase (decide (0 + n4 * 2 ≤ List.length l4))
 (∃ n2 : Int,
 ((Says C 40 [(D.agg [D.nil, (D.sl (n4) 2 (List.take (n4 * 2) (List.drop 0 l4)))])] [(D.val (vI n2))]) ∧
 (k [(D.val (vI n2))])))
 False)))) := by kernel_rfl
def gBeb (C : Ct) (L : AtLoop) (x0 : Int) (x1 : Int) (n3 : Nat) (c3 : Nat) (l3 : List Value) (k : List D → Prop) : Prop := wpFn Tryz.prog (hC C) L 0 14 #[.agg #[.int .i64 x0, .int .i64 x1, .slice none 0 0], .agg #[.slice (some ⟨500, 0, none⟩) n3 c3, .slice none 0 0]] (heapOf [(500, .sym l3 false 2)]) (dataK k)
theorem gBeb_text (C : Ct) (L : AtLoop) (x0 : Int) (x1 : Int) (n3 : Nat) (c3 : Nat) (l3 : List Go.Value) (k : List D → Prop) : gBeb C L x0 x1 n3 c3 l3 k =
 (∃ n1 : Int,
 ((Says C 39 [(D.agg [(D.val (vI x0)), (D.val (vI x1)), D.nil])] [(D.val (vI n1))]) ∧
 (bcase (n1 != 0)
 (k [(D.val (vI n1))])
 (bcase (decide (0 + n3 * 2 ≤ List.length l3))
 (∃ n2 : Int,
 ((Says C 40 [(D.agg [(D.sl (n3) 2 (List.take (n3 * 2) (List.drop 0 l3))), D.nil])] [(D.val (vI n2))]) ∧
 (k [(D.val (vI n2))])))
 False)))) := by kernel_rfl
def gBec (C : Ct) (L : AtLoop) (x0 : Int) (x1 : Int) (k : List D → Prop) : Prop := wpFn Tryz.prog (hC C) L 0 14 #[.agg #[.int .i64 x0, .int .i64 x1, .slice none 0 0], .agg #[.slice none 0 0, .slice none 0 0]] (heapOf []) (dataK k)
theorem gBec_text (C : Ct) (L : AtLoop) (x0 : Int) (x1 : Int) (k : List D → Prop) : gBec C L x0 x1 k =
 (∃ n1 : Int,
 ((Says C 39 [(D.agg [(D.val (vI x0)), (D.val (vI x1)), D.nil])] [(D.val (vI n1))]) ∧
 (bcase (n1 != 0)
 (k [(D.val (vI n1))])
 (∃ n2 : Int,
 ((Says C 40 [(D.agg [D.nil, D.nil])] [(D.val (vI n2))]) ∧
 (k [(D.val (vI n2))])))))) := by kernel_rfl
def gZE (C : Ct) (L : AtLoop) (x0 : Int) (x1 : Int) (n2 : Nat) (c2 : Nat) (l2 : List Value) (n3 : Nat) (c3 : Nat) (l3 : List Value) (k : List D → Prop) : Prop := wpFn Tryz.prog (hC C) L 0 41 #[.agg #[.int .i64 x0, .int .i64 x1, .slice (some ⟨500, 0, none⟩) n2 c2], .slice (some ⟨501, 0, none⟩) n3 c3] (heapOf [(500, .sym l2 false 3), (501, .sym l3 false 1)]) (dataK k)
theorem gZE_text (C : Ct) (L : AtLoop) (x0 : Int) (x1 : Int) (n2 : Nat) (c2 : Nat) (l2 : List Go.Value) (n3 : Nat) (c3 : Nat) (l3 : List Go.Value) (k : List D → Prop) : gZE C L x0 x1 n2 c2 l2 n3 c3 l3 k =
 (bcase ((↑n3 : Int) == 0)
 (k [(D.val (vI (10 : Int)))])
 (bcase (decide ((↑n3 : Int) > 12))
 (k [(D.val (vI (8 : Int)))])
 (L 0 [(Prod.mk 1 (Sl 501 (n3) (c3))), (Prod.mk 2 (Pt 1000 0)), (Prod.mk 5 (vI (0 : Int)))] [(Prod.mk 501 (AObj.sym (l3) false 1)), (Prod.mk 1000 (AObj.cells [(vI x0), (vI x1), (Sl 500 (n2) (c2))] 24 false 1)), (Prod.mk 500 (AObj.sym (l2) false 3))]))) := by kernel_rfl
abbrev zZE1 (n0 : Nat) (c1 : Nat) (x2 : Int) (l3 : List Value) (x4 : Int) (x5 : Int) (n6 : Nat) (c7 : Nat) (l8 : List Value) : Slots × Blocks := ([(1, (Value.slice (some ⟨501, 0, none⟩) n0 c1)), (2, (Value.pointer (some ⟨1000, 0, none⟩))), (5, (Value.int .i64 x2))], [(501, (AObj.sym l3 false 1)), (1000, (AObj.cells [(Value.int .i64 x4), (Value.int .i64 x5), (Value.slice (some ⟨500, 0, none⟩) n6 c7)] 24 false 1)), (500, (AObj.sym l8 false 3))])
def rZE1 (C : Ct) (L : AtLoop) (n0 : Nat) (c1 : Nat) (x2 : Int) (l3 : List Value) (x4 : Int) (x5 : Int) (n6 : Nat) (c7 : Nat) (l8 : List Value) (B : Bx) (X : Xx) (k : List D → Prop) : Prop := wpRound Tryz.prog (hC C) L 41 0 [(1, (Value.slice (some ⟨501, 0, none⟩) n0 c1)), (2, (Value.pointer (some ⟨1000, 0, none⟩))), (5, (Value.int .i64 x2))] [(501, (AObj.sym l3 false 1)), (1000, (AObj.cells [(Value.int .i64 x4), (Value.int .i64 x5), (Value.slice (some ⟨500, 0, none⟩) n6 c7)] 24 false 1)), (500, (AObj.sym l8 false 3))] B X (dataK k)
theorem rZE1_text (C : Ct) (L : AtLoop) (n0 : Nat) (c1 : Nat) (x2 : Int) (l3 : List Go.Value) (x4 : Int) (x5 : Int) (n6 : Nat) (c7 : Nat) (l8 : List Go.Value) (B : Bx) (X : Xx) (k : List D → Prop) : rZE1 C L n0 c1 x2 l3 x4 x5 n6 c7 l8 B X k =
 (bcase (decide (x2 < (↑n0 : Int)))
 (bcase (decide (0 ≤ x2))
 (bcase (decide (x2 < (↑n0 : Int)))
 (∃ n1 : Int,
 ((At (l3) (0 + Int.toNat x2 * 1) 1 [(vI n1)]) ∧
 (((∃ n2 : Int,
 ((At (l3) (0 + Int.toNat x2 * 1) 1 [(vI n2)]) ∧
 ((vI n2) = (vI n1)))) ∧
 ((bcase (decide (0 ≤ x2))
 (bcase (decide (x2 < (↑n0 : Int)))
 (Qv (Pt 501 (0 + Int.toNat x2 * 1)))
 False)
 False) ∧
 ((Qv (vI x2)) ∧
 ((Qv (Sl 501 (n0) (c1))) ∧
 ((Qv (Go.Value.agg [(vI x4), (vI x5), (Sl 500 (n6) (c7))].toArray)) ∧
 True))))) ∧
 (bcase (decide (0 + n6 * 3 ≤ List.length l8))
 (∃ n2 : Int,
 ((Says C 73 [(D.agg [(D.val (vI x4)), (D.val (vI x5)), (D.sl (n6) 3 (List.take (n6 * 3) (List.drop 0 l8)))]), (D.val (vI n1))] [(D.val (vI n2))]) ∧
 (((bcase (decide (0 ≤ x2))
 (bcase (decide (x2 < (↑n0 : Int)))
 (Qv (Pt 501 (0 + Int.toNat x2 * 1)))
 False)
 False) ∧
 ((Qv (vI x2)) ∧
 ((Qv (Sl 501 (n0) (c1))) ∧
 True))) ∧
 (True ∧
 (bcase (n2 != 0)
 (k [(D.val (vI n2))])
 (bcase (decide (0 ≤ x2))
 (bcase (decide (x2 < (↑n0 : Int)))
 (∃ n3 : Int,
 ((At (l3) (0 + Int.toNat x2 * 1) 1 [(vI n3)]) ∧
 (((Qv (vI x2)) ∧
 ((Qv (Go.Value.agg [(vI x4), (vI x5), (Sl 500 (n6) (c7))].toArray)) ∧
 ((∃ n4 : Int,
 ((At (l3) (0 + Int.toNat x2 * 1) 1 [(vI n4)]) ∧
 ((vI n4) = (vI n3)))) ∧
 ((bcase (decide (0 ≤ x2))
 (bcase (decide (x2 < (↑n0 : Int)))
 (Qv (Pt 501 (0 + Int.toNat x2 * 1)))
 False)
 False) ∧
 ((Qv (vI x2)) ∧
 ((Qv (Sl 501 (n0) (c1))) ∧
 True)))))) ∧
 (bcase (decide (0 + n6 * 3 ≤ List.length l8))
 (∃ n4 : Int,
 ((Says C 74 [(D.agg [(D.val (vI x4)), (D.val (vI x5)), (D.sl (n6) 3 (List.take (n6 * 3) (List.drop 0 l8)))]), (D.val (vI x2))] [(D.val (vI n4))]) ∧
 (bcase (IntKind.wrap .i64 (↑(BitVec.toNat (BitVec.ofInt 64 n3 &&& ~~~BitVec.ofInt 64 n4)) : Int) != 0)
 (((bcase (IntKind.wrap .i64 (↑(BitVec.toNat (BitVec.ofInt 64 n3 &&& ~~~BitVec.ofInt 64 n4)) : Int) != 0)
 (Qv (Value.bool true))
 ((Value.bool false) = (Value.bool true))) ∧
 ((Qv (vI (IntKind.wrap .i64 (↑(BitVec.toNat (BitVec.ofInt 64 n3 &&& ~~~BitVec.ofInt 64 n4)) : Int)))) ∧
 ((∃ n5 : Int,
 ((At (l3) (0 + Int.toNat x2 * 1) 1 [(vI n5)]) ∧
 ((vI n5) = (vI n3)))) ∧
 ((bcase (decide (0 ≤ x2))
 (bcase (decide (x2 < (↑n0 : Int)))
 (Qv (Pt 501 (0 + Int.toNat x2 * 1)))
 False)
 False) ∧
 ((Qv (vI x2)) ∧
 ((Qv (Sl 501 (n0) (c1))) ∧
 True)))))) ∧
 (k [(D.val (vI (24 : Int)))]))
 (((bcase (IntKind.wrap .i64 (↑(BitVec.toNat (BitVec.ofInt 64 n3 &&& ~~~BitVec.ofInt 64 n4)) : Int) != 0)
 ((Value.bool true) = (Value.bool false))
 (Qv (Value.bool false))) ∧
 ((Qv (vI (IntKind.wrap .i64 (↑(BitVec.toNat (BitVec.ofInt 64 n3 &&& ~~~BitVec.ofInt 64 n4)) : Int)))) ∧
 ((∃ n5 : Int,
 ((At (l3) (0 + Int.toNat x2 * 1) 1 [(vI n5)]) ∧
 ((vI n5) = (vI n3)))) ∧
 ((bcase (decide (0 ≤ x2))
 (bcase (decide (x2 < (↑n0 : Int)))
 (Qv (Pt 501 (0 + Int.toNat x2 * 1)))
 False)
 False) ∧
 ((Qv (vI x2)) ∧
 ((Qv (Sl 501 (n0) (c1))) ∧
 True)))))) ∧
 (B [(Prod.mk 1 (Sl 501 (n0) (c1))), (Prod.mk 2 (Pt 1000 0)), (Prod.mk 5 (vI (IntKind.wrap .i64 (x2 + 1))))] [(Prod.mk 501 (AObj.sym (l3) false 1)), (Prod.mk 1000 (AObj.cells [(vI x4), (vI x5), (Sl 500 (n6) (c7))] 24 false 1)), (Prod.mk 500 (AObj.sym (l8) false 3))])))))
 False))))
 False)
 False))))))
 False))))
 False)
 False)
 (X 0 [] [])) := by kernel_rfl
def nZE2 (C : Ct) (L : AtLoop) (k : List D → Prop) : Prop := wpNext Tryz.prog (hC C) L 41 0 .normal [] [] (dataK k)
theorem nZE2_text (C : Ct) (L : AtLoop) (k : List D → Prop) : nZE2 C L k =
 (k [(D.val (vI (0 : Int)))]) := by kernel_rfl
def gZS (C : Ct) (L : AtLoop) (x0 : Int) (x1 : Int) (n2 : Nat) (c2 : Nat) (l2 : List Value) (n3 : Nat) (c3 : Nat) (l3 : List Value) (n4 : Nat) (c4 : Nat) (l4 : List Value) (n5 : Nat) (c5 : Nat) (l5 : List Value) (k : List D → Prop) : Prop := wpFn Tryz.prog (hC C) L 0 15 #[.agg #[.int .i64 x0, .int .i64 x1, .slice (some ⟨500, 0, none⟩) n2 c2], .agg #[.slice (some ⟨501, 0, none⟩) n3 c3, .slice (some ⟨502, 0, none⟩) n4 c4], .slice (some ⟨503, 0, none⟩) n5 c5] (heapOf [(500, .sym l2 false 3), (501, .sym l3 false 2), (502, .sym l4 false 2), (503, .sym l5 false 1)]) (dataK k)
theorem gZS_text (C : Ct) (L : AtLoop) (x0 : Int) (x1 : Int) (n2 : Nat) (c2 : Nat) (l2 : List Go.Value) (n3 : Nat) (c3 : Nat) (l3 : List Go.Value) (n4 : Nat) (c4 : Nat) (l4 : List Go.Value) (n5 : Nat) (c5 : Nat) (l5 : List Go.Value) (k : List D → Prop) : gZS C L x0 x1 n2 c2 l2 n3 c3 l3 n4 c4 l4 n5 c5 l5 k =
 (bcase ((↑n5 : Int) != (↑n3 : Int))
 (k [(D.val (vI (10 : Int)))])
 (bcase (decide (0 + n2 * 3 ≤ List.length l2))
 (bcase (decide (0 + n5 * 1 ≤ List.length l5))
 (∃ n1 : Int,
 ((Says C 41 [(D.agg [(D.val (vI x0)), (D.val (vI x1)), (D.sl (n2) 3 (List.take (n2 * 3) (List.drop 0 l2)))]), (D.sl (n5) 1 (List.take (n5 * 1) (List.drop 0 l5)))] [(D.val (vI n1))]) ∧
 (k [(D.val (vI n1))])))
 False)
 False)) := by kernel_rfl
def gZSn (C : Ct) (L : AtLoop) (x0 : Int) (x1 : Int) (n2 : Nat) (c2 : Nat) (l2 : List Value) (n3 : Nat) (c3 : Nat) (l3 : List Value) (n4 : Nat) (c4 : Nat) (l4 : List Value) (k : List D → Prop) : Prop := wpFn Tryz.prog (hC C) L 0 15 #[.agg #[.int .i64 x0, .int .i64 x1, .slice (some ⟨500, 0, none⟩) n2 c2], .agg #[.slice (some ⟨501, 0, none⟩) n3 c3, .slice (some ⟨502, 0, none⟩) n4 c4], .slice none 0 0] (heapOf [(500, .sym l2 false 3), (501, .sym l3 false 2), (502, .sym l4 false 2)]) (dataK k)
theorem gZSn_text (C : Ct) (L : AtLoop) (x0 : Int) (x1 : Int) (n2 : Nat) (c2 : Nat) (l2 : List Go.Value) (n3 : Nat) (c3 : Nat) (l3 : List Go.Value) (n4 : Nat) (c4 : Nat) (l4 : List Go.Value) (k : List D → Prop) : gZSn C L x0 x1 n2 c2 l2 n3 c3 l3 n4 c4 l4 k =
 (bcase ((↑0 : Int) != (↑n3 : Int))
 (k [(D.val (vI (10 : Int)))])
 (bcase (decide (0 + n2 * 3 ≤ List.length l2))
 (∃ n1 : Int,
 ((Says C 41 [(D.agg [(D.val (vI x0)), (D.val (vI x1)), (D.sl (n2) 3 (List.take (n2 * 3) (List.drop 0 l2)))]), D.nil] [(D.val (vI n1))]) ∧
 (k [(D.val (vI n1))])))
 False)) := by kernel_rfl
def gRX (C : Ct) (L : AtLoop) (x0 : Int) (x1 : Int) (n2 : Nat) (c2 : Nat) (l2 : List Value) (n3 : Nat) (c3 : Nat) (l3 : List Value) (n4 : Nat) (c4 : Nat) (l4 : List Value) (n5 : Nat) (c5 : Nat) (l5 : List Value) (k : List D → Prop) : Prop := wpFn Tryz.prog (hC C) L 0 17 #[.agg #[.int .i64 x0, .int .i64 x1, .slice (some ⟨500, 0, none⟩) n2 c2], .agg #[.slice (some ⟨501, 0, none⟩) n3 c3, .slice (some ⟨502, 0, none⟩) n4 c4], .slice (some ⟨503, 0, none⟩) n5 c5] (heapOf [(500, .sym l2 false 3), (501, .sym l3 false 2), (502, .sym l4 false 2), (503, .sym l5 false 1)]) (dataK k)
theorem gRX_text (C : Ct) (L : AtLoop) (x0 : Int) (x1 : Int) (n2 : Nat) (c2 : Nat) (l2 : List Go.Value) (n3 : Nat) (c3 : Nat) (l3 : List Go.Value) (n4 : Nat) (c4 : Nat) (l4 : List Go.Value) (n5 : Nat) (c5 : Nat) (l5 : List Go.Value) (k : List D → Prop) : gRX C L x0 x1 n2 c2 l2 n3 c3 l3 n4 c4 l4 n5 c5 l5 k =
 (L 0 [(Prod.mk 2 (Sl 503 (n5) (c5))), (Prod.mk 3 (Pt 1000 0)), (Prod.mk 4 (Pt 1001 0)), (Prod.mk 7 (Go.Value.slice Option.none 0 0)), (Prod.mk 8 (vI (0 : Int)))] [(Prod.mk 503 (AObj.sym (l5) false 1)), (Prod.mk 1000 (AObj.cells [(vI x0), (vI x1), (Sl 500 (n2) (c2))] 24 false 1)), (Prod.mk 1001 (AObj.cells [(Sl 501 (n3) (c3)), (Sl 502 (n4) (c4))] 27 false 1)), (Prod.mk 500 (AObj.sym (l2) false 3)), (Prod.mk 501 (AObj.sym (l3) false 2)), (Prod.mk 502 (AObj.sym (l4) false 2))]) := by kernel_rfl
abbrev zRX1 (n0 : Nat) (c1 : Nat) (x2 : Int) (l3 : List Value) (x4 : Int) (x5 : Int) (n6 : Nat) (c7 : Nat) (n8 : Nat) (c9 : Nat) (n10 : Nat) (c11 : Nat) (l12 : List Value) (l13 : List Value) (l14 : List Value) : Slots × Blocks := ([(2, (Value.slice (some ⟨503, 0, none⟩) n0 c1)), (3, (Value.pointer (some ⟨1000, 0, none⟩))), (4, (Value.pointer (some ⟨1001, 0, none⟩))), (7, (Value.slice none 0 0)), (8, (Value.int .i64 x2))], [(503, (AObj.sym l3 false 1)), (1000, (AObj.cells [(Value.int .i64 x4), (Value.int .i64 x5), (Value.slice (some ⟨500, 0, none⟩) n6 c7)] 24 false 1)), (1001, (AObj.cells [(Value.slice (some ⟨501, 0, none⟩) n8 c9), (Value.slice (some ⟨502, 0, none⟩) n10 c11)] 27 false 1)), (500, (AObj.sym l12 false 3)), (501, (AObj.sym l13 false 2)), (502, (AObj.sym l14 false 2))])
def rRX1 (C : Ct) (L : AtLoop) (n0 : Nat) (c1 : Nat) (x2 : Int) (l3 : List Value) (x4 : Int) (x5 : Int) (n6 : Nat) (c7 : Nat) (n8 : Nat) (c9 : Nat) (n10 : Nat) (c11 : Nat) (l12 : List Value) (l13 : List Value) (l14 : List Value) (B : Bx) (X : Xx) (k : List D → Prop) : Prop := wpRound Tryz.prog (hC C) L 17 0 [(2, (Value.slice (some ⟨503, 0, none⟩) n0 c1)), (3, (Value.pointer (some ⟨1000, 0, none⟩))), (4, (Value.pointer (some ⟨1001, 0, none⟩))), (7, (Value.slice none 0 0)), (8, (Value.int .i64 x2))] [(503, (AObj.sym l3 false 1)), (1000, (AObj.cells [(Value.int .i64 x4), (Value.int .i64 x5), (Value.slice (some ⟨500, 0, none⟩) n6 c7)] 24 false 1)), (1001, (AObj.cells [(Value.slice (some ⟨501, 0, none⟩) n8 c9), (Value.slice (some ⟨502, 0, none⟩) n10 c11)] 27 false 1)), (500, (AObj.sym l12 false 3)), (501, (AObj.sym l13 false 2)), (502, (AObj.sym l14 false 2))] B X (dataK k)
theorem rRX1_text (C : Ct) (L : AtLoop) (n0 : Nat) (c1 : Nat) (x2 : Int) (l3 : List Go.Value) (x4 : Int) (x5 : Int) (n6 : Nat) (c7 : Nat) (n8 : Nat) (c9 : Nat) (n10 : Nat) (c11 : Nat) (l12 : List Go.Value) (l13 : List Go.Value) (l14 : List Go.Value) (B : Bx) (X : Xx) (k : List D → Prop) : rRX1 C L n0 c1 x2 l3 x4 x5 n6 c7 n8 c9 n10 c11 l12 l13 l14 B X k =
 (bcase (decide (x2 < (↑n0 : Int)))
 (bcase (decide (0 ≤ x2))
 (bcase (decide (x2 < (↑n0 : Int)))
 (∃ n1 : Int,
 ((At (l3) (0 + Int.toNat x2 * 1) 1 [(vI n1)]) ∧
 (bcase (decide (0 ≤ x2))
 (bcase (decide (x2 < (↑n8 : Int)))
 (∃ n2 : Int,
 (∃ n3 : Int,
 ((At (l13) (0 + Int.toNat x2 * 2) 2 [(vI n2), (vI n3)]) ∧
 (((∃ n4 : Int,
 (∃ n5 : Int,
 ((At (l13) (0 + Int.toNat x2 * 2) 2 [(vI n4), (vI n5)]) ∧
 ((Go.Value.agg [(vI n4), (vI n5)].toArray) = (Go.Value.agg [(vI n2), (vI n3)].toArray))))) ∧
 ((bcase (decide (0 ≤ x2))
 (bcase (decide (x2 < (↑n8 : Int)))
 (Qv (Pt 501 (0 + Int.toNat x2 * 2)))
 False)
 False) ∧
 ((Qv (vI x2)) ∧
 ((Qv (Sl 501 (n8) (c9))) ∧
 ((Qv (Pt 1001 0)) ∧
 ((∃ n4 : Int,
 ((At (l3) (0 + Int.toNat x2 * 1) 1 [(vI n4)]) ∧
 ((vI n4) = (vI n1)))) ∧
 ((bcase (decide (0 ≤ x2))
 (bcase (decide (x2 < (↑n0 : Int)))
 (Qv (Pt 503 (0 + Int.toNat x2 * 1)))
 False)
 False) ∧
 ((Qv (vI x2)) ∧
 ((Qv (Sl 503 (n0) (c1))) ∧
 ((Qv (Go.Value.agg [(vI x4), (vI x5), (Sl 500 (n6) (c7))].toArray)) ∧
 ((Qv (Go.Value.slice Option.none 0 0)) ∧
 True))))))))))) ∧
 (bcase (decide (0 + n6 * 3 ≤ List.length l12))
 (∃ n4 : Int,
 (∃ n5 : Int,
 ((Says C 42 [(D.agg [(D.val (vI x4)), (D.val (vI x5)), (D.sl (n6) 3 (List.take (n6 * 3) (List.drop 0 l12)))]), (D.val (vI n1)), (D.agg [(D.val (vI n2)), (D.val (vI n3))])] [(D.agg [(D.val (vI n4)), (D.val (vI n5))])]) ∧
 ((((Qv (Sl 1002 1 1)) ∧
 (Qv (Option.some (AObj.cells [(vI n4), (vI n5)] 52 false 2)))) ∧
 ((bcase (decide (0 ≤ x2))
 (bcase (decide (x2 < (↑n8 : Int)))
 (Qv (Pt 501 (0 + Int.toNat x2 * 2)))
 False)
 False) ∧
 ((Qv (vI x2)) ∧
 ((Qv (Sl 501 (n8) (c9))) ∧
 ((Qv (Pt 1001 0)) ∧
 ((bcase (decide (0 ≤ x2))
 (bcase (decide (x2 < (↑n0 : Int)))
 (Qv (Pt 503 (0 + Int.toNat x2 * 1)))
 False)
 False) ∧
 ((Qv (vI x2)) ∧
 ((Qv (Sl 503 (n0) (c1))) ∧
 ((Qv (Go.Value.slice Option.none 0 0)) ∧
 True))))))))) ∧
 (((bcase (decide (0 ≤ x2))
 (bcase (decide (x2 < (↑n8 : Int)))
 (Qv (Pt 501 (0 + Int.toNat x2 * 2)))
 False)
 False) ∧
 ((Qv (vI x2)) ∧
 ((Qv (Sl 501 (n8) (c9))) ∧
 ((Qv (Pt 1001 0)) ∧
 ((bcase (decide (0 ≤ x2))
 (bcase (decide (x2 < (↑n0 : Int)))
 (Qv (Pt 503 (0 + Int.toNat x2 * 1)))
 False)
 False) ∧
 ((Qv (vI x2)) ∧
 ((Qv (Sl 503 (n0) (c1))) ∧
 True))))))) ∧
 (True ∧
 (B [(Prod.mk 2 (Sl 503 (n0) (c1))), (Prod.mk 3 (Pt 1000 0)), (Prod.mk 4 (Pt 1001 0)), (Prod.mk 7 (Sl 1002 1 1)), (Prod.mk 8 (vI (IntKind.wrap .i64 (x2 + 1))))] [(Prod.mk 503 (AObj.sym (l3) false 1)), (Prod.mk 1000 (AObj.cells [(vI x4), (vI x5), (Sl 500 (n6) (c7))] 24 false 1)), (Prod.mk 1001 (AObj.cells [(Sl 501 (n8) (c9)), (Sl 502 (n10) (c11))] 27 false 1)), (Prod.mk 1002 (AObj.sym [(vI n4), (vI n5)] true 2)), (Prod.mk 500 (AObj.sym (l12) false 3)), (Prod.mk 501 (AObj.sym (l13) false 2)), (Prod.mk 502 (AObj.sym (l14) false 2))])))))))
 False)))))
 False)
 False)))
 False)
 False)
 (X 0 [(Prod.mk 7 (Go.Value.slice Option.none 0 0))] [])) := by kernel_rfl
abbrev zRX2 (n0 : Nat) (c1 : Nat) (n2 : Nat) (x3 : Int) (l4 : List Value) (x5 : Int) (x6 : Int) (n7 : Nat) (c8 : Nat) (n9 : Nat) (c10 : Nat) (n11 : Nat) (c12 : Nat) (l13 : List Value) (l14 : List Value) (l15 : List Value) (l16 : List Value) : Slots × Blocks := ([(2, (Value.slice (some ⟨503, 0, none⟩) n0 c1)), (3, (Value.pointer (some ⟨1000, 0, none⟩))), (4, (Value.pointer (some ⟨1001, 0, none⟩))), (7, (Value.slice (some ⟨1002, 0, none⟩) n2 n2)), (8, (Value.int .i64 x3))], [(503, (AObj.sym l4 false 1)), (1000, (AObj.cells [(Value.int .i64 x5), (Value.int .i64 x6), (Value.slice (some ⟨500, 0, none⟩) n7 c8)] 24 false 1)), (1001, (AObj.cells [(Value.slice (some ⟨501, 0, none⟩) n9 c10), (Value.slice (some ⟨502, 0, none⟩) n11 c12)] 27 false 1)), (1002, (AObj.sym l13 true 2)), (500, (AObj.sym l14 false 3)), (501, (AObj.sym l15 false 2)), (502, (AObj.sym l16 false 2))])
def rRX2 (C : Ct) (L : AtLoop) (n0 : Nat) (c1 : Nat) (n2 : Nat) (x3 : Int) (l4 : List Value) (x5 : Int) (x6 : Int) (n7 : Nat) (c8 : Nat) (n9 : Nat) (c10 : Nat) (n11 : Nat) (c12 : Nat) (l13 : List Value) (l14 : List Value) (l15 : List Value) (l16 : List Value) (B : Bx) (X : Xx) (k : List D → Prop) : Prop := wpRound Tryz.prog (hC C) L 17 0 [(2, (Value.slice (some ⟨503, 0, none⟩) n0 c1)), (3, (Value.pointer (some ⟨1000, 0, none⟩))), (4, (Value.pointer (some ⟨1001, 0, none⟩))), (7, (Value.slice (some ⟨1002, 0, none⟩) n2 n2)), (8, (Value.int .i64 x3))] [(503, (AObj.sym l4 false 1)), (1000, (AObj.cells [(Value.int .i64 x5), (Value.int .i64 x6), (Value.slice (some ⟨500, 0, none⟩) n7 c8)] 24 false 1)), (1001, (AObj.cells [(Value.slice (some ⟨501, 0, none⟩) n9 c10), (Value.slice (some ⟨502, 0, none⟩) n11 c12)] 27 false 1)), (1002, (AObj.sym l13 true 2)), (500, (AObj.sym l14 false 3)), (501, (AObj.sym l15 false 2)), (502, (AObj.sym l16 false 2))] B X (dataK k)
theorem rRX2_text (C : Ct) (L : AtLoop) (n0 : Nat) (c1 : Nat) (n2 : Nat) (x3 : Int) (l4 : List Go.Value) (x5 : Int) (x6 : Int) (n7 : Nat) (c8 : Nat) (n9 : Nat) (c10 : Nat) (n11 : Nat) (c12 : Nat) (l13 : List Go.Value) (l14 : List Go.Value) (l15 : List Go.Value) (l16 : List Go.Value) (B : Bx) (X : Xx) (k : List D → Prop) : rRX2 C L n0 c1 n2 x3 l4 x5 x6 n7 c8 n9 c10 n11 c12 l13 l14 l15 l16 B X k =
 (bcase (decide (x3 < (↑n0 : Int)))
 (bcase (decide (0 ≤ x3))
 (bcase (decide (x3 < (↑n0 : Int)))
 (∃ n1 : Int,
 ((At (l4) (0 + Int.toNat x3 * 1) 1 [(vI n1)]) ∧
 (bcase (decide (0 ≤ x3))
 (bcase (decide (x3 < (↑n9 : Int)))
 (∃ n3 : Int,
 (∃ n4 : Int,
 ((At (l15) (0 + Int.toNat x3 * 2) 2 [(vI n3), (vI n4)]) ∧
 (((∃ n5 : Int,
 (∃ n6 : Int,
 ((At (l15) (0 + Int.toNat x3 * 2) 2 [(vI n5), (vI n6)]) ∧
 ((Go.Value.agg [(vI n5), (vI n6)].toArray) = (Go.Value.agg [(vI n3), (vI n4)].toArray))))) ∧
 ((bcase (decide (0 ≤ x3))
 (bcase (decide (x3 < (↑n9 : Int)))
 (Qv (Pt 501 (0 + Int.toNat x3 * 2)))
 False)
 False) ∧
 ((Qv (vI x3)) ∧
 ((Qv (Sl 501 (n9) (c10))) ∧
 ((Qv (Pt 1001 0)) ∧
 ((∃ n5 : Int,
 ((At (l4) (0 + Int.toNat x3 * 1) 1 [(vI n5)]) ∧
 ((vI n5) = (vI n1)))) ∧
 ((bcase (decide (0 ≤ x3))
 (bcase (decide (x3 < (↑n0 : Int)))
 (Qv (Pt 503 (0 + Int.toNat x3 * 1)))
 False)
 False) ∧
 ((Qv (vI x3)) ∧
 ((Qv (Sl 503 (n0) (c1))) ∧
 ((Qv (Go.Value.agg [(vI x5), (vI x6), (Sl 500 (n7) (c8))].toArray)) ∧
 ((Qv (Sl 1002 (n2) (n2))) ∧
 True))))))))))) ∧
 (bcase (decide (0 + n7 * 3 ≤ List.length l14))
 (∃ n5 : Int,
 (∃ n6 : Int,
 ((Says C 42 [(D.agg [(D.val (vI x5)), (D.val (vI x6)), (D.sl (n7) 3 (List.take (n7 * 3) (List.drop 0 l14)))]), (D.val (vI n1)), (D.agg [(D.val (vI n3)), (D.val (vI n4))])] [(D.agg [(D.val (vI n5)), (D.val (vI n6))])]) ∧
 ((((Qv (Sl 1003 1 1)) ∧
 (Qv (Option.some (AObj.cells [(vI n5), (vI n6)] 52 false 2)))) ∧
 ((bcase (decide (0 ≤ x3))
 (bcase (decide (x3 < (↑n9 : Int)))
 (Qv (Pt 501 (0 + Int.toNat x3 * 2)))
 False)
 False) ∧
 ((Qv (vI x3)) ∧
 ((Qv (Sl 501 (n9) (c10))) ∧
 ((Qv (Pt 1001 0)) ∧
 ((bcase (decide (0 ≤ x3))
 (bcase (decide (x3 < (↑n0 : Int)))
 (Qv (Pt 503 (0 + Int.toNat x3 * 1)))
 False)
 False) ∧
 ((Qv (vI x3)) ∧
 ((Qv (Sl 503 (n0) (c1))) ∧
 ((Qv (Sl 1002 (n2) (n2))) ∧
 True))))))))) ∧
 (bcase (decide (n2 < n2 + 1))
 (bcase (decide ((2 * (n2 + 1) + 768) * 16 ≤ 281474976710656))
 (bcase (decide (n2 + 1 ≤ 1099511627776))
 (bcase (decide (0 + n2 * 2 ≤ List.length l13))
 (bcase (decide (0 + n2 * 2 = List.length l13))
 (((bcase (decide (0 ≤ x3))
 (bcase (decide (x3 < (↑n9 : Int)))
 (Qv (Pt 501 (0 + Int.toNat x3 * 2)))
 False)
 False) ∧
 ((Qv (vI x3)) ∧
 ((Qv (Sl 501 (n9) (c10))) ∧
 ((Qv (Pt 1001 0)) ∧
 ((bcase (decide (0 ≤ x3))
 (bcase (decide (x3 < (↑n0 : Int)))
 (Qv (Pt 503 (0 + Int.toNat x3 * 1)))
 False)
 False) ∧
 ((Qv (vI x3)) ∧
 ((Qv (Sl 503 (n0) (c1))) ∧
 True))))))) ∧
 (True ∧
 (B [(Prod.mk 2 (Sl 503 (n0) (c1))), (Prod.mk 3 (Pt 1000 0)), (Prod.mk 4 (Pt 1001 0)), (Prod.mk 7 (Sl 1002 (n2 + 1) (n2 + 1))), (Prod.mk 8 (vI (IntKind.wrap .i64 (x3 + 1))))] [(Prod.mk 503 (AObj.sym (l4) false 1)), (Prod.mk 1000 (AObj.cells [(vI x5), (vI x6), (Sl 500 (n7) (c8))] 24 false 1)), (Prod.mk 1001 (AObj.cells [(Sl 501 (n9) (c10)), (Sl 502 (n11) (c12))] 27 false 1)), (Prod.mk 1002 (AObj.sym ((List.take (n2 * 2) (List.drop 0 l13)) ++ [(vI n5), (vI n6)]) true 2)), (Prod.mk 500 (AObj.sym (l14) false 3)), (Prod.mk 501 (AObj.sym (l15) false 2)), (Prod.mk 502 (AObj.sym (l16) false 2))])))
 False)
 False)
 False)
 False)
 False)))))
 False)))))
 False)
 False)))
 False)
 False)
 (X 0 [(Prod.mk 7 (Sl 1000 (n2) (n2)))] [(Prod.mk 1000 (AObj.sym (l13) true 2))])) := by kernel_rfl
def nRX4 (C : Ct) (L : AtLoop) (n0 : Nat) (l1 : List Value) (k : List D → Prop) : Prop := wpNext Tryz.prog (hC C) L 17 0 .normal [(7, (Value.slice (some ⟨1000, 0, none⟩) n0 n0))] [(1000, (AObj.sym l1 true 2))] (dataK k)
theorem nRX4_text (C : Ct) (L : AtLoop) (n0 : Nat) (l1 : List Go.Value) (k : List D → Prop) : nRX4 C L n0 l1 k =
 (((Qv (n0)) ∧
 ((List.length l1) = (n0 * 2))) ∧
 (k [(D.sl (n0) 2 (l1))])) := by kernel_rfl
def gRA (C : Ct) (L : AtLoop) (x0 : Int) (x1 : Int) (n2 : Nat) (c2 : Nat) (l2 : List Value) (n3 : Nat) (c3 : Nat) (l3 : List Value) (n4 : Nat) (c4 : Nat) (l4 : List Value) (n5 : Nat) (c5 : Nat) (l5 : List Value) (k : List D → Prop) : Prop := wpFn Tryz.prog (hC C) L 0 19 #[.agg #[.int .i64 x0, .int .i64 x1, .slice (some ⟨500, 0, none⟩) n2 c2], .agg #[.slice (some ⟨501, 0, none⟩) n3 c3, .slice (some ⟨502, 0, none⟩) n4 c4], .slice (some ⟨503, 0, none⟩) n5 c5] (heapOf [(500, .sym l2 false 3), (501, .sym l3 false 2), (502, .sym l4 false 2), (503, .sym l5 false 1)]) (dataK k)
theorem gRA_text (C : Ct) (L : AtLoop) (x0 : Int) (x1 : Int) (n2 : Nat) (c2 : Nat) (l2 : List Go.Value) (n3 : Nat) (c3 : Nat) (l3 : List Go.Value) (n4 : Nat) (c4 : Nat) (l4 : List Go.Value) (n5 : Nat) (c5 : Nat) (l5 : List Go.Value) (k : List D → Prop) : gRA C L x0 x1 n2 c2 l2 n3 c3 l3 n4 c4 l4 n5 c5 l5 k =
 (bcase (decide (0 + n2 * 3 ≤ List.length l2))
 (bcase (decide (0 + n3 * 2 ≤ List.length l3))
 (bcase (decide (0 + n4 * 2 ≤ List.length l4))
 (bcase (decide (0 + n5 * 1 ≤ List.length l5))
 (((Says C 17 [(D.agg [(D.val (vI x0)), (D.val (vI x1)), (D.sl (n2) 3 (List.take (n2 * 3) (List.drop 0 l2)))]), (D.agg [(D.sl (n3) 2 (List.take (n3 * 2) (List.drop 0 l3))), (D.sl (n4) 2 (List.take (n4 * 2) (List.drop 0 l4)))]), (D.sl (n5) 1 (List.take (n5 * 1) (List.drop 0 l5)))] [D.nil]) ∧
 (L 0 [(Prod.mk 4 (Pt 1000 0)), (Prod.mk 7 (Go.Value.slice Option.none 0 0)), (Prod.mk 8 (Go.Value.slice Option.none 0 0)), (Prod.mk 9 (vI (0 : Int)))] [(Prod.mk 1000 (AObj.cells [(Sl 501 (n3) (c3)), (Sl 502 (n4) (c4))] 27 false 1)), (Prod.mk 501 (AObj.sym (l3) false 2)), (Prod.mk 502 (AObj.sym (l4) false 2))])) ∨
 (∃ n1 : Nat,
 (∃ cs1 : List Go.Value,
 ((Says C 17 [(D.agg [(D.val (vI x0)), (D.val (vI x1)), (D.sl (n2) 3 (List.take (n2 * 3) (List.drop 0 l2)))]), (D.agg [(D.sl (n3) 2 (List.take (n3 * 2) (List.drop 0 l3))), (D.sl (n4) 2 (List.take (n4 * 2) (List.drop 0 l4)))]), (D.sl (n5) 1 (List.take (n5 * 1) (List.drop 0 l5)))] [(D.sl (n1) 2 (cs1))]) ∧
 (L 0 [(Prod.mk 4 (Pt 1000 0)), (Prod.mk 7 (Sl 1001 (n1) (n1))), (Prod.mk 8 (Go.Value.slice Option.none 0 0)), (Prod.mk 9 (vI (0 : Int)))] [(Prod.mk 1000 (AObj.cells [(Sl 501 (n3) (c3)), (Sl 502 (n4) (c4))] 27 false 1)), (Prod.mk 1001 (AObj.sym (cs1) true 2)), (Prod.mk 501 (AObj.sym (l3) false 2)), (Prod.mk 502 (AObj.sym (l4) false 2))])))))
 False)
 False)
 False)
 False) := by kernel_rfl
abbrev zRA2 (n0 : Nat) (x1 : Int) (n2 : Nat) (c3 : Nat) (n4 : Nat) (c5 : Nat) (l6 : List Value) (l7 : List Value) (l8 : List Value) : Slots × Blocks := ([(4, (Value.pointer (some ⟨1000, 0, none⟩))), (7, (Value.slice (some ⟨1001, 0, none⟩) n0 n0)), (8, (Value.slice none 0 0)), (9, (Value.int .i64 x1))], [(1000, (AObj.cells [(Value.slice (some ⟨501, 0, none⟩) n2 c3), (Value.slice (some ⟨502, 0, none⟩) n4 c5)] 27 false 1)), (1001, (AObj.sym l6 true 2)), (501, (AObj.sym l7 false 2)), (502, (AObj.sym l8 false 2))])
def rRA2 (C : Ct) (L : AtLoop) (n0 : Nat) (x1 : Int) (n2 : Nat) (c3 : Nat) (n4 : Nat) (c5 : Nat) (l6 : List Value) (l7 : List Value) (l8 : List Value) (B : Bx) (X : Xx) (k : List D → Prop) : Prop := wpRound Tryz.prog (hC C) L 19 0 [(4, (Value.pointer (some ⟨1000, 0, none⟩))), (7, (Value.slice (some ⟨1001, 0, none⟩) n0 n0)), (8, (Value.slice none 0 0)), (9, (Value.int .i64 x1))] [(1000, (AObj.cells [(Value.slice (some ⟨501, 0, none⟩) n2 c3), (Value.slice (some ⟨502, 0, none⟩) n4 c5)] 27 false 1)), (1001, (AObj.sym l6 true 2)), (501, (AObj.sym l7 false 2)), (502, (AObj.sym l8 false 2))] B X (dataK k)
theorem rRA2_text (C : Ct) (L : AtLoop) (n0 : Nat) (x1 : Int) (n2 : Nat) (c3 : Nat) (n4 : Nat) (c5 : Nat) (l6 : List Go.Value) (l7 : List Go.Value) (l8 : List Go.Value) (B : Bx) (X : Xx) (k : List D → Prop) : rRA2 C L n0 x1 n2 c3 n4 c5 l6 l7 l8 B X k =
 (bcase (decide (x1 < (↑n0 : Int)))
 (bcase (decide (0 ≤ x1))
 (bcase (decide (x1 < (↑n0 : Int)))
 (∃ n1 : Int,
 (∃ n3 : Int,
 ((At (l6) (0 + Int.toNat x1 * 2) 2 [(vI n1), (vI n3)]) ∧
 (bcase (decide (0 ≤ x1))
 (bcase (decide (x1 < (↑n4 : Int)))
 (∃ n5 : Int,
 (∃ n6 : Int,
 ((At (l8) (0 + Int.toNat x1 * 2) 2 [(vI n5), (vI n6)]) ∧
 (((∃ n7 : Int,
 (∃ n8 : Int,
 ((At (l8) (0 + Int.toNat x1 * 2) 2 [(vI n7), (vI n8)]) ∧
 ((Go.Value.agg [(vI n7), (vI n8)].toArray) = (Go.Value.agg [(vI n5), (vI n6)].toArray))))) ∧
 ((bcase (decide (0 ≤ x1))
 (bcase (decide (x1 < (↑n4 : Int)))
 (Qv (Pt 502 (0 + Int.toNat x1 * 2)))
 False)
 False) ∧
 ((Qv (vI x1)) ∧
 ((Qv (Sl 502 (n4) (c5))) ∧
 ((Qv (Pt 1000 1)) ∧
 ((∃ n7 : Int,
 (∃ n8 : Int,
 ((At (l6) (0 + Int.toNat x1 * 2) 2 [(vI n7), (vI n8)]) ∧
 ((Go.Value.agg [(vI n7), (vI n8)].toArray) = (Go.Value.agg [(vI n1), (vI n3)].toArray))))) ∧
 ((bcase (decide (0 ≤ x1))
 (bcase (decide (x1 < (↑n0 : Int)))
 (Qv (Pt 1001 (0 + Int.toNat x1 * 2)))
 False)
 False) ∧
 ((Qv (vI x1)) ∧
 ((Qv (Sl 1001 (n0) (n0))) ∧
 ((Qv (Go.Value.slice Option.none 0 0)) ∧
 True)))))))))) ∧
 (∃ n7 : Int,
 ((Says C 43 [(D.agg [(D.val (vI n1)), (D.val (vI n3))]), (D.agg [(D.val (vI n5)), (D.val (vI n6))])] [(D.val (vI n7))]) ∧
 ((((Qv (Sl 1002 1 1)) ∧
 (Qv (Option.some (AObj.cells [(vI n7)] 3 false 1)))) ∧
 ((bcase (decide (0 ≤ x1))
 (bcase (decide (x1 < (↑n4 : Int)))
 (Qv (Pt 502 (0 + Int.toNat x1 * 2)))
 False)
 False) ∧
 ((Qv (vI x1)) ∧
 ((Qv (Sl 502 (n4) (c5))) ∧
 ((Qv (Pt 1000 1)) ∧
 ((bcase (decide (0 ≤ x1))
 (bcase (decide (x1 < (↑n0 : Int)))
 (Qv (Pt 1001 (0 + Int.toNat x1 * 2)))
 False)
 False) ∧
 ((Qv (vI x1)) ∧
 ((Qv (Sl 1001 (n0) (n0))) ∧
 ((Qv (Go.Value.slice Option.none 0 0)) ∧
 True))))))))) ∧
 (((bcase (decide (0 ≤ x1))
 (bcase (decide (x1 < (↑n4 : Int)))
 (Qv (Pt 502 (0 + Int.toNat x1 * 2)))
 False)
 False) ∧
 ((Qv (vI x1)) ∧
 ((Qv (Sl 502 (n4) (c5))) ∧
 ((Qv (Pt 1000 1)) ∧
 ((bcase (decide (0 ≤ x1))
 (bcase (decide (x1 < (↑n0 : Int)))
 (Qv (Pt 1001 (0 + Int.toNat x1 * 2)))
 False)
 False) ∧
 ((Qv (vI x1)) ∧
 ((Qv (Sl 1001 (n0) (n0))) ∧
 True))))))) ∧
 (True ∧
 (B [(Prod.mk 4 (Pt 1000 0)), (Prod.mk 7 (Sl 1001 (n0) (n0))), (Prod.mk 8 (Sl 1002 1 1)), (Prod.mk 9 (vI (IntKind.wrap .i64 (x1 + 1))))] [(Prod.mk 1000 (AObj.cells [(Sl 501 (n2) (c3)), (Sl 502 (n4) (c5))] 27 false 1)), (Prod.mk 1001 (AObj.sym (l6) true 2)), (Prod.mk 1002 (AObj.sym [(vI n7)] true 1)), (Prod.mk 501 (AObj.sym (l7) false 2)), (Prod.mk 502 (AObj.sym (l8) false 2))]))))))))))
 False)
 False))))
 False)
 False)
 (X 0 [(Prod.mk 8 (Go.Value.slice Option.none 0 0))] [])) := by kernel_rfl
abbrev zRA4 (n0 : Nat) (n1 : Nat) (x2 : Int) (n3 : Nat) (c4 : Nat) (n5 : Nat) (c6 : Nat) (l7 : List Value) (l8 : List Value) (l9 : List Value) (l10 : List Value) : Slots × Blocks := ([(4, (Value.pointer (some ⟨1000, 0, none⟩))), (7, (Value.slice (some ⟨1001, 0, none⟩) n0 n0)), (8, (Value.slice (some ⟨1002, 0, none⟩) n1 n1)), (9, (Value.int .i64 x2))], [(1000, (AObj.cells [(Value.slice (some ⟨501, 0, none⟩) n3 c4), (Value.slice (some ⟨502, 0, none⟩) n5 c6)] 27 false 1)), (1001, (AObj.sym l7 true 2)), (1002, (AObj.sym l8 true 1)), (501, (AObj.sym l9 false 2)), (502, (AObj.sym l10 false 2))])
def rRA4 (C : Ct) (L : AtLoop) (n0 : Nat) (n1 : Nat) (x2 : Int) (n3 : Nat) (c4 : Nat) (n5 : Nat) (c6 : Nat) (l7 : List Value) (l8 : List Value) (l9 : List Value) (l10 : List Value) (B : Bx) (X : Xx) (k : List D → Prop) : Prop := wpRound Tryz.prog (hC C) L 19 0 [(4, (Value.pointer (some ⟨1000, 0, none⟩))), (7, (Value.slice (some ⟨1001, 0, none⟩) n0 n0)), (8, (Value.slice (some ⟨1002, 0, none⟩) n1 n1)), (9, (Value.int .i64 x2))] [(1000, (AObj.cells [(Value.slice (some ⟨501, 0, none⟩) n3 c4), (Value.slice (some ⟨502, 0, none⟩) n5 c6)] 27 false 1)), (1001, (AObj.sym l7 true 2)), (1002, (AObj.sym l8 true 1)), (501, (AObj.sym l9 false 2)), (502, (AObj.sym l10 false 2))] B X (dataK k)
theorem rRA4_text (C : Ct) (L : AtLoop) (n0 : Nat) (n1 : Nat) (x2 : Int) (n3 : Nat) (c4 : Nat) (n5 : Nat) (c6 : Nat) (l7 : List Go.Value) (l8 : List Go.Value) (l9 : List Go.Value) (l10 : List Go.Value) (B : Bx) (X : Xx) (k : List D → Prop) : rRA4 C L n0 n1 x2 n3 c4 n5 c6 l7 l8 l9 l10 B X k =
 (bcase (decide (x2 < (↑n0 : Int)))
 (bcase (decide (0 ≤ x2))
 (bcase (decide (x2 < (↑n0 : Int)))
 (∃ n2 : Int,
 (∃ n4 : Int,
 ((At (l7) (0 + Int.toNat x2 * 2) 2 [(vI n2), (vI n4)]) ∧
 (bcase (decide (0 ≤ x2))
 (bcase (decide (x2 < (↑n5 : Int)))
 (∃ n6 : Int,
 (∃ n7 : Int,
 ((At (l10) (0 + Int.toNat x2 * 2) 2 [(vI n6), (vI n7)]) ∧
 (((∃ n8 : Int,
 (∃ n9 : Int,
 ((At (l10) (0 + Int.toNat x2 * 2) 2 [(vI n8), (vI n9)]) ∧
 ((Go.Value.agg [(vI n8), (vI n9)].toArray) = (Go.Value.agg [(vI n6), (vI n7)].toArray))))) ∧
 ((bcase (decide (0 ≤ x2))
 (bcase (decide (x2 < (↑n5 : Int)))
 (Qv (Pt 502 (0 + Int.toNat x2 * 2)))
 False)
 False) ∧
 ((Qv (vI x2)) ∧
 ((Qv (Sl 502 (n5) (c6))) ∧
 ((Qv (Pt 1000 1)) ∧
 ((∃ n8 : Int,
 (∃ n9 : Int,
 ((At (l7) (0 + Int.toNat x2 * 2) 2 [(vI n8), (vI n9)]) ∧
 ((Go.Value.agg [(vI n8), (vI n9)].toArray) = (Go.Value.agg [(vI n2), (vI n4)].toArray))))) ∧
 ((bcase (decide (0 ≤ x2))
 (bcase (decide (x2 < (↑n0 : Int)))
 (Qv (Pt 1001 (0 + Int.toNat x2 * 2)))
 False)
 False) ∧
 ((Qv (vI x2)) ∧
 ((Qv (Sl 1001 (n0) (n0))) ∧
 ((Qv (Sl 1002 (n1) (n1))) ∧
 True)))))))))) ∧
 (∃ n8 : Int,
 ((Says C 43 [(D.agg [(D.val (vI n2)), (D.val (vI n4))]), (D.agg [(D.val (vI n6)), (D.val (vI n7))])] [(D.val (vI n8))]) ∧
 ((((Qv (Sl 1003 1 1)) ∧
 (Qv (Option.some (AObj.cells [(vI n8)] 3 false 1)))) ∧
 ((bcase (decide (0 ≤ x2))
 (bcase (decide (x2 < (↑n5 : Int)))
 (Qv (Pt 502 (0 + Int.toNat x2 * 2)))
 False)
 False) ∧
 ((Qv (vI x2)) ∧
 ((Qv (Sl 502 (n5) (c6))) ∧
 ((Qv (Pt 1000 1)) ∧
 ((bcase (decide (0 ≤ x2))
 (bcase (decide (x2 < (↑n0 : Int)))
 (Qv (Pt 1001 (0 + Int.toNat x2 * 2)))
 False)
 False) ∧
 ((Qv (vI x2)) ∧
 ((Qv (Sl 1001 (n0) (n0))) ∧
 ((Qv (Sl 1002 (n1) (n1))) ∧
 True))))))))) ∧
 (bcase (decide (n1 < n1 + 1))
 (bcase (decide ((2 * (n1 + 1) + 768) * 8 ≤ 281474976710656))
 (bcase (decide (n1 + 1 ≤ 1099511627776))
 (bcase (decide (0 + n1 * 1 ≤ List.length l8))
 (bcase (decide (0 + n1 * 1 = List.length l8))
 (((bcase (decide (0 ≤ x2))
 (bcase (decide (x2 < (↑n5 : Int)))
 (Qv (Pt 502 (0 + Int.toNat x2 * 2)))
 False)
 False) ∧
 ((Qv (vI x2)) ∧
 ((Qv (Sl 502 (n5) (c6))) ∧
 ((Qv (Pt 1000 1)) ∧
 ((bcase (decide (0 ≤ x2))
 (bcase (decide (x2 < (↑n0 : Int)))
 (Qv (Pt 1001 (0 + Int.toNat x2 * 2)))
 False)
 False) ∧
 ((Qv (vI x2)) ∧
 ((Qv (Sl 1001 (n0) (n0))) ∧
 True))))))) ∧
 (True ∧
 (B [(Prod.mk 4 (Pt 1000 0)), (Prod.mk 7 (Sl 1001 (n0) (n0))), (Prod.mk 8 (Sl 1002 (n1 + 1) (n1 + 1))), (Prod.mk 9 (vI (IntKind.wrap .i64 (x2 + 1))))] [(Prod.mk 1000 (AObj.cells [(Sl 501 (n3) (c4)), (Sl 502 (n5) (c6))] 27 false 1)), (Prod.mk 1001 (AObj.sym (l7) true 2)), (Prod.mk 1002 (AObj.sym ((List.take (n1 * 1) (List.drop 0 l8)) ++ [(vI n8)]) true 1)), (Prod.mk 501 (AObj.sym (l9) false 2)), (Prod.mk 502 (AObj.sym (l10) false 2))])))
 False)
 False)
 False)
 False)
 False))))))))
 False)
 False))))
 False)
 False)
 (X 0 [(Prod.mk 8 (Sl 1000 (n1) (n1)))] [(Prod.mk 1000 (AObj.sym (l8) true 1))])) := by kernel_rfl
def nRA5 (C : Ct) (L : AtLoop) (n0 : Nat) (l1 : List Value) (k : List D → Prop) : Prop := wpNext Tryz.prog (hC C) L 19 0 .normal [(8, (Value.slice (some ⟨1000, 0, none⟩) n0 n0))] [(1000, (AObj.sym l1 true 1))] (dataK k)
theorem nRA5_text (C : Ct) (L : AtLoop) (n0 : Nat) (l1 : List Go.Value) (k : List D → Prop) : nRA5 C L n0 l1 k =
 (((Qv (n0)) ∧
 ((List.length l1) = (n0 * 1))) ∧
 (k [(D.sl (n0) 1 (l1))])) := by kernel_rfl
def gRW (C : Ct) (L : AtLoop) (x0 : Int) (x1 : Int) (x2 : Int) (x3 : Int) (k : List D → Prop) : Prop := wpFn Tryz.prog (hC C) L 0 43 #[.agg #[.int .i64 x0, .int .i64 x1], .agg #[.int .i64 x2, .int .i64 x3]] (heapOf []) (dataK k)
theorem gRW_text (C : Ct) (L : AtLoop) (x0 : Int) (x1 : Int) (x2 : Int) (x3 : Int) (k : List D → Prop) : gRW C L x0 x1 x2 x3 k =
 (bcase (decide (x2 ≤ x0))
 (bcase (decide (x1 ≤ x3))
 (k [(D.val (vI (2 : Int)))])
 (bcase (decide (x0 > x3))
 (k [(D.val (vI (0 : Int)))])
 (bcase (decide (x1 < x2))
 (k [(D.val (vI (0 : Int)))])
 (k [(D.val (vI (1 : Int)))]))))
 (bcase (decide (x0 > x3))
 (k [(D.val (vI (0 : Int)))])
 (bcase (decide (x1 < x2))
 (k [(D.val (vI (0 : Int)))])
 (k [(D.val (vI (1 : Int)))])))) := by kernel_rfl
def gBI (C : Ct) (L : AtLoop) (n0 : Nat) (c0 : Nat) (l0 : List Value) (n1 : Nat) (c1 : Nat) (l1 : List Value) (k : List D → Prop) : Prop := wpFn Tryz.prog (hC C) L 0 18 #[.slice (some ⟨500, 0, none⟩) n0 c0, .slice (some ⟨501, 0, none⟩) n1 c1] (heapOf [(500, .sym l0 false 1), (501, .sym l1 false 1)]) (dataK k)
theorem gBI_text (C : Ct) (L : AtLoop) (n0 : Nat) (c0 : Nat) (l0 : List Go.Value) (n1 : Nat) (c1 : Nat) (l1 : List Go.Value) (k : List D → Prop) : gBI C L n0 c0 l0 n1 c1 l1 k =
 (bcase ((↑n0 : Int) != (↑n1 : Int))
 (k [(D.val (Value.bool false))])
 (L 0 [(Prod.mk 0 (Sl 500 (n0) (c0))), (Prod.mk 1 (Sl 501 (n1) (c1))), (Prod.mk 5 (vI (0 : Int)))] [(Prod.mk 500 (AObj.sym (l0) false 1)), (Prod.mk 501 (AObj.sym (l1) false 1))])) := by kernel_rfl
abbrev zBI1 (n0 : Nat) (c1 : Nat) (n2 : Nat) (c3 : Nat) (x4 : Int) (l5 : List Value) (l6 : List Value) : Slots × Blocks := ([(0, (Value.slice (some ⟨500, 0, none⟩) n0 c1)), (1, (Value.slice (some ⟨501, 0, none⟩) n2 c3)), (5, (Value.int .i64 x4))], [(500, (AObj.sym l5 false 1)), (501, (AObj.sym l6 false 1))])
def rBI1 (C : Ct) (L : AtLoop) (n0 : Nat) (c1 : Nat) (n2 : Nat) (c3 : Nat) (x4 : Int) (l5 : List Value) (l6 : List Value) (B : Bx) (X : Xx) (k : List D → Prop) : Prop := wpRound Tryz.prog (hC C) L 18 0 [(0, (Value.slice (some ⟨500, 0, none⟩) n0 c1)), (1, (Value.slice (some ⟨501, 0, none⟩) n2 c3)), (5, (Value.int .i64 x4))] [(500, (AObj.sym l5 false 1)), (501, (AObj.sym l6 false 1))] B X (dataK k)
theorem rBI1_text (C : Ct) (L : AtLoop) (n0 : Nat) (c1 : Nat) (n2 : Nat) (c3 : Nat) (x4 : Int) (l5 : List Go.Value) (l6 : List Go.Value) (B : Bx) (X : Xx) (k : List D → Prop) : rBI1 C L n0 c1 n2 c3 x4 l5 l6 B X k =
 (bcase (decide (x4 < (↑n0 : Int)))
 (bcase (decide (0 ≤ x4))
 (bcase (decide (x4 < (↑n0 : Int)))
 (∃ n1 : Int,
 ((At (l5) (0 + Int.toNat x4 * 1) 1 [(vI n1)]) ∧
 (bcase (decide (0 ≤ x4))
 (bcase (decide (x4 < (↑n2 : Int)))
 (∃ n3 : Int,
 ((At (l6) (0 + Int.toNat x4 * 1) 1 [(vI n3)]) ∧
 (bcase (n1 != n3)
 (((bcase (n1 != n3)
 (Qv (Value.bool true))
 ((Value.bool false) = (Value.bool true))) ∧
 ((∃ n4 : Int,
 ((At (l6) (0 + Int.toNat x4 * 1) 1 [(vI n4)]) ∧
 ((vI n4) = (vI n3)))) ∧
 ((bcase (decide (0 ≤ x4))
 (bcase (decide (x4 < (↑n2 : Int)))
 (Qv (Pt 501 (0 + Int.toNat x4 * 1)))
 False)
 False) ∧
 ((Qv (vI x4)) ∧
 ((Qv (Sl 501 (n2) (c3))) ∧
 ((∃ n4 : Int,
 ((At (l5) (0 + Int.toNat x4 * 1) 1 [(vI n4)]) ∧
 ((vI n4) = (vI n1)))) ∧
 ((bcase (decide (0 ≤ x4))
 (bcase (decide (x4 < (↑n0 : Int)))
 (Qv (Pt 500 (0 + Int.toNat x4 * 1)))
 False)
 False) ∧
 ((Qv (vI x4)) ∧
 ((Qv (Sl 500 (n0) (c1))) ∧
 True))))))))) ∧
 (k [(D.val (Value.bool false))]))
 (((bcase (n1 != n3)
 ((Value.bool true) = (Value.bool false))
 (Qv (Value.bool false))) ∧
 ((∃ n4 : Int,
 ((At (l6) (0 + Int.toNat x4 * 1) 1 [(vI n4)]) ∧
 ((vI n4) = (vI n3)))) ∧
 ((bcase (decide (0 ≤ x4))
 (bcase (decide (x4 < (↑n2 : Int)))
 (Qv (Pt 501 (0 + Int.toNat x4 * 1)))
 False)
 False) ∧
 ((Qv (vI x4)) ∧
 ((Qv (Sl 501 (n2) (c3))) ∧
 ((∃ n4 : Int,
 ((At (l5) (0 + Int.toNat x4 * 1) 1 [(vI n4)]) ∧
 ((vI n4) = (vI n1)))) ∧
 ((bcase (decide (0 ≤ x4))
 (bcase (decide (x4 < (↑n0 : Int)))
 (Qv (Pt 500 (0 + Int.toNat x4 * 1)))
 False)
 False) ∧
 ((Qv (vI x4)) ∧
 ((Qv (Sl 500 (n0) (c1))) ∧
 True))))))))) ∧
 (B [(Prod.mk 0 (Sl 500 (n0) (c1))), (Prod.mk 1 (Sl 501 (n2) (c3))), (Prod.mk 5 (vI (IntKind.wrap .i64 (x4 + 1))))] [(Prod.mk 500 (AObj.sym (l5) false 1)), (Prod.mk 501 (AObj.sym (l6) false 1))])))))
 False)
 False)))
 False)
 False)
 (X 0 [] [])) := by kernel_rfl
def nBI2 (C : Ct) (L : AtLoop) (k : List D → Prop) : Prop := wpNext Tryz.prog (hC C) L 18 0 .normal [] [] (dataK k)
theorem nBI2_text (C : Ct) (L : AtLoop) (k : List D → Prop) : nBI2 C L k =
 (k [(D.val (Value.bool true))]) := by kernel_rfl
def gBR (C : Ct) (L : AtLoop) (n0 : Nat) (c0 : Nat) (l0 : List Value) (n1 : Nat) (c1 : Nat) (l1 : List Value) (k : List D → Prop) : Prop := wpFn Tryz.prog (hC C) L 0 16 #[.slice (some ⟨500, 0, none⟩) n0 c0, .slice (some ⟨501, 0, none⟩) n1 c1] (heapOf [(500, .sym l0 false 2), (501, .sym l1 false 2)]) (dataK k)
theorem gBR_text (C : Ct) (L : AtLoop) (n0 : Nat) (c0 : Nat) (l0 : List Go.Value) (n1 : Nat) (c1 : Nat) (l1 : List Go.Value) (k : List D → Prop) : gBR C L n0 c0 l0 n1 c1 l1 k =
 (bcase ((↑n0 : Int) != (↑n1 : Int))
 (k [(D.val (Value.bool false))])
 (L 0 [(Prod.mk 0 (Sl 500 (n0) (c0))), (Prod.mk 1 (Sl 501 (n1) (c1))), (Prod.mk 5 (vI (0 : Int)))] [(Prod.mk 500 (AObj.sym (l0) false 2)), (Prod.mk 501 (AObj.sym (l1) false 2))])) := by kernel_rfl
abbrev zBR1 (n0 : Nat) (c1 : Nat) (n2 : Nat) (c3 : Nat) (x4 : Int) (l5 : List Value) (l6 : List Value) : Slots × Blocks := ([(0, (Value.slice (some ⟨500, 0, none⟩) n0 c1)), (1, (Value.slice (some ⟨501, 0, none⟩) n2 c3)), (5, (Value.int .i64 x4))], [(500, (AObj.sym l5 false 2)), (501, (AObj.sym l6 false 2))])
def rBR1 (C : Ct) (L : AtLoop) (n0 : Nat) (c1 : Nat) (n2 : Nat) (c3 : Nat) (x4 : Int) (l5 : List Value) (l6 : List Value) (B : Bx) (X : Xx) (k : List D → Prop) : Prop := wpRound Tryz.prog (hC C) L 16 0 [(0, (Value.slice (some ⟨500, 0, none⟩) n0 c1)), (1, (Value.slice (some ⟨501, 0, none⟩) n2 c3)), (5, (Value.int .i64 x4))] [(500, (AObj.sym l5 false 2)), (501, (AObj.sym l6 false 2))] B X (dataK k)
theorem rBR1_text (C : Ct) (L : AtLoop) (n0 : Nat) (c1 : Nat) (n2 : Nat) (c3 : Nat) (x4 : Int) (l5 : List Go.Value) (l6 : List Go.Value) (B : Bx) (X : Xx) (k : List D → Prop) : rBR1 C L n0 c1 n2 c3 x4 l5 l6 B X k =
 (bcase (decide (x4 < (↑n0 : Int)))
 (bcase (decide (0 ≤ x4))
 (bcase (decide (x4 < (↑n0 : Int)))
 (∃ n1 : Int,
 (∃ n3 : Int,
 ((At (l5) (0 + Int.toNat x4 * 2) 2 [(vI n1), (vI n3)]) ∧
 (bcase (decide (0 ≤ x4))
 (bcase (decide (x4 < (↑n2 : Int)))
 (∃ n4 : Int,
 (∃ n5 : Int,
 ((At (l6) (0 + Int.toNat x4 * 2) 2 [(vI n4), (vI n5)]) ∧
 (bcase (if Bool.true = Bool.true then !(n1 == n4 && (n3 == n5 && Bool.true)) else n1 == n4 && (n3 == n5 && Bool.true))
 (((bcase (if Bool.true = Bool.true then !(n1 == n4 && (n3 == n5 && Bool.true)) else n1 == n4 && (n3 == n5 && Bool.true))
 (Qv (Value.bool true))
 ((Value.bool false) = (Value.bool true))) ∧
 ((∃ n6 : Int,
 (∃ n7 : Int,
 ((At (l6) (0 + Int.toNat x4 * 2) 2 [(vI n6), (vI n7)]) ∧
 ((Go.Value.agg [(vI n6), (vI n7)].toArray) = (Go.Value.agg [(vI n4), (vI n5)].toArray))))) ∧
 ((bcase (decide (0 ≤ x4))
 (bcase (decide (x4 < (↑n2 : Int)))
 (Qv (Pt 501 (0 + Int.toNat x4 * 2)))
 False)
 False) ∧
 ((Qv (vI x4)) ∧
 ((Qv (Sl 501 (n2) (c3))) ∧
 ((∃ n6 : Int,
 (∃ n7 : Int,
 ((At (l5) (0 + Int.toNat x4 * 2) 2 [(vI n6), (vI n7)]) ∧
 ((Go.Value.agg [(vI n6), (vI n7)].toArray) = (Go.Value.agg [(vI n1), (vI n3)].toArray))))) ∧
 ((bcase (decide (0 ≤ x4))
 (bcase (decide (x4 < (↑n0 : Int)))
 (Qv (Pt 500 (0 + Int.toNat x4 * 2)))
 False)
 False) ∧
 ((Qv (vI x4)) ∧
 ((Qv (Sl 500 (n0) (c1))) ∧
 True))))))))) ∧
 (k [(D.val (Value.bool false))]))
 (((bcase (if Bool.true = Bool.true then !(n1 == n4 && (n3 == n5 && Bool.true)) else n1 == n4 && (n3 == n5 && Bool.true))
 ((Value.bool true) = (Value.bool false))
 (Qv (Value.bool false))) ∧
 ((∃ n6 : Int,
 (∃ n7 : Int,
 ((At (l6) (0 + Int.toNat x4 * 2) 2 [(vI n6), (vI n7)]) ∧
 ((Go.Value.agg [(vI n6), (vI n7)].toArray) = (Go.Value.agg [(vI n4), (vI n5)].toArray))))) ∧
 ((bcase (decide (0 ≤ x4))
 (bcase (decide (x4 < (↑n2 : Int)))
 (Qv (Pt 501 (0 + Int.toNat x4 * 2)))
 False)
 False) ∧
 ((Qv (vI x4)) ∧
 ((Qv (Sl 501 (n2) (c3))) ∧
 ((∃ n6 : Int,
 (∃ n7 : Int,
 ((At (l5) (0 + Int.toNat x4 * 2) 2 [(vI n6), (vI n7)]) ∧
 ((Go.Value.agg [(vI n6), (vI n7)].toArray) = (Go.Value.agg [(vI n1), (vI n3)].toArray))))) ∧
 ((bcase (decide (0 ≤ x4))
 (bcase (decide (x4 < (↑n0 : Int)))
 (Qv (Pt 500 (0 + Int.toNat x4 * 2)))
 False)
 False) ∧
 ((Qv (vI x4)) ∧
 ((Qv (Sl 500 (n0) (c1))) ∧
 True))))))))) ∧
 (B [(Prod.mk 0 (Sl 500 (n0) (c1))), (Prod.mk 1 (Sl 501 (n2) (c3))), (Prod.mk 5 (vI (IntKind.wrap .i64 (x4 + 1))))] [(Prod.mk 500 (AObj.sym (l5) false 2)), (Prod.mk 501 (AObj.sym (l6) false 2))]))))))
 False)
 False))))
 False)
 False)
 (X 0 [] [])) := by kernel_rfl
def nBR2 (C : Ct) (L : AtLoop) (k : List D → Prop) : Prop := wpNext Tryz.prog (hC C) L 16 0 .normal [] [] (dataK k)
theorem nBR2_text (C : Ct) (L : AtLoop) (k : List D → Prop) : nBR2 C L k =
 (k [(D.val (Value.bool true))]) := by kernel_rfl
def gCs (C : Ct) (L : AtLoop) (n0 : Nat) (c0 : Nat) (l0 : List Value) (n1 : Nat) (c1 : Nat) (l1 : List Value) (k : List D → Prop) : Prop := wpFn Tryz.prog (hC C) L 0 8 #[.agg #[.slice (some ⟨500, 0, none⟩) n0 c0, .slice (some ⟨501, 0, none⟩) n1 c1]] (heapOf [(500, .sym l0 false 2), (501, .sym l1 false 2)]) (dataK k)
theorem gCs_text (C : Ct) (L : AtLoop) (n0 : Nat) (c0 : Nat) (l0 : List Go.Value) (n1 : Nat) (c1 : Nat) (l1 : List Go.Value) (k : List D → Prop) : gCs C L n0 c0 l0 n1 c1 l1 k =
 (((Qv (Sl 501 (n1) (c1))) ∧
 ((Qv (Pt 1000 1)) ∧
 ((Qv (Sl 500 (n0) (c0))) ∧
 ((Qv (Pt 1000 0)) ∧
 True)))) ∧
 (bcase (decide (0 + n0 * 2 ≤ List.length l0))
 ((Says C 33 [(D.sl (n0) 2 (List.take (n0 * 2) (List.drop 0 l0)))] [(D.sl (n0) 2 (List.take (n0 * 2) (List.drop 0 l0)))]) ∧
 (((Qv (Sl 501 (n1) (c1))) ∧
 ((Qv (Pt 1000 1)) ∧
 ((Qv (Pt 1000 0)) ∧
 True))) ∧
 (bcase (decide (0 + n1 * 2 ≤ List.length l1))
 ((Says C 33 [(D.sl (n1) 2 (List.take (n1 * 2) (List.drop 0 l1)))] [(D.sl (n1) 2 (List.take (n1 * 2) (List.drop 0 l1)))]) ∧
 (((Qv (Go.Value.agg [(Sl 1002 (n0) (n0)), (Sl 1003 (n1) (n1))].toArray)) ∧
 ((Qv (Pt 1000 1)) ∧
 ((Qv (Pt 1000 0)) ∧
 True))) ∧
 (True ∧
 (((Qv (n0)) ∧
 ((List.length (List.take (n0 * 2) (List.drop 0 l0))) = (n0 * 2))) ∧
 (((Qv (n1)) ∧
 ((List.length (List.take (n1 * 2) (List.drop 0 l1))) = (n1 * 2))) ∧
 (k [(D.agg [(D.sl (n0) 2 (List.take (n0 * 2) (List.drop 0 l0))), (D.sl (n1) 2 (List.take (n1 * 2) (List.drop 0 l1)))])]))))))
 False)))
 False)) := by kernel_rfl
def gCsa (C : Ct) (L : AtLoop) (n1 : Nat) (c1 : Nat) (l1 : List Value) (k : List D → Prop) : Prop := wpFn Tryz.prog (hC C) L 0 8 #[.agg #[.slice none 0 0, .slice (some ⟨500, 0, none⟩) n1 c1]] (heapOf [(500, .sym l1 false 2)]) (dataK k)
theorem gCsa_text (C : Ct) (L : AtLoop) (n1 : Nat) (c1 : Nat) (l1 : List Go.Value) (k : List D → Prop) : gCsa C L n1 c1 l1 k =
 (((Qv (Sl 500 (n1) (c1))) ∧
 ((Qv (Pt 1000 1)) ∧
 ((Qv (Go.Value.slice Option.none 0 0)) ∧
 ((Qv (Pt 1000 0)) ∧
 True)))) ∧
 ((Says C 33 [D.nil] [(D.sl 0 2 [])]) ∧
 (((Qv (Sl 500 (n1) (c1))) ∧
 ((Qv (Pt 1000 1)) ∧
 ((Qv (Pt 1000 0)) ∧
 True))) ∧
 (bcase (decide (0 + n1 * 2 ≤ List.length l1))
 ((Says C 33 [(D.sl (n1) 2 (List.take (n1 * 2) (List.drop 0 l1)))] [(D.sl (n1) 2 (List.take (n1 * 2) (List.drop 0 l1)))]) ∧
 (((Qv (Go.Value.agg [(Sl 1002 0 0), (Sl 1003 (n1) (n1))].toArray)) ∧
 ((Qv (Pt 1000 1)) ∧
 ((Qv (Pt 1000 0)) ∧
 True))) ∧
 (True ∧
 (((0 = 0) ∧
 (0 = 0)) ∧
 (((Qv (n1)) ∧
 ((List.length (List.take (n1 * 2) (List.drop 0 l1))) = (n1 * 2))) ∧
 (k [(D.agg [(D.sl 0 2 []), (D.sl (n1) 2 (List.take (n1 * 2) (List.drop 0 l1)))])]))))))
 False)))) := by kernel_rfl
def gCsb (C : Ct) (L : AtLoop) (n0 : Nat) (c0 : Nat) (l0 : List Value) (k : List D → Prop) : Prop := wpFn Tryz.prog (hC C) L 0 8 #[.agg #[.slice (some ⟨500, 0, none⟩) n0 c0, .slice none 0 0]] (heapOf [(500, .sym l0 false 2)]) (dataK k)
theorem gCsb_text (C : Ct) (L : AtLoop) (n0 : Nat) (c0 : Nat) (l0 : List Go.Value) (k : List D → Prop) : gCsb C L n0 c0 l0 k =
 (((Qv (Go.Value.slice Option.none 0 0)) ∧
 ((Qv (Pt 1000 1)) ∧
 ((Qv (Sl 500 (n0) (c0))) ∧
 ((Qv (Pt 1000 0)) ∧
 True)))) ∧
 (bcase (decide (0 + n0 * 2 ≤ List.length l0))
 ((Says C 33 [(D.sl (n0) 2 (List.take (n0 * 2) (List.drop 0 l0)))] [(D.sl (n0) 2 (List.take (n0 * 2) (List.drop 0 l0)))]) ∧
 (((Qv (Go.Value.slice Option.none 0 0)) ∧
 ((Qv (Pt 1000 1)) ∧
 ((Qv (Pt 1000 0)) ∧
 True))) ∧
 ((Says C 33 [D.nil] [(D.sl 0 2 [])]) ∧
 (((Qv (Go.Value.agg [(Sl 1002 (n0) (n0)), (Sl 1003 0 0)].toArray)) ∧
 ((Qv (Pt 1000 1)) ∧
 ((Qv (Pt 1000 0)) ∧
 True))) ∧
 (True ∧
 (((Qv (n0)) ∧
 ((List.length (List.take (n0 * 2) (List.drop 0 l0))) = (n0 * 2))) ∧
 (((0 = 0) ∧
 (0 = 0)) ∧
 (k [(D.agg [(D.sl (n0) 2 (List.take (n0 * 2) (List.drop 0 l0))), (D.sl 0 2 [])])]))))))))
 False)) := by kernel_rfl
def gCsc (C : Ct) (L : AtLoop) (k : List D → Prop) : Prop := wpFn Tryz.prog (hC C) L 0 8 #[.agg #[.slice none 0 0, .slice none 0 0]] (heapOf []) (dataK k)
theorem gCsc_text (C : Ct) (L : AtLoop) (k : List D → Prop) : gCsc C L k =
 (((Qv (Go.Value.slice Option.none 0 0)) ∧
 ((Qv (Pt 1000 1)) ∧
 ((Qv (Go.Value.slice Option.none 0 0)) ∧
 ((Qv (Pt 1000 0)) ∧
 True)))) ∧
 ((Says C 33 [D.nil] [(D.sl 0 2 [])]) ∧
 (((Qv (Go.Value.slice Option.none 0 0)) ∧
 ((Qv (Pt 1000 1)) ∧
 ((Qv (Pt 1000 0)) ∧
 True))) ∧
 ((Says C 33 [D.nil] [(D.sl 0 2 [])]) ∧
 (((Qv (Go.Value.agg [(Sl 1002 0 0), (Sl 1003 0 0)].toArray)) ∧
 ((Qv (Pt 1000 1)) ∧
 ((Qv (Pt 1000 0)) ∧
 True))) ∧
 (True ∧
 (((0 = 0) ∧
 (0 = 0)) ∧
 (((0 = 0) ∧
 (0 = 0)) ∧
 (k [(D.agg [(D.sl 0 2 []), (D.sl 0 2 [])])]))))))))) := by kernel_rfl
end Go.Proofs.G5d

/- Chapter 8: strips and sets, checked, in data. -/
namespace Go.Proofs.G5d
open Go Go.Abs Go.Proofs Go.Proofs.G8
set_option maxRecDepth 100000
/-! ### lists that may be nil -/
inductive SlD : List Pr → D → Prop
  | sl (l : List Pr) : SlD l (.sl l.length 2 (vp l))
  | nil : SlD [] .nil
inductive TbD (w a : Int) : List Tr → D → Prop
  | sl (l : List Tr) : TbD w a l (dT w a l)
  | nil : TbD w a [] (.agg [dI w, dI a, .nil])
inductive InD : List Int → D → Prop
  | sl (l : List Int) : InD l (.sl l.length 1 (vi l))
  | nil : InD [] .nil
abbrev sR (l : List Pr) : D := .sl l.length 2 (vp l)
abbrev sI (l : List Int) : D := .sl l.length 1 (vi l)
/-! ### strips -/
def segE (e t : Pr) : Int := fst0 [degE e.1 e.2, degE t.1 t.2]
def fsL (i : Int) : List Pr → List Pr → Int × Int
  | e :: es, t :: ts => if segE e t = 0 then fsL (i + 1) es ts else (i, segE e t)
  | _, _ => (0, 0)
theorem fsL_at {E T : List Pr} {i : Nat} (h1 : i < E.length) (h2 : i < T.length) (k : Int) : fsL k (E.drop i) (T.drop i) = if segE (pt E i) (pt T i) = 0 then fsL (k + 1) (E.drop (i + 1)) (T.drop (i + 1)) else (k, segE (pt E i) (pt T i)) := by
  rw [List.drop_eq_getElem_cons h1, List.drop_eq_getElem_cons h2, ← pt_at h1, ← pt_at h2]; rfl
def shE (n m : Nat) : Int := fst0 [sameE n [(m : Int)], cntE n 1 12]
theorem shE_ok {n m : Nat} : shE n m = 0 ↔ m = n ∧ 1 ≤ n ∧ n ≤ 12 := by
  unfold shE sameE sameE cntE
  simp only [fst0]
  repeat' split
  all_goals omega
theorem shE_of {n m : Nat} : shE n m = if n = 0 ∨ m ≠ n then 10 else if n > 12 then 8 else 0 := by
  unfold shE sameE sameE cntE
  simp only [fst0]
  repeat' split
  all_goals omega
def skI (E T : List Pr) : Int := if shE E.length T.length = 0 then (fsL 0 E T).1 else 0
def skE (E T : List Pr) : Int := if shE E.length T.length = 0 then (fsL 0 E T).2 else shE E.length T.length
theorem conSK (E T : List Pr) (hE : E.length < 1000000) : C5 7 [.agg [sR E, sR T]] [dI (skI E T), dI (skE E T)] := by
  let inv : Nat × Nat × Nat → Prop := fun x => x.1 ≤ E.length ∧ shE E.length T.length = 0 ∧ fsL 0 E T = fsL x.1 (E.drop x.1) (T.drop x.1)
  let st : Nat × Nat × Nat → Slots × Blocks := fun x => zSK1 E.length x.2.1 E.length x.1 E.length x.2.1 T.length x.2.2 (vp E) (vp T)
  refine con_of (L := fun _ s b => ∃ x, inv x ∧ st x = (s, b)) hokC mixed Tryz.func7 rfl (by show 2 ≤ 400; omega) rfl (ids := [0]) (by kernel_rfl) rfl (fun caps => ?_) (fun id hid => ?_)
  · show gSK _ _ E.length (caps 500) (vp E) T.length (caps 501) (vp T) _
    rw [gSK_text]
    refine ⟨_, ⟨conCS _ [_] (by simp)⟩, _, ⟨conCC _ _ _⟩, _, ⟨conFE [_, _] (by simp)⟩, ?_⟩
    refine bc_bne (fun h => ?_) (fun h => ?_)
    · have h : shE E.length T.length ≠ 0 := h
      show [dI 0, dI (shE E.length T.length)] = _
      rw [skI, skE, if_neg h, if_neg h]
    · exact ⟨(0, caps 500, caps 501), ⟨Nat.zero_le _, h, rfl⟩, rfl⟩
  · obtain rfl := List.mem_singleton.1 hid
    refine ⟨Nat × Nat × Nat, st, inv, fun x => E.length - x.1, ⟨fun s b h => h, by kernel_rfl, ?_⟩⟩
    rintro ⟨i, c1, c2⟩ ⟨hi, hc, hr⟩
    simp only at hi hr
    have hlen := (shE_ok.1 hc).1
    show rSK1 _ _ E.length c1 E.length i E.length c1 T.length c2 (vp E) (vp T) _ _ _
    rw [rSK1_text]
    refine bc_dec (fun h => ?_) (fun h => ?_)
    · have hi1 : i < E.length := by omega
      have hi2 : i < T.length := by omega
      rw [fsL_at hi1 hi2] at hr
      simp only [bc_t h, bc_t (show (i : Int) < (T.length : Int) by omega), bc_t (show (0 : Int) ≤ (i : Int) by omega), Int.toNat_natCast, at2 (at_pt hi1), at2 (at_pt hi2), eq_self, true_and, and_true, wi1 hi1 (show E.length < 1000000000 by omega)]
      refine ⟨_, ⟨conDG2 _ _ _ _⟩, bc_bne (fun h1 => ?_) (fun h1 => ?_)⟩
      · have h1 : segE (pt E i) (pt T i) ≠ 0 := h1
        rw [if_neg h1] at hr
        show [_, _] = [_, _]
        rw [skI, skE, if_pos hc, if_pos hc, hr]; rfl
      · have h1 : segE (pt E i) (pt T i) = 0 := h1
        rw [if_pos h1] at hr
        exact ⟨(i + 1, c1, c2), ⟨hi1, hc, by rw [hr]; rfl⟩, by show E.length - (i + 1) < E.length - i; omega, rfl⟩
    · show (if 0 = 0 then _ else _)
      rw [if_pos rfl]
      show nSK2 _ _ _
      rw [nSK2_text]
      rw [List.drop_eq_nil_of_le (by omega), List.drop_eq_nil_of_le (by omega)] at hr
      show [_, _] = [_, _]
      rw [skI, skE, if_pos hc, if_pos hc, hr]; rfl
theorem conRS (E T : List Pr) (hE : E.length < 1000000) : C5 13 [.agg [sR E, sR T]] [dI (skI E T), dI (skE E T)] := by
  let inv : Nat × Nat × Nat → Prop := fun x => x.1 ≤ E.length ∧ shE E.length T.length = 0 ∧ fsL 0 E T = fsL x.1 (E.drop x.1) (T.drop x.1)
  let st : Nat × Nat × Nat → Slots × Blocks := fun x => zRS1 x.1 E.length x.2.1 T.length x.2.2 (vp E) (vp T)
  refine con_of (L := fun _ s b => ∃ x, inv x ∧ st x = (s, b)) hokC mixed Tryz.func13 rfl (by show 2 ≤ 400; omega) rfl (ids := [0]) (by kernel_rfl) rfl (fun caps => ?_) (fun id hid => ?_)
  · show gRS _ _ E.length (caps 500) (vp E) T.length (caps 501) (vp T) _
    rw [gRS_text]
    have bad : shE E.length T.length ≠ 0 → [dI 0, dI (shE E.length T.length)] = [dI (skI E T), dI (skE E T)] := fun h => by rw [skI, skE, if_neg h, if_neg h]
    refine bc_beq (fun h => ?_) (fun h => bc_bne (fun h2 => ?_) (fun h2 => bc_dec (fun h3 => ?_) (fun h3 => ?_)))
    · have e : shE E.length T.length = 10 := by rw [shE_of, if_pos (.inl (by omega))]
      have := bad (by omega)
      rw [e] at this; exact this
    · have e : shE E.length T.length = 10 := by rw [shE_of, if_pos (.inr (by omega))]
      have := bad (by omega)
      rw [e] at this; exact this
    · have e : shE E.length T.length = 8 := by rw [shE_of, if_neg (by omega), if_pos (by omega)]
      have := bad (by omega)
      rw [e] at this; exact this
    · exact ⟨(0, caps 500, caps 501), ⟨Nat.zero_le _, by rw [shE_of, if_neg (by omega), if_neg (by omega)], rfl⟩, rfl⟩
  · obtain rfl := List.mem_singleton.1 hid
    refine ⟨Nat × Nat × Nat, st, inv, fun x => E.length - x.1, ⟨fun s b h => h, by kernel_rfl, ?_⟩⟩
    rintro ⟨i, c1, c2⟩ ⟨hi, hc, hr⟩
    simp only at hi hr
    have hlen := (shE_ok.1 hc).1
    have hk1 : skI E T = (fsL 0 E T).1 := by rw [skI, if_pos hc]
    have hk2 : skE E T = (fsL 0 E T).2 := by rw [skE, if_pos hc]
    show rRS1 _ _ i E.length c1 T.length c2 (vp E) (vp T) _ _ _
    rw [rRS1_text]
    refine bc_dec (fun h => ?_) (fun h => ?_)
    · have hi1 : i < E.length := by omega
      have hi2 : i < T.length := by omega
      rw [fsL_at hi1 hi2] at hr
      simp only [bc_t h, bc_t (show (i : Int) < (T.length : Int) by omega), bc_t (show (0 : Int) ≤ (i : Int) by omega), Int.toNat_natCast, at2 (at_pt hi1), at2 (at_pt hi2), wi1 hi1 (show E.length < 1000000000 by omega)]
      refine ⟨_, ⟨conDE _ _⟩, bc_bne (fun h1 => ?_) (fun h1 => ⟨_, ⟨conDE _ _⟩, bc_bne (fun h2 => ?_) (fun h2 => ?_)⟩)⟩
      · have e : segE (pt E i) (pt T i) = degE (pt E i).1 (pt E i).2 := by rw [segE, fst0_two, if_neg h1]
        rw [e, if_neg h1] at hr
        show [_, _] = [_, _]
        rw [hk1, hk2, hr]
      · have e : segE (pt E i) (pt T i) = degE (pt T i).1 (pt T i).2 := by rw [segE, fst0_two, if_pos h1]
        rw [e, if_neg h2] at hr
        show [_, _] = [_, _]
        rw [hk1, hk2, hr]
      · have e : segE (pt E i) (pt T i) = 0 := by rw [segE, fst0_two, if_pos h1, h2]
        rw [if_pos e] at hr
        exact ⟨(i + 1, c1, c2), ⟨hi1, hc, by rw [hr]; rfl⟩, by show E.length - (i + 1) < E.length - i; omega, rfl⟩
    · show (if 0 = 0 then _ else _)
      rw [if_pos rfl]
      show nRS2 _ _ _
      rw [nRS2_text]
      rw [List.drop_eq_nil_of_le (by omega), List.drop_eq_nil_of_le (by omega)] at hr
      show [_, _] = [_, _]
      rw [hk1, hk2, hr]; rfl
theorem sk_nil {E T : List Pr} (h : E = [] ∨ T = []) : skI E T = 0 ∧ skE E T = 10 := by
  have e : shE E.length T.length = 10 := by
    rw [shE_of]
    rcases h with rfl | rfl
    · rw [if_pos (.inl rfl)]
    · by_cases h0 : E.length = 0
      · rw [if_pos (.inl h0)]
      · rw [if_pos (.inr (by simp; omega))]
  rw [skI, skE, e]
  exact ⟨rfl, rfl⟩
theorem conRS' {E T : List Pr} {dE dt : D} (hE : SlD E dE) (hT : SlD T dt) (h1 : E.length < 1000000) : C5 13 [.agg [dE, dt]] [dI (skI E T), dI (skE E T)] := by
  cases hE with
  | sl =>
    cases hT with
    | sl => exact conRS E T h1
    | nil =>
      rw [(sk_nil (.inr rfl)).1, (sk_nil (.inr rfl)).2]
      refine con_of (L := fun _ _ _ => False) hokC mixed Tryz.func13 rfl (by show 1 ≤ 400; omega) rfl (ids := [0]) (by kernel_rfl) rfl (fun caps => ?_) (fun id hid => ?_)
      · show gRSb _ _ E.length (caps 500) (vp E) _
        rw [gRSb_text]
        refine bc_beq (fun h => by trivial) (fun h => bc_bne (fun h2 => by trivial) (fun h2 => ?_))
        exact absurd h2.symm h
      · obtain rfl := List.mem_singleton.1 hid
        exact ⟨Nat, fun _ => ([], []), fun _ => False, fun _ => 0, ⟨fun s b h => h.elim, by kernel_rfl, fun j hj => hj.elim⟩⟩
  | nil =>
    cases hT with
    | sl =>
      rw [(sk_nil (.inl rfl)).1, (sk_nil (.inl rfl)).2]
      refine con_of (L := fun _ _ _ => False) hokC mixed Tryz.func13 rfl (by show 1 ≤ 400; omega) rfl (ids := [0]) (by kernel_rfl) rfl (fun caps => ?_) (fun id hid => ?_)
      · show gRSa _ _ T.length (caps 500) (vp T) _
        rw [gRSa_text]
      · obtain rfl := List.mem_singleton.1 hid
        exact ⟨Nat, fun _ => ([], []), fun _ => False, fun _ => 0, ⟨fun s b h => h.elim, by kernel_rfl, fun j hj => hj.elim⟩⟩
    | nil =>
      rw [(sk_nil (.inl rfl)).1, (sk_nil (.inl rfl)).2]
      refine con_of (L := fun _ _ _ => False) hokC mixed Tryz.func13 rfl (by show 0 ≤ 400; omega) rfl (ids := [0]) (by kernel_rfl) rfl (fun caps => ?_) (fun id hid => ?_)
      · show gRSc _ _ _
        rw [gRSc_text]
      · obtain rfl := List.mem_singleton.1 hid
        exact ⟨Nat, fun _ => ([], []), fun _ => False, fun _ => 0, ⟨fun s b h => h.elim, by kernel_rfl, fun j hj => hj.elim⟩⟩
theorem conSR' {E T : List Pr} {dE dt : D} (hE : SlD E dE) (hT : SlD T dt) (h1 : E.length < 1000000) : C5 40 [.agg [dE, dt]] [dI (skE E T)] := by
  have hc := conRS' hE hT h1
  cases hE with
  | sl =>
    cases hT with
    | sl =>
      refine con_flat hokC mixed Tryz.func40 rfl (by show 2 ≤ 400; omega) rfl (by kernel_rfl) (fun caps => ?_)
      show gSR _ _ E.length (caps 500) (vp E) T.length (caps 501) (vp T) _
      rw [gSR_text]
      simp only [bc_t (v2le E), bc_t (v2le T), vp_whole]
      exact ⟨_, _, ⟨hc⟩, rfl⟩
    | nil =>
      refine con_flat hokC mixed Tryz.func40 rfl (by show 1 ≤ 400; omega) rfl (by kernel_rfl) (fun caps => ?_)
      show gSRb _ _ E.length (caps 500) (vp E) _
      rw [gSRb_text]
      simp only [bc_t (v2le E), vp_whole]
      exact ⟨_, _, ⟨hc⟩, rfl⟩
  | nil =>
    cases hT with
    | sl =>
      refine con_flat hokC mixed Tryz.func40 rfl (by show 1 ≤ 400; omega) rfl (by kernel_rfl) (fun caps => ?_)
      show gSRa _ _ T.length (caps 500) (vp T) _
      rw [gSRa_text]
      simp only [bc_t (v2le T), vp_whole]
      exact ⟨_, _, ⟨hc⟩, rfl⟩
    | nil =>
      refine con_flat hokC mixed Tryz.func40 rfl (by show 0 ≤ 400; omega) rfl (by kernel_rfl) (fun caps => ?_)
      show gSRc _ _ _
      rw [gSRc_text]
      exact ⟨_, _, ⟨hc⟩, rfl⟩
def bothE (w a : Int) (l : List Tr) (E T : List Pr) : Int := fst0 [ctE w a l, skE E T]
theorem bothE_of {w a : Int} {l : List Tr} {E T : List Pr} : bothE w a l E T = if ctE w a l = 0 then skE E T else ctE w a l := fst0_two _ _
theorem conTE' {w a : Int} {l : List Tr} {dl : D} (h : TbD w a l dl) (hl : l.length < 1000000) : C5 39 [dl] [dI (ctE w a l)] := by
  cases h with
  | sl => exact conTE w a l (by omega)
  | nil => exact conTEn w a
theorem conBE' {w a : Int} {l : List Tr} {E T : List Pr} {dl dE dt : D} (hl : TbD w a l dl) (hE : SlD E dE) (hT : SlD T dt) (h0 : l.length < 1000000) (h1 : E.length < 1000000) : C5 14 [dl, .agg [dE, dt]] [dI (bothE w a l E T)] := by
  have hc := conSR' hE hT h1
  have ht := conTE' hl h0
  rw [bothE_of]
  cases hl with
  | sl =>
    cases hE with
    | sl =>
      cases hT with
      | sl =>
        refine con_flat hokC mixed Tryz.func14 rfl (by show 3 ≤ 400; omega) rfl (by kernel_rfl) (fun caps => ?_)
        show gBE _ _ w a l.length (caps 500) (trs l) E.length (caps 501) (vp E) T.length (caps 502) (vp T) _
        rw [gBE_text]
        simp only [bc_t (v3le l), bc_t (v2le E), bc_t (v2le T), vp_whole, trs_whole]
        refine ⟨_, ⟨ht⟩, bc_bne (fun h => ?_) (fun h => ?_)⟩
        · rw [if_neg h] <;> trivial
        · rw [if_pos h]; exact ⟨_, ⟨hc⟩, by trivial⟩
      | nil =>
        refine con_flat hokC mixed Tryz.func14 rfl (by show 2 ≤ 400; omega) rfl (by kernel_rfl) (fun caps => ?_)
        show gBEb _ _ w a l.length (caps 500) (trs l) E.length (caps 501) (vp E) _
        rw [gBEb_text]
        simp only [bc_t (v3le l), bc_t (v2le E), vp_whole, trs_whole]
        refine ⟨_, ⟨ht⟩, bc_bne (fun h => ?_) (fun h => ?_)⟩
        · rw [if_neg h] <;> trivial
        · rw [if_pos h]; exact ⟨_, ⟨hc⟩, by trivial⟩
    | nil =>
      cases hT with
      | sl =>
        refine con_flat hokC mixed Tryz.func14 rfl (by show 2 ≤ 400; omega) rfl (by kernel_rfl) (fun caps => ?_)
        show gBEa _ _ w a l.length (caps 500) (trs l) T.length (caps 501) (vp T) _
        rw [gBEa_text]
        simp only [bc_t (v3le l), bc_t (v2le T), vp_whole, trs_whole]
        refine ⟨_, ⟨ht⟩, bc_bne (fun h => ?_) (fun h => ?_)⟩
        · rw [if_neg h] <;> trivial
        · rw [if_pos h]; exact ⟨_, ⟨hc⟩, by trivial⟩
      | nil =>
        refine con_flat hokC mixed Tryz.func14 rfl (by show 1 ≤ 400; omega) rfl (by kernel_rfl) (fun caps => ?_)
        show gBEc _ _ w a l.length (caps 500) (trs l) _
        rw [gBEc_text]
        simp only [bc_t (v3le l), trs_whole]
        refine ⟨_, ⟨ht⟩, bc_bne (fun h => ?_) (fun h => ?_)⟩
        · rw [if_neg h] <;> trivial
        · rw [if_pos h]; exact ⟨_, ⟨hc⟩, by trivial⟩
  | nil =>
    cases hE with
    | sl =>
      cases hT with
      | sl =>
        refine con_flat hokC mixed Tryz.func14 rfl (by show 2 ≤ 400; omega) rfl (by kernel_rfl) (fun caps => ?_)
        show gBe _ _ w a E.length (caps 500) (vp E) T.length (caps 501) (vp T) _
        rw [gBe_text]
        simp only [bc_t (v2le E), bc_t (v2le T), vp_whole]
        refine ⟨_, ⟨ht⟩, bc_bne (fun h => ?_) (fun h => ?_)⟩
        · rw [if_neg h] <;> trivial
        · rw [if_pos h]; exact ⟨_, ⟨hc⟩, by trivial⟩
      | nil =>
        refine con_flat hokC mixed Tryz.func14 rfl (by show 1 ≤ 400; omega) rfl (by kernel_rfl) (fun caps => ?_)
        show gBeb _ _ w a E.length (caps 500) (vp E) _
        rw [gBeb_text]
        simp only [bc_t (v2le E), vp_whole]
        refine ⟨_, ⟨ht⟩, bc_bne (fun h => ?_) (fun h => ?_)⟩
        · rw [if_neg h] <;> trivial
        · rw [if_pos h]; exact ⟨_, ⟨hc⟩, by trivial⟩
    | nil =>
      cases hT with
      | sl =>
        refine con_flat hokC mixed Tryz.func14 rfl (by show 1 ≤ 400; omega) rfl (by kernel_rfl) (fun caps => ?_)
        show gBea _ _ w a T.length (caps 500) (vp T) _
        rw [gBea_text]
        simp only [bc_t (v2le T), vp_whole]
        refine ⟨_, ⟨ht⟩, bc_bne (fun h => ?_) (fun h => ?_)⟩
        · rw [if_neg h] <;> trivial
        · rw [if_pos h]; exact ⟨_, ⟨hc⟩, by trivial⟩
      | nil =>
        refine con_flat hokC mixed Tryz.func14 rfl (by show 0 ≤ 400; omega) rfl (by kernel_rfl) (fun caps => ?_)
        show gBec _ _ w a _
        rw [gBec_text]
        refine ⟨_, ⟨ht⟩, bc_bne (fun h => ?_) (fun h => ?_)⟩
        · rw [if_neg h] <;> trivial
        · rw [if_pos h]; exact ⟨_, ⟨hc⟩, by trivial⟩
theorem conCs' {E T : List Pr} {dE dt : D} (hE : SlD E dE) (hT : SlD T dt) (h1 : E.length ≤ 1000000) (h2 : T.length ≤ 1000000) : C5 8 [.agg [dE, dt]] [.agg [sR E, sR T]] := by
  cases hE with
  | sl =>
    cases hT with
    | sl =>
      refine con_flat hokC mixed Tryz.func8 rfl (by show 2 ≤ 400; omega) rfl (by kernel_rfl) (fun caps => ?_)
      show gCs _ _ E.length (caps 500) (vp E) T.length (caps 501) (vp T) _
      rw [gCs_text]
      simp only [bc_t (show 0 + E.length * 2 ≤ E.length * 2 by omega), bc_t (show 0 + T.length * 2 ≤ T.length * 2 by omega), vp_whole, vp_length, eq_self, true_and, and_true]
      exact ⟨⟨conCR E h1⟩, ⟨conCR T h2⟩⟩
    | nil =>
      refine con_flat hokC mixed Tryz.func8 rfl (by show 1 ≤ 400; omega) rfl (by kernel_rfl) (fun caps => ?_)
      show gCsb _ _ E.length (caps 500) (vp E) _
      rw [gCsb_text]
      simp only [bc_t (show 0 + E.length * 2 ≤ E.length * 2 by omega), vp_whole, vp_length, eq_self, true_and, and_true]
      exact ⟨⟨conCR E h1⟩, ⟨conCRn⟩, by trivial⟩
  | nil =>
    cases hT with
    | sl =>
      refine con_flat hokC mixed Tryz.func8 rfl (by show 1 ≤ 400; omega) rfl (by kernel_rfl) (fun caps => ?_)
      show gCsa _ _ T.length (caps 500) (vp T) _
      rw [gCsa_text]
      simp only [bc_t (show 0 + T.length * 2 ≤ T.length * 2 by omega), vp_whole, vp_length, eq_self, true_and, and_true]
      exact ⟨⟨conCRn⟩, ⟨conCR T h2⟩, by trivial⟩
    | nil =>
      refine con_flat hokC mixed Tryz.func8 rfl (by show 0 ≤ 400; omega) rfl (by kernel_rfl) (fun caps => ?_)
      show gCsc _ _ _
      rw [gCsc_text]
      simp only [eq_self, true_and, and_true]
      exact ⟨⟨conCRn⟩, ⟨conCRn⟩, by trivial⟩
/-! ### sets -/
def anN (s v : Int) : Int := IntKind.wrap .i64 (↑(BitVec.toNat (BitVec.ofInt 64 s &&& ~~~BitVec.ofInt 64 v)) : Int)
def coL (l : List Tr) (i : Nat) : List Int → Int
  | [] => 0
  | s :: r => if setE l.length s ≠ 0 then setE l.length s else if anN s (avl i 0 l) ≠ 0 then 24 else coL l (i + 1) r
theorem coL_at {l : List Tr} {s : List Int} {i : Nat} (h : i < s.length) : coL l i (s.drop i) = if setE l.length (gd s i) ≠ 0 then setE l.length (gd s i) else if anN (gd s i) (avl i 0 l) ≠ 0 then 24 else coL l (i + 1) (s.drop (i + 1)) := by
  rw [drop_gd h, coL]
theorem conCO {w a : Int} {l : List Tr} (h : TV w a l) (s : List Int) (hs : s.length < 1000000) : C5 69 [dT w a l, sI s] [dI (coL l 0 s)] := by
  let inv : Nat × Nat × Nat → Prop := fun x => x.1 ≤ s.length ∧ coL l 0 s = coL l x.1 (s.drop x.1)
  let st : Nat × Nat × Nat → Slots × Blocks := fun x => zCO1 s.length x.2.1 s.length x.1 w a l.length x.2.2 (vi s) (trs l)
  refine con_of (L := fun _ s b => ∃ x, inv x ∧ st x = (s, b)) hokC mixed Tryz.func69 rfl (by show 2 ≤ 400; omega) rfl (ids := [0]) (by kernel_rfl) rfl (fun caps => ?_) (fun id hid => ?_)
  · show gCO _ _ w a l.length (caps 500) (trs l) s.length (caps 501) (vi s) _
    rw [gCO_text]
    exact ⟨(0, caps 501, caps 500), ⟨Nat.zero_le _, rfl⟩, rfl⟩
  · obtain rfl := List.mem_singleton.1 hid
    refine ⟨Nat × Nat × Nat, st, inv, fun x => s.length - x.1, ⟨fun s b h => h, by kernel_rfl, ?_⟩⟩
    rintro ⟨i, c1, c2⟩ ⟨hi, hr⟩
    simp only at hi hr
    show rCO1 _ _ s.length c1 s.length i w a l.length c2 (vi s) (trs l) _ _ _
    rw [rCO1_text]
    refine bc_dec (fun h1 => ?_) (fun h1 => ?_)
    · have hi1 : i < s.length := by omega
      rw [coL_at hi1] at hr
      simp only [bc_t h1, bc_t (show (0 : Int) ≤ (i : Int) by omega), Int.toNat_natCast, at1 (at_gd hi1), bc_t (v3le l), trs_whole, wi1 hi1 (show s.length < 1000000000 by omega)]
      refine ⟨_, ⟨concS w a l h.n0.2 _⟩, bc_bne (fun h2 => ?_) (fun h2 => ⟨_, ⟨conV h i ⟨by omega, by omega⟩⟩, bc_bne (fun h3 => ?_) (fun h3 => ?_)⟩)⟩
      · rw [if_pos h2] at hr
        show [_] = [_]; rw [hr]
      · have h3 : anN (gd s i) (avl i 0 l) ≠ 0 := h3
        rw [if_neg (fun hh => hh h2), if_pos h3] at hr
        show [_] = [_]; rw [hr]
      · have h3 : anN (gd s i) (avl i 0 l) = 0 := h3
        rw [if_neg (fun hh => hh h2), if_neg (fun hh => hh h3)] at hr
        exact ⟨(i + 1, c1, c2), ⟨hi1, hr⟩, by show s.length - (i + 1) < s.length - i; omega, rfl⟩
    · show (if 0 = 0 then _ else _)
      rw [if_pos rfl]
      show nCO2 _ _ _
      rw [nCO2_text]
      rw [List.drop_eq_nil_of_le (by omega)] at hr
      show [_] = [_]; rw [hr]; rfl
def czL : List Int → Int
  | [] => 0
  | s :: r => if setE 0 s ≠ 0 then setE 0 s else if anN s 0 ≠ 0 then 24 else czL r
theorem czL_at {s : List Int} {i : Nat} (h : i < s.length) : czL (s.drop i) = if setE 0 (gd s i) ≠ 0 then setE 0 (gd s i) else if anN (gd s i) 0 ≠ 0 then 24 else czL (s.drop (i + 1)) := by
  rw [drop_gd h, czL]
theorem conCOz (s : List Int) (hs : s.length < 1000000) : C5 69 [.agg [dI 0, dI 0, .nil], sI s] [dI (czL s)] := by
  let inv : Nat × Nat → Prop := fun x => x.1 ≤ s.length ∧ czL s = czL (s.drop x.1)
  let st : Nat × Nat → Slots × Blocks := fun x => zCOz1 s.length x.2 s.length x.1 0 0 (vi s)
  refine con_of (L := fun _ s b => ∃ x, inv x ∧ st x = (s, b)) hokC mixed Tryz.func69 rfl (by show 1 ≤ 400; omega) rfl (ids := [0]) (by kernel_rfl) rfl (fun caps => ?_) (fun id hid => ?_)
  · show gCOz _ _ 0 0 s.length (caps 500) (vi s) _
    rw [gCOz_text]
    exact ⟨(0, caps 500), ⟨Nat.zero_le _, rfl⟩, rfl⟩
  · obtain rfl := List.mem_singleton.1 hid
    refine ⟨Nat × Nat, st, inv, fun x => s.length - x.1, ⟨fun s b h => h, by kernel_rfl, ?_⟩⟩
    rintro ⟨i, c1⟩ ⟨hi, hr⟩
    simp only at hi hr
    show rCOz1 _ _ s.length c1 s.length i 0 0 (vi s) _ _ _
    rw [rCOz1_text]
    refine bc_dec (fun h1 => ?_) (fun h1 => ?_)
    · have hi1 : i < s.length := by omega
      rw [czL_at hi1] at hr
      simp only [bc_t h1, bc_t (show (0 : Int) ≤ (i : Int) by omega), Int.toNat_natCast, at1 (at_gd hi1), wi1 hi1 (show s.length < 1000000000 by omega)]
      refine ⟨_, ⟨concSn 0 0 _⟩, bc_bne (fun h2 => ?_) (fun h2 => ⟨_, ⟨conVn 0 0 i⟩, bc_bne (fun h3 => ?_) (fun h3 => ?_)⟩)⟩
      · rw [if_pos h2] at hr
        show [_] = [_]; rw [hr]
      · have h3 : anN (gd s i) 0 ≠ 0 := h3
        rw [if_neg (fun hh => hh h2), if_pos h3] at hr
        show [_] = [_]; rw [hr]
      · have h3 : anN (gd s i) 0 = 0 := h3
        rw [if_neg (fun hh => hh h2), if_neg (fun hh => hh h3)] at hr
        exact ⟨(i + 1, c1), ⟨hi1, hr⟩, by show s.length - (i + 1) < s.length - i; omega, rfl⟩
    · show (if 0 = 0 then _ else _)
      rw [if_pos rfl]
      show nCOz2 _ _ _
      rw [nCOz2_text]
      rw [List.drop_eq_nil_of_le (by omega)] at hr
      show [_] = [_]; rw [hr]; rfl
theorem conZE {w a : Int} {l : List Tr} (h : TV w a l) (s : List Int) (hs : 1 ≤ s.length ∧ s.length ≤ 12) : C5 41 [dT w a l, sI s] [dI (coL l 0 s)] := by
  let inv : Nat × Nat × Nat → Prop := fun x => x.1 ≤ s.length ∧ coL l 0 s = coL l x.1 (s.drop x.1)
  let st : Nat × Nat × Nat → Slots × Blocks := fun x => zZE1 s.length x.2.1 x.1 (vi s) w a l.length x.2.2 (trs l)
  refine con_of (L := fun _ s b => ∃ x, inv x ∧ st x = (s, b)) hokC mixed Tryz.func41 rfl (by show 2 ≤ 400; omega) rfl (ids := [0]) (by kernel_rfl) rfl (fun caps => ?_) (fun id hid => ?_)
  · show gZE _ _ w a l.length (caps 500) (trs l) s.length (caps 501) (vi s) _
    rw [gZE_text]
    refine bc_beq (fun h1 => by omega) (fun _ => bc_dec (fun h1 => by omega) (fun _ => ?_))
    exact ⟨(0, caps 501, caps 500), ⟨Nat.zero_le _, rfl⟩, rfl⟩
  · obtain rfl := List.mem_singleton.1 hid
    refine ⟨Nat × Nat × Nat, st, inv, fun x => s.length - x.1, ⟨fun s b h => h, by kernel_rfl, ?_⟩⟩
    rintro ⟨i, c1, c2⟩ ⟨hi, hr⟩
    simp only at hi hr
    show rZE1 _ _ s.length c1 i (vi s) w a l.length c2 (trs l) _ _ _
    rw [rZE1_text]
    refine bc_dec (fun h1 => ?_) (fun h1 => ?_)
    · have hi1 : i < s.length := by omega
      rw [coL_at hi1] at hr
      simp only [bc_t h1, bc_t (show (0 : Int) ≤ (i : Int) by omega), Int.toNat_natCast, at1 (at_gd hi1), bc_t (v3le l), trs_whole, wi1 hi1 (show s.length < 1000000000 by omega), eq_self, true_and, and_true]
      refine ⟨_, ⟨conSE w a l h.n0.2 _⟩, bc_bne (fun h2 => ?_) (fun h2 => ⟨_, ⟨conA h i ⟨by omega, by omega⟩⟩, bc_bne (fun h3 => ?_) (fun h3 => ?_)⟩)⟩
      · rw [if_pos h2] at hr
        first | (show [_] = [_]; rw [hr]) | (rw [hr]; trivial)
      · have h4 : anN (gd s i) (avl i 0 l) ≠ 0 := h3
        rw [if_neg (fun hh => hh h2), if_pos h4] at hr
        simp only [bc_n h3, true_and]
        first | (show [_] = [_]; rw [hr]) | (rw [hr]; trivial)
      · have h4 : anN (gd s i) (avl i 0 l) = 0 := h3
        rw [if_neg (fun hh => hh h2), if_neg (fun hh => hh h4)] at hr
        rw [h3]
        exact ⟨by trivial, (i + 1, c1, c2), ⟨hi1, hr⟩, by show s.length - (i + 1) < s.length - i; omega, rfl⟩
    · show (if 0 = 0 then _ else _)
      rw [if_pos rfl]
      show nZE2 _ _ _
      rw [nZE2_text]
      rw [List.drop_eq_nil_of_le (by omega)] at hr
      show [_] = [_]; rw [hr]; rfl
end Go.Proofs.G5d

/- Chapter 8: exit ranges and answers, in data. -/
namespace Go.Proofs.G5d
open Go Go.Abs Go.Proofs Go.Proofs.G8
set_option maxRecDepth 100000
theorem vpr_snoc (f : Nat → Pr) (n : Nat) : List.take (n * 2) (List.drop 0 (vp ((List.range n).map f))) ++ [vI (f n).1, vI (f n).2] = vp ((List.range (n + 1)).map f) := by
  have h := vp_whole ((List.range n).map f)
  rw [List.length_map, List.length_range] at h
  rw [h, List.range_succ, List.map_append]
  have : ∀ a b : List Pr, vp (a ++ b) = vp a ++ vp b := by
    intro a
    induction a with
    | nil => intro b; rfl
    | cons p r ih => intro b; simp only [List.cons_append, vp, ih]
  rw [this]; rfl
theorem vir_snoc (f : Nat → Int) (n : Nat) : List.take (n * 1) (List.drop 0 (vi ((List.range n).map f))) ++ [vI (f n)] = vi ((List.range (n + 1)).map f) := by
  have h := vi_whole ((List.range n).map f)
  rw [List.length_map, List.length_range] at h
  rw [h, List.range_succ, List.map_append]
  simp [vi]
/-! ### what is valid -/
structure PV (w a : Int) (l : List Tr) (E T : List Pr) (s : List Int) : Prop where
  t : TV w a l
  sv : skE E T = 0
  n : s.length = E.length
  co : coL l 0 s = 0
theorem fsL_zero : ∀ {E T : List Pr} {k : Int}, (fsL k E T).2 = 0 → ∀ i, i < E.length → i < T.length → segE (pt E i) (pt T i) = 0
  | [], _, _, _ => fun i h => by simp at h
  | _ :: _, [], _, _ => fun i _ h => by simp at h
  | e :: es, t :: ts, k, h => fun i h1 h2 => by
    rw [fsL] at h
    by_cases h0 : segE e t = 0
    · rw [if_pos h0] at h
      cases i with
      | zero => exact h0
      | succ i => exact fsL_zero h i (by simpa using h1) (by simpa using h2)
    · rw [if_neg h0] at h; exact absurd h h0
theorem sk_len {E T : List Pr} (h : skE E T = 0) : T.length = E.length ∧ 1 ≤ E.length ∧ E.length ≤ 12 := by
  unfold skE at h
  split at h
  · rename_i h1; exact shE_ok.1 h1
  · rename_i h1; exact absurd h h1
theorem sk_deg {E T : List Pr} (h : skE E T = 0) {i : Nat} (hi : i < E.length) : (0 ≤ (pt E i).1 ∧ (pt E i).1 ≤ (pt E i).2 ∧ (pt E i).2 ≤ 12000) := by
  have hl := sk_len h
  unfold skE at h
  split at h
  · have := fsL_zero h i hi (by omega)
    rw [segE, fst0_two] at this
    split at this
    · rename_i h2; exact degE_ok.1 h2
    · rename_i h2; exact absurd this h2
  · rename_i h1; exact absurd h h1
theorem coL_zero : ∀ {l : List Tr} {s : List Int} {k : Nat}, coL l k s = 0 → ∀ i, i < s.length → setE l.length (gd s i) = 0
  | l, [], _, _ => fun i h => by simp at h
  | l, x :: s, k, h => fun i hi => by
    rw [coL] at h
    by_cases h0 : setE l.length x = 0
    · rw [if_neg (fun hh => hh h0)] at h
      cases i with
      | zero => exact h0
      | succ i =>
        by_cases h1 : anN x (avl k 0 l) = 0
        · rw [if_neg (fun hh => hh h1)] at h
          exact coL_zero h i (by simpa using hi)
        · rw [if_pos h1] at h; exact absurd h (by decide)
    · rw [if_pos h0] at h; exact absurd h h0
theorem PV.set {w a : Int} {l : List Tr} {E T : List Pr} {s : List Int} (h : PV w a l E T s) {i : Nat} (hi : i < s.length) : 0 ≤ gd s i ∧ gd s i < 16 :=
  set16 h.t.n0.2 (setE_ok.1 (coL_zero h.co i hi))
def prE (w a : Int) (l : List Tr) (E T : List Pr) (s : List Int) : Int := if ctE w a l ≠ 0 then ctE w a l else if skE E T ≠ 0 then skE E T else if s.length ≠ E.length then 10 else coL l 0 s
theorem prE_ok {w a : Int} {l : List Tr} {E T : List Pr} {s : List Int} : prE w a l E T s = 0 ↔ PV w a l E T s := by
  unfold prE
  constructor
  · intro h
    split at h
    · rename_i h1; exact absurd h h1
    · rename_i h1
      split at h
      · rename_i h2; exact absurd h h2
      · rename_i h2
        split at h
        · exact absurd h (by decide)
        · rename_i h3
          exact ⟨ctE_ok.1 (Decidable.not_not.1 h1), Decidable.not_not.1 h2, Decidable.not_not.1 h3, h⟩
  · intro h
    rw [if_neg (fun hh => hh (ctE_ok.2 h.t)), if_neg (fun hh => hh h.sv), if_neg (fun hh => hh h.n)]
    exact h.co
/-! ### one segment -/
abbrev dX (w a : Int) (l : List Tr) (E T : List Pr) : D := .agg [dI w, dI a, .sl l.length 3 (trs l), sR E, sR T]
def exP (w a : Int) (l : List Tr) (E : List Pr) (s : List Int) (i : Nat) : Pr := (aft w a (gd s i) 0 (his l) (pt E i).1, aft w a (gd s i) 0 (los l) (pt E i).2)
def ansV (e t : Pr) : Int := if t.1 ≤ e.1 ∧ e.2 ≤ t.2 then 2 else if e.1 ≤ t.2 ∧ t.1 ≤ e.2 then 1 else 0
abbrev exL (w a : Int) (l : List Tr) (E : List Pr) (s : List Int) (n : Nat) : List Pr := (List.range n).map (exP w a l E s)
abbrev anL (w a : Int) (l : List Tr) (E T : List Pr) (s : List Int) (n : Nat) : List Int := (List.range n).map fun i => ansV (exP w a l E s i) (pt T i)
theorem conXO {w a : Int} {l : List Tr} {E T : List Pr} {s : List Int} (h : PV w a l E T s) {i : Nat} (hi : i < s.length) : C5 36 [dX w a l E T, dI i, dI (gd s i)] [.agg [dI (exP w a l E s i).1, dI (exP w a l E s i).2]] := by
  have hE : i < E.length := by have := h.n; omega
  have hd := sk_deg h.sv hE
  refine con_flat hokC mixed Tryz.func36 rfl (by show 3 ≤ 400; omega) rfl (by kernel_rfl) (fun caps => ?_)
  show gXO _ _ w a l.length (caps 500) (trs l) E.length (caps 501) (vp E) T.length (caps 502) (vp T) i (gd s i) _
  rw [gXO_text]
  simp only [bc_t (show (0 : Int) ≤ (i : Int) by omega), bc_t (show (i : Int) < (E.length : Int) by omega), Int.toNat_natCast, at2 (at_pt hE), bc_t (v3le l), trs_whole, eq_self, true_and, and_true]
  exact ⟨_, _, ⟨conEx h.t (gd s i) (pt E i).1 (pt E i).2 (by omega) (by omega)⟩, by trivial⟩
theorem conXM (a b c d : Int) : C5 70 [.agg [dI a, dI b], .agg [dI c, dI d]] [.val (.bool (decide (a ≤ d ∧ c ≤ b)))] := by
  refine con_flat hokC mixed Tryz.func70 rfl (by show 0 ≤ 400; omega) rfl (by kernel_rfl) (fun caps => ?_)
  show gXM _ _ a b c d _
  rw [gXM_text]
  refine bc_dec (fun h => bc_dec (fun h2 => ?_) (fun h2 => ?_)) (fun h => ?_)
  · show _ = _; rw [decide_eq_true (show a ≤ d ∧ c ≤ b from ⟨h, h2⟩)]
  · show _ = _; rw [decide_eq_false (fun hh => h2 hh.2)]
  · show _ = _; rw [decide_eq_false (fun hh => h hh.1)]
theorem sayMt {a b c d : Int} (h : a ≤ d ∧ c ≤ b) : Says C5 70 [.agg [dI a, dI b], .agg [dI c, dI d]] [.val (.bool true)] := by
  have := conXM a b c d
  rw [decide_eq_true h] at this
  exact ⟨this⟩
theorem sayMf {a b c d : Int} (h : ¬ (a ≤ d ∧ c ≤ b)) : Says C5 70 [.agg [dI a, dI b], .agg [dI c, dI d]] [.val (.bool false)] := by
  have := conXM a b c d
  rw [decide_eq_false h] at this
  exact ⟨this⟩
theorem conXA {w a : Int} {l : List Tr} {E T : List Pr} {s : List Int} (h : PV w a l E T s) {i : Nat} (hi : i < s.length) : C5 37 [dX w a l E T, dI i, dI (gd s i)] [dI (ansV (exP w a l E s i) (pt T i))] := by
  have hE : i < E.length := by have := h.n; omega
  have hT : i < T.length := by have := (sk_len h.sv).1; omega
  have hx := conXO h hi
  refine con_flat hokC mixed Tryz.func37 rfl (by show 3 ≤ 400; omega) rfl (by kernel_rfl) (fun caps => ?_)
  show gXA _ _ w a l.length (caps 500) (trs l) E.length (caps 501) (vp E) T.length (caps 502) (vp T) i (gd s i) _
  rw [gXA_text]
  simp only [bc_t (show (0 : Int) ≤ (i : Int) by omega), bc_t (show (i : Int) < (T.length : Int) by omega), Int.toNat_natCast, at2 (at_pt hT), bc_t (v3le l), bc_t (v2le E), bc_t (v2le T), trs_whole, vp_whole, eq_self, true_and, and_true]
  refine ⟨_, _, ⟨hx⟩, ?_⟩
  generalize exP w a l E s i = e
  generalize pt T i = t
  have fin : ¬ (t.1 ≤ e.1 ∧ e.2 ≤ t.2) → ((Says C5 70 [.agg [dI e.1, dI e.2], .agg [dI t.1, dI t.2]] [.val (.bool true)] ∧ [dI 1] = [dI (ansV e t)]) ∨ (Says C5 70 [.agg [dI e.1, dI e.2], .agg [dI t.1, dI t.2]] [.val (.bool false)] ∧ [dI 0] = [dI (ansV e t)])) := fun h1 => by
    by_cases h2 : e.1 ≤ t.2 ∧ t.1 ≤ e.2
    · exact .inl ⟨sayMt h2, by rw [ansV, if_neg h1, if_pos h2]⟩
    · exact .inr ⟨sayMf h2, by rw [ansV, if_neg h1, if_neg h2]⟩
  refine bc_dec (fun h1 => bc_dec (fun h2 => ?_) (fun h2 => ?_)) (fun h1 => ?_)
  · rw [ansV, if_pos ⟨h1, h2⟩] <;> trivial
  · exact fin (fun hh => h2 hh.2)
  · exact fin (fun hh => h1 hh.1)
theorem conRW (e t : Pr) : C5 43 [.agg [dI e.1, dI e.2], .agg [dI t.1, dI t.2]] [dI (ansV e t)] := by
  refine con_flat hokC mixed Tryz.func43 rfl (by show 0 ≤ 400; omega) rfl (by kernel_rfl) (fun caps => ?_)
  show gRW _ _ e.1 e.2 t.1 t.2 _
  rw [gRW_text]
  have fin : ¬ (t.1 ≤ e.1 ∧ e.2 ≤ t.2) → bcase (decide (e.1 > t.2)) ([dI 0] = [dI (ansV e t)]) (bcase (decide (e.2 < t.1)) ([dI 0] = [dI (ansV e t)]) ([dI 1] = [dI (ansV e t)])) := fun h1 => by
    refine bc_dec (fun h2 => ?_) (fun h2 => bc_dec (fun h3 => ?_) (fun h3 => ?_))
    · rw [ansV, if_neg h1, if_neg (by omega)]
    · rw [ansV, if_neg h1, if_neg (by omega)]
    · rw [ansV, if_neg h1, if_pos (by omega)]
  refine bc_dec (fun h1 => bc_dec (fun h2 => ?_) (fun h2 => ?_)) (fun h1 => ?_)
  · show _ = _; rw [ansV, if_pos ⟨h1, h2⟩]
  · exact fin (fun hh => h2 hh.2)
  · exact fin (fun hh => h1 hh.1)
theorem conEOx {w a : Int} {l : List Tr} {E T : List Pr} {s : List Int} (hp : prE w a l E T s ≠ 0) (hl : l.length < 1000000) (hE : E.length < 1000000) (hs : s.length < 1000000) : C5 9 [dT w a l, .agg [sR E, sR T], sI s] [.nil, dI (prE w a l E T s)] := by
  refine con_of (L := fun _ _ _ => False) hokC mixed Tryz.func9 rfl (by show 4 ≤ 400; omega) rfl (ids := [0]) (by kernel_rfl) rfl (fun caps => ?_) (fun id hid => ?_)
  · show gEO _ _ w a l.length (caps 500) (trs l) E.length (caps 501) (vp E) T.length (caps 502) (vp T) s.length (caps 503) (vi s) _
    rw [gEO_text]
    simp only [bc_t (v3le l), bc_t (v2le E), bc_t (v2le T), bc_t (v1le s), trs_whole, vp_whole, vi_whole, eq_self, true_and, and_true]
    refine ⟨_, _, ⟨conCT w a l (by omega)⟩, bc_bne (fun h1 => ?_) (fun h1 => ?_)⟩
    · refine ⟨_, _, ⟨conSK E T (by omega)⟩, _, ⟨conFE [_, _] (by simp)⟩, ?_⟩
      rw [show fst0 [ctE w a l, skE E T] = ctE w a l by rw [fst0_two, if_neg h1]]
      refine bc_bne (fun _ => ?_) (fun hh => absurd hh h1)
      refine ⟨_, ⟨conCS 0 [_] (by simp)⟩, _, ⟨conCOz s (by omega)⟩, _, ⟨conFE [_, _] (by simp)⟩, _, ⟨conFE [_, _] (by simp)⟩, ?_⟩
      rw [show ∀ z : Int, fst0 [ctE w a l, z] = ctE w a l from fun z => by rw [fst0_two, if_neg h1]]
      refine bc_bne (fun _ => ?_) (fun hh => absurd hh h1)
      rw [prE, if_pos h1] <;> trivial
    · have ht := ctE_ok.1 h1
      refine ⟨_, _, ⟨conSK E T (by omega)⟩, _, ⟨conFE [_, _] (by simp)⟩, ?_⟩
      rw [show fst0 [0, skE E T] = skE E T by rw [fst0_two, if_pos rfl]]
      refine bc_bne (fun h2 => ?_) (fun h2 => ?_)
      · refine ⟨_, ⟨conCS 0 [_] (by simp)⟩, _, ⟨conCOz s (by omega)⟩, _, ⟨conFE [_, _] (by simp)⟩, _, ⟨conFE [_, _] (by simp)⟩, ?_⟩
        rw [show ∀ z : Int, fst0 [skE E T, z] = skE E T from fun z => by rw [fst0_two, if_neg h2]]
        refine bc_bne (fun _ => ?_) (fun hh => absurd hh h2)
        rw [prE, if_neg (fun hh => hh h1), if_pos h2] <;> trivial
      · refine ⟨_, ⟨conCS (E.length : Int) [(s.length : Int)] (by simp)⟩, _, ⟨conCO ht s (by omega)⟩, _, ⟨conFE [_, _] (by simp)⟩, _, ⟨conFE [_, _] (by simp)⟩, ?_⟩
        have e3 : fst0 [0, fst0 [sameE (E.length : Int) [(s.length : Int)], coL l 0 s]] = if s.length ≠ E.length then 10 else coL l 0 s := by
          rw [fst0_two, if_pos rfl, fst0_two]
          by_cases h4 : s.length = E.length
          · have e5 : sameE (E.length : Int) [(s.length : Int)] = 0 := by
              unfold sameE sameE
              rw [if_neg (by omega)]
            rw [e5, if_pos rfl, if_neg (fun hh => hh h4)]
          · have e5 : sameE (E.length : Int) [(s.length : Int)] = 10 := by
              unfold sameE
              rw [if_pos (by omega)]
            rw [e5, if_neg (show ¬ (10 : Int) = 0 by decide), if_pos h4]
        rw [e3]
        have e4 : prE w a l E T s = if s.length ≠ E.length then 10 else coL l 0 s := by rw [prE, if_neg (fun hh => hh h1), if_neg (fun hh => hh h2)]
        rw [← e4]
        exact bc_bne (fun _ => by trivial) (fun hh => absurd hh hp)
  · obtain rfl := List.mem_singleton.1 hid
    exact ⟨Nat, fun _ => ([], []), fun _ => False, fun _ => 0, ⟨fun s b h => h.elim, by kernel_rfl, fun j hj => hj.elim⟩⟩
theorem conEO {w a : Int} {l : List Tr} {E T : List Pr} {s : List Int} (h : PV w a l E T s) : C5 9 [dT w a l, .agg [sR E, sR T], sI s] [.sl s.length 2 (vp (exL w a l E s s.length)), dI 0] := by
  have hn := h.t.n0
  have hk := sk_len h.sv
  have hns := h.n
  have hp := prE_ok.2 h
  let st : Nat × Nat × Nat × Nat × Nat → Slots × Blocks := fun q => match q.1 with
    | 0 => zEO1 s.length q.2.1 s.length 0 w a l.length q.2.2.1 E.length q.2.2.2.1 T.length q.2.2.2.2 (vi s) (trs l) (vp E) (vp T)
    | i + 1 => zEO2 (i + 1) s.length q.2.1 s.length ((i + 1 : Nat) : Int) w a l.length q.2.2.1 E.length q.2.2.2.1 T.length q.2.2.2.2 (vp (exL w a l E s (i + 1))) (vi s) (trs l) (vp E) (vp T)
  refine con_of (L := fun _ s' b => ∃ q : Nat × Nat × Nat × Nat × Nat, q.1 ≤ s.length ∧ st q = (s', b)) hokC mixed Tryz.func9 rfl (by show 4 ≤ 400; omega) rfl (ids := [0]) (by kernel_rfl) rfl (fun caps => ?_) (fun id hid => ?_)
  · show gEO _ _ w a l.length (caps 500) (trs l) E.length (caps 501) (vp E) T.length (caps 502) (vp T) s.length (caps 503) (vi s) _
    rw [gEO_text]
    simp only [bc_t (v3le l), bc_t (v2le E), bc_t (v2le T), bc_t (v1le s), trs_whole, vp_whole, vi_whole, eq_self, true_and, and_true]
    refine ⟨_, _, ⟨conCT w a l (by omega)⟩, bc_bne (fun h1 => ?_) (fun h1 => ?_)⟩
    · refine ⟨_, _, ⟨conSK E T (by omega)⟩, _, ⟨conFE [_, _] (by simp)⟩, ?_⟩
      rw [show fst0 [ctE w a l, skE E T] = ctE w a l by rw [fst0_two, if_neg h1]]
      refine bc_bne (fun _ => ?_) (fun hh => absurd hh h1)
      refine ⟨_, ⟨conCS 0 [_] (by simp)⟩, _, ⟨conCOz s (by omega)⟩, _, ⟨conFE [_, _] (by simp)⟩, _, ⟨conFE [_, _] (by simp)⟩, ?_⟩
      rw [show ∀ z : Int, fst0 [ctE w a l, z] = ctE w a l from fun z => by rw [fst0_two, if_neg h1]]
      refine bc_bne (fun _ => ?_) (fun hh => absurd hh h1)
      exact absurd (ctE_ok.2 h.t) h1
    · have ht := ctE_ok.1 h1
      refine ⟨_, _, ⟨conSK E T (by omega)⟩, _, ⟨conFE [_, _] (by simp)⟩, ?_⟩
      rw [show fst0 [0, skE E T] = skE E T by rw [fst0_two, if_pos rfl]]
      refine bc_bne (fun h2 => ?_) (fun h2 => ?_)
      · refine ⟨_, ⟨conCS 0 [_] (by simp)⟩, _, ⟨conCOz s (by omega)⟩, _, ⟨conFE [_, _] (by simp)⟩, _, ⟨conFE [_, _] (by simp)⟩, ?_⟩
        rw [show ∀ z : Int, fst0 [skE E T, z] = skE E T from fun z => by rw [fst0_two, if_neg h2]]
        refine bc_bne (fun _ => ?_) (fun hh => absurd hh h2)
        exact absurd h.sv h2
      · refine ⟨_, ⟨conCS (E.length : Int) [(s.length : Int)] (by simp)⟩, _, ⟨conCO ht s (by omega)⟩, _, ⟨conFE [_, _] (by simp)⟩, _, ⟨conFE [_, _] (by simp)⟩, ?_⟩
        have e3 : fst0 [0, fst0 [sameE (E.length : Int) [(s.length : Int)], coL l 0 s]] = if s.length ≠ E.length then 10 else coL l 0 s := by
          rw [fst0_two, if_pos rfl, fst0_two]
          by_cases h4 : s.length = E.length
          · have e5 : sameE (E.length : Int) [(s.length : Int)] = 0 := by
              unfold sameE sameE
              rw [if_neg (by omega)]
            rw [e5, if_pos rfl, if_neg (fun hh => hh h4)]
          · have e5 : sameE (E.length : Int) [(s.length : Int)] = 10 := by
              unfold sameE
              rw [if_pos (by omega)]
            rw [e5, if_neg (show ¬ (10 : Int) = 0 by decide), if_pos h4]
        rw [e3]
        rw [if_neg (fun hh => hh h.n), h.co]
        exact bc_bne (fun hh => absurd rfl hh) (fun _ => ⟨(0, caps 503, caps 500, caps 501, caps 502), Nat.zero_le _, rfl⟩)
  · obtain rfl := List.mem_singleton.1 hid
    refine ⟨Nat × Nat × Nat × Nat × Nat, st, fun q => q.1 ≤ s.length, fun q => s.length - q.1, ⟨fun s b h => h, by kernel_rfl, ?_⟩⟩
    rintro ⟨i, c1, c2, c3, c4⟩ hi
    have hi : i ≤ s.length := hi
    cases i with
    | zero =>
      have h0 : 0 < s.length := by omega
      show rEO1 _ _ s.length c1 s.length ((0 : Nat) : Int) w a l.length c2 E.length c3 T.length c4 (vi s) (trs l) (vp E) (vp T) _ _ _
      rw [rEO1_text]
      simp only [bc_t (show ((0 : Nat) : Int) < (s.length : Int) by omega), bc_t (show (0 : Int) ≤ ((0 : Nat) : Int) by omega), Int.toNat_natCast, at1 (at_gd h0), bc_t (v3le l), bc_t (v2le E), bc_t (v2le T), trs_whole, vp_whole, wi1 h0 (show s.length < 1000000000 by omega), eq_self]
      exact ⟨_, _, ⟨conXO h h0⟩, (1, c1, c2, c3, c4), h0, by show s.length - 1 < s.length - 0; omega, rfl⟩
    | succ i =>
      show rEO2 _ _ (i + 1) s.length c1 s.length ((i + 1 : Nat) : Int) w a l.length c2 E.length c3 T.length c4 (vp (exL w a l E s (i + 1))) (vi s) (trs l) (vp E) (vp T) _ _ _
      rw [rEO2_text]
      have eL : (vp (exL w a l E s (i + 1))).length = (i + 1) * 2 := by simp
      refine bc_dec (fun h1 => ?_) (fun h1 => ?_)
      · have h0 : i + 1 < s.length := by omega
        simp only [bc_t h1, bc_t (show (0 : Int) ≤ ((i + 1 : Nat) : Int) by omega), Int.toNat_natCast, at1 (at_gd h0), bc_t (v3le l), bc_t (v2le E), bc_t (v2le T), trs_whole, vp_whole, wi1 h0 (show s.length < 1000000000 by omega), bc_t (show i + 1 < i + 1 + 1 by omega), bc_t (show (2 * (i + 1 + 1) + 768) * 16 ≤ 281474976710656 by omega), bc_t (show i + 1 + 1 ≤ 1099511627776 by omega), bc_t (show 0 + (i + 1) * 2 ≤ (vp (exL w a l E s (i + 1))).length by omega), bc_t (show 0 + (i + 1) * 2 = (vp (exL w a l E s (i + 1))).length by omega)]
        refine ⟨_, _, ⟨conXO h h0⟩, ?_⟩
        rw [vpr_snoc (exP w a l E s) (i + 1)]
        exact ⟨(i + 2, c1, c2, c3, c4), h0, by show s.length - (i + 2) < s.length - (i + 1); omega, rfl⟩
      · show (if 0 = 0 then _ else _)
        rw [if_pos rfl]
        have hl : i + 1 = s.length := by omega
        show nEO4 _ _ (i + 1) (vp (exL w a l E s (i + 1))) _
        rw [nEO4_text, eL, hl]
        exact ⟨⟨rfl, rfl⟩, rfl⟩
theorem conAOx {w a : Int} {l : List Tr} {E T : List Pr} {s : List Int} (hp : prE w a l E T s ≠ 0) (hl : l.length < 1000000) (hE : E.length < 1000000) (hs : s.length < 1000000) : C5 12 [dT w a l, .agg [sR E, sR T], sI s] [.nil, dI (prE w a l E T s)] := by
  refine con_of (L := fun _ _ _ => False) hokC mixed Tryz.func12 rfl (by show 4 ≤ 400; omega) rfl (ids := [0]) (by kernel_rfl) rfl (fun caps => ?_) (fun id hid => ?_)
  · show gAO _ _ w a l.length (caps 500) (trs l) E.length (caps 501) (vp E) T.length (caps 502) (vp T) s.length (caps 503) (vi s) _
    rw [gAO_text]
    simp only [bc_t (v3le l), bc_t (v2le E), bc_t (v2le T), bc_t (v1le s), trs_whole, vp_whole, vi_whole, eq_self, true_and, and_true]
    refine ⟨_, _, ⟨conCT w a l (by omega)⟩, bc_bne (fun h1 => ?_) (fun h1 => ?_)⟩
    · refine ⟨_, _, ⟨conSK E T (by omega)⟩, _, ⟨conFE [_, _] (by simp)⟩, ?_⟩
      rw [show fst0 [ctE w a l, skE E T] = ctE w a l by rw [fst0_two, if_neg h1]]
      refine bc_bne (fun _ => ?_) (fun hh => absurd hh h1)
      refine ⟨_, ⟨conCS 0 [_] (by simp)⟩, _, ⟨conCOz s (by omega)⟩, _, ⟨conFE [_, _] (by simp)⟩, _, ⟨conFE [_, _] (by simp)⟩, ?_⟩
      rw [show ∀ z : Int, fst0 [ctE w a l, z] = ctE w a l from fun z => by rw [fst0_two, if_neg h1]]
      refine bc_bne (fun _ => ?_) (fun hh => absurd hh h1)
      rw [prE, if_pos h1] <;> trivial
    · have ht := ctE_ok.1 h1
      refine ⟨_, _, ⟨conSK E T (by omega)⟩, _, ⟨conFE [_, _] (by simp)⟩, ?_⟩
      rw [show fst0 [0, skE E T] = skE E T by rw [fst0_two, if_pos rfl]]
      refine bc_bne (fun h2 => ?_) (fun h2 => ?_)
      · refine ⟨_, ⟨conCS 0 [_] (by simp)⟩, _, ⟨conCOz s (by omega)⟩, _, ⟨conFE [_, _] (by simp)⟩, _, ⟨conFE [_, _] (by simp)⟩, ?_⟩
        rw [show ∀ z : Int, fst0 [skE E T, z] = skE E T from fun z => by rw [fst0_two, if_neg h2]]
        refine bc_bne (fun _ => ?_) (fun hh => absurd hh h2)
        rw [prE, if_neg (fun hh => hh h1), if_pos h2] <;> trivial
      · refine ⟨_, ⟨conCS (E.length : Int) [(s.length : Int)] (by simp)⟩, _, ⟨conCO ht s (by omega)⟩, _, ⟨conFE [_, _] (by simp)⟩, _, ⟨conFE [_, _] (by simp)⟩, ?_⟩
        have e3 : fst0 [0, fst0 [sameE (E.length : Int) [(s.length : Int)], coL l 0 s]] = if s.length ≠ E.length then 10 else coL l 0 s := by
          rw [fst0_two, if_pos rfl, fst0_two]
          by_cases h4 : s.length = E.length
          · have e5 : sameE (E.length : Int) [(s.length : Int)] = 0 := by
              unfold sameE sameE
              rw [if_neg (by omega)]
            rw [e5, if_pos rfl, if_neg (fun hh => hh h4)]
          · have e5 : sameE (E.length : Int) [(s.length : Int)] = 10 := by
              unfold sameE
              rw [if_pos (by omega)]
            rw [e5, if_neg (show ¬ (10 : Int) = 0 by decide), if_pos h4]
        rw [e3]
        have e4 : prE w a l E T s = if s.length ≠ E.length then 10 else coL l 0 s := by rw [prE, if_neg (fun hh => hh h1), if_neg (fun hh => hh h2)]
        rw [← e4]
        exact bc_bne (fun _ => by trivial) (fun hh => absurd hh hp)
  · obtain rfl := List.mem_singleton.1 hid
    exact ⟨Nat, fun _ => ([], []), fun _ => False, fun _ => 0, ⟨fun s b h => h.elim, by kernel_rfl, fun j hj => hj.elim⟩⟩
theorem conAO {w a : Int} {l : List Tr} {E T : List Pr} {s : List Int} (h : PV w a l E T s) : C5 12 [dT w a l, .agg [sR E, sR T], sI s] [.sl s.length 1 (vi (anL w a l E T s s.length)), dI 0] := by
  have hn := h.t.n0
  have hk := sk_len h.sv
  have hns := h.n
  have hp := prE_ok.2 h
  let st : Nat × Nat × Nat × Nat × Nat → Slots × Blocks := fun q => match q.1 with
    | 0 => zAO1 s.length q.2.1 s.length 0 w a l.length q.2.2.1 E.length q.2.2.2.1 T.length q.2.2.2.2 (vi s) (trs l) (vp E) (vp T)
    | i + 1 => zAO2 (i + 1) s.length q.2.1 s.length ((i + 1 : Nat) : Int) w a l.length q.2.2.1 E.length q.2.2.2.1 T.length q.2.2.2.2 (vi (anL w a l E T s (i + 1))) (vi s) (trs l) (vp E) (vp T)
  refine con_of (L := fun _ s' b => ∃ q : Nat × Nat × Nat × Nat × Nat, q.1 ≤ s.length ∧ st q = (s', b)) hokC mixed Tryz.func12 rfl (by show 4 ≤ 400; omega) rfl (ids := [0]) (by kernel_rfl) rfl (fun caps => ?_) (fun id hid => ?_)
  · show gAO _ _ w a l.length (caps 500) (trs l) E.length (caps 501) (vp E) T.length (caps 502) (vp T) s.length (caps 503) (vi s) _
    rw [gAO_text]
    simp only [bc_t (v3le l), bc_t (v2le E), bc_t (v2le T), bc_t (v1le s), trs_whole, vp_whole, vi_whole, eq_self, true_and, and_true]
    refine ⟨_, _, ⟨conCT w a l (by omega)⟩, bc_bne (fun h1 => ?_) (fun h1 => ?_)⟩
    · refine ⟨_, _, ⟨conSK E T (by omega)⟩, _, ⟨conFE [_, _] (by simp)⟩, ?_⟩
      rw [show fst0 [ctE w a l, skE E T] = ctE w a l by rw [fst0_two, if_neg h1]]
      refine bc_bne (fun _ => ?_) (fun hh => absurd hh h1)
      refine ⟨_, ⟨conCS 0 [_] (by simp)⟩, _, ⟨conCOz s (by omega)⟩, _, ⟨conFE [_, _] (by simp)⟩, _, ⟨conFE [_, _] (by simp)⟩, ?_⟩
      rw [show ∀ z : Int, fst0 [ctE w a l, z] = ctE w a l from fun z => by rw [fst0_two, if_neg h1]]
      refine bc_bne (fun _ => ?_) (fun hh => absurd hh h1)
      exact absurd (ctE_ok.2 h.t) h1
    · have ht := ctE_ok.1 h1
      refine ⟨_, _, ⟨conSK E T (by omega)⟩, _, ⟨conFE [_, _] (by simp)⟩, ?_⟩
      rw [show fst0 [0, skE E T] = skE E T by rw [fst0_two, if_pos rfl]]
      refine bc_bne (fun h2 => ?_) (fun h2 => ?_)
      · refine ⟨_, ⟨conCS 0 [_] (by simp)⟩, _, ⟨conCOz s (by omega)⟩, _, ⟨conFE [_, _] (by simp)⟩, _, ⟨conFE [_, _] (by simp)⟩, ?_⟩
        rw [show ∀ z : Int, fst0 [skE E T, z] = skE E T from fun z => by rw [fst0_two, if_neg h2]]
        refine bc_bne (fun _ => ?_) (fun hh => absurd hh h2)
        exact absurd h.sv h2
      · refine ⟨_, ⟨conCS (E.length : Int) [(s.length : Int)] (by simp)⟩, _, ⟨conCO ht s (by omega)⟩, _, ⟨conFE [_, _] (by simp)⟩, _, ⟨conFE [_, _] (by simp)⟩, ?_⟩
        have e3 : fst0 [0, fst0 [sameE (E.length : Int) [(s.length : Int)], coL l 0 s]] = if s.length ≠ E.length then 10 else coL l 0 s := by
          rw [fst0_two, if_pos rfl, fst0_two]
          by_cases h4 : s.length = E.length
          · have e5 : sameE (E.length : Int) [(s.length : Int)] = 0 := by
              unfold sameE sameE
              rw [if_neg (by omega)]
            rw [e5, if_pos rfl, if_neg (fun hh => hh h4)]
          · have e5 : sameE (E.length : Int) [(s.length : Int)] = 10 := by
              unfold sameE
              rw [if_pos (by omega)]
            rw [e5, if_neg (show ¬ (10 : Int) = 0 by decide), if_pos h4]
        rw [e3]
        rw [if_neg (fun hh => hh h.n), h.co]
        exact bc_bne (fun hh => absurd rfl hh) (fun _ => ⟨(0, caps 503, caps 500, caps 501, caps 502), Nat.zero_le _, rfl⟩)
  · obtain rfl := List.mem_singleton.1 hid
    refine ⟨Nat × Nat × Nat × Nat × Nat, st, fun q => q.1 ≤ s.length, fun q => s.length - q.1, ⟨fun s b h => h, by kernel_rfl, ?_⟩⟩
    rintro ⟨i, c1, c2, c3, c4⟩ hi
    have hi : i ≤ s.length := hi
    cases i with
    | zero =>
      have h0 : 0 < s.length := by omega
      show rAO1 _ _ s.length c1 s.length ((0 : Nat) : Int) w a l.length c2 E.length c3 T.length c4 (vi s) (trs l) (vp E) (vp T) _ _ _
      rw [rAO1_text]
      simp only [bc_t (show ((0 : Nat) : Int) < (s.length : Int) by omega), bc_t (show (0 : Int) ≤ ((0 : Nat) : Int) by omega), Int.toNat_natCast, at1 (at_gd h0), bc_t (v3le l), bc_t (v2le E), bc_t (v2le T), trs_whole, vp_whole, wi1 h0 (show s.length < 1000000000 by omega), eq_self]
      exact ⟨_, ⟨conXA h h0⟩, (1, c1, c2, c3, c4), h0, by show s.length - 1 < s.length - 0; omega, rfl⟩
    | succ i =>
      show rAO2 _ _ (i + 1) s.length c1 s.length ((i + 1 : Nat) : Int) w a l.length c2 E.length c3 T.length c4 (vi (anL w a l E T s (i + 1))) (vi s) (trs l) (vp E) (vp T) _ _ _
      rw [rAO2_text]
      have eL : (vi (anL w a l E T s (i + 1))).length = (i + 1) * 1 := by simp
      refine bc_dec (fun h1 => ?_) (fun h1 => ?_)
      · have h0 : i + 1 < s.length := by omega
        simp only [bc_t h1, bc_t (show (0 : Int) ≤ ((i + 1 : Nat) : Int) by omega), Int.toNat_natCast, at1 (at_gd h0), bc_t (v3le l), bc_t (v2le E), bc_t (v2le T), trs_whole, vp_whole, wi1 h0 (show s.length < 1000000000 by omega), bc_t (show i + 1 < i + 1 + 1 by omega), bc_t (show (2 * (i + 1 + 1) + 768) * 8 ≤ 281474976710656 by omega), bc_t (show i + 1 + 1 ≤ 1099511627776 by omega), bc_t (show 0 + (i + 1) * 1 ≤ (vi (anL w a l E T s (i + 1))).length by omega), bc_t (show 0 + (i + 1) * 1 = (vi (anL w a l E T s (i + 1))).length by omega)]
        refine ⟨_, ⟨conXA h h0⟩, ?_⟩
        rw [vir_snoc (fun i => ansV (exP w a l E s i) (pt T i)) (i + 1)]
        exact ⟨(i + 2, c1, c2, c3, c4), h0, by show s.length - (i + 2) < s.length - (i + 1); omega, rfl⟩
      · show (if 0 = 0 then _ else _)
        rw [if_pos rfl]
        have hl : i + 1 = s.length := by omega
        show nAO4 _ _ (i + 1) (vi (anL w a l E T s (i + 1))) _
        rw [nAO4_text, eL, hl]
        exact ⟨⟨rfl, rfl⟩, rfl⟩
theorem conRX {w a : Int} {l : List Tr} {E T : List Pr} {s : List Int} (h : PV w a l E T s) : C5 17 [dT w a l, .agg [sR E, sR T], sI s] [.sl s.length 2 (vp (exL w a l E s s.length))] := by
  have hn := h.t.n0
  have hk := sk_len h.sv
  have hns := h.n
  let st : Nat × Nat × Nat × Nat × Nat → Slots × Blocks := fun q => match q.1 with
    | 0 => zRX1 s.length q.2.1 0 (vi s) w a l.length q.2.2.1 E.length q.2.2.2.1 T.length q.2.2.2.2 (trs l) (vp E) (vp T)
    | i + 1 => zRX2 s.length q.2.1 (i + 1) ((i + 1 : Nat) : Int) (vi s) w a l.length q.2.2.1 E.length q.2.2.2.1 T.length q.2.2.2.2 (vp (exL w a l E s (i + 1))) (trs l) (vp E) (vp T)
  refine con_of (L := fun _ s' b => ∃ q : Nat × Nat × Nat × Nat × Nat, q.1 ≤ s.length ∧ st q = (s', b)) hokC mixed Tryz.func17 rfl (by show 4 ≤ 400; omega) rfl (ids := [0]) (by kernel_rfl) rfl (fun caps => ?_) (fun id hid => ?_)
  · show gRX _ _ w a l.length (caps 500) (trs l) E.length (caps 501) (vp E) T.length (caps 502) (vp T) s.length (caps 503) (vi s) _
    rw [gRX_text]
    exact ⟨(0, caps 503, caps 500, caps 501, caps 502), Nat.zero_le _, rfl⟩
  · obtain rfl := List.mem_singleton.1 hid
    refine ⟨Nat × Nat × Nat × Nat × Nat, st, fun q => q.1 ≤ s.length, fun q => s.length - q.1, ⟨fun s b h => h, by kernel_rfl, ?_⟩⟩
    rintro ⟨i, c1, c2, c3, c4⟩ hi
    have hi : i ≤ s.length := hi
    have cQ : ∀ {i : Nat}, i < s.length → C5 42 [dT w a l, dI (gd s i), .agg [dI (pt E i).1, dI (pt E i).2]] [.agg [dI (exP w a l E s i).1, dI (exP w a l E s i).2]] := fun {i} h0 => by
      have hd := sk_deg h.sv (i := i) (by omega)
      exact conQa h.t (gd s i) (pt E i).1 (pt E i).2 (h.set h0) (by omega) (by omega)
    cases i with
    | zero =>
      have h0 : 0 < s.length := by omega
      have hE : 0 < E.length := by omega
      show rRX1 _ _ s.length c1 ((0 : Nat) : Int) (vi s) w a l.length c2 E.length c3 T.length c4 (trs l) (vp E) (vp T) _ _ _
      rw [rRX1_text]
      simp only [bc_t (show ((0 : Nat) : Int) < (s.length : Int) by omega), bc_t (show (0 : Int) ≤ ((0 : Nat) : Int) by omega), bc_t (show ((0 : Nat) : Int) < (E.length : Int) by omega), Int.toNat_natCast, at1 (at_gd h0), at2 (at_pt hE), bc_t (v3le l), trs_whole, wi1 h0 (show s.length < 1000000000 by omega), eq_self, true_and, and_true]
      exact ⟨_, _, ⟨cQ h0⟩, (1, c1, c2, c3, c4), h0, by show s.length - 1 < s.length - 0; omega, rfl⟩
    | succ i =>
      show rRX2 _ _ s.length c1 (i + 1) ((i + 1 : Nat) : Int) (vi s) w a l.length c2 E.length c3 T.length c4 (vp (exL w a l E s (i + 1))) (trs l) (vp E) (vp T) _ _ _
      rw [rRX2_text]
      have eL : (vp (exL w a l E s (i + 1))).length = (i + 1) * 2 := by simp
      refine bc_dec (fun h1 => ?_) (fun h1 => ?_)
      · have h0 : i + 1 < s.length := by omega
        have hE : i + 1 < E.length := by omega
        simp only [bc_t h1, bc_t (show (0 : Int) ≤ ((i + 1 : Nat) : Int) by omega), bc_t (show ((i + 1 : Nat) : Int) < (E.length : Int) by omega), Int.toNat_natCast, at1 (at_gd h0), at2 (at_pt hE), bc_t (v3le l), trs_whole, wi1 h0 (show s.length < 1000000000 by omega), bc_t (show i + 1 < i + 1 + 1 by omega), bc_t (show (2 * (i + 1 + 1) + 768) * 16 ≤ 281474976710656 by omega), bc_t (show i + 1 + 1 ≤ 1099511627776 by omega), bc_t (show 0 + (i + 1) * 2 ≤ (vp (exL w a l E s (i + 1))).length by omega), bc_t (show 0 + (i + 1) * 2 = (vp (exL w a l E s (i + 1))).length by omega), eq_self, true_and, and_true]
        refine ⟨_, _, ⟨cQ h0⟩, ?_⟩
        rw [vpr_snoc (exP w a l E s) (i + 1)]
        exact ⟨(i + 2, c1, c2, c3, c4), h0, by show s.length - (i + 2) < s.length - (i + 1); omega, rfl⟩
      · show (if 0 = 0 then _ else _)
        rw [if_pos rfl]
        have hl : i + 1 = s.length := by omega
        show nRX4 _ _ (i + 1) (vp (exL w a l E s (i + 1))) _
        rw [nRX4_text, eL, hl]
        exact ⟨⟨rfl, rfl⟩, rfl⟩
theorem conRA {w a : Int} {l : List Tr} {E T : List Pr} {s : List Int} (h : PV w a l E T s) : C5 19 [dT w a l, .agg [sR E, sR T], sI s] [.sl s.length 1 (vi (anL w a l E T s s.length))] := by
  have hn := h.t.n0
  have hk := sk_len h.sv
  have hns := h.n
  let st : Nat × Nat × Nat → Slots × Blocks := fun q => match q.1 with
    | 0 => zRA2 s.length 0 E.length q.2.1 T.length q.2.2 (vp (exL w a l E s s.length)) (vp E) (vp T)
    | i + 1 => zRA4 s.length (i + 1) ((i + 1 : Nat) : Int) E.length q.2.1 T.length q.2.2 (vp (exL w a l E s s.length)) (vi (anL w a l E T s (i + 1))) (vp E) (vp T)
  refine con_of (L := fun _ s' b => ∃ q : Nat × Nat × Nat, q.1 ≤ s.length ∧ st q = (s', b)) hokC mixed Tryz.func19 rfl (by show 4 ≤ 400; omega) rfl (ids := [0]) (by kernel_rfl) rfl (fun caps => ?_) (fun id hid => ?_)
  · show gRA _ _ w a l.length (caps 500) (trs l) E.length (caps 501) (vp E) T.length (caps 502) (vp T) s.length (caps 503) (vi s) _
    rw [gRA_text]
    simp only [bc_t (v3le l), bc_t (v2le E), bc_t (v2le T), bc_t (v1le s), trs_whole, vp_whole, vi_whole]
    exact .inr ⟨_, _, ⟨conRX h⟩, (0, caps 501, caps 502), Nat.zero_le _, rfl⟩
  · obtain rfl := List.mem_singleton.1 hid
    refine ⟨Nat × Nat × Nat, st, fun q => q.1 ≤ s.length, fun q => s.length - q.1, ⟨fun s b h => h, by kernel_rfl, ?_⟩⟩
    rintro ⟨i, c1, c2⟩ hi
    have hi : i ≤ s.length := hi
    have eX : ∀ {i : Nat}, i < s.length → At (vp (exL w a l E s s.length)) (0 + i * 2) 2 [vI (exP w a l E s i).1, vI (exP w a l E s i).2] := fun {i} h0 => by
      have h1 : i < (exL w a l E s s.length).length := by simpa using h0
      have := at_pt h1
      have e : pt (exL w a l E s s.length) i = exP w a l E s i := by rw [← pt_at h1]; simp
      rwa [e] at this
    cases i with
    | zero =>
      have h0 : 0 < s.length := by omega
      have hT : 0 < T.length := by omega
      show rRA2 _ _ s.length ((0 : Nat) : Int) E.length c1 T.length c2 (vp (exL w a l E s s.length)) (vp E) (vp T) _ _ _
      rw [rRA2_text]
      simp only [bc_t (show ((0 : Nat) : Int) < (s.length : Int) by omega), bc_t (show (0 : Int) ≤ ((0 : Nat) : Int) by omega), bc_t (show ((0 : Nat) : Int) < (T.length : Int) by omega), Int.toNat_natCast, at2 (eX h0), at2 (at_pt hT), wi1 h0 (show s.length < 1000000000 by omega), eq_self, true_and, and_true]
      exact ⟨_, ⟨conRW _ _⟩, (1, c1, c2), h0, by show s.length - 1 < s.length - 0; omega, rfl⟩
    | succ i =>
      show rRA4 _ _ s.length (i + 1) ((i + 1 : Nat) : Int) E.length c1 T.length c2 (vp (exL w a l E s s.length)) (vi (anL w a l E T s (i + 1))) (vp E) (vp T) _ _ _
      rw [rRA4_text]
      have eL : (vi (anL w a l E T s (i + 1))).length = (i + 1) * 1 := by simp
      refine bc_dec (fun h1 => ?_) (fun h1 => ?_)
      · have h0 : i + 1 < s.length := by omega
        have hT : i + 1 < T.length := by omega
        simp only [bc_t h1, bc_t (show (0 : Int) ≤ ((i + 1 : Nat) : Int) by omega), bc_t (show ((i + 1 : Nat) : Int) < (T.length : Int) by omega), Int.toNat_natCast, at2 (eX h0), at2 (at_pt hT), wi1 h0 (show s.length < 1000000000 by omega), bc_t (show i + 1 < i + 1 + 1 by omega), bc_t (show (2 * (i + 1 + 1) + 768) * 8 ≤ 281474976710656 by omega), bc_t (show i + 1 + 1 ≤ 1099511627776 by omega), bc_t (show 0 + (i + 1) * 1 ≤ (vi (anL w a l E T s (i + 1))).length by omega), bc_t (show 0 + (i + 1) * 1 = (vi (anL w a l E T s (i + 1))).length by omega), eq_self, true_and, and_true]
        refine ⟨_, ⟨conRW _ _⟩, ?_⟩
        rw [vir_snoc (fun i => ansV (exP w a l E s i) (pt T i)) (i + 1)]
        exact ⟨(i + 2, c1, c2), h0, by show s.length - (i + 2) < s.length - (i + 1); omega, rfl⟩
      · show (if 0 = 0 then _ else _)
        rw [if_pos rfl]
        have hl : i + 1 = s.length := by omega
        show nRA5 _ _ (i + 1) (vi (anL w a l E T s (i + 1))) _
        rw [nRA5_text, eL, hl]
        exact ⟨⟨rfl, rfl⟩, rfl⟩
end Go.Proofs.G5d

/- Short names for what stands often in printed texts of laws. -/
namespace Go.Abs
abbrev Tk (n k : Nat) (l : List Value) : List Value := List.take (n * k) (List.drop 0 l)
abbrev Dw (n k : Nat) (l : List Value) : D := .sl n k (Tk n k l)
abbrev dL (n k : Nat) (l : List Value) : Bool := decide (0 + n * k ≤ List.length l)
abbrev kT : List D := [.val (.bool true)]
abbrev kF : List D := [.val (.bool false)]
end Go.Abs
