/- What is left to show of each function, written out; the kernel reckons it. -/
import Derived.Test.YteadiejdhplokaaGreatP4
import Derived.Test.YteadiejdhplokaaGreatProg
namespace Go.Proofs.G5o
open Go Go.Abs Go.Proofs
set_option maxRecDepth 100000
set_option linter.unusedVariables false
abbrev vI (n : Int) : Value := .int .i64 n
abbrev Ct := FuncId → List D → List D → Prop
abbrev Bx := Slots → Blocks → Prop
abbrev Xx := Nat → Slots → Blocks → Prop
abbrev Ex := Exit → Slots → Blocks → Prop
abbrev Kh := FuncId → List Value → Blocks → Slots → Blocks → Prop
abbrev hE (C : Ct) : Handler := handlerX Tryz.prog (fun _ => none) 12 6
def preP (C : Ct) : FuncId → Option Handler := fun g => if [50, 64].contains g then some (freshH Tryz.prog g 2) else if g == 67 then some (freshH Tryz.prog g 4) else if [6, 48, 49, 137, 138, 139, 126, 119, 114, 142, 143, 125, 95, 90, 52, 104, 65, 66, 106, 69, 76, 105, 91, 77, 13, 10, 23, 30, 40, 93, 45, 94, 46, 8, 70, 999999, 999999, 71, 72, 110, 74, 999999, 999999, 999999, 42, 9, 124, 44, 57, 96, 15, 16, 999999, 80, 21, 22, 29, 31, 73, 82, 25, 26, 28, 35, 33, 34, 27, 24, 81].contains g then some (saidH Tryz.prog C) else none
abbrev hP (C : Ct) : Handler := handlerX Tryz.prog (preP C) 12 6
def gFE (C : Ct) (L : AtLoop) (n0 : Nat) (c0 : Nat) (l0 : List Value) (k : List D → Prop) : Prop := wpFn Tryz.prog (hE C) L 0 48 #[.slice (some ⟨500, 0, none⟩) n0 c0] (heapOf [(500, .sym l0 false 1)]) (dataK k)
theorem gFE_text (C : Ct) (L : AtLoop) (n0 : Nat) (c0 : Nat) (l0 : List Go.Value) (k : List D → Prop) : gFE C L n0 c0 l0 k =
 (L 0 [(Prod.mk 5 (Sl 500 (n0) (c0))), (Prod.mk 6 (vI ((↑n0 : Int)))), (Prod.mk 7 (vI 0))] [(Prod.mk 500 (AObj.sym (l0) false 1))]) := by kernel_rfl
abbrev zFE1 (n0 : Nat) (c1 : Nat) (x2 : Int) (x3 : Int) (l4 : List Value) : Slots × Blocks := ([(5, (Value.slice (some ⟨500, 0, none⟩) n0 c1)), (6, (Value.int .i64 x2)), (7, (Value.int .i64 x3))], [(500, (AObj.sym l4 false 1))])
def rFE1 (C : Ct) (L : AtLoop) (n0 : Nat) (c1 : Nat) (x2 : Int) (x3 : Int) (l4 : List Value) (B : Bx) (X : Xx) (k : List D → Prop) : Prop := wpRound Tryz.prog (hE C) L 48 0 [(5, (Value.slice (some ⟨500, 0, none⟩) n0 c1)), (6, (Value.int .i64 x2)), (7, (Value.int .i64 x3))] [(500, (AObj.sym l4 false 1))] B X (dataK k)
theorem rFE1_text (C : Ct) (L : AtLoop) (n0 : Nat) (c1 : Nat) (x2 : Int) (x3 : Int) (l4 : List Go.Value) (B : Bx) (X : Xx) (k : List D → Prop) : rFE1 C L n0 c1 x2 x3 l4 B X k =
 (bcase (decide (x3 < x2))
 (bcase (decide (0 ≤ x3))
 (bcase (decide (x3 < (↑n0 : Int)))
 (∃ n1 : Int,
 ((At (l4) (0 + Int.toNat x3 * 1) 1 [(vI n1)]) ∧
 (bcase (n1 != 0)
 (k [(D.val (vI n1))])
 (B [(Prod.mk 5 (Sl 500 (n0) (c1))), (Prod.mk 6 (vI x2)), (Prod.mk 7 (vI (IntKind.wrap .i64 (x3 + 1))))] [(Prod.mk 500 (AObj.sym (l4) false 1))]))))
 False)
 False)
 (X 0 [] [])) := by kernel_rfl
def nFE2 (C : Ct) (L : AtLoop) (k : List D → Prop) : Prop := wpNext Tryz.prog (hE C) L 48 0 .normal [] [] (dataK k)
theorem nFE2_text (C : Ct) (L : AtLoop) (k : List D → Prop) : nFE2 C L k =
 (k [(D.val (vI 0))]) := by kernel_rfl
def gCW (C : Ct) (L : AtLoop) (x0 : Int) (x1 : Int) (n2 : Nat) (c2 : Nat) (l2 : List Value) (k : List D → Prop) : Prop := wpFn Tryz.prog (hE C) L 0 49 #[.int .i64 x0, .int .i64 x1, .slice (some ⟨500, 0, none⟩) n2 c2] (heapOf [(500, .sym l2 false 1)]) (dataK k)
theorem gCW_text (C : Ct) (L : AtLoop) (x0 : Int) (x1 : Int) (n2 : Nat) (c2 : Nat) (l2 : List Go.Value) (k : List D → Prop) : gCW C L x0 x1 n2 c2 l2 k =
 (L 0 [(Prod.mk 0 (vI x0)), (Prod.mk 1 (vI x1)), (Prod.mk 9 (Sl 500 (n2) (c2))), (Prod.mk 10 (vI ((↑n2 : Int)))), (Prod.mk 11 (vI 0))] [(Prod.mk 500 (AObj.sym (l2) false 1))]) := by kernel_rfl
abbrev zCW1 (x0 : Int) (x1 : Int) (n2 : Nat) (c3 : Nat) (x4 : Int) (x5 : Int) (l6 : List Value) : Slots × Blocks := ([(0, (Value.int .i64 x0)), (1, (Value.int .i64 x1)), (9, (Value.slice (some ⟨500, 0, none⟩) n2 c3)), (10, (Value.int .i64 x4)), (11, (Value.int .i64 x5))], [(500, (AObj.sym l6 false 1))])
def rCW1 (C : Ct) (L : AtLoop) (x0 : Int) (x1 : Int) (n2 : Nat) (c3 : Nat) (x4 : Int) (x5 : Int) (l6 : List Value) (B : Bx) (X : Xx) (k : List D → Prop) : Prop := wpRound Tryz.prog (hE C) L 49 0 [(0, (Value.int .i64 x0)), (1, (Value.int .i64 x1)), (9, (Value.slice (some ⟨500, 0, none⟩) n2 c3)), (10, (Value.int .i64 x4)), (11, (Value.int .i64 x5))] [(500, (AObj.sym l6 false 1))] B X (dataK k)
theorem rCW1_text (C : Ct) (L : AtLoop) (x0 : Int) (x1 : Int) (n2 : Nat) (c3 : Nat) (x4 : Int) (x5 : Int) (l6 : List Go.Value) (B : Bx) (X : Xx) (k : List D → Prop) : rCW1 C L x0 x1 n2 c3 x4 x5 l6 B X k =
 (bcase (decide (x5 < x4))
 (bcase (decide (0 ≤ x5))
 (bcase (decide (x5 < (↑n2 : Int)))
 (∃ n1 : Int,
 ((At (l6) (0 + Int.toNat x5 * 1) 1 [(vI n1)]) ∧
 (bcase (decide (n1 < x0))
 (k [(D.val (vI 2))])
 (bcase (decide (n1 > x1))
 (k [(D.val (vI 2))])
 (B [(Prod.mk 0 (vI x0)), (Prod.mk 1 (vI x1)), (Prod.mk 9 (Sl 500 (n2) (c3))), (Prod.mk 10 (vI x4)), (Prod.mk 11 (vI (IntKind.wrap .i64 (x5 + 1))))] [(Prod.mk 500 (AObj.sym (l6) false 1))])))))
 False)
 False)
 (X 0 [] [])) := by kernel_rfl
def nCW2 (C : Ct) (L : AtLoop) (k : List D → Prop) : Prop := wpNext Tryz.prog (hE C) L 49 0 .normal [] [] (dataK k)
theorem nCW2_text (C : Ct) (L : AtLoop) (k : List D → Prop) : nCW2 C L k =
 (k [(D.val (vI 0))]) := by kernel_rfl
def gCN (C : Ct) (L : AtLoop) (n0 : Nat) (c0 : Nat) (l0 : List Value) (k : List D → Prop) : Prop := wpFn Tryz.prog (hE C) L 0 137 #[.slice (some ⟨500, 0, none⟩) n0 c0] (heapOf [(500, .sym l0 false 2)]) (dataK k)
theorem gCN_text (C : Ct) (L : AtLoop) (n0 : Nat) (c0 : Nat) (l0 : List Go.Value) (k : List D → Prop) : gCN C L n0 c0 l0 k =
 (L 0 [(Prod.mk 5 (Sl 500 (n0) (c0))), (Prod.mk 6 (vI ((↑n0 : Int)))), (Prod.mk 7 (vI 0))] [(Prod.mk 500 (AObj.sym (l0) false 2))]) := by kernel_rfl
abbrev zCN1 (n0 : Nat) (c1 : Nat) (x2 : Int) (x3 : Int) (l4 : List Value) : Slots × Blocks := ([(5, (Value.slice (some ⟨500, 0, none⟩) n0 c1)), (6, (Value.int .i64 x2)), (7, (Value.int .i64 x3))], [(500, (AObj.sym l4 false 2))])
def rCN1 (C : Ct) (L : AtLoop) (n0 : Nat) (c1 : Nat) (x2 : Int) (x3 : Int) (l4 : List Value) (B : Bx) (X : Xx) (k : List D → Prop) : Prop := wpRound Tryz.prog (hE C) L 137 0 [(5, (Value.slice (some ⟨500, 0, none⟩) n0 c1)), (6, (Value.int .i64 x2)), (7, (Value.int .i64 x3))] [(500, (AObj.sym l4 false 2))] B X (dataK k)
theorem rCN1_text (C : Ct) (L : AtLoop) (n0 : Nat) (c1 : Nat) (x2 : Int) (x3 : Int) (l4 : List Go.Value) (B : Bx) (X : Xx) (k : List D → Prop) : rCN1 C L n0 c1 x2 x3 l4 B X k =
 (bcase (decide (x3 < x2))
 (bcase (decide (0 ≤ x3))
 (bcase (decide (x3 < (↑n0 : Int)))
 (∃ n1 : Int,
 (∃ n2 : Int,
 ((At (l4) (0 + Int.toNat x3 * 2) 2 [(vI n1), (vI n2)]) ∧
 (bcase (decide (n1 > n2))
 (k [(D.val (vI 9))])
 (B [(Prod.mk 5 (Sl 500 (n0) (c1))), (Prod.mk 6 (vI x2)), (Prod.mk 7 (vI (IntKind.wrap .i64 (x3 + 1))))] [(Prod.mk 500 (AObj.sym (l4) false 2))])))))
 False)
 False)
 (X 0 [] [])) := by kernel_rfl
def nCN2 (C : Ct) (L : AtLoop) (k : List D → Prop) : Prop := wpNext Tryz.prog (hE C) L 137 0 .normal [] [] (dataK k)
theorem nCN2_text (C : Ct) (L : AtLoop) (k : List D → Prop) : nCN2 C L k =
 (k [(D.val (vI 0))]) := by kernel_rfl
def gCC (C : Ct) (L : AtLoop) (n0 : Nat) (c0 : Nat) (l0 : List Value) (k : List D → Prop) : Prop := wpFn Tryz.prog (hE C) L 0 138 #[.slice (some ⟨500, 0, none⟩) n0 c0] (heapOf [(500, .sym l0 false 5)]) (dataK k)
theorem gCC_text (C : Ct) (L : AtLoop) (n0 : Nat) (c0 : Nat) (l0 : List Go.Value) (k : List D → Prop) : gCC C L n0 c0 l0 k =
 (bcase ((↑n0 : Int) == 0)
 (k [(D.val (vI 10))])
 (bcase (decide ((↑n0 : Int) > 6))
 (k [(D.val (vI 8))])
 (k [(D.val (vI 0))]))) := by kernel_rfl
def gCS (C : Ct) (L : AtLoop) (x0 : Int) (x1 : Int) (x2 : Int) (x3 : Int) (x4 : Int) (k : List D → Prop) : Prop := wpFn Tryz.prog (hP C) L 0 139 #[.agg #[.int .i64 x0, .int .i64 x1, .int .i64 x2, .int .i64 x3, .int .i64 x4]] (heapOf []) (dataK k)
theorem gCS_text (C : Ct) (L : AtLoop) (x0 : Int) (x1 : Int) (x2 : Int) (x3 : Int) (x4 : Int) (k : List D → Prop) : gCS C L x0 x1 x2 x3 x4 k =
 ((((Qv (Sl 1004 1 1)) ∧
 (Qv (some (AObj.cells [(vI x3), (vI x4)] 23 false 2)))) ∧
 ((Qv (Value.agg [(vI x3), (vI x4)].toArray)) ∧
 ((Qv (Pt 1000 3)) ∧
 (((Qv (Sl 1003 2 2)) ∧
 (Qv (some (AObj.cells [(vI x3), (vI x4)] 3 false 1)))) ∧
 ((Qv (vI x4)) ∧
 ((Qv (Pt 1000 4)) ∧
 ((Qv (Pt 1000 3)) ∧
 ((Qv (vI x3)) ∧
 ((Qv (Pt 1000 3)) ∧
 ((Qv (Pt 1000 3)) ∧
 (((Qv (Sl 1002 2 2)) ∧
 (Qv (some (AObj.cells [(vI x1), (vI x2)] 3 false 1)))) ∧
 ((Qv (vI x2)) ∧
 ((Qv (Pt 1000 2)) ∧
 ((Qv (vI x1)) ∧
 ((Qv (Pt 1000 1)) ∧
 (((Qv (Sl 1001 1 1)) ∧
 (Qv (some (AObj.cells [(vI x0)] 3 false 1)))) ∧
 ((Qv (vI x0)) ∧
 ((Qv (Pt 1000 0)) ∧
 True)))))))))))))))))) ∧
 (∃ n1 : Int,
 ((Says C 49 [(D.val (vI 1)), (D.val (vI 1000)), (D.sl 1 1 [(vI x0)])] [(D.val (vI n1))]) ∧
 ((((Qv (Sl 1004 1 1)) ∧
 (Qv (some (AObj.cells [(vI x3), (vI x4)] 23 false 2)))) ∧
 ((Qv (Value.agg [(vI x3), (vI x4)].toArray)) ∧
 ((Qv (Pt 1000 3)) ∧
 (((Qv (Sl 1003 2 2)) ∧
 (Qv (some (AObj.cells [(vI x3), (vI x4)] 3 false 1)))) ∧
 ((Qv (vI x4)) ∧
 ((Qv (Pt 1000 4)) ∧
 ((Qv (Pt 1000 3)) ∧
 ((Qv (vI x3)) ∧
 ((Qv (Pt 1000 3)) ∧
 ((Qv (Pt 1000 3)) ∧
 (((Qv (Sl 1002 2 2)) ∧
 (Qv (some (AObj.cells [(vI x1), (vI x2)] 3 false 1)))) ∧
 ((Qv (vI x2)) ∧
 ((Qv (Pt 1000 2)) ∧
 ((Qv (vI x1)) ∧
 ((Qv (Pt 1000 1)) ∧
 ((Qv (vI x0)) ∧
 ((Qv (Pt 1000 0)) ∧
 True))))))))))))))))) ∧
 (∃ n2 : Int,
 ((Says C 49 [(D.val (vI 0)), (D.val (vI 1000000000000)), (D.sl 2 1 [(vI x1), (vI x2)])] [(D.val (vI n2))]) ∧
 ((((Qv (Sl 1004 1 1)) ∧
 (Qv (some (AObj.cells [(vI x3), (vI x4)] 23 false 2)))) ∧
 ((Qv (Value.agg [(vI x3), (vI x4)].toArray)) ∧
 ((Qv (Pt 1000 3)) ∧
 (((Qv (Sl 1003 2 2)) ∧
 (Qv (some (AObj.cells [(vI x3), (vI x4)] 3 false 1)))) ∧
 ((Qv (vI x4)) ∧
 ((Qv (Pt 1000 4)) ∧
 ((Qv (Pt 1000 3)) ∧
 ((Qv (vI x3)) ∧
 ((Qv (Pt 1000 3)) ∧
 ((Qv (Pt 1000 3)) ∧
 ((Qv (vI x2)) ∧
 ((Qv (Pt 1000 2)) ∧
 ((Qv (vI x1)) ∧
 ((Qv (Pt 1000 1)) ∧
 ((Qv (vI x0)) ∧
 ((Qv (Pt 1000 0)) ∧
 True)))))))))))))))) ∧
 (∃ n3 : Int,
 ((Says C 49 [(D.val (vI 0)), (D.val (vI 1000)), (D.sl 2 1 [(vI x3), (vI x4)])] [(D.val (vI n3))]) ∧
 ((((Qv (Sl 1004 1 1)) ∧
 (Qv (some (AObj.cells [(vI x3), (vI x4)] 23 false 2)))) ∧
 ((Qv (Value.agg [(vI x3), (vI x4)].toArray)) ∧
 ((Qv (Pt 1000 3)) ∧
 ((Qv (vI x4)) ∧
 ((Qv (Pt 1000 4)) ∧
 ((Qv (Pt 1000 3)) ∧
 ((Qv (vI x3)) ∧
 ((Qv (Pt 1000 3)) ∧
 ((Qv (Pt 1000 3)) ∧
 ((Qv (vI x2)) ∧
 ((Qv (Pt 1000 2)) ∧
 ((Qv (vI x1)) ∧
 ((Qv (Pt 1000 1)) ∧
 ((Qv (vI x0)) ∧
 ((Qv (Pt 1000 0)) ∧
 True))))))))))))))) ∧
 (∃ n4 : Int,
 ((Says C 137 [(D.sl 1 2 [(vI x3), (vI x4)])] [(D.val (vI n4))]) ∧
 ((((Qv (Sl 1005 4 4)) ∧
 (Qv (some (AObj.cells [(vI n1), (vI n2), (vI n3), (vI n4)] 35 false 1)))) ∧
 ((Qv (Value.agg [(vI x3), (vI x4)].toArray)) ∧
 ((Qv (Pt 1000 3)) ∧
 ((Qv (vI x4)) ∧
 ((Qv (Pt 1000 4)) ∧
 ((Qv (Pt 1000 3)) ∧
 ((Qv (vI x3)) ∧
 ((Qv (Pt 1000 3)) ∧
 ((Qv (Pt 1000 3)) ∧
 ((Qv (vI x2)) ∧
 ((Qv (Pt 1000 2)) ∧
 ((Qv (vI x1)) ∧
 ((Qv (Pt 1000 1)) ∧
 ((Qv (vI x0)) ∧
 ((Qv (Pt 1000 0)) ∧
 True))))))))))))))) ∧
 (∃ n5 : Int,
 ((Says C 48 [(D.sl 4 1 [(vI n1), (vI n2), (vI n3), (vI n4)])] [(D.val (vI n5))]) ∧
 (((Qv (Value.agg [(vI x3), (vI x4)].toArray)) ∧
 ((Qv (Pt 1000 3)) ∧
 ((Qv (vI x4)) ∧
 ((Qv (Pt 1000 4)) ∧
 ((Qv (Pt 1000 3)) ∧
 ((Qv (vI x3)) ∧
 ((Qv (Pt 1000 3)) ∧
 ((Qv (Pt 1000 3)) ∧
 ((Qv (vI x2)) ∧
 ((Qv (Pt 1000 2)) ∧
 ((Qv (vI x1)) ∧
 ((Qv (Pt 1000 1)) ∧
 ((Qv (vI x0)) ∧
 ((Qv (Pt 1000 0)) ∧
 True)))))))))))))) ∧
 (True ∧
 (k [(D.val (vI n5))])))))))))))))))))) := by kernel_rfl
def gCT (C : Ct) (L : AtLoop) (x0 : Int) (k : List D → Prop) : Prop := wpFn Tryz.prog (hP C) L 0 126 #[.int .i64 x0] (heapOf []) (dataK k)
theorem gCT_text (C : Ct) (L : AtLoop) (x0 : Int) (k : List D → Prop) : gCT C L x0 k =
 (∃ n1 : Int,
 ((Says C 49 [(D.val (vI 1)), (D.val (vI 1000)), (D.sl 1 1 [(vI x0)])] [(D.val (vI n1))]) ∧
 (k [(D.val (vI n1))]))) := by kernel_rfl
def gKR (C : Ct) (L : AtLoop) (x0 : Int) (x1 : Int) (x2 : Int) (x3 : Int) (x4 : Int) (x5 : Int) (n6 : Nat) (c6 : Nat) (l6 : List Value) (x7 : Int) (x8 : Int) (x9 : Int) (x10 : Int) (k : List D → Prop) : Prop := wpFn Tryz.prog (hP C) L 0 114 #[.agg #[.int .i64 x0, .int .i64 x1, .int .i64 x2, .int .i64 x3, .int .i64 x4, .int .i64 x5, .slice (some ⟨500, 0, none⟩) n6 c6, .int .i64 x7, .int .i64 x8, .int .i64 x9, .int .i64 x10]] (heapOf [(500, .sym l6 false 5)]) (dataK k)
theorem gKR_text (C : Ct) (L : AtLoop) (x0 : Int) (x1 : Int) (x2 : Int) (x3 : Int) (x4 : Int) (x5 : Int) (n6 : Nat) (c6 : Nat) (l6 : List Go.Value) (x7 : Int) (x8 : Int) (x9 : Int) (x10 : Int) (k : List D → Prop) : gKR C L x0 x1 x2 x3 x4 x5 n6 c6 l6 x7 x8 x9 x10 k =
 (((Qv (Sl 500 (n6) (c6))) ∧
 ((Qv (Pt 1000 6)) ∧
 (((Qv (Sl 1006 4 4)) ∧
 (Qv (some (AObj.cells [(vI x2), (vI x1), (vI x3), (vI x4), (vI x7), (vI x8), (vI x9), (vI x10)] 23 false 2)))) ∧
 ((Qv (Value.agg [(vI x9), (vI x10)].toArray)) ∧
 ((Qv (Pt 1000 9)) ∧
 ((Qv (Value.agg [(vI x7), (vI x8)].toArray)) ∧
 ((Qv (Pt 1000 7)) ∧
 ((Qv (Value.agg [(vI x3), (vI x4)].toArray)) ∧
 ((Qv (Pt 1000 3)) ∧
 ((Qv (Value.agg [(vI x2), (vI x1)].toArray)) ∧
 ((Qv (vI x1)) ∧
 ((Qv (Pt 1000 1)) ∧
 ((Qv (vI x2)) ∧
 ((Qv (Pt 1000 2)) ∧
 (((Qv (Sl 1005 2 2)) ∧
 (Qv (some (AObj.cells [(vI x9), (vI x10)] 3 false 1)))) ∧
 ((Qv (vI x10)) ∧
 ((Qv (Pt 1000 10)) ∧
 ((Qv (Pt 1000 9)) ∧
 ((Qv (vI x9)) ∧
 ((Qv (Pt 1000 9)) ∧
 ((Qv (Pt 1000 9)) ∧
 (((Qv (Sl 1004 2 2)) ∧
 (Qv (some (AObj.cells [(vI x7), (vI x8)] 3 false 1)))) ∧
 ((Qv (vI x8)) ∧
 ((Qv (Pt 1000 8)) ∧
 ((Qv (Pt 1000 7)) ∧
 ((Qv (vI x7)) ∧
 ((Qv (Pt 1000 7)) ∧
 ((Qv (Pt 1000 7)) ∧
 (((Qv (Sl 1003 3 3)) ∧
 (Qv (some (AObj.cells [(vI x3), (vI x4), (vI x5)] 3 false 1)))) ∧
 ((Qv (vI x5)) ∧
 ((Qv (Pt 1000 5)) ∧
 ((Qv (vI x4)) ∧
 ((Qv (Pt 1000 4)) ∧
 ((Qv (Pt 1000 3)) ∧
 ((Qv (vI x3)) ∧
 ((Qv (Pt 1000 3)) ∧
 ((Qv (Pt 1000 3)) ∧
 (((Qv (Sl 1002 2 2)) ∧
 (Qv (some (AObj.cells [(vI x1), (vI x2)] 3 false 1)))) ∧
 ((Qv (vI x2)) ∧
 ((Qv (Pt 1000 2)) ∧
 ((Qv (vI x1)) ∧
 ((Qv (Pt 1000 1)) ∧
 (((Qv (Sl 1001 1 1)) ∧
 (Qv (some (AObj.cells [(vI x0)] 3 false 1)))) ∧
 ((Qv (vI x0)) ∧
 ((Qv (Pt 1000 0)) ∧
 True))))))))))))))))))))))))))))))))))))))))))))) ∧
 (∃ n1 : Int,
 ((Says C 49 [(D.val (vI 1)), (D.val (vI 2500)), (D.sl 1 1 [(vI x0)])] [(D.val (vI n1))]) ∧
 (((Qv (Sl 500 (n6) (c6))) ∧
 ((Qv (Pt 1000 6)) ∧
 (((Qv (Sl 1006 4 4)) ∧
 (Qv (some (AObj.cells [(vI x2), (vI x1), (vI x3), (vI x4), (vI x7), (vI x8), (vI x9), (vI x10)] 23 false 2)))) ∧
 ((Qv (Value.agg [(vI x9), (vI x10)].toArray)) ∧
 ((Qv (Pt 1000 9)) ∧
 ((Qv (Value.agg [(vI x7), (vI x8)].toArray)) ∧
 ((Qv (Pt 1000 7)) ∧
 ((Qv (Value.agg [(vI x3), (vI x4)].toArray)) ∧
 ((Qv (Pt 1000 3)) ∧
 ((Qv (Value.agg [(vI x2), (vI x1)].toArray)) ∧
 ((Qv (vI x1)) ∧
 ((Qv (Pt 1000 1)) ∧
 ((Qv (vI x2)) ∧
 ((Qv (Pt 1000 2)) ∧
 (((Qv (Sl 1005 2 2)) ∧
 (Qv (some (AObj.cells [(vI x9), (vI x10)] 3 false 1)))) ∧
 ((Qv (vI x10)) ∧
 ((Qv (Pt 1000 10)) ∧
 ((Qv (Pt 1000 9)) ∧
 ((Qv (vI x9)) ∧
 ((Qv (Pt 1000 9)) ∧
 ((Qv (Pt 1000 9)) ∧
 (((Qv (Sl 1004 2 2)) ∧
 (Qv (some (AObj.cells [(vI x7), (vI x8)] 3 false 1)))) ∧
 ((Qv (vI x8)) ∧
 ((Qv (Pt 1000 8)) ∧
 ((Qv (Pt 1000 7)) ∧
 ((Qv (vI x7)) ∧
 ((Qv (Pt 1000 7)) ∧
 ((Qv (Pt 1000 7)) ∧
 (((Qv (Sl 1003 3 3)) ∧
 (Qv (some (AObj.cells [(vI x3), (vI x4), (vI x5)] 3 false 1)))) ∧
 ((Qv (vI x5)) ∧
 ((Qv (Pt 1000 5)) ∧
 ((Qv (vI x4)) ∧
 ((Qv (Pt 1000 4)) ∧
 ((Qv (Pt 1000 3)) ∧
 ((Qv (vI x3)) ∧
 ((Qv (Pt 1000 3)) ∧
 ((Qv (Pt 1000 3)) ∧
 (((Qv (Sl 1002 2 2)) ∧
 (Qv (some (AObj.cells [(vI x1), (vI x2)] 3 false 1)))) ∧
 ((Qv (vI x2)) ∧
 ((Qv (Pt 1000 2)) ∧
 ((Qv (vI x1)) ∧
 ((Qv (Pt 1000 1)) ∧
 ((Qv (vI x0)) ∧
 ((Qv (Pt 1000 0)) ∧
 True)))))))))))))))))))))))))))))))))))))))))))) ∧
 (∃ n2 : Int,
 ((Says C 49 [(D.val (vI 1)), (D.val (vI 1000)), (D.sl 2 1 [(vI x1), (vI x2)])] [(D.val (vI n2))]) ∧
 (((Qv (Sl 500 (n6) (c6))) ∧
 ((Qv (Pt 1000 6)) ∧
 (((Qv (Sl 1006 4 4)) ∧
 (Qv (some (AObj.cells [(vI x2), (vI x1), (vI x3), (vI x4), (vI x7), (vI x8), (vI x9), (vI x10)] 23 false 2)))) ∧
 ((Qv (Value.agg [(vI x9), (vI x10)].toArray)) ∧
 ((Qv (Pt 1000 9)) ∧
 ((Qv (Value.agg [(vI x7), (vI x8)].toArray)) ∧
 ((Qv (Pt 1000 7)) ∧
 ((Qv (Value.agg [(vI x3), (vI x4)].toArray)) ∧
 ((Qv (Pt 1000 3)) ∧
 ((Qv (Value.agg [(vI x2), (vI x1)].toArray)) ∧
 ((Qv (vI x1)) ∧
 ((Qv (Pt 1000 1)) ∧
 ((Qv (vI x2)) ∧
 ((Qv (Pt 1000 2)) ∧
 (((Qv (Sl 1005 2 2)) ∧
 (Qv (some (AObj.cells [(vI x9), (vI x10)] 3 false 1)))) ∧
 ((Qv (vI x10)) ∧
 ((Qv (Pt 1000 10)) ∧
 ((Qv (Pt 1000 9)) ∧
 ((Qv (vI x9)) ∧
 ((Qv (Pt 1000 9)) ∧
 ((Qv (Pt 1000 9)) ∧
 (((Qv (Sl 1004 2 2)) ∧
 (Qv (some (AObj.cells [(vI x7), (vI x8)] 3 false 1)))) ∧
 ((Qv (vI x8)) ∧
 ((Qv (Pt 1000 8)) ∧
 ((Qv (Pt 1000 7)) ∧
 ((Qv (vI x7)) ∧
 ((Qv (Pt 1000 7)) ∧
 ((Qv (Pt 1000 7)) ∧
 (((Qv (Sl 1003 3 3)) ∧
 (Qv (some (AObj.cells [(vI x3), (vI x4), (vI x5)] 3 false 1)))) ∧
 ((Qv (vI x5)) ∧
 ((Qv (Pt 1000 5)) ∧
 ((Qv (vI x4)) ∧
 ((Qv (Pt 1000 4)) ∧
 ((Qv (Pt 1000 3)) ∧
 ((Qv (vI x3)) ∧
 ((Qv (Pt 1000 3)) ∧
 ((Qv (Pt 1000 3)) ∧
 ((Qv (vI x2)) ∧
 ((Qv (Pt 1000 2)) ∧
 ((Qv (vI x1)) ∧
 ((Qv (Pt 1000 1)) ∧
 ((Qv (vI x0)) ∧
 ((Qv (Pt 1000 0)) ∧
 True))))))))))))))))))))))))))))))))))))))))))) ∧
 (∃ n3 : Int,
 ((Says C 49 [(D.val (vI 0)), (D.val (vI 20000)), (D.sl 3 1 [(vI x3), (vI x4), (vI x5)])] [(D.val (vI n3))]) ∧
 (((Qv (Sl 500 (n6) (c6))) ∧
 ((Qv (Pt 1000 6)) ∧
 (((Qv (Sl 1006 4 4)) ∧
 (Qv (some (AObj.cells [(vI x2), (vI x1), (vI x3), (vI x4), (vI x7), (vI x8), (vI x9), (vI x10)] 23 false 2)))) ∧
 ((Qv (Value.agg [(vI x9), (vI x10)].toArray)) ∧
 ((Qv (Pt 1000 9)) ∧
 ((Qv (Value.agg [(vI x7), (vI x8)].toArray)) ∧
 ((Qv (Pt 1000 7)) ∧
 ((Qv (Value.agg [(vI x3), (vI x4)].toArray)) ∧
 ((Qv (Pt 1000 3)) ∧
 ((Qv (Value.agg [(vI x2), (vI x1)].toArray)) ∧
 ((Qv (vI x1)) ∧
 ((Qv (Pt 1000 1)) ∧
 ((Qv (vI x2)) ∧
 ((Qv (Pt 1000 2)) ∧
 (((Qv (Sl 1005 2 2)) ∧
 (Qv (some (AObj.cells [(vI x9), (vI x10)] 3 false 1)))) ∧
 ((Qv (vI x10)) ∧
 ((Qv (Pt 1000 10)) ∧
 ((Qv (Pt 1000 9)) ∧
 ((Qv (vI x9)) ∧
 ((Qv (Pt 1000 9)) ∧
 ((Qv (Pt 1000 9)) ∧
 (((Qv (Sl 1004 2 2)) ∧
 (Qv (some (AObj.cells [(vI x7), (vI x8)] 3 false 1)))) ∧
 ((Qv (vI x8)) ∧
 ((Qv (Pt 1000 8)) ∧
 ((Qv (Pt 1000 7)) ∧
 ((Qv (vI x7)) ∧
 ((Qv (Pt 1000 7)) ∧
 ((Qv (Pt 1000 7)) ∧
 ((Qv (vI x5)) ∧
 ((Qv (Pt 1000 5)) ∧
 ((Qv (vI x4)) ∧
 ((Qv (Pt 1000 4)) ∧
 ((Qv (Pt 1000 3)) ∧
 ((Qv (vI x3)) ∧
 ((Qv (Pt 1000 3)) ∧
 ((Qv (Pt 1000 3)) ∧
 ((Qv (vI x2)) ∧
 ((Qv (Pt 1000 2)) ∧
 ((Qv (vI x1)) ∧
 ((Qv (Pt 1000 1)) ∧
 ((Qv (vI x0)) ∧
 ((Qv (Pt 1000 0)) ∧
 True)))))))))))))))))))))))))))))))))))))))))) ∧
 (∃ n4 : Int,
 ((Says C 49 [(D.val (vI 1)), (D.val (vI 100)), (D.sl 2 1 [(vI x7), (vI x8)])] [(D.val (vI n4))]) ∧
 (((Qv (Sl 500 (n6) (c6))) ∧
 ((Qv (Pt 1000 6)) ∧
 (((Qv (Sl 1006 4 4)) ∧
 (Qv (some (AObj.cells [(vI x2), (vI x1), (vI x3), (vI x4), (vI x7), (vI x8), (vI x9), (vI x10)] 23 false 2)))) ∧
 ((Qv (Value.agg [(vI x9), (vI x10)].toArray)) ∧
 ((Qv (Pt 1000 9)) ∧
 ((Qv (Value.agg [(vI x7), (vI x8)].toArray)) ∧
 ((Qv (Pt 1000 7)) ∧
 ((Qv (Value.agg [(vI x3), (vI x4)].toArray)) ∧
 ((Qv (Pt 1000 3)) ∧
 ((Qv (Value.agg [(vI x2), (vI x1)].toArray)) ∧
 ((Qv (vI x1)) ∧
 ((Qv (Pt 1000 1)) ∧
 ((Qv (vI x2)) ∧
 ((Qv (Pt 1000 2)) ∧
 (((Qv (Sl 1005 2 2)) ∧
 (Qv (some (AObj.cells [(vI x9), (vI x10)] 3 false 1)))) ∧
 ((Qv (vI x10)) ∧
 ((Qv (Pt 1000 10)) ∧
 ((Qv (Pt 1000 9)) ∧
 ((Qv (vI x9)) ∧
 ((Qv (Pt 1000 9)) ∧
 ((Qv (Pt 1000 9)) ∧
 ((Qv (vI x8)) ∧
 ((Qv (Pt 1000 8)) ∧
 ((Qv (Pt 1000 7)) ∧
 ((Qv (vI x7)) ∧
 ((Qv (Pt 1000 7)) ∧
 ((Qv (Pt 1000 7)) ∧
 ((Qv (vI x5)) ∧
 ((Qv (Pt 1000 5)) ∧
 ((Qv (vI x4)) ∧
 ((Qv (Pt 1000 4)) ∧
 ((Qv (Pt 1000 3)) ∧
 ((Qv (vI x3)) ∧
 ((Qv (Pt 1000 3)) ∧
 ((Qv (Pt 1000 3)) ∧
 ((Qv (vI x2)) ∧
 ((Qv (Pt 1000 2)) ∧
 ((Qv (vI x1)) ∧
 ((Qv (Pt 1000 1)) ∧
 ((Qv (vI x0)) ∧
 ((Qv (Pt 1000 0)) ∧
 True))))))))))))))))))))))))))))))))))))))))) ∧
 (∃ n5 : Int,
 ((Says C 49 [(D.val (vI 0)), (D.val (vI 100)), (D.sl 2 1 [(vI x9), (vI x10)])] [(D.val (vI n5))]) ∧
 (((Qv (Sl 500 (n6) (c6))) ∧
 ((Qv (Pt 1000 6)) ∧
 (((Qv (Sl 1006 4 4)) ∧
 (Qv (some (AObj.cells [(vI x2), (vI x1), (vI x3), (vI x4), (vI x7), (vI x8), (vI x9), (vI x10)] 23 false 2)))) ∧
 ((Qv (Value.agg [(vI x9), (vI x10)].toArray)) ∧
 ((Qv (Pt 1000 9)) ∧
 ((Qv (Value.agg [(vI x7), (vI x8)].toArray)) ∧
 ((Qv (Pt 1000 7)) ∧
 ((Qv (Value.agg [(vI x3), (vI x4)].toArray)) ∧
 ((Qv (Pt 1000 3)) ∧
 ((Qv (Value.agg [(vI x2), (vI x1)].toArray)) ∧
 ((Qv (vI x1)) ∧
 ((Qv (Pt 1000 1)) ∧
 ((Qv (vI x2)) ∧
 ((Qv (Pt 1000 2)) ∧
 ((Qv (vI x10)) ∧
 ((Qv (Pt 1000 10)) ∧
 ((Qv (Pt 1000 9)) ∧
 ((Qv (vI x9)) ∧
 ((Qv (Pt 1000 9)) ∧
 ((Qv (Pt 1000 9)) ∧
 ((Qv (vI x8)) ∧
 ((Qv (Pt 1000 8)) ∧
 ((Qv (Pt 1000 7)) ∧
 ((Qv (vI x7)) ∧
 ((Qv (Pt 1000 7)) ∧
 ((Qv (Pt 1000 7)) ∧
 ((Qv (vI x5)) ∧
 ((Qv (Pt 1000 5)) ∧
 ((Qv (vI x4)) ∧
 ((Qv (Pt 1000 4)) ∧
 ((Qv (Pt 1000 3)) ∧
 ((Qv (vI x3)) ∧
 ((Qv (Pt 1000 3)) ∧
 ((Qv (Pt 1000 3)) ∧
 ((Qv (vI x2)) ∧
 ((Qv (Pt 1000 2)) ∧
 ((Qv (vI x1)) ∧
 ((Qv (Pt 1000 1)) ∧
 ((Qv (vI x0)) ∧
 ((Qv (Pt 1000 0)) ∧
 True)))))))))))))))))))))))))))))))))))))))) ∧
 (∃ n7 : Int,
 ((Says C 137 [(D.sl 4 2 [(vI x2), (vI x1), (vI x3), (vI x4), (vI x7), (vI x8), (vI x9), (vI x10)])] [(D.val (vI n7))]) ∧
 (((Qv (Sl 500 (n6) (c6))) ∧
 ((Qv (Pt 1000 6)) ∧
 ((Qv (Value.agg [(vI x9), (vI x10)].toArray)) ∧
 ((Qv (Pt 1000 9)) ∧
 ((Qv (Value.agg [(vI x7), (vI x8)].toArray)) ∧
 ((Qv (Pt 1000 7)) ∧
 ((Qv (Value.agg [(vI x3), (vI x4)].toArray)) ∧
 ((Qv (Pt 1000 3)) ∧
 ((Qv (Value.agg [(vI x2), (vI x1)].toArray)) ∧
 ((Qv (vI x1)) ∧
 ((Qv (Pt 1000 1)) ∧
 ((Qv (vI x2)) ∧
 ((Qv (Pt 1000 2)) ∧
 ((Qv (vI x10)) ∧
 ((Qv (Pt 1000 10)) ∧
 ((Qv (Pt 1000 9)) ∧
 ((Qv (vI x9)) ∧
 ((Qv (Pt 1000 9)) ∧
 ((Qv (Pt 1000 9)) ∧
 ((Qv (vI x8)) ∧
 ((Qv (Pt 1000 8)) ∧
 ((Qv (Pt 1000 7)) ∧
 ((Qv (vI x7)) ∧
 ((Qv (Pt 1000 7)) ∧
 ((Qv (Pt 1000 7)) ∧
 ((Qv (vI x5)) ∧
 ((Qv (Pt 1000 5)) ∧
 ((Qv (vI x4)) ∧
 ((Qv (Pt 1000 4)) ∧
 ((Qv (Pt 1000 3)) ∧
 ((Qv (vI x3)) ∧
 ((Qv (Pt 1000 3)) ∧
 ((Qv (Pt 1000 3)) ∧
 ((Qv (vI x2)) ∧
 ((Qv (Pt 1000 2)) ∧
 ((Qv (vI x1)) ∧
 ((Qv (Pt 1000 1)) ∧
 ((Qv (vI x0)) ∧
 ((Qv (Pt 1000 0)) ∧
 True))))))))))))))))))))))))))))))))))))))) ∧
 (bcase (decide (0 + n6 * 5 ≤ List.length l6))
 (∃ n8 : Int,
 ((Says C 138 [(D.sl (n6) 5 (List.take (n6 * 5) (List.drop 0 l6)))] [(D.val (vI n8))]) ∧
 ((((Qv (Sl 1007 7 7)) ∧
 (Qv (some (AObj.cells [(vI n1), (vI n2), (vI n3), (vI n4), (vI n5), (vI n7), (vI n8)] 35 false 1)))) ∧
 ((Qv (Pt 1000 6)) ∧
 ((Qv (Value.agg [(vI x9), (vI x10)].toArray)) ∧
 ((Qv (Pt 1000 9)) ∧
 ((Qv (Value.agg [(vI x7), (vI x8)].toArray)) ∧
 ((Qv (Pt 1000 7)) ∧
 ((Qv (Value.agg [(vI x3), (vI x4)].toArray)) ∧
 ((Qv (Pt 1000 3)) ∧
 ((Qv (Value.agg [(vI x2), (vI x1)].toArray)) ∧
 ((Qv (vI x1)) ∧
 ((Qv (Pt 1000 1)) ∧
 ((Qv (vI x2)) ∧
 ((Qv (Pt 1000 2)) ∧
 ((Qv (vI x10)) ∧
 ((Qv (Pt 1000 10)) ∧
 ((Qv (Pt 1000 9)) ∧
 ((Qv (vI x9)) ∧
 ((Qv (Pt 1000 9)) ∧
 ((Qv (Pt 1000 9)) ∧
 ((Qv (vI x8)) ∧
 ((Qv (Pt 1000 8)) ∧
 ((Qv (Pt 1000 7)) ∧
 ((Qv (vI x7)) ∧
 ((Qv (Pt 1000 7)) ∧
 ((Qv (Pt 1000 7)) ∧
 ((Qv (vI x5)) ∧
 ((Qv (Pt 1000 5)) ∧
 ((Qv (vI x4)) ∧
 ((Qv (Pt 1000 4)) ∧
 ((Qv (Pt 1000 3)) ∧
 ((Qv (vI x3)) ∧
 ((Qv (Pt 1000 3)) ∧
 ((Qv (Pt 1000 3)) ∧
 ((Qv (vI x2)) ∧
 ((Qv (Pt 1000 2)) ∧
 ((Qv (vI x1)) ∧
 ((Qv (Pt 1000 1)) ∧
 ((Qv (vI x0)) ∧
 ((Qv (Pt 1000 0)) ∧
 True))))))))))))))))))))))))))))))))))))))) ∧
 (∃ n9 : Int,
 ((Says C 48 [(D.sl 7 1 [(vI n1), (vI n2), (vI n3), (vI n4), (vI n5), (vI n7), (vI n8)])] [(D.val (vI n9))]) ∧
 (((Qv (Pt 1000 6)) ∧
 ((Qv (Value.agg [(vI x9), (vI x10)].toArray)) ∧
 ((Qv (Pt 1000 9)) ∧
 ((Qv (Value.agg [(vI x7), (vI x8)].toArray)) ∧
 ((Qv (Pt 1000 7)) ∧
 ((Qv (Value.agg [(vI x3), (vI x4)].toArray)) ∧
 ((Qv (Pt 1000 3)) ∧
 ((Qv (Value.agg [(vI x2), (vI x1)].toArray)) ∧
 ((Qv (vI x1)) ∧
 ((Qv (Pt 1000 1)) ∧
 ((Qv (vI x2)) ∧
 ((Qv (Pt 1000 2)) ∧
 ((Qv (vI x10)) ∧
 ((Qv (Pt 1000 10)) ∧
 ((Qv (Pt 1000 9)) ∧
 ((Qv (vI x9)) ∧
 ((Qv (Pt 1000 9)) ∧
 ((Qv (Pt 1000 9)) ∧
 ((Qv (vI x8)) ∧
 ((Qv (Pt 1000 8)) ∧
 ((Qv (Pt 1000 7)) ∧
 ((Qv (vI x7)) ∧
 ((Qv (Pt 1000 7)) ∧
 ((Qv (Pt 1000 7)) ∧
 ((Qv (vI x5)) ∧
 ((Qv (Pt 1000 5)) ∧
 ((Qv (vI x4)) ∧
 ((Qv (Pt 1000 4)) ∧
 ((Qv (Pt 1000 3)) ∧
 ((Qv (vI x3)) ∧
 ((Qv (Pt 1000 3)) ∧
 ((Qv (Pt 1000 3)) ∧
 ((Qv (vI x2)) ∧
 ((Qv (Pt 1000 2)) ∧
 ((Qv (vI x1)) ∧
 ((Qv (Pt 1000 1)) ∧
 ((Qv (vI x0)) ∧
 ((Qv (Pt 1000 0)) ∧
 True)))))))))))))))))))))))))))))))))))))) ∧
 (True ∧
 (bcase (n9 != 0)
 (k [(D.val (vI 0)), (D.val (vI n9))])
 (L 0 [(Prod.mk 66 (Sl 500 (n6) (c6))), (Prod.mk 67 (vI ((↑n6 : Int)))), (Prod.mk 68 (vI 0))] [(Prod.mk 500 (AObj.sym (l6) false 5))])))))))))
 False)))))))))))))))))))) := by kernel_rfl
abbrev zKR1 (n0 : Nat) (c1 : Nat) (x2 : Int) (x3 : Int) (l4 : List Value) : Slots × Blocks := ([(66, (Value.slice (some ⟨500, 0, none⟩) n0 c1)), (67, (Value.int .i64 x2)), (68, (Value.int .i64 x3))], [(500, (AObj.sym l4 false 5))])
def rKR1 (C : Ct) (L : AtLoop) (n0 : Nat) (c1 : Nat) (x2 : Int) (x3 : Int) (l4 : List Value) (B : Bx) (X : Xx) (k : List D → Prop) : Prop := wpRound Tryz.prog (hP C) L 114 0 [(66, (Value.slice (some ⟨500, 0, none⟩) n0 c1)), (67, (Value.int .i64 x2)), (68, (Value.int .i64 x3))] [(500, (AObj.sym l4 false 5))] B X (dataK k)
theorem rKR1_text (C : Ct) (L : AtLoop) (n0 : Nat) (c1 : Nat) (x2 : Int) (x3 : Int) (l4 : List Go.Value) (B : Bx) (X : Xx) (k : List D → Prop) : rKR1 C L n0 c1 x2 x3 l4 B X k =
 (bcase (decide (x3 < x2))
 (bcase (decide (0 ≤ x3))
 (bcase (decide (x3 < (↑n0 : Int)))
 (∃ n1 : Int,
 (∃ n2 : Int,
 (∃ n3 : Int,
 (∃ n4 : Int,
 (∃ n5 : Int,
 ((At (l4) (0 + Int.toNat x3 * 5) 5 [(vI n1), (vI n2), (vI n3), (vI n4), (vI n5)]) ∧
 (∃ n6 : Int,
 ((Says C 139 [(D.agg [(D.val (vI n1)), (D.val (vI n2)), (D.val (vI n3)), (D.val (vI n4)), (D.val (vI n5))])] [(D.val (vI n6))]) ∧
 (bcase (n6 != 0)
 (k [(D.val (vI x3)), (D.val (vI n6))])
 (B [(Prod.mk 66 (Sl 500 (n0) (c1))), (Prod.mk 67 (vI x2)), (Prod.mk 68 (vI (IntKind.wrap .i64 (x3 + 1))))] [(Prod.mk 500 (AObj.sym (l4) false 5))]))))))))))
 False)
 False)
 (X 0 [] [])) := by kernel_rfl
def nKR2 (C : Ct) (L : AtLoop) (k : List D → Prop) : Prop := wpNext Tryz.prog (hP C) L 114 0 .normal [] [] (dataK k)
theorem nKR2_text (C : Ct) (L : AtLoop) (k : List D → Prop) : nKR2 C L k =
 (k [(D.val (vI 0)), (D.val (vI 0))]) := by kernel_rfl
def giL (C : Ct) (L : AtLoop) (x0 : Int) (k : List D → Prop) : Prop := wpFn Tryz.prog (hP C) L 0 142 #[.int .u8 x0] (heapOf []) (dataK k)
theorem giL_text (C : Ct) (L : AtLoop) (x0 : Int) (k : List D → Prop) : giL C L x0 k =
 (bcase (decide (97 ≤ x0))
 (bcase (decide (x0 ≤ 122))
 (k [(D.val (Value.bool true))])
 (bcase (decide (65 ≤ x0))
 (bcase (decide (x0 ≤ 90))
 (k [(D.val (Value.bool true))])
 (k [(D.val (Value.bool false))]))
 (k [(D.val (Value.bool false))])))
 (bcase (decide (65 ≤ x0))
 (bcase (decide (x0 ≤ 90))
 (k [(D.val (Value.bool true))])
 (k [(D.val (Value.bool false))]))
 (k [(D.val (Value.bool false))]))) := by kernel_rfl
def giD (C : Ct) (L : AtLoop) (x0 : Int) (k : List D → Prop) : Prop := wpFn Tryz.prog (hP C) L 0 143 #[.int .u8 x0] (heapOf []) (dataK k)
theorem giD_text (C : Ct) (L : AtLoop) (x0 : Int) (k : List D → Prop) : giD C L x0 k =
 (bcase (decide (48 ≤ x0))
 (bcase (decide (x0 ≤ 57))
 (k [(D.val (Value.bool true))])
 (k [(D.val (Value.bool false))]))
 (k [(D.val (Value.bool false))])) := by kernel_rfl
def giN (C : Ct) (L : AtLoop) (s0 : ByteArray) (k : List D → Prop) : Prop := wpFn Tryz.prog (hP C) L 0 125 #[.string s0] (heapOf []) (dataK k)
theorem giN_text (C : Ct) (L : AtLoop) (s0 : ByteArray) (k : List D → Prop) : giN C L s0 k =
 (bcase ((↑(ByteArray.size s0) : Int) == 0)
 (k [(D.val (Value.bool false))])
 (bcase (decide ((↑(ByteArray.size s0) : Int) > 12))
 (k [(D.val (Value.bool false))])
 (∃ b1 : UInt8,
 ((ByteAt (s0) 0 (b1)) ∧
 (((Says C 142 [(D.val (Value.int IntKind.u8 ((↑(UInt8.toNat b1) : Int))))] [(D.val (Value.bool true))]) ∧
 (L 0 [(Prod.mk 0 (Value.string (s0))), (Prod.mk 19 (vI ((↑(ByteArray.size s0) : Int)))), (Prod.mk 20 (vI 0))] [])) ∨
 ((Says C 142 [(D.val (Value.int IntKind.u8 ((↑(UInt8.toNat b1) : Int))))] [(D.val (Value.bool false))]) ∧
 (k [(D.val (Value.bool false))]))))))) := by kernel_rfl
abbrev ziN1 (s0 : ByteArray) (x1 : Int) (x2 : Int) : Slots × Blocks := ([(0, (Value.string s0)), (19, (Value.int .i64 x1)), (20, (Value.int .i64 x2))], [])
def riN1 (C : Ct) (L : AtLoop) (s0 : ByteArray) (x1 : Int) (x2 : Int) (B : Bx) (X : Xx) (k : List D → Prop) : Prop := wpRound Tryz.prog (hP C) L 125 0 [(0, (Value.string s0)), (19, (Value.int .i64 x1)), (20, (Value.int .i64 x2))] [] B X (dataK k)
theorem riN1_text (C : Ct) (L : AtLoop) (s0 : ByteArray) (x1 : Int) (x2 : Int) (B : Bx) (X : Xx) (k : List D → Prop) : riN1 C L s0 x1 x2 B X k =
 (bcase (decide (x2 < x1))
 (bcase (decide (0 ≤ x2))
 (∃ b1 : UInt8,
 ((ByteAt (s0) (Int.toNat x2) (b1)) ∧
 (((Says C 142 [(D.val (Value.int IntKind.u8 ((↑(UInt8.toNat b1) : Int))))] [(D.val (Value.bool true))]) ∧
 (B [(Prod.mk 0 (Value.string (s0))), (Prod.mk 19 (vI x1)), (Prod.mk 20 (vI (IntKind.wrap .i64 (x2 + 1))))] [])) ∨
 ((Says C 142 [(D.val (Value.int IntKind.u8 ((↑(UInt8.toNat b1) : Int))))] [(D.val (Value.bool false))]) ∧
 (bcase (decide (0 ≤ x2))
 (∃ b2 : UInt8,
 ((ByteAt (s0) (Int.toNat x2) (b2)) ∧
 (((Says C 143 [(D.val (Value.int IntKind.u8 ((↑(UInt8.toNat b2) : Int))))] [(D.val (Value.bool true))]) ∧
 (B [(Prod.mk 0 (Value.string (s0))), (Prod.mk 19 (vI x1)), (Prod.mk 20 (vI (IntKind.wrap .i64 (x2 + 1))))] [])) ∨
 ((Says C 143 [(D.val (Value.int IntKind.u8 ((↑(UInt8.toNat b2) : Int))))] [(D.val (Value.bool false))]) ∧
 (bcase (decide (0 ≤ x2))
 (∃ b3 : UInt8,
 ((ByteAt (s0) (Int.toNat x2) (b3)) ∧
 (bcase ((↑(UInt8.toNat b3) : Int) != 45)
 (k [(D.val (Value.bool false))])
 (B [(Prod.mk 0 (Value.string (s0))), (Prod.mk 19 (vI x1)), (Prod.mk 20 (vI (IntKind.wrap .i64 (x2 + 1))))] []))))
 False)))))
 False)))))
 False)
 (X 0 [] [])) := by kernel_rfl
def niN2 (C : Ct) (L : AtLoop) (k : List D → Prop) : Prop := wpNext Tryz.prog (hP C) L 125 0 .normal [] [] (dataK k)
theorem niN2_text (C : Ct) (L : AtLoop) (k : List D → Prop) : niN2 C L k =
 (k [(D.val (Value.bool true))]) := by kernel_rfl
def gKS (C : Ct) (L : AtLoop) (x0 : Int) (x1 : Int) (x2 : Int) (x3 : Int) (x4 : Int) (x5 : Int) (n6 : Nat) (c6 : Nat) (l6 : List Value) (x7 : Int) (x8 : Int) (x9 : Int) (x10 : Int) (s11 : ByteArray) (n12 : Nat) (c12 : Nat) (l12 : List Value) (k : List D → Prop) : Prop := wpFn Tryz.prog (hP C) L 0 95 #[.agg #[.int .i64 x0, .int .i64 x1, .int .i64 x2, .int .i64 x3, .int .i64 x4, .int .i64 x5, .slice (some ⟨500, 0, none⟩) n6 c6, .int .i64 x7, .int .i64 x8, .int .i64 x9, .int .i64 x10], .agg #[.string s11, .slice (some ⟨501, 0, none⟩) n12 c12]] (heapOf [(500, .sym l6 false 5), (501, .sym l12 false 1)]) (dataK k)
theorem gKS_text (C : Ct) (L : AtLoop) (x0 : Int) (x1 : Int) (x2 : Int) (x3 : Int) (x4 : Int) (x5 : Int) (n6 : Nat) (c6 : Nat) (l6 : List Go.Value) (x7 : Int) (x8 : Int) (x9 : Int) (x10 : Int) (s11 : ByteArray) (n12 : Nat) (c12 : Nat) (l12 : List Go.Value) (k : List D → Prop) : gKS C L x0 x1 x2 x3 x4 x5 n6 c6 l6 x7 x8 x9 x10 s11 n12 c12 l12 k =
 (bcase (decide (0 + n6 * 5 ≤ List.length l6))
 (∃ n1 : Int,
 (∃ n2 : Int,
 ((Says C 114 [(D.agg [(D.val (vI x0)), (D.val (vI x1)), (D.val (vI x2)), (D.val (vI x3)), (D.val (vI x4)), (D.val (vI x5)), (D.sl (n6) 5 (List.take (n6 * 5) (List.drop 0 l6))), (D.val (vI x7)), (D.val (vI x8)), (D.val (vI x9)), (D.val (vI x10))])] [(D.val (vI n1)), (D.val (vI n2))]) ∧
 (bcase (n2 != 0)
 (k [(D.val (vI 0)), (D.val (vI n2))])
 (((Says C 125 [(D.val (Value.string (s11)))] [(D.val (Value.bool true))]) ∧
 (bcase ((↑n12 : Int) != (↑n6 : Int))
 (k [(D.val (vI 0)), (D.val (vI 10))])
 (L 1 [(Prod.mk 2 (Pt 1000 0)), (Prod.mk 8 (vI x1)), (Prod.mk 36 (Sl 501 (n12) (c12))), (Prod.mk 37 (vI ((↑n12 : Int)))), (Prod.mk 38 (vI 0))] [(Prod.mk 1000 (AObj.cells [(vI x0), (vI x1), (vI x2), (vI x3), (vI x4), (vI x5), (Sl 500 (n6) (c6)), (vI x7), (vI x8), (vI x9), (vI x10)] 26 false 1)), (Prod.mk 501 (AObj.sym (l12) false 1)), (Prod.mk 500 (AObj.sym (l6) false 5))]))) ∨
 ((Says C 125 [(D.val (Value.string (s11)))] [(D.val (Value.bool false))]) ∧
 (k [(D.val (vI 0)), (D.val (vI 4))])))))))
 False) := by kernel_rfl
abbrev zKS1 (x0 : Int) (n1 : Nat) (c2 : Nat) (x3 : Int) (x4 : Int) (x5 : Int) (x6 : Int) (x7 : Int) (x8 : Int) (x9 : Int) (x10 : Int) (n11 : Nat) (c12 : Nat) (x13 : Int) (x14 : Int) (x15 : Int) (x16 : Int) (l17 : List Value) (l18 : List Value) : Slots × Blocks := ([(2, (Value.pointer (some ⟨1000, 0, none⟩))), (8, (Value.int .i64 x0)), (36, (Value.slice (some ⟨501, 0, none⟩) n1 c2)), (37, (Value.int .i64 x3)), (38, (Value.int .i64 x4))], [(1000, (AObj.cells [(Value.int .i64 x5), (Value.int .i64 x6), (Value.int .i64 x7), (Value.int .i64 x8), (Value.int .i64 x9), (Value.int .i64 x10), (Value.slice (some ⟨500, 0, none⟩) n11 c12), (Value.int .i64 x13), (Value.int .i64 x14), (Value.int .i64 x15), (Value.int .i64 x16)] 26 false 1)), (501, (AObj.sym l17 false 1)), (500, (AObj.sym l18 false 5))])
def rKS1 (C : Ct) (L : AtLoop) (x0 : Int) (n1 : Nat) (c2 : Nat) (x3 : Int) (x4 : Int) (x5 : Int) (x6 : Int) (x7 : Int) (x8 : Int) (x9 : Int) (x10 : Int) (n11 : Nat) (c12 : Nat) (x13 : Int) (x14 : Int) (x15 : Int) (x16 : Int) (l17 : List Value) (l18 : List Value) (B : Bx) (X : Xx) (k : List D → Prop) : Prop := wpRound Tryz.prog (hP C) L 95 1 [(2, (Value.pointer (some ⟨1000, 0, none⟩))), (8, (Value.int .i64 x0)), (36, (Value.slice (some ⟨501, 0, none⟩) n1 c2)), (37, (Value.int .i64 x3)), (38, (Value.int .i64 x4))] [(1000, (AObj.cells [(Value.int .i64 x5), (Value.int .i64 x6), (Value.int .i64 x7), (Value.int .i64 x8), (Value.int .i64 x9), (Value.int .i64 x10), (Value.slice (some ⟨500, 0, none⟩) n11 c12), (Value.int .i64 x13), (Value.int .i64 x14), (Value.int .i64 x15), (Value.int .i64 x16)] 26 false 1)), (501, (AObj.sym l17 false 1)), (500, (AObj.sym l18 false 5))] B X (dataK k)
theorem rKS1_text (C : Ct) (L : AtLoop) (x0 : Int) (n1 : Nat) (c2 : Nat) (x3 : Int) (x4 : Int) (x5 : Int) (x6 : Int) (x7 : Int) (x8 : Int) (x9 : Int) (x10 : Int) (n11 : Nat) (c12 : Nat) (x13 : Int) (x14 : Int) (x15 : Int) (x16 : Int) (l17 : List Go.Value) (l18 : List Go.Value) (B : Bx) (X : Xx) (k : List D → Prop) : rKS1 C L x0 n1 c2 x3 x4 x5 x6 x7 x8 x9 x10 n11 c12 x13 x14 x15 x16 l17 l18 B X k =
 (bcase (decide (x4 < x3))
 (bcase (decide (0 ≤ x4))
 (bcase (decide (x4 < (↑n1 : Int)))
 (∃ n2 : Int,
 ((At (l17) (0 + Int.toNat x4 * 1) 1 [(vI n2)]) ∧
 (∃ n3 : Int,
 ((Says C 126 [(D.val (vI n2))] [(D.val (vI n3))]) ∧
 (bcase (n3 != 0)
 (k [(D.val (vI x4)), (D.val (vI n3))])
 (bcase (decide (n2 > x0))
 (k [(D.val (vI x4)), (D.val (vI 9))])
 (B [(Prod.mk 2 (Pt 1000 0)), (Prod.mk 8 (vI n2)), (Prod.mk 36 (Sl 501 (n1) (c2))), (Prod.mk 37 (vI x3)), (Prod.mk 38 (vI (IntKind.wrap .i64 (x4 + 1))))] [(Prod.mk 1000 (AObj.cells [(vI x5), (vI x6), (vI x7), (vI x8), (vI x9), (vI x10), (Sl 500 (n11) (c12)), (vI x13), (vI x14), (vI x15), (vI x16)] 26 false 1)), (Prod.mk 501 (AObj.sym (l17) false 1)), (Prod.mk 500 (AObj.sym (l18) false 5))])))))))
 False)
 False)
 (X 1 [(Prod.mk 2 (Pt 1000 0)), (Prod.mk 8 (vI x0))] [(Prod.mk 1000 (AObj.cells [(vI x5), (vI x6), (vI x7), (vI x8), (vI x9), (vI x10), (Sl 500 (n11) (c12)), (vI x13), (vI x14), (vI x15), (vI x16)] 26 false 1)), (Prod.mk 500 (AObj.sym (l18) false 5))])) := by kernel_rfl
def nKS2 (C : Ct) (L : AtLoop) (x0 : Int) (x1 : Int) (x2 : Int) (x3 : Int) (x4 : Int) (x5 : Int) (x6 : Int) (n7 : Nat) (c8 : Nat) (x9 : Int) (x10 : Int) (x11 : Int) (x12 : Int) (l13 : List Value) (k : List D → Prop) : Prop := wpNext Tryz.prog (hP C) L 95 1 .normal [(2, (Value.pointer (some ⟨1000, 0, none⟩))), (8, (Value.int .i64 x0))] [(1000, (AObj.cells [(Value.int .i64 x1), (Value.int .i64 x2), (Value.int .i64 x3), (Value.int .i64 x4), (Value.int .i64 x5), (Value.int .i64 x6), (Value.slice (some ⟨500, 0, none⟩) n7 c8), (Value.int .i64 x9), (Value.int .i64 x10), (Value.int .i64 x11), (Value.int .i64 x12)] 26 false 1)), (500, (AObj.sym l13 false 5))] (dataK k)
theorem nKS2_text (C : Ct) (L : AtLoop) (x0 : Int) (x1 : Int) (x2 : Int) (x3 : Int) (x4 : Int) (x5 : Int) (x6 : Int) (n7 : Nat) (c8 : Nat) (x9 : Int) (x10 : Int) (x11 : Int) (x12 : Int) (l13 : List Go.Value) (k : List D → Prop) : nKS2 C L x0 x1 x2 x3 x4 x5 x6 n7 c8 x9 x10 x11 x12 l13 k =
 (bcase (x0 != x3)
 (k [(D.val (vI (IntKind.wrap .i64 ((↑n7 : Int) - 1)))), (D.val (vI 14))])
 (k [(D.val (vI 0)), (D.val (vI 0))])) := by kernel_rfl
def glT (C : Ct) (L : AtLoop) (x0 : Int) (x1 : Int) (k : List D → Prop) : Prop := wpFn Tryz.prog (hP C) L 0 52 #[.int .i64 x0, .int .i64 x1] (heapOf []) (dataK k)
theorem glT_text (C : Ct) (L : AtLoop) (x0 : Int) (x1 : Int) (k : List D → Prop) : glT C L x0 x1 k =
 (L 0 [(Prod.mk 0 (vI x0)), (Prod.mk 1 (vI x1)), (Prod.mk 4 (Pt 1000 0)), (Prod.mk 5 (vI (if IntKind.wrap .i64 (0 - x0) > x0 then IntKind.wrap .i64 (0 - x0) else x0))), (Prod.mk 6 (vI x1))] [(Prod.mk 1000 (AObj.cells [(vI 0), (vI 0)] 48 false 2))]) := by kernel_rfl
abbrev zlT1 (x0 : Int) (x1 : Int) (x2 : Int) (x3 : Int) (x4 : Int) (x5 : Int) : Slots × Blocks := ([(0, (Value.int .i64 x0)), (1, (Value.int .i64 x1)), (4, (Value.pointer (some ⟨1000, 0, none⟩))), (5, (Value.int .i64 x2)), (6, (Value.int .i64 x3))], [(1000, (AObj.cells [(Value.int .i64 x4), (Value.int .i64 x5)] 48 false 2))])
def rlT1 (C : Ct) (L : AtLoop) (x0 : Int) (x1 : Int) (x2 : Int) (x3 : Int) (x4 : Int) (x5 : Int) (B : Bx) (X : Xx) (k : List D → Prop) : Prop := wpRound Tryz.prog (hP C) L 52 0 [(0, (Value.int .i64 x0)), (1, (Value.int .i64 x1)), (4, (Value.pointer (some ⟨1000, 0, none⟩))), (5, (Value.int .i64 x2)), (6, (Value.int .i64 x3))] [(1000, (AObj.cells [(Value.int .i64 x4), (Value.int .i64 x5)] 48 false 2))] B X (dataK k)
theorem rlT1_text (C : Ct) (L : AtLoop) (x0 : Int) (x1 : Int) (x2 : Int) (x3 : Int) (x4 : Int) (x5 : Int) (B : Bx) (X : Xx) (k : List D → Prop) : rlT1 C L x0 x1 x2 x3 x4 x5 B X k =
 (bcase (decide (x3 > 0))
 (bcase (x3 != 0)
 (((bcase (x3 != 0)
 (Qv (vI (Int.tmod x2 x3)))
 False) ∧
 ((Qv (vI x3)) ∧
 ((Qv (vI x2)) ∧
 ((Qv (vI x3)) ∧
 True)))) ∧
 (((bcase (x3 != 0)
 (Qv (vI (Int.tmod x2 x3)))
 False) ∧
 ((Qv (vI x3)) ∧
 True)) ∧
 (True ∧
 (B [(Prod.mk 0 (vI x0)), (Prod.mk 1 (vI x1)), (Prod.mk 4 (Pt 1000 0)), (Prod.mk 5 (vI x3)), (Prod.mk 6 (vI (Int.tmod x2 x3)))] [(Prod.mk 1000 (AObj.cells [(vI x4), (vI x5)] 48 false 2))]))))
 False)
 (X 0 [(Prod.mk 0 (vI x0)), (Prod.mk 1 (vI x1)), (Prod.mk 4 (Pt 1000 0)), (Prod.mk 5 (vI x2))] [(Prod.mk 1000 (AObj.cells [(vI x4), (vI x5)] 48 false 2))])) := by kernel_rfl
def nlT2 (C : Ct) (L : AtLoop) (x0 : Int) (x1 : Int) (x2 : Int) (x3 : Int) (x4 : Int) (k : List D → Prop) : Prop := wpNext Tryz.prog (hP C) L 52 0 .normal [(0, (Value.int .i64 x0)), (1, (Value.int .i64 x1)), (4, (Value.pointer (some ⟨1000, 0, none⟩))), (5, (Value.int .i64 x2))] [(1000, (AObj.cells [(Value.int .i64 x3), (Value.int .i64 x4)] 48 false 2))] (dataK k)
theorem nlT2_text (C : Ct) (L : AtLoop) (x0 : Int) (x1 : Int) (x2 : Int) (x3 : Int) (x4 : Int) (k : List D → Prop) : nlT2 C L x0 x1 x2 x3 x4 k =
 (bcase (x2 != 0)
 (bcase (x2 != 0)
 (((Qv (Value.agg [(vI (IntKind.wrap .i64 (Int.tdiv x0 x2))), (vI (IntKind.wrap .i64 (Int.tdiv x1 x2)))].toArray)) ∧
 ((bcase (x2 != 0)
 (Qv (vI (IntKind.wrap .i64 (Int.tdiv x1 x2))))
 False) ∧
 ((Qv (vI x2)) ∧
 ((Qv (vI x1)) ∧
 ((bcase (x2 != 0)
 (Qv (vI (IntKind.wrap .i64 (Int.tdiv x0 x2))))
 False) ∧
 ((Qv (vI x2)) ∧
 ((Qv (vI x0)) ∧
 True))))))) ∧
 (True ∧
 (k [(D.agg [(D.val (vI (IntKind.wrap .i64 (Int.tdiv x0 x2)))), (D.val (vI (IntKind.wrap .i64 (Int.tdiv x1 x2))))])])))
 False)
 False) := by kernel_rfl
def gfB (C : Ct) (L : AtLoop) (x0 : Int) (x1 : Int) (x2 : Int) (x3 : Int) (x4 : Int) (x5 : Int) (n6 : Nat) (c6 : Nat) (l6 : List Value) (x7 : Int) (x8 : Int) (x9 : Int) (x10 : Int) (x11 : Int) (x12 : Int) (x13 : Int) (x14 : Int) (x15 : Int) (k : List D → Prop) : Prop := wpFn Tryz.prog (hP C) L 0 104 #[.agg #[.int .i64 x0, .int .i64 x1, .int .i64 x2, .int .i64 x3, .int .i64 x4, .int .i64 x5, .slice (some ⟨500, 0, none⟩) n6 c6, .int .i64 x7, .int .i64 x8, .int .i64 x9, .int .i64 x10], .agg #[.int .i64 x11, .int .i64 x12, .int .i64 x13], .int .i64 x14, .int .i64 x15] (heapOf [(500, .sym l6 false 5)]) (dataK k)
theorem gfB_text (C : Ct) (L : AtLoop) (x0 : Int) (x1 : Int) (x2 : Int) (x3 : Int) (x4 : Int) (x5 : Int) (n6 : Nat) (c6 : Nat) (l6 : List Go.Value) (x7 : Int) (x8 : Int) (x9 : Int) (x10 : Int) (x11 : Int) (x12 : Int) (x13 : Int) (x14 : Int) (x15 : Int) (k : List D → Prop) : gfB C L x0 x1 x2 x3 x4 x5 n6 c6 l6 x7 x8 x9 x10 x11 x12 x13 x14 x15 k =
 (bcase (x12 == x13)
 (k [(D.val (vI 0))])
 (((Qv (vI (IntKind.wrap .i64 (x15 * IntKind.wrap .i64 (x12 + x13))))) ∧
 ((Qv (vI (IntKind.wrap .i64 (x12 + x13)))) ∧
 ((Qv (vI x13)) ∧
 ((Qv (Pt 1001 2)) ∧
 ((Qv (vI x12)) ∧
 ((Qv (Pt 1001 1)) ∧
 ((Qv (vI x15)) ∧
 ((Qv (Value.agg [(vI x11), (vI x12), (vI x13)].toArray)) ∧
 ((Qv (vI x14)) ∧
 ((Qv (vI x0)) ∧
 ((Qv (Pt 1000 0)) ∧
 ((Qv (Pt 1000 0)) ∧
 True)))))))))))) ∧
 (((Qv (vI (IntKind.wrap .i64 (x0 * IntKind.wrap .i64 (IntKind.wrap .i64 (x14 * IntKind.wrap .i64 (x12 - x13)) + IntKind.wrap .i64 (x15 * IntKind.wrap .i64 (x12 + x13))))))) ∧
 ((Qv (vI (IntKind.wrap .i64 (IntKind.wrap .i64 (x14 * IntKind.wrap .i64 (x12 - x13)) + IntKind.wrap .i64 (x15 * IntKind.wrap .i64 (x12 + x13)))))) ∧
 ((Qv (vI (IntKind.wrap .i64 (x14 * IntKind.wrap .i64 (x12 - x13))))) ∧
 ((Qv (vI (IntKind.wrap .i64 (x15 * IntKind.wrap .i64 (x12 + x13))))) ∧
 ((Qv (vI (IntKind.wrap .i64 (x12 + x13)))) ∧
 ((Qv (vI x13)) ∧
 ((Qv (Pt 1001 2)) ∧
 ((Qv (vI x12)) ∧
 ((Qv (Pt 1001 1)) ∧
 ((Qv (vI x15)) ∧
 ((Qv (vI x14)) ∧
 ((Qv (vI x0)) ∧
 ((Qv (Pt 1000 0)) ∧
 ((Qv (Pt 1000 0)) ∧
 True)))))))))))))) ∧
 (True ∧
 (k [(D.val (vI (IntKind.wrap .i64 (x0 * IntKind.wrap .i64 (IntKind.wrap .i64 (x14 * IntKind.wrap .i64 (x12 - x13)) + IntKind.wrap .i64 (x15 * IntKind.wrap .i64 (x12 + x13)))))))]))))) := by kernel_rfl
def gfo (C : Ct) (L : AtLoop) (x0 : Int) (x1 : Int) (x2 : Int) (x3 : Int) (x4 : Int) (x5 : Int) (n6 : Nat) (c6 : Nat) (l6 : List Value) (x7 : Int) (x8 : Int) (x9 : Int) (x10 : Int) (x11 : Int) (x12 : Int) (x13 : Int) (k : List D → Prop) : Prop := wpFn Tryz.prog (hP C) L 0 65 #[.agg #[.int .i64 x0, .int .i64 x1, .int .i64 x2, .int .i64 x3, .int .i64 x4, .int .i64 x5, .slice (some ⟨500, 0, none⟩) n6 c6, .int .i64 x7, .int .i64 x8, .int .i64 x9, .int .i64 x10], .agg #[.int .i64 x11, .int .i64 x12, .int .i64 x13]] (heapOf [(500, .sym l6 false 5)]) (dataK k)
theorem gfo_text (C : Ct) (L : AtLoop) (x0 : Int) (x1 : Int) (x2 : Int) (x3 : Int) (x4 : Int) (x5 : Int) (n6 : Nat) (c6 : Nat) (l6 : List Go.Value) (x7 : Int) (x8 : Int) (x9 : Int) (x10 : Int) (x11 : Int) (x12 : Int) (x13 : Int) (k : List D → Prop) : gfo C L x0 x1 x2 x3 x4 x5 n6 c6 l6 x7 x8 x9 x10 x11 x12 x13 k =
 (((Qv (vI x10)) ∧
 ((Qv (Pt 1000 10)) ∧
 ((Qv (Pt 1000 9)) ∧
 ((Qv (Pt 1000 0)) ∧
 ((Qv (vI x8)) ∧
 ((Qv (Pt 1000 8)) ∧
 ((Qv (Pt 1000 7)) ∧
 ((Qv (Pt 1000 0)) ∧
 ((Qv (Value.agg [(vI x11), (vI x12), (vI x13)].toArray)) ∧
 ((Qv (Value.agg [(vI x0), (vI x1), (vI x2), (vI x3), (vI x4), (vI x5), (Sl 500 (n6) (c6)), (vI x7), (vI x8), (vI x9), (vI x10)].toArray)) ∧
 ((Qv (vI x9)) ∧
 ((Qv (Pt 1000 9)) ∧
 ((Qv (Pt 1000 9)) ∧
 ((Qv (Pt 1000 0)) ∧
 ((Qv (vI x7)) ∧
 ((Qv (Pt 1000 7)) ∧
 ((Qv (Pt 1000 7)) ∧
 ((Qv (Pt 1000 0)) ∧
 ((Qv (Value.agg [(vI x11), (vI x12), (vI x13)].toArray)) ∧
 ((Qv (Value.agg [(vI x0), (vI x1), (vI x2), (vI x3), (vI x4), (vI x5), (Sl 500 (n6) (c6)), (vI x7), (vI x8), (vI x9), (vI x10)].toArray)) ∧
 True)))))))))))))))))))) ∧
 (bcase (decide (0 + n6 * 5 ≤ List.length l6))
 (∃ n1 : Int,
 ((Says C 104 [(D.agg [(D.val (vI x0)), (D.val (vI x1)), (D.val (vI x2)), (D.val (vI x3)), (D.val (vI x4)), (D.val (vI x5)), (D.sl (n6) 5 (List.take (n6 * 5) (List.drop 0 l6))), (D.val (vI x7)), (D.val (vI x8)), (D.val (vI x9)), (D.val (vI x10))]), (D.agg [(D.val (vI x11)), (D.val (vI x12)), (D.val (vI x13))]), (D.val (vI x7)), (D.val (vI x9))] [(D.val (vI n1))]) ∧
 (((Qv (vI x10)) ∧
 ((Qv (Pt 1000 10)) ∧
 ((Qv (Pt 1000 9)) ∧
 ((Qv (Pt 1000 0)) ∧
 ((Qv (vI x8)) ∧
 ((Qv (Pt 1000 8)) ∧
 ((Qv (Pt 1000 7)) ∧
 ((Qv (Pt 1000 0)) ∧
 ((Qv (Value.agg [(vI x11), (vI x12), (vI x13)].toArray)) ∧
 ((Qv (Value.agg [(vI x0), (vI x1), (vI x2), (vI x3), (vI x4), (vI x5), (Sl 500 (n6) (c6)), (vI x7), (vI x8), (vI x9), (vI x10)].toArray)) ∧
 ((Qv (Pt 1000 9)) ∧
 ((Qv (Pt 1000 9)) ∧
 ((Qv (Pt 1000 0)) ∧
 ((Qv (Pt 1000 7)) ∧
 ((Qv (Pt 1000 7)) ∧
 ((Qv (Pt 1000 0)) ∧
 True)))))))))))))))) ∧
 (bcase (decide (0 + n6 * 5 ≤ List.length l6))
 (∃ n2 : Int,
 ((Says C 104 [(D.agg [(D.val (vI x0)), (D.val (vI x1)), (D.val (vI x2)), (D.val (vI x3)), (D.val (vI x4)), (D.val (vI x5)), (D.sl (n6) 5 (List.take (n6 * 5) (List.drop 0 l6))), (D.val (vI x7)), (D.val (vI x8)), (D.val (vI x9)), (D.val (vI x10))]), (D.agg [(D.val (vI x11)), (D.val (vI x12)), (D.val (vI x13))]), (D.val (vI x8)), (D.val (vI x10))] [(D.val (vI n2))]) ∧
 (((Qv (Value.agg [(vI n1), (vI n2)].toArray)) ∧
 ((Qv (Pt 1000 10)) ∧
 ((Qv (Pt 1000 9)) ∧
 ((Qv (Pt 1000 0)) ∧
 ((Qv (Pt 1000 8)) ∧
 ((Qv (Pt 1000 7)) ∧
 ((Qv (Pt 1000 0)) ∧
 ((Qv (Pt 1000 9)) ∧
 ((Qv (Pt 1000 9)) ∧
 ((Qv (Pt 1000 0)) ∧
 ((Qv (Pt 1000 7)) ∧
 ((Qv (Pt 1000 7)) ∧
 ((Qv (Pt 1000 0)) ∧
 True))))))))))))) ∧
 (True ∧
 (k [(D.agg [(D.val (vI n1)), (D.val (vI n2))])])))))
 False))))
 False)) := by kernel_rfl
def gto (C : Ct) (L : AtLoop) (x0 : Int) (x1 : Int) (x2 : Int) (x3 : Int) (x4 : Int) (x5 : Int) (n6 : Nat) (c6 : Nat) (l6 : List Value) (x7 : Int) (x8 : Int) (x9 : Int) (x10 : Int) (x11 : Int) (x12 : Int) (x13 : Int) (k : List D → Prop) : Prop := wpFn Tryz.prog (hP C) L 0 66 #[.agg #[.int .i64 x0, .int .i64 x1, .int .i64 x2, .int .i64 x3, .int .i64 x4, .int .i64 x5, .slice (some ⟨500, 0, none⟩) n6 c6, .int .i64 x7, .int .i64 x8, .int .i64 x9, .int .i64 x10], .agg #[.int .i64 x11, .int .i64 x12, .int .i64 x13]] (heapOf [(500, .sym l6 false 5)]) (dataK k)
theorem gto_text (C : Ct) (L : AtLoop) (x0 : Int) (x1 : Int) (x2 : Int) (x3 : Int) (x4 : Int) (x5 : Int) (n6 : Nat) (c6 : Nat) (l6 : List Go.Value) (x7 : Int) (x8 : Int) (x9 : Int) (x10 : Int) (x11 : Int) (x12 : Int) (x13 : Int) (k : List D → Prop) : gto C L x0 x1 x2 x3 x4 x5 n6 c6 l6 x7 x8 x9 x10 x11 x12 x13 k =
 (bcase (decide (0 + n6 * 5 ≤ List.length l6))
 (∃ n1 : Int,
 (∃ n2 : Int,
 ((Says C 65 [(D.agg [(D.val (vI x0)), (D.val (vI x1)), (D.val (vI x2)), (D.val (vI x3)), (D.val (vI x4)), (D.val (vI x5)), (D.sl (n6) 5 (List.take (n6 * 5) (List.drop 0 l6))), (D.val (vI x7)), (D.val (vI x8)), (D.val (vI x9)), (D.val (vI x10))]), (D.agg [(D.val (vI x11)), (D.val (vI x12)), (D.val (vI x13))])] [(D.agg [(D.val (vI n1)), (D.val (vI n2))])]) ∧
 (((Qv (Value.agg [(vI x11), (vI x12), (vI x13)].toArray)) ∧
 ((Qv (vI n2)) ∧
 ((Qv (Pt 1003 1)) ∧
 ((Qv (Value.agg [(vI x11), (vI x12), (vI x13)].toArray)) ∧
 ((Qv (vI n1)) ∧
 ((Qv (Pt 1003 0)) ∧
 True)))))) ∧
 (((Qv (vI (IntKind.wrap .i64 (n1 * IntKind.wrap .i64 (x12 - x13))))) ∧
 ((Qv (Value.agg [(vI x11), (vI x12), (vI x13)].toArray)) ∧
 ((Qv (vI n2)) ∧
 ((Qv (Pt 1003 1)) ∧
 ((Qv (vI n1)) ∧
 ((Qv (Pt 1003 0)) ∧
 True)))))) ∧
 (((Qv (Value.agg [(vI (IntKind.wrap .i64 (n1 * IntKind.wrap .i64 (x12 - x13)))), (vI (IntKind.wrap .i64 (n2 * IntKind.wrap .i64 (x12 - x13))))].toArray)) ∧
 ((Qv (vI (IntKind.wrap .i64 (n2 * IntKind.wrap .i64 (x12 - x13))))) ∧
 ((Qv (vI (IntKind.wrap .i64 (n1 * IntKind.wrap .i64 (x12 - x13))))) ∧
 ((Qv (vI n2)) ∧
 ((Qv (Pt 1003 1)) ∧
 ((Qv (vI n1)) ∧
 ((Qv (Pt 1003 0)) ∧
 True))))))) ∧
 (True ∧
 (k [(D.agg [(D.val (vI (IntKind.wrap .i64 (n1 * IntKind.wrap .i64 (x12 - x13))))), (D.val (vI (IntKind.wrap .i64 (n2 * IntKind.wrap .i64 (x12 - x13)))))])]))))))))
 False) := by kernel_rfl
def gbi (C : Ct) (L : AtLoop) (x0 : Int) (x1 : Int) (x2 : Int) (x3 : Int) (x4 : Int) (x5 : Int) (n6 : Nat) (c6 : Nat) (l6 : List Value) (x7 : Int) (x8 : Int) (x9 : Int) (x10 : Int) (x11 : Int) (x12 : Int) (x13 : Int) (k : List D → Prop) : Prop := wpFn Tryz.prog (hP C) L 0 106 #[.agg #[.int .i64 x0, .int .i64 x1, .int .i64 x2, .int .i64 x3, .int .i64 x4, .int .i64 x5, .slice (some ⟨500, 0, none⟩) n6 c6, .int .i64 x7, .int .i64 x8, .int .i64 x9, .int .i64 x10], .agg #[.int .i64 x11, .int .i64 x12, .int .i64 x13]] (heapOf [(500, .sym l6 false 5)]) (dataK k)
theorem gbi_text (C : Ct) (L : AtLoop) (x0 : Int) (x1 : Int) (x2 : Int) (x3 : Int) (x4 : Int) (x5 : Int) (n6 : Nat) (c6 : Nat) (l6 : List Go.Value) (x7 : Int) (x8 : Int) (x9 : Int) (x10 : Int) (x11 : Int) (x12 : Int) (x13 : Int) (k : List D → Prop) : gbi C L x0 x1 x2 x3 x4 x5 n6 c6 l6 x7 x8 x9 x10 x11 x12 x13 k =
 (bcase (x12 == x13)
 (k [(D.agg [(D.val (vI 0)), (D.val (vI 0))])])
 (((Qv (vI x10)) ∧
 ((Qv (Pt 1000 10)) ∧
 ((Qv (Pt 1000 9)) ∧
 ((Qv (Pt 1000 0)) ∧
 ((Qv (Value.func (Go.Fn.func 133) [].toArray [(Pt 1000 0), (Pt 1001 0)].toArray)) ∧
 ((Qv (vI x9)) ∧
 ((Qv (Pt 1000 9)) ∧
 ((Qv (Pt 1000 9)) ∧
 ((Qv (Pt 1000 0)) ∧
 ((Qv (Value.func (Go.Fn.func 133) [].toArray [(Pt 1000 0), (Pt 1001 0)].toArray)) ∧
 True)))))))))) ∧
 (bcase (decide (0 ≤ x11))
 (bcase (decide (x11 < (↑n6 : Int)))
 (∃ n1 : Int,
 ((At (l6) (0 + Int.toNat x11 * 5) 1 [(vI n1)]) ∧
 (((Qv (Value.agg [(vI x11), (vI x12), (vI x13)].toArray)) ∧
 ((Qv (vI (IntKind.wrap .i64 (IntKind.wrap .i64 (1 * x9) * n1)))) ∧
 ((∃ n2 : Int,
 ((At (l6) (0 + Int.toNat x11 * 5) 1 [(vI n2)]) ∧
 ((vI n2) = (vI n1)))) ∧
 ((Qv (Pt 500 (0 + Int.toNat x11 * 5))) ∧
 ((bcase (decide (0 ≤ x11))
 (bcase (decide (x11 < (↑n6 : Int)))
 (Qv (Pt 500 (0 + Int.toNat x11 * 5)))
 False)
 False) ∧
 ((Qv (vI x11)) ∧
 ((Qv (Pt 1001 0)) ∧
 ((Qv (Sl 500 (n6) (c6))) ∧
 ((Qv (Pt 1000 6)) ∧
 ((Qv (Pt 1000 0)) ∧
 ((Qv (vI (IntKind.wrap .i64 (1 * x9)))) ∧
 ((Qv (vI x9)) ∧
 True)))))))))))) ∧
 (((Qv (vI (IntKind.wrap .i64 (IntKind.wrap .i64 (IntKind.wrap .i64 (1 * x9) * n1) - IntKind.wrap .i64 (100 * IntKind.wrap .i64 (x12 - x13)))))) ∧
 ((Qv (vI (IntKind.wrap .i64 (100 * IntKind.wrap .i64 (x12 - x13))))) ∧
 ((Qv (vI (IntKind.wrap .i64 (IntKind.wrap .i64 (1 * x9) * n1)))) ∧
 ((∃ n2 : Int,
 ((At (l6) (0 + Int.toNat x11 * 5) 1 [(vI n2)]) ∧
 ((vI n2) = (vI n1)))) ∧
 ((Qv (Pt 500 (0 + Int.toNat x11 * 5))) ∧
 ((bcase (decide (0 ≤ x11))
 (bcase (decide (x11 < (↑n6 : Int)))
 (Qv (Pt 500 (0 + Int.toNat x11 * 5)))
 False)
 False) ∧
 ((Qv (vI x11)) ∧
 ((Qv (Pt 1001 0)) ∧
 ((Qv (Sl 500 (n6) (c6))) ∧
 ((Qv (Pt 1000 6)) ∧
 ((Qv (Pt 1000 0)) ∧
 ((Qv (vI (IntKind.wrap .i64 (1 * x9)))) ∧
 ((Qv (vI x9)) ∧
 True))))))))))))) ∧
 (True ∧
 (((Qv (vI x10)) ∧
 ((Qv (Pt 1000 10)) ∧
 ((Qv (Pt 1000 9)) ∧
 ((Qv (Pt 1000 0)) ∧
 ((Qv (Value.func (Go.Fn.func 133) [].toArray [(Pt 1000 0), (Pt 1001 0)].toArray)) ∧
 ((Qv (Pt 1000 9)) ∧
 ((Qv (Pt 1000 9)) ∧
 ((Qv (Pt 1000 0)) ∧
 True)))))))) ∧
 (bcase (decide (0 ≤ x11))
 (bcase (decide (x11 < (↑n6 : Int)))
 (∃ n2 : Int,
 ((At (l6) (0 + Int.toNat x11 * 5) 1 [(vI n2)]) ∧
 (((Qv (Value.agg [(vI x11), (vI x12), (vI x13)].toArray)) ∧
 ((Qv (vI (IntKind.wrap .i64 (IntKind.wrap .i64 (1 * x10) * n2)))) ∧
 ((∃ n3 : Int,
 ((At (l6) (0 + Int.toNat x11 * 5) 1 [(vI n3)]) ∧
 ((vI n3) = (vI n2)))) ∧
 ((Qv (Pt 500 (0 + Int.toNat x11 * 5))) ∧
 ((bcase (decide (0 ≤ x11))
 (bcase (decide (x11 < (↑n6 : Int)))
 (Qv (Pt 500 (0 + Int.toNat x11 * 5)))
 False)
 False) ∧
 ((Qv (vI x11)) ∧
 ((Qv (Pt 1001 0)) ∧
 ((Qv (Sl 500 (n6) (c6))) ∧
 ((Qv (Pt 1000 6)) ∧
 ((Qv (Pt 1000 0)) ∧
 ((Qv (vI (IntKind.wrap .i64 (1 * x10)))) ∧
 ((Qv (vI x10)) ∧
 True)))))))))))) ∧
 (((Qv (vI (IntKind.wrap .i64 (IntKind.wrap .i64 (IntKind.wrap .i64 (1 * x10) * n2) - IntKind.wrap .i64 (100 * IntKind.wrap .i64 (x12 - x13)))))) ∧
 ((Qv (vI (IntKind.wrap .i64 (100 * IntKind.wrap .i64 (x12 - x13))))) ∧
 ((Qv (vI (IntKind.wrap .i64 (IntKind.wrap .i64 (1 * x10) * n2)))) ∧
 ((∃ n3 : Int,
 ((At (l6) (0 + Int.toNat x11 * 5) 1 [(vI n3)]) ∧
 ((vI n3) = (vI n2)))) ∧
 ((Qv (Pt 500 (0 + Int.toNat x11 * 5))) ∧
 ((bcase (decide (0 ≤ x11))
 (bcase (decide (x11 < (↑n6 : Int)))
 (Qv (Pt 500 (0 + Int.toNat x11 * 5)))
 False)
 False) ∧
 ((Qv (vI x11)) ∧
 ((Qv (Pt 1001 0)) ∧
 ((Qv (Sl 500 (n6) (c6))) ∧
 ((Qv (Pt 1000 6)) ∧
 ((Qv (Pt 1000 0)) ∧
 ((Qv (vI (IntKind.wrap .i64 (1 * x10)))) ∧
 ((Qv (vI x10)) ∧
 True))))))))))))) ∧
 (True ∧
 (((Qv (Value.agg [(vI (IntKind.wrap .i64 (IntKind.wrap .i64 (IntKind.wrap .i64 (1 * x9) * n1) - IntKind.wrap .i64 (100 * IntKind.wrap .i64 (x12 - x13))))), (vI (IntKind.wrap .i64 (IntKind.wrap .i64 (IntKind.wrap .i64 (1 * x10) * n2) - IntKind.wrap .i64 (100 * IntKind.wrap .i64 (x12 - x13)))))].toArray)) ∧
 ((Qv (Pt 1000 10)) ∧
 ((Qv (Pt 1000 9)) ∧
 ((Qv (Pt 1000 0)) ∧
 ((Qv (Pt 1000 9)) ∧
 ((Qv (Pt 1000 9)) ∧
 ((Qv (Pt 1000 0)) ∧
 True))))))) ∧
 (True ∧
 (k [(D.agg [(D.val (vI (IntKind.wrap .i64 (IntKind.wrap .i64 (IntKind.wrap .i64 (1 * x9) * n1) - IntKind.wrap .i64 (100 * IntKind.wrap .i64 (x12 - x13)))))), (D.val (vI (IntKind.wrap .i64 (IntKind.wrap .i64 (IntKind.wrap .i64 (1 * x10) * n2) - IntKind.wrap .i64 (100 * IntKind.wrap .i64 (x12 - x13))))))])]))))))))
 False)
 False)))))))
 False)
 False))) := by kernel_rfl
def ghe (C : Ct) (L : AtLoop) (x0 : Int) (x1 : Int) (x2 : Int) (x3 : Int) (x4 : Int) (x5 : Int) (n6 : Nat) (c6 : Nat) (l6 : List Value) (x7 : Int) (x8 : Int) (x9 : Int) (x10 : Int) (x11 : Int) (x12 : Int) (x13 : Int) (k : List D → Prop) : Prop := wpFn Tryz.prog (hP C) L 0 69 #[.agg #[.int .i64 x0, .int .i64 x1, .int .i64 x2, .int .i64 x3, .int .i64 x4, .int .i64 x5, .slice (some ⟨500, 0, none⟩) n6 c6, .int .i64 x7, .int .i64 x8, .int .i64 x9, .int .i64 x10], .agg #[.int .i64 x11, .int .i64 x12, .int .i64 x13]] (heapOf [(500, .sym l6 false 5)]) (dataK k)
theorem ghe_text (C : Ct) (L : AtLoop) (x0 : Int) (x1 : Int) (x2 : Int) (x3 : Int) (x4 : Int) (x5 : Int) (n6 : Nat) (c6 : Nat) (l6 : List Go.Value) (x7 : Int) (x8 : Int) (x9 : Int) (x10 : Int) (x11 : Int) (x12 : Int) (x13 : Int) (k : List D → Prop) : ghe C L x0 x1 x2 x3 x4 x5 n6 c6 l6 x7 x8 x9 x10 x11 x12 x13 k =
 (bcase (decide (0 ≤ IntKind.wrap .i64 (x11 + 1)))
 (bcase (decide (IntKind.wrap .i64 (x11 + 1) ≤ (↑c6 : Int)))
 (L 0 [(Prod.mk 2 (Pt 1000 0)), (Prod.mk 3 (Pt 1001 0)), (Prod.mk 4 (Pt 1002 0)), (Prod.mk 5 (Pt 1003 0)), (Prod.mk 15 (Sl 500 (Int.toNat (IntKind.wrap .i64 (x11 + 1)) - 0) (c6 - 0))), (Prod.mk 16 (vI ((↑(Int.toNat (IntKind.wrap .i64 (x11 + 1)) - 0) : Int)))), (Prod.mk 17 (vI 0))] [(Prod.mk 1000 (AObj.cells [(vI x0), (vI x1), (vI x2), (vI x3), (vI x4), (vI x5), (Sl 500 (n6) (c6)), (vI x7), (vI x8), (vI x9), (vI x10)] 89 false 1)), (Prod.mk 1001 (AObj.cells [(vI x11), (vI x12), (vI x13)] 96 false 1)), (Prod.mk 1002 (AObj.cells [(vI 0), (vI 0)] 23 false 2)), (Prod.mk 1003 (AObj.cells [(vI 0), (vI 0)] 23 false 2)), (Prod.mk 500 (AObj.sym (l6) false 5))])
 False)
 False) := by kernel_rfl
abbrev zhe1 (n0 : Nat) (c1 : Nat) (x2 : Int) (x3 : Int) (x4 : Int) (x5 : Int) (x6 : Int) (x7 : Int) (x8 : Int) (x9 : Int) (n10 : Nat) (c11 : Nat) (x12 : Int) (x13 : Int) (x14 : Int) (x15 : Int) (x16 : Int) (x17 : Int) (x18 : Int) (x19 : Int) (x20 : Int) (x21 : Int) (x22 : Int) (l23 : List Value) : Slots × Blocks := ([(2, (Value.pointer (some ⟨1000, 0, none⟩))), (3, (Value.pointer (some ⟨1001, 0, none⟩))), (4, (Value.pointer (some ⟨1002, 0, none⟩))), (5, (Value.pointer (some ⟨1003, 0, none⟩))), (15, (Value.slice (some ⟨500, 0, none⟩) n0 c1)), (16, (Value.int .i64 x2)), (17, (Value.int .i64 x3))], [(1000, (AObj.cells [(Value.int .i64 x4), (Value.int .i64 x5), (Value.int .i64 x6), (Value.int .i64 x7), (Value.int .i64 x8), (Value.int .i64 x9), (Value.slice (some ⟨500, 0, none⟩) n10 c11), (Value.int .i64 x12), (Value.int .i64 x13), (Value.int .i64 x14), (Value.int .i64 x15)] 89 false 1)), (1001, (AObj.cells [(Value.int .i64 x16), (Value.int .i64 x17), (Value.int .i64 x18)] 96 false 1)), (1002, (AObj.cells [(Value.int .i64 x19), (Value.int .i64 x20)] 23 false 2)), (1003, (AObj.cells [(Value.int .i64 x21), (Value.int .i64 x22)] 23 false 2)), (500, (AObj.sym l23 false 5))])
def rhe1 (C : Ct) (L : AtLoop) (n0 : Nat) (c1 : Nat) (x2 : Int) (x3 : Int) (x4 : Int) (x5 : Int) (x6 : Int) (x7 : Int) (x8 : Int) (x9 : Int) (n10 : Nat) (c11 : Nat) (x12 : Int) (x13 : Int) (x14 : Int) (x15 : Int) (x16 : Int) (x17 : Int) (x18 : Int) (x19 : Int) (x20 : Int) (x21 : Int) (x22 : Int) (l23 : List Value) (B : Bx) (X : Xx) (k : List D → Prop) : Prop := wpRound Tryz.prog (hP C) L 69 0 [(2, (Value.pointer (some ⟨1000, 0, none⟩))), (3, (Value.pointer (some ⟨1001, 0, none⟩))), (4, (Value.pointer (some ⟨1002, 0, none⟩))), (5, (Value.pointer (some ⟨1003, 0, none⟩))), (15, (Value.slice (some ⟨500, 0, none⟩) n0 c1)), (16, (Value.int .i64 x2)), (17, (Value.int .i64 x3))] [(1000, (AObj.cells [(Value.int .i64 x4), (Value.int .i64 x5), (Value.int .i64 x6), (Value.int .i64 x7), (Value.int .i64 x8), (Value.int .i64 x9), (Value.slice (some ⟨500, 0, none⟩) n10 c11), (Value.int .i64 x12), (Value.int .i64 x13), (Value.int .i64 x14), (Value.int .i64 x15)] 89 false 1)), (1001, (AObj.cells [(Value.int .i64 x16), (Value.int .i64 x17), (Value.int .i64 x18)] 96 false 1)), (1002, (AObj.cells [(Value.int .i64 x19), (Value.int .i64 x20)] 23 false 2)), (1003, (AObj.cells [(Value.int .i64 x21), (Value.int .i64 x22)] 23 false 2)), (500, (AObj.sym l23 false 5))] B X (dataK k)
theorem rhe1_text (C : Ct) (L : AtLoop) (n0 : Nat) (c1 : Nat) (x2 : Int) (x3 : Int) (x4 : Int) (x5 : Int) (x6 : Int) (x7 : Int) (x8 : Int) (x9 : Int) (n10 : Nat) (c11 : Nat) (x12 : Int) (x13 : Int) (x14 : Int) (x15 : Int) (x16 : Int) (x17 : Int) (x18 : Int) (x19 : Int) (x20 : Int) (x21 : Int) (x22 : Int) (l23 : List Go.Value) (B : Bx) (X : Xx) (k : List D → Prop) : rhe1 C L n0 c1 x2 x3 x4 x5 x6 x7 x8 x9 n10 c11 x12 x13 x14 x15 x16 x17 x18 x19 x20 x21 x22 l23 B X k =
 (bcase (decide (x3 < x2))
 (bcase (decide (0 ≤ x3))
 (bcase (decide (x3 < (↑n0 : Int)))
 (∃ n1 : Int,
 (∃ n2 : Int,
 (∃ n3 : Int,
 (∃ n4 : Int,
 (∃ n5 : Int,
 ((At (l23) (0 + Int.toNat x3 * 5) 5 [(vI n1), (vI n2), (vI n3), (vI n4), (vI n5)]) ∧
 (B [(Prod.mk 2 (Pt 1000 0)), (Prod.mk 3 (Pt 1001 0)), (Prod.mk 4 (Pt 1002 0)), (Prod.mk 5 (Pt 1003 0)), (Prod.mk 15 (Sl 500 (n0) (c1))), (Prod.mk 16 (vI x2)), (Prod.mk 17 (vI (IntKind.wrap .i64 (x3 + 1))))] [(Prod.mk 1000 (AObj.cells [(vI x4), (vI x5), (vI x6), (vI x7), (vI x8), (vI x9), (Sl 500 (n10) (c11)), (vI x12), (vI x13), (vI x14), (vI x15)] 89 false 1)), (Prod.mk 1001 (AObj.cells [(vI x16), (vI x17), (vI x18)] 96 false 1)), (Prod.mk 1002 (AObj.cells [(vI x19), (vI x20)] 23 false 2)), (Prod.mk 1003 (AObj.cells [(vI (IntKind.wrap .i64 (x21 + n4))), (vI (IntKind.wrap .i64 (x22 + n5)))] 23 false 2)), (Prod.mk 500 (AObj.sym (l23) false 5))])))))))
 False)
 False)
 (X 0 [(Prod.mk 2 (Pt 1000 0)), (Prod.mk 3 (Pt 1001 0)), (Prod.mk 4 (Pt 1002 0)), (Prod.mk 5 (Pt 1003 0))] [(Prod.mk 1000 (AObj.cells [(vI x4), (vI x5), (vI x6), (vI x7), (vI x8), (vI x9), (Sl 500 (n10) (c11)), (vI x12), (vI x13), (vI x14), (vI x15)] 89 false 1)), (Prod.mk 1001 (AObj.cells [(vI x16), (vI x17), (vI x18)] 96 false 1)), (Prod.mk 1002 (AObj.cells [(vI x19), (vI x20)] 23 false 2)), (Prod.mk 1003 (AObj.cells [(vI x21), (vI x22)] 23 false 2)), (Prod.mk 500 (AObj.sym (l23) false 5))])) := by kernel_rfl
def nhe2 (C : Ct) (L : AtLoop) (x0 : Int) (x1 : Int) (x2 : Int) (x3 : Int) (x4 : Int) (x5 : Int) (n6 : Nat) (c7 : Nat) (x8 : Int) (x9 : Int) (x10 : Int) (x11 : Int) (x12 : Int) (x13 : Int) (x14 : Int) (x15 : Int) (x16 : Int) (x17 : Int) (x18 : Int) (l19 : List Value) (k : List D → Prop) : Prop := wpNext Tryz.prog (hP C) L 69 0 .normal [(2, (Value.pointer (some ⟨1000, 0, none⟩))), (3, (Value.pointer (some ⟨1001, 0, none⟩))), (4, (Value.pointer (some ⟨1002, 0, none⟩))), (5, (Value.pointer (some ⟨1003, 0, none⟩)))] [(1000, (AObj.cells [(Value.int .i64 x0), (Value.int .i64 x1), (Value.int .i64 x2), (Value.int .i64 x3), (Value.int .i64 x4), (Value.int .i64 x5), (Value.slice (some ⟨500, 0, none⟩) n6 c7), (Value.int .i64 x8), (Value.int .i64 x9), (Value.int .i64 x10), (Value.int .i64 x11)] 89 false 1)), (1001, (AObj.cells [(Value.int .i64 x12), (Value.int .i64 x13), (Value.int .i64 x14)] 96 false 1)), (1002, (AObj.cells [(Value.int .i64 x15), (Value.int .i64 x16)] 23 false 2)), (1003, (AObj.cells [(Value.int .i64 x17), (Value.int .i64 x18)] 23 false 2)), (500, (AObj.sym l19 false 5))] (dataK k)
theorem nhe2_text (C : Ct) (L : AtLoop) (x0 : Int) (x1 : Int) (x2 : Int) (x3 : Int) (x4 : Int) (x5 : Int) (n6 : Nat) (c7 : Nat) (x8 : Int) (x9 : Int) (x10 : Int) (x11 : Int) (x12 : Int) (x13 : Int) (x14 : Int) (x15 : Int) (x16 : Int) (x17 : Int) (x18 : Int) (l19 : List Go.Value) (k : List D → Prop) : nhe2 C L x0 x1 x2 x3 x4 x5 n6 c7 x8 x9 x10 x11 x12 x13 x14 x15 x16 x17 x18 l19 k =
 (k [(D.agg [(D.val (vI (IntKind.wrap .i64 (IntKind.wrap .i64 (100 * IntKind.wrap .i64 (x3 - x18)) + IntKind.wrap .i64 (IntKind.wrap .i64 (1 * IntKind.wrap .i64 (x1 - x14)) * x8))))), (D.val (vI (IntKind.wrap .i64 (IntKind.wrap .i64 (100 * IntKind.wrap .i64 (x4 - x17)) + IntKind.wrap .i64 (IntKind.wrap .i64 (1 * IntKind.wrap .i64 (x1 - x14)) * x9)))))])]) := by kernel_rfl
def gmT (C : Ct) (L : AtLoop) (x0 : Int) (x1 : Int) (x2 : Int) (k : List D → Prop) : Prop := wpFn Tryz.prog (hP C) L 0 105 #[.int .i64 x0, .agg #[.int .i64 x1, .int .i64 x2]] (heapOf []) (dataK k)
theorem gmT_text (C : Ct) (L : AtLoop) (x0 : Int) (x1 : Int) (x2 : Int) (k : List D → Prop) : gmT C L x0 x1 x2 k =
 (k [(D.agg [(D.val (vI (IntKind.wrap .i64 (100 * IntKind.wrap .i64 (x0 - x2))))), (D.val (vI (IntKind.wrap .i64 (100 * IntKind.wrap .i64 (x0 - x1)))))])]) := by kernel_rfl
def gma (C : Ct) (L : AtLoop) (x0 : Int) (x1 : Int) (x2 : Int) (x3 : Int) (x4 : Int) (x5 : Int) (n6 : Nat) (c6 : Nat) (l6 : List Value) (x7 : Int) (x8 : Int) (x9 : Int) (x10 : Int) (x11 : Int) (x12 : Int) (x13 : Int) (k : List D → Prop) : Prop := wpFn Tryz.prog (hP C) L 0 76 #[.agg #[.int .i64 x0, .int .i64 x1, .int .i64 x2, .int .i64 x3, .int .i64 x4, .int .i64 x5, .slice (some ⟨500, 0, none⟩) n6 c6, .int .i64 x7, .int .i64 x8, .int .i64 x9, .int .i64 x10], .agg #[.int .i64 x11, .int .i64 x12, .int .i64 x13]] (heapOf [(500, .sym l6 false 5)]) (dataK k)
theorem gma_text (C : Ct) (L : AtLoop) (x0 : Int) (x1 : Int) (x2 : Int) (x3 : Int) (x4 : Int) (x5 : Int) (n6 : Nat) (c6 : Nat) (l6 : List Go.Value) (x7 : Int) (x8 : Int) (x9 : Int) (x10 : Int) (x11 : Int) (x12 : Int) (x13 : Int) (k : List D → Prop) : gma C L x0 x1 x2 x3 x4 x5 n6 c6 l6 x7 x8 x9 x10 x11 x12 x13 k =
 (bcase (decide (0 ≤ x11))
 (bcase (decide (x11 < (↑n6 : Int)))
 (∃ n1 : Int,
 (∃ n2 : Int,
 (∃ n3 : Int,
 (∃ n4 : Int,
 (∃ n5 : Int,
 ((At (l6) (0 + Int.toNat x11 * 5) 5 [(vI n1), (vI n2), (vI n3), (vI n4), (vI n5)]) ∧
 ((((Qv (Pt 1004 0)) ∧
 (Qv (some (AObj.cells [(vI 0), (vI 0)] 23 false 2)))) ∧
 (((Qv (Pt 1003 0)) ∧
 (Qv (some (AObj.cells [(vI 0), (vI 0), (vI 0), (vI 0), (vI 0)] 127 false 5)))) ∧
 ((Qv (Value.agg [(vI x11), (vI x12), (vI x13)].toArray)) ∧
 ((Qv (Value.agg [(vI x0), (vI x1), (vI x2), (vI x3), (vI x4), (vI x5), (Sl 500 (n6) (c6)), (vI x7), (vI x8), (vI x9), (vI x10)].toArray)) ∧
 ((∃ n7 : Int,
 (∃ n8 : Int,
 (∃ n9 : Int,
 (∃ n10 : Int,
 (∃ n11 : Int,
 ((At (l6) (0 + Int.toNat x11 * 5) 5 [(vI n7), (vI n8), (vI n9), (vI n10), (vI n11)]) ∧
 ((Value.agg [(vI n7), (vI n8), (vI n9), (vI n10), (vI n11)].toArray) = (Value.agg [(vI n1), (vI n2), (vI n3), (vI n4), (vI n5)].toArray)))))))) ∧
 ((bcase (decide (0 ≤ x11))
 (bcase (decide (x11 < (↑n6 : Int)))
 (Qv (Pt 500 (0 + Int.toNat x11 * 5)))
 False)
 False) ∧
 ((Qv (vI x11)) ∧
 ((Qv (Pt 1001 0)) ∧
 ((Qv (Sl 500 (n6) (c6))) ∧
 ((Qv (Pt 1000 6)) ∧
 ((Qv (Pt 1000 0)) ∧
 True))))))))))) ∧
 (bcase (decide (0 + n6 * 5 ≤ List.length l6))
 (∃ n7 : Int,
 (∃ n8 : Int,
 ((Says C 69 [(D.agg [(D.val (vI x0)), (D.val (vI x1)), (D.val (vI x2)), (D.val (vI x3)), (D.val (vI x4)), (D.val (vI x5)), (D.sl (n6) 5 (List.take (n6 * 5) (List.drop 0 l6))), (D.val (vI x7)), (D.val (vI x8)), (D.val (vI x9)), (D.val (vI x10))]), (D.agg [(D.val (vI x11)), (D.val (vI x12)), (D.val (vI x13))])] [(D.agg [(D.val (vI n7)), (D.val (vI n8))])]) ∧
 ((((Qv (Pt 1004 0)) ∧
 (Qv (some (AObj.cells [(vI 0), (vI 0)] 23 false 2)))) ∧
 (((Qv (Pt 1003 0)) ∧
 (Qv (some (AObj.cells [(vI 0), (vI 0), (vI 0), (vI 0), (vI 0)] 127 false 5)))) ∧
 ((∃ n9 : Int,
 (∃ n10 : Int,
 (∃ n11 : Int,
 (∃ n12 : Int,
 (∃ n13 : Int,
 ((At (l6) (0 + Int.toNat x11 * 5) 5 [(vI n9), (vI n10), (vI n11), (vI n12), (vI n13)]) ∧
 ((Value.agg [(vI n9), (vI n10), (vI n11), (vI n12), (vI n13)].toArray) = (Value.agg [(vI n1), (vI n2), (vI n3), (vI n4), (vI n5)].toArray)))))))) ∧
 ((bcase (decide (0 ≤ x11))
 (bcase (decide (x11 < (↑n6 : Int)))
 (Qv (Pt 500 (0 + Int.toNat x11 * 5)))
 False)
 False) ∧
 ((Qv (vI x11)) ∧
 ((Qv (Pt 1001 0)) ∧
 ((Qv (Sl 500 (n6) (c6))) ∧
 ((Qv (Pt 1000 6)) ∧
 ((Qv (Pt 1000 0)) ∧
 True))))))))) ∧
 (True ∧
 (True ∧
 (((Qv (Value.agg [(vI (IntKind.wrap .i64 (n7 - IntKind.wrap .i64 (100 * x5)))), (vI (IntKind.wrap .i64 (n8 - IntKind.wrap .i64 (100 * x5))))].toArray)) ∧
 ((Qv (vI (IntKind.wrap .i64 (n8 - IntKind.wrap .i64 (100 * x5))))) ∧
 ((Qv (vI (IntKind.wrap .i64 (100 * x5)))) ∧
 ((Qv (vI x5)) ∧
 ((Qv (Pt 1000 5)) ∧
 ((Qv (Pt 1000 0)) ∧
 ((Qv (vI n8)) ∧
 ((Qv (Pt 1004 1)) ∧
 ((Qv (vI (IntKind.wrap .i64 (n7 - IntKind.wrap .i64 (100 * x5))))) ∧
 ((Qv (vI (IntKind.wrap .i64 (100 * x5)))) ∧
 ((Qv (vI x5)) ∧
 ((Qv (Pt 1000 5)) ∧
 ((Qv (Pt 1000 0)) ∧
 ((Qv (vI n7)) ∧
 ((Qv (Pt 1004 0)) ∧
 ((Qv (Value.agg [(vI x11), (vI x12), (vI x13)].toArray)) ∧
 ((Qv (Value.agg [(vI x0), (vI x1), (vI x2), (vI x3), (vI x4), (vI x5), (Sl 500 (n6) (c6)), (vI x7), (vI x8), (vI x9), (vI x10)].toArray)) ∧
 ((Qv (Value.agg [(vI x11), (vI x12), (vI x13)].toArray)) ∧
 ((Qv (Value.agg [(vI x0), (vI x1), (vI x2), (vI x3), (vI x4), (vI x5), (Sl 500 (n6) (c6)), (vI x7), (vI x8), (vI x9), (vI x10)].toArray)) ∧
 ((Qv (vI n3)) ∧
 ((Qv (Pt 1003 2)) ∧
 ((Qv (Value.agg [(vI x11), (vI x12), (vI x13)].toArray)) ∧
 ((Qv (Value.agg [(vI x0), (vI x1), (vI x2), (vI x3), (vI x4), (vI x5), (Sl 500 (n6) (c6)), (vI x7), (vI x8), (vI x9), (vI x10)].toArray)) ∧
 ((Qv (vI n2)) ∧
 ((Qv (Pt 1003 1)) ∧
 True))))))))))))))))))))))))) ∧
 (bcase (decide (0 + n6 * 5 ≤ List.length l6))
 (∃ n9 : Int,
 (∃ n10 : Int,
 ((Says C 65 [(D.agg [(D.val (vI x0)), (D.val (vI x1)), (D.val (vI x2)), (D.val (vI x3)), (D.val (vI x4)), (D.val (vI x5)), (D.sl (n6) 5 (List.take (n6 * 5) (List.drop 0 l6))), (D.val (vI x7)), (D.val (vI x8)), (D.val (vI x9)), (D.val (vI x10))]), (D.agg [(D.val (vI x11)), (D.val (vI x12)), (D.val (vI x13))])] [(D.agg [(D.val (vI n9)), (D.val (vI n10))])]) ∧
 (((Qv (Value.agg [(vI (IntKind.wrap .i64 (n7 - IntKind.wrap .i64 (100 * x5)))), (vI (IntKind.wrap .i64 (n8 - IntKind.wrap .i64 (100 * x5))))].toArray)) ∧
 ((Qv (vI (IntKind.wrap .i64 (n8 - IntKind.wrap .i64 (100 * x5))))) ∧
 ((Qv (vI (IntKind.wrap .i64 (100 * x5)))) ∧
 ((Qv (vI x5)) ∧
 ((Qv (Pt 1000 5)) ∧
 ((Qv (Pt 1000 0)) ∧
 ((Qv (vI n8)) ∧
 ((Qv (Pt 1004 1)) ∧
 ((Qv (vI (IntKind.wrap .i64 (n7 - IntKind.wrap .i64 (100 * x5))))) ∧
 ((Qv (vI (IntKind.wrap .i64 (100 * x5)))) ∧
 ((Qv (vI x5)) ∧
 ((Qv (Pt 1000 5)) ∧
 ((Qv (Pt 1000 0)) ∧
 ((Qv (vI n7)) ∧
 ((Qv (Pt 1004 0)) ∧
 ((Qv (Value.agg [(vI x11), (vI x12), (vI x13)].toArray)) ∧
 ((Qv (Value.agg [(vI x0), (vI x1), (vI x2), (vI x3), (vI x4), (vI x5), (Sl 500 (n6) (c6)), (vI x7), (vI x8), (vI x9), (vI x10)].toArray)) ∧
 ((Qv (Value.agg [(vI x11), (vI x12), (vI x13)].toArray)) ∧
 ((Qv (Value.agg [(vI x0), (vI x1), (vI x2), (vI x3), (vI x4), (vI x5), (Sl 500 (n6) (c6)), (vI x7), (vI x8), (vI x9), (vI x10)].toArray)) ∧
 ((Qv (vI n3)) ∧
 ((Qv (Pt 1003 2)) ∧
 ((Qv (vI n2)) ∧
 ((Qv (Pt 1003 1)) ∧
 True))))))))))))))))))))))) ∧
 (∃ n11 : Int,
 (∃ n12 : Int,
 ((Says C 105 [(D.val (vI n2)), (D.agg [(D.val (vI n9)), (D.val (vI n10))])] [(D.agg [(D.val (vI n11)), (D.val (vI n12))])]) ∧
 (((Qv (Value.agg [(vI (IntKind.wrap .i64 (n7 - IntKind.wrap .i64 (100 * x5)))), (vI (IntKind.wrap .i64 (n8 - IntKind.wrap .i64 (100 * x5))))].toArray)) ∧
 ((Qv (vI (IntKind.wrap .i64 (n8 - IntKind.wrap .i64 (100 * x5))))) ∧
 ((Qv (vI (IntKind.wrap .i64 (100 * x5)))) ∧
 ((Qv (vI x5)) ∧
 ((Qv (Pt 1000 5)) ∧
 ((Qv (Pt 1000 0)) ∧
 ((Qv (vI n8)) ∧
 ((Qv (Pt 1004 1)) ∧
 ((Qv (vI (IntKind.wrap .i64 (n7 - IntKind.wrap .i64 (100 * x5))))) ∧
 ((Qv (vI (IntKind.wrap .i64 (100 * x5)))) ∧
 ((Qv (vI x5)) ∧
 ((Qv (Pt 1000 5)) ∧
 ((Qv (Pt 1000 0)) ∧
 ((Qv (vI n7)) ∧
 ((Qv (Pt 1004 0)) ∧
 ((Qv (Value.agg [(vI x11), (vI x12), (vI x13)].toArray)) ∧
 ((Qv (Value.agg [(vI x0), (vI x1), (vI x2), (vI x3), (vI x4), (vI x5), (Sl 500 (n6) (c6)), (vI x7), (vI x8), (vI x9), (vI x10)].toArray)) ∧
 ((Qv (Value.agg [(vI x11), (vI x12), (vI x13)].toArray)) ∧
 ((Qv (Value.agg [(vI x0), (vI x1), (vI x2), (vI x3), (vI x4), (vI x5), (Sl 500 (n6) (c6)), (vI x7), (vI x8), (vI x9), (vI x10)].toArray)) ∧
 ((Qv (vI n3)) ∧
 ((Qv (Pt 1003 2)) ∧
 ((Qv (Pt 1003 1)) ∧
 True)))))))))))))))))))))) ∧
 (bcase (decide (0 + n6 * 5 ≤ List.length l6))
 (∃ n13 : Int,
 (∃ n14 : Int,
 ((Says C 66 [(D.agg [(D.val (vI x0)), (D.val (vI x1)), (D.val (vI x2)), (D.val (vI x3)), (D.val (vI x4)), (D.val (vI x5)), (D.sl (n6) 5 (List.take (n6 * 5) (List.drop 0 l6))), (D.val (vI x7)), (D.val (vI x8)), (D.val (vI x9)), (D.val (vI x10))]), (D.agg [(D.val (vI x11)), (D.val (vI x12)), (D.val (vI x13))])] [(D.agg [(D.val (vI n13)), (D.val (vI n14))])]) ∧
 (((Qv (Value.agg [(vI (IntKind.wrap .i64 (n7 - IntKind.wrap .i64 (100 * x5)))), (vI (IntKind.wrap .i64 (n8 - IntKind.wrap .i64 (100 * x5))))].toArray)) ∧
 ((Qv (vI (IntKind.wrap .i64 (n8 - IntKind.wrap .i64 (100 * x5))))) ∧
 ((Qv (vI (IntKind.wrap .i64 (100 * x5)))) ∧
 ((Qv (vI x5)) ∧
 ((Qv (Pt 1000 5)) ∧
 ((Qv (Pt 1000 0)) ∧
 ((Qv (vI n8)) ∧
 ((Qv (Pt 1004 1)) ∧
 ((Qv (vI (IntKind.wrap .i64 (n7 - IntKind.wrap .i64 (100 * x5))))) ∧
 ((Qv (vI (IntKind.wrap .i64 (100 * x5)))) ∧
 ((Qv (vI x5)) ∧
 ((Qv (Pt 1000 5)) ∧
 ((Qv (Pt 1000 0)) ∧
 ((Qv (vI n7)) ∧
 ((Qv (Pt 1004 0)) ∧
 ((Qv (Value.agg [(vI x11), (vI x12), (vI x13)].toArray)) ∧
 ((Qv (Value.agg [(vI x0), (vI x1), (vI x2), (vI x3), (vI x4), (vI x5), (Sl 500 (n6) (c6)), (vI x7), (vI x8), (vI x9), (vI x10)].toArray)) ∧
 ((Qv (vI n3)) ∧
 ((Qv (Pt 1003 2)) ∧
 ((Qv (Pt 1003 1)) ∧
 True)))))))))))))))))))) ∧
 (∃ n15 : Int,
 (∃ n16 : Int,
 ((Says C 105 [(D.val (vI n3)), (D.agg [(D.val (vI n13)), (D.val (vI n14))])] [(D.agg [(D.val (vI n15)), (D.val (vI n16))])]) ∧
 (((Qv (Value.agg [(vI (IntKind.wrap .i64 (n7 - IntKind.wrap .i64 (100 * x5)))), (vI (IntKind.wrap .i64 (n8 - IntKind.wrap .i64 (100 * x5))))].toArray)) ∧
 ((Qv (vI (IntKind.wrap .i64 (n8 - IntKind.wrap .i64 (100 * x5))))) ∧
 ((Qv (vI (IntKind.wrap .i64 (100 * x5)))) ∧
 ((Qv (vI x5)) ∧
 ((Qv (Pt 1000 5)) ∧
 ((Qv (Pt 1000 0)) ∧
 ((Qv (vI n8)) ∧
 ((Qv (Pt 1004 1)) ∧
 ((Qv (vI (IntKind.wrap .i64 (n7 - IntKind.wrap .i64 (100 * x5))))) ∧
 ((Qv (vI (IntKind.wrap .i64 (100 * x5)))) ∧
 ((Qv (vI x5)) ∧
 ((Qv (Pt 1000 5)) ∧
 ((Qv (Pt 1000 0)) ∧
 ((Qv (vI n7)) ∧
 ((Qv (Pt 1004 0)) ∧
 ((Qv (Value.agg [(vI x11), (vI x12), (vI x13)].toArray)) ∧
 ((Qv (Value.agg [(vI x0), (vI x1), (vI x2), (vI x3), (vI x4), (vI x5), (Sl 500 (n6) (c6)), (vI x7), (vI x8), (vI x9), (vI x10)].toArray)) ∧
 ((Qv (Pt 1003 2)) ∧
 ((Qv (Pt 1003 1)) ∧
 True))))))))))))))))))) ∧
 (bcase (decide (0 + n6 * 5 ≤ List.length l6))
 (∃ n17 : Int,
 (∃ n18 : Int,
 ((Says C 106 [(D.agg [(D.val (vI x0)), (D.val (vI x1)), (D.val (vI x2)), (D.val (vI x3)), (D.val (vI x4)), (D.val (vI x5)), (D.sl (n6) 5 (List.take (n6 * 5) (List.drop 0 l6))), (D.val (vI x7)), (D.val (vI x8)), (D.val (vI x9)), (D.val (vI x10))]), (D.agg [(D.val (vI x11)), (D.val (vI x12)), (D.val (vI x13))])] [(D.agg [(D.val (vI n17)), (D.val (vI n18))])]) ∧
 (((Qv (Value.agg [(vI n11), (vI n12), (vI n15), (vI n16), (vI n17), (vI n18), (vI (IntKind.wrap .i64 (n7 - IntKind.wrap .i64 (100 * x5)))), (vI (IntKind.wrap .i64 (n8 - IntKind.wrap .i64 (100 * x5))))].toArray)) ∧
 ((Qv (Value.agg [(vI (IntKind.wrap .i64 (n7 - IntKind.wrap .i64 (100 * x5)))), (vI (IntKind.wrap .i64 (n8 - IntKind.wrap .i64 (100 * x5))))].toArray)) ∧
 ((Qv (vI (IntKind.wrap .i64 (n8 - IntKind.wrap .i64 (100 * x5))))) ∧
 ((Qv (vI (IntKind.wrap .i64 (100 * x5)))) ∧
 ((Qv (vI x5)) ∧
 ((Qv (Pt 1000 5)) ∧
 ((Qv (Pt 1000 0)) ∧
 ((Qv (vI n8)) ∧
 ((Qv (Pt 1004 1)) ∧
 ((Qv (vI (IntKind.wrap .i64 (n7 - IntKind.wrap .i64 (100 * x5))))) ∧
 ((Qv (vI (IntKind.wrap .i64 (100 * x5)))) ∧
 ((Qv (vI x5)) ∧
 ((Qv (Pt 1000 5)) ∧
 ((Qv (Pt 1000 0)) ∧
 ((Qv (vI n7)) ∧
 ((Qv (Pt 1004 0)) ∧
 ((Qv (Pt 1003 2)) ∧
 ((Qv (Pt 1003 1)) ∧
 True)))))))))))))))))) ∧
 (True ∧
 (k [(D.agg [(D.val (vI n11)), (D.val (vI n12)), (D.val (vI n15)), (D.val (vI n16)), (D.val (vI n17)), (D.val (vI n18)), (D.val (vI (IntKind.wrap .i64 (n7 - IntKind.wrap .i64 (100 * x5))))), (D.val (vI (IntKind.wrap .i64 (n8 - IntKind.wrap .i64 (100 * x5)))))])]))))))
 False)))))))))
 False)))))))))
 False))))))))
 False))))))))
 False)
 False) := by kernel_rfl
def gRK (C : Ct) (L : AtLoop) (x0 : Int) (x1 : Int) (x2 : Int) (x3 : Int) (x4 : Int) (x5 : Int) (n6 : Nat) (c6 : Nat) (l6 : List Value) (x7 : Int) (x8 : Int) (x9 : Int) (x10 : Int) (k : List D → Prop) : Prop := wpFn Tryz.prog (hP C) L 0 93 #[.agg #[.int .i64 x0, .int .i64 x1, .int .i64 x2, .int .i64 x3, .int .i64 x4, .int .i64 x5, .slice (some ⟨500, 0, none⟩) n6 c6, .int .i64 x7, .int .i64 x8, .int .i64 x9, .int .i64 x10]] (heapOf [(500, .sym l6 false 5)]) (dataK k)
theorem gRK_text (C : Ct) (L : AtLoop) (x0 : Int) (x1 : Int) (x2 : Int) (x3 : Int) (x4 : Int) (x5 : Int) (n6 : Nat) (c6 : Nat) (l6 : List Go.Value) (x7 : Int) (x8 : Int) (x9 : Int) (x10 : Int) (k : List D → Prop) : gRK C L x0 x1 x2 x3 x4 x5 n6 c6 l6 x7 x8 x9 x10 k =
 (((Says C 9 [(D.val (vI x0)), (D.val (vI 1)), (D.val (vI 2500))] [(D.val (Value.bool true))]) ∧
 (((Says C 9 [(D.val (vI x1)), (D.val (vI 1)), (D.val (vI 1000))] [(D.val (Value.bool true))]) ∧
 (((Says C 9 [(D.val (vI x2)), (D.val (vI 1)), (D.val (vI 1000))] [(D.val (Value.bool true))]) ∧
 (((Says C 9 [(D.val (vI x3)), (D.val (vI 0)), (D.val (vI 20000))] [(D.val (Value.bool true))]) ∧
 (((Says C 9 [(D.val (vI x4)), (D.val (vI 0)), (D.val (vI 20000))] [(D.val (Value.bool true))]) ∧
 (((Says C 9 [(D.val (vI x5)), (D.val (vI 0)), (D.val (vI 20000))] [(D.val (Value.bool true))]) ∧
 (((Says C 9 [(D.val (vI x7)), (D.val (vI 1)), (D.val (vI 100))] [(D.val (Value.bool true))]) ∧
 (((Says C 9 [(D.val (vI x8)), (D.val (vI 1)), (D.val (vI 100))] [(D.val (Value.bool true))]) ∧
 (((Says C 9 [(D.val (vI x9)), (D.val (vI 0)), (D.val (vI 100))] [(D.val (Value.bool true))]) ∧
 (((Says C 9 [(D.val (vI x10)), (D.val (vI 0)), (D.val (vI 100))] [(D.val (Value.bool true))]) ∧
 (bcase (decide (x2 > x1))
 (k [(D.val (vI 0)), (D.val (vI 9))])
 (bcase (decide (x3 > x4))
 (k [(D.val (vI 0)), (D.val (vI 9))])
 (bcase (decide (x7 > x8))
 (k [(D.val (vI 0)), (D.val (vI 9))])
 (bcase (decide (x9 > x10))
 (k [(D.val (vI 0)), (D.val (vI 9))])
 (bcase ((↑n6 : Int) == 0)
 (k [(D.val (vI 0)), (D.val (vI 10))])
 (bcase (decide ((↑n6 : Int) > 6))
 (k [(D.val (vI 0)), (D.val (vI 8))])
 (L 0 [(Prod.mk 1 (Pt 1000 0)), (Prod.mk 4 (vI 0))] [(Prod.mk 1000 (AObj.cells [(vI x0), (vI x1), (vI x2), (vI x3), (vI x4), (vI x5), (Sl 500 (n6) (c6)), (vI x7), (vI x8), (vI x9), (vI x10)] 26 false 1)), (Prod.mk 500 (AObj.sym (l6) false 5))])))))))) ∨
 ((Says C 9 [(D.val (vI x10)), (D.val (vI 0)), (D.val (vI 100))] [(D.val (Value.bool false))]) ∧
 (k [(D.val (vI 0)), (D.val (vI 2))])))) ∨
 ((Says C 9 [(D.val (vI x9)), (D.val (vI 0)), (D.val (vI 100))] [(D.val (Value.bool false))]) ∧
 (k [(D.val (vI 0)), (D.val (vI 2))])))) ∨
 ((Says C 9 [(D.val (vI x8)), (D.val (vI 1)), (D.val (vI 100))] [(D.val (Value.bool false))]) ∧
 (k [(D.val (vI 0)), (D.val (vI 2))])))) ∨
 ((Says C 9 [(D.val (vI x7)), (D.val (vI 1)), (D.val (vI 100))] [(D.val (Value.bool false))]) ∧
 (k [(D.val (vI 0)), (D.val (vI 2))])))) ∨
 ((Says C 9 [(D.val (vI x5)), (D.val (vI 0)), (D.val (vI 20000))] [(D.val (Value.bool false))]) ∧
 (k [(D.val (vI 0)), (D.val (vI 2))])))) ∨
 ((Says C 9 [(D.val (vI x4)), (D.val (vI 0)), (D.val (vI 20000))] [(D.val (Value.bool false))]) ∧
 (k [(D.val (vI 0)), (D.val (vI 2))])))) ∨
 ((Says C 9 [(D.val (vI x3)), (D.val (vI 0)), (D.val (vI 20000))] [(D.val (Value.bool false))]) ∧
 (k [(D.val (vI 0)), (D.val (vI 2))])))) ∨
 ((Says C 9 [(D.val (vI x2)), (D.val (vI 1)), (D.val (vI 1000))] [(D.val (Value.bool false))]) ∧
 (k [(D.val (vI 0)), (D.val (vI 2))])))) ∨
 ((Says C 9 [(D.val (vI x1)), (D.val (vI 1)), (D.val (vI 1000))] [(D.val (Value.bool false))]) ∧
 (k [(D.val (vI 0)), (D.val (vI 2))])))) ∨
 ((Says C 9 [(D.val (vI x0)), (D.val (vI 1)), (D.val (vI 2500))] [(D.val (Value.bool false))]) ∧
 (k [(D.val (vI 0)), (D.val (vI 2))]))) := by kernel_rfl
abbrev zRK1 (x0 : Int) (x1 : Int) (x2 : Int) (x3 : Int) (x4 : Int) (x5 : Int) (x6 : Int) (n7 : Nat) (c8 : Nat) (x9 : Int) (x10 : Int) (x11 : Int) (x12 : Int) (l13 : List Value) : Slots × Blocks := ([(1, (Value.pointer (some ⟨1000, 0, none⟩))), (4, (Value.int .i64 x0))], [(1000, (AObj.cells [(Value.int .i64 x1), (Value.int .i64 x2), (Value.int .i64 x3), (Value.int .i64 x4), (Value.int .i64 x5), (Value.int .i64 x6), (Value.slice (some ⟨500, 0, none⟩) n7 c8), (Value.int .i64 x9), (Value.int .i64 x10), (Value.int .i64 x11), (Value.int .i64 x12)] 26 false 1)), (500, (AObj.sym l13 false 5))])
def rRK1 (C : Ct) (L : AtLoop) (x0 : Int) (x1 : Int) (x2 : Int) (x3 : Int) (x4 : Int) (x5 : Int) (x6 : Int) (n7 : Nat) (c8 : Nat) (x9 : Int) (x10 : Int) (x11 : Int) (x12 : Int) (l13 : List Value) (B : Bx) (X : Xx) (k : List D → Prop) : Prop := wpRound Tryz.prog (hP C) L 93 0 [(1, (Value.pointer (some ⟨1000, 0, none⟩))), (4, (Value.int .i64 x0))] [(1000, (AObj.cells [(Value.int .i64 x1), (Value.int .i64 x2), (Value.int .i64 x3), (Value.int .i64 x4), (Value.int .i64 x5), (Value.int .i64 x6), (Value.slice (some ⟨500, 0, none⟩) n7 c8), (Value.int .i64 x9), (Value.int .i64 x10), (Value.int .i64 x11), (Value.int .i64 x12)] 26 false 1)), (500, (AObj.sym l13 false 5))] B X (dataK k)
theorem rRK1_text (C : Ct) (L : AtLoop) (x0 : Int) (x1 : Int) (x2 : Int) (x3 : Int) (x4 : Int) (x5 : Int) (x6 : Int) (n7 : Nat) (c8 : Nat) (x9 : Int) (x10 : Int) (x11 : Int) (x12 : Int) (l13 : List Go.Value) (B : Bx) (X : Xx) (k : List D → Prop) : rRK1 C L x0 x1 x2 x3 x4 x5 x6 n7 c8 x9 x10 x11 x12 l13 B X k =
 (bcase (decide (x0 < (↑n7 : Int)))
 (bcase (decide (0 ≤ x0))
 (bcase (decide (x0 < (↑n7 : Int)))
 (∃ n1 : Int,
 (∃ n2 : Int,
 (∃ n3 : Int,
 (∃ n4 : Int,
 (∃ n5 : Int,
 ((At (l13) (0 + Int.toNat x0 * 5) 5 [(vI n1), (vI n2), (vI n3), (vI n4), (vI n5)]) ∧
 (((Says C 9 [(D.val (vI n1)), (D.val (vI 1)), (D.val (vI 1000))] [(D.val (Value.bool true))]) ∧
 (((Says C 9 [(D.val (vI n2)), (D.val (vI 0)), (D.val (vI 1000000000000))] [(D.val (Value.bool true))]) ∧
 (((Says C 9 [(D.val (vI n3)), (D.val (vI 0)), (D.val (vI 1000000000000))] [(D.val (Value.bool true))]) ∧
 (((Says C 9 [(D.val (vI n4)), (D.val (vI 0)), (D.val (vI 1000))] [(D.val (Value.bool true))]) ∧
 (((Says C 9 [(D.val (vI n5)), (D.val (vI 0)), (D.val (vI 1000))] [(D.val (Value.bool true))]) ∧
 (bcase (decide (n4 > n5))
 (k [(D.val (vI x0)), (D.val (vI 9))])
 (B [(Prod.mk 1 (Pt 1000 0)), (Prod.mk 4 (vI (IntKind.wrap .i64 (x0 + 1))))] [(Prod.mk 1000 (AObj.cells [(vI x1), (vI x2), (vI x3), (vI x4), (vI x5), (vI x6), (Sl 500 (n7) (c8)), (vI x9), (vI x10), (vI x11), (vI x12)] 26 false 1)), (Prod.mk 500 (AObj.sym (l13) false 5))]))) ∨
 ((Says C 9 [(D.val (vI n5)), (D.val (vI 0)), (D.val (vI 1000))] [(D.val (Value.bool false))]) ∧
 (k [(D.val (vI x0)), (D.val (vI 2))])))) ∨
 ((Says C 9 [(D.val (vI n4)), (D.val (vI 0)), (D.val (vI 1000))] [(D.val (Value.bool false))]) ∧
 (k [(D.val (vI x0)), (D.val (vI 2))])))) ∨
 ((Says C 9 [(D.val (vI n3)), (D.val (vI 0)), (D.val (vI 1000000000000))] [(D.val (Value.bool false))]) ∧
 (k [(D.val (vI x0)), (D.val (vI 2))])))) ∨
 ((Says C 9 [(D.val (vI n2)), (D.val (vI 0)), (D.val (vI 1000000000000))] [(D.val (Value.bool false))]) ∧
 (k [(D.val (vI x0)), (D.val (vI 2))])))) ∨
 ((Says C 9 [(D.val (vI n1)), (D.val (vI 1)), (D.val (vI 1000))] [(D.val (Value.bool false))]) ∧
 (k [(D.val (vI x0)), (D.val (vI 2))])))))))))
 False)
 False)
 (X 0 [] [])) := by kernel_rfl
def nRK2 (C : Ct) (L : AtLoop) (k : List D → Prop) : Prop := wpNext Tryz.prog (hP C) L 93 0 .normal [] [] (dataK k)
theorem nRK2_text (C : Ct) (L : AtLoop) (k : List D → Prop) : nRK2 C L k =
 (k [(D.val (vI 0)), (D.val (vI 0))]) := by kernel_rfl
def gRKn (C : Ct) (L : AtLoop) (x0 : Int) (x1 : Int) (x2 : Int) (x3 : Int) (x4 : Int) (x5 : Int) (x7 : Int) (x8 : Int) (x9 : Int) (x10 : Int) (k : List D → Prop) : Prop := wpFn Tryz.prog (hP C) L 0 93 #[.agg #[.int .i64 x0, .int .i64 x1, .int .i64 x2, .int .i64 x3, .int .i64 x4, .int .i64 x5, .slice none 0 0, .int .i64 x7, .int .i64 x8, .int .i64 x9, .int .i64 x10]] (heapOf []) (dataK k)
theorem gRKn_text (C : Ct) (L : AtLoop) (x0 : Int) (x1 : Int) (x2 : Int) (x3 : Int) (x4 : Int) (x5 : Int) (x7 : Int) (x8 : Int) (x9 : Int) (x10 : Int) (k : List D → Prop) : gRKn C L x0 x1 x2 x3 x4 x5 x7 x8 x9 x10 k =
 (((Says C 9 [(D.val (vI x0)), (D.val (vI 1)), (D.val (vI 2500))] [(D.val (Value.bool true))]) ∧
 (((Says C 9 [(D.val (vI x1)), (D.val (vI 1)), (D.val (vI 1000))] [(D.val (Value.bool true))]) ∧
 (((Says C 9 [(D.val (vI x2)), (D.val (vI 1)), (D.val (vI 1000))] [(D.val (Value.bool true))]) ∧
 (((Says C 9 [(D.val (vI x3)), (D.val (vI 0)), (D.val (vI 20000))] [(D.val (Value.bool true))]) ∧
 (((Says C 9 [(D.val (vI x4)), (D.val (vI 0)), (D.val (vI 20000))] [(D.val (Value.bool true))]) ∧
 (((Says C 9 [(D.val (vI x5)), (D.val (vI 0)), (D.val (vI 20000))] [(D.val (Value.bool true))]) ∧
 (((Says C 9 [(D.val (vI x7)), (D.val (vI 1)), (D.val (vI 100))] [(D.val (Value.bool true))]) ∧
 (((Says C 9 [(D.val (vI x8)), (D.val (vI 1)), (D.val (vI 100))] [(D.val (Value.bool true))]) ∧
 (((Says C 9 [(D.val (vI x9)), (D.val (vI 0)), (D.val (vI 100))] [(D.val (Value.bool true))]) ∧
 (((Says C 9 [(D.val (vI x10)), (D.val (vI 0)), (D.val (vI 100))] [(D.val (Value.bool true))]) ∧
 (bcase (decide (x2 > x1))
 (k [(D.val (vI 0)), (D.val (vI 9))])
 (bcase (decide (x3 > x4))
 (k [(D.val (vI 0)), (D.val (vI 9))])
 (bcase (decide (x7 > x8))
 (k [(D.val (vI 0)), (D.val (vI 9))])
 (bcase (decide (x9 > x10))
 (k [(D.val (vI 0)), (D.val (vI 9))])
 (k [(D.val (vI 0)), (D.val (vI 10))])))))) ∨
 ((Says C 9 [(D.val (vI x10)), (D.val (vI 0)), (D.val (vI 100))] [(D.val (Value.bool false))]) ∧
 (k [(D.val (vI 0)), (D.val (vI 2))])))) ∨
 ((Says C 9 [(D.val (vI x9)), (D.val (vI 0)), (D.val (vI 100))] [(D.val (Value.bool false))]) ∧
 (k [(D.val (vI 0)), (D.val (vI 2))])))) ∨
 ((Says C 9 [(D.val (vI x8)), (D.val (vI 1)), (D.val (vI 100))] [(D.val (Value.bool false))]) ∧
 (k [(D.val (vI 0)), (D.val (vI 2))])))) ∨
 ((Says C 9 [(D.val (vI x7)), (D.val (vI 1)), (D.val (vI 100))] [(D.val (Value.bool false))]) ∧
 (k [(D.val (vI 0)), (D.val (vI 2))])))) ∨
 ((Says C 9 [(D.val (vI x5)), (D.val (vI 0)), (D.val (vI 20000))] [(D.val (Value.bool false))]) ∧
 (k [(D.val (vI 0)), (D.val (vI 2))])))) ∨
 ((Says C 9 [(D.val (vI x4)), (D.val (vI 0)), (D.val (vI 20000))] [(D.val (Value.bool false))]) ∧
 (k [(D.val (vI 0)), (D.val (vI 2))])))) ∨
 ((Says C 9 [(D.val (vI x3)), (D.val (vI 0)), (D.val (vI 20000))] [(D.val (Value.bool false))]) ∧
 (k [(D.val (vI 0)), (D.val (vI 2))])))) ∨
 ((Says C 9 [(D.val (vI x2)), (D.val (vI 1)), (D.val (vI 1000))] [(D.val (Value.bool false))]) ∧
 (k [(D.val (vI 0)), (D.val (vI 2))])))) ∨
 ((Says C 9 [(D.val (vI x1)), (D.val (vI 1)), (D.val (vI 1000))] [(D.val (Value.bool false))]) ∧
 (k [(D.val (vI 0)), (D.val (vI 2))])))) ∨
 ((Says C 9 [(D.val (vI x0)), (D.val (vI 1)), (D.val (vI 2500))] [(D.val (Value.bool false))]) ∧
 (k [(D.val (vI 0)), (D.val (vI 2))]))) := by kernel_rfl
def gRE (C : Ct) (L : AtLoop) (x0 : Int) (x1 : Int) (x2 : Int) (x3 : Int) (x4 : Int) (x5 : Int) (n6 : Nat) (c6 : Nat) (l6 : List Value) (x7 : Int) (x8 : Int) (x9 : Int) (x10 : Int) (k : List D → Prop) : Prop := wpFn Tryz.prog (hP C) L 0 45 #[.agg #[.int .i64 x0, .int .i64 x1, .int .i64 x2, .int .i64 x3, .int .i64 x4, .int .i64 x5, .slice (some ⟨500, 0, none⟩) n6 c6, .int .i64 x7, .int .i64 x8, .int .i64 x9, .int .i64 x10]] (heapOf [(500, .sym l6 false 5)]) (dataK k)
theorem gRE_text (C : Ct) (L : AtLoop) (x0 : Int) (x1 : Int) (x2 : Int) (x3 : Int) (x4 : Int) (x5 : Int) (n6 : Nat) (c6 : Nat) (l6 : List Go.Value) (x7 : Int) (x8 : Int) (x9 : Int) (x10 : Int) (k : List D → Prop) : gRE C L x0 x1 x2 x3 x4 x5 n6 c6 l6 x7 x8 x9 x10 k =
 (bcase (decide (0 + n6 * 5 ≤ List.length l6))
 (∃ n1 : Int,
 (∃ n2 : Int,
 ((Says C 93 [(D.agg [(D.val (vI x0)), (D.val (vI x1)), (D.val (vI x2)), (D.val (vI x3)), (D.val (vI x4)), (D.val (vI x5)), (D.sl (n6) 5 (List.take (n6 * 5) (List.drop 0 l6))), (D.val (vI x7)), (D.val (vI x8)), (D.val (vI x9)), (D.val (vI x10))])] [(D.val (vI n1)), (D.val (vI n2))]) ∧
 (k [(D.val (vI n2))]))))
 False) := by kernel_rfl
def gREn (C : Ct) (L : AtLoop) (x0 : Int) (x1 : Int) (x2 : Int) (x3 : Int) (x4 : Int) (x5 : Int) (x7 : Int) (x8 : Int) (x9 : Int) (x10 : Int) (k : List D → Prop) : Prop := wpFn Tryz.prog (hP C) L 0 45 #[.agg #[.int .i64 x0, .int .i64 x1, .int .i64 x2, .int .i64 x3, .int .i64 x4, .int .i64 x5, .slice none 0 0, .int .i64 x7, .int .i64 x8, .int .i64 x9, .int .i64 x10]] (heapOf []) (dataK k)
theorem gREn_text (C : Ct) (L : AtLoop) (x0 : Int) (x1 : Int) (x2 : Int) (x3 : Int) (x4 : Int) (x5 : Int) (x7 : Int) (x8 : Int) (x9 : Int) (x10 : Int) (k : List D → Prop) : gREn C L x0 x1 x2 x3 x4 x5 x7 x8 x9 x10 k =
 (∃ n1 : Int,
 (∃ n2 : Int,
 ((Says C 93 [(D.agg [(D.val (vI x0)), (D.val (vI x1)), (D.val (vI x2)), (D.val (vI x3)), (D.val (vI x4)), (D.val (vI x5)), D.nil, (D.val (vI x7)), (D.val (vI x8)), (D.val (vI x9)), (D.val (vI x10))])] [(D.val (vI n1)), (D.val (vI n2))]) ∧
 (k [(D.val (vI n2))])))) := by kernel_rfl
def gRS (C : Ct) (L : AtLoop) (x0 : Int) (x1 : Int) (x2 : Int) (x3 : Int) (x4 : Int) (x5 : Int) (n6 : Nat) (c6 : Nat) (l6 : List Value) (x7 : Int) (x8 : Int) (x9 : Int) (x10 : Int) (s11 : ByteArray) (n12 : Nat) (c12 : Nat) (l12 : List Value) (k : List D → Prop) : Prop := wpFn Tryz.prog (hP C) L 0 94 #[.agg #[.int .i64 x0, .int .i64 x1, .int .i64 x2, .int .i64 x3, .int .i64 x4, .int .i64 x5, .slice (some ⟨500, 0, none⟩) n6 c6, .int .i64 x7, .int .i64 x8, .int .i64 x9, .int .i64 x10], .agg #[.string s11, .slice (some ⟨501, 0, none⟩) n12 c12]] (heapOf [(500, .sym l6 false 5), (501, .sym l12 false 1)]) (dataK k)
theorem gRS_text (C : Ct) (L : AtLoop) (x0 : Int) (x1 : Int) (x2 : Int) (x3 : Int) (x4 : Int) (x5 : Int) (n6 : Nat) (c6 : Nat) (l6 : List Go.Value) (x7 : Int) (x8 : Int) (x9 : Int) (x10 : Int) (s11 : ByteArray) (n12 : Nat) (c12 : Nat) (l12 : List Go.Value) (k : List D → Prop) : gRS C L x0 x1 x2 x3 x4 x5 n6 c6 l6 x7 x8 x9 x10 s11 n12 c12 l12 k =
 (((Says C 124 [(D.val (Value.string (s11)))] [(D.val (Value.bool true))]) ∧
 (bcase ((↑n12 : Int) != (↑n6 : Int))
 (k [(D.val (vI 0)), (D.val (vI 10))])
 (L 0 [(Prod.mk 2 (Pt 1000 0)), (Prod.mk 3 (Pt 1001 0)), (Prod.mk 6 (vI x1)), (Prod.mk 7 (vI 0))] [(Prod.mk 1000 (AObj.cells [(vI x0), (vI x1), (vI x2), (vI x3), (vI x4), (vI x5), (Sl 500 (n6) (c6)), (vI x7), (vI x8), (vI x9), (vI x10)] 26 false 1)), (Prod.mk 1001 (AObj.cells [(Value.string (s11)), (Sl 501 (n12) (c12))] 29 false 1)), (Prod.mk 500 (AObj.sym (l6) false 5)), (Prod.mk 501 (AObj.sym (l12) false 1))]))) ∨
 ((Says C 124 [(D.val (Value.string (s11)))] [(D.val (Value.bool false))]) ∧
 (k [(D.val (vI 0)), (D.val (vI 4))]))) := by kernel_rfl
abbrev zRS1 (x0 : Int) (x1 : Int) (x2 : Int) (x3 : Int) (x4 : Int) (x5 : Int) (x6 : Int) (x7 : Int) (n8 : Nat) (c9 : Nat) (x10 : Int) (x11 : Int) (x12 : Int) (x13 : Int) (s14 : ByteArray) (n15 : Nat) (c16 : Nat) (l17 : List Value) (l18 : List Value) : Slots × Blocks := ([(2, (Value.pointer (some ⟨1000, 0, none⟩))), (3, (Value.pointer (some ⟨1001, 0, none⟩))), (6, (Value.int .i64 x0)), (7, (Value.int .i64 x1))], [(1000, (AObj.cells [(Value.int .i64 x2), (Value.int .i64 x3), (Value.int .i64 x4), (Value.int .i64 x5), (Value.int .i64 x6), (Value.int .i64 x7), (Value.slice (some ⟨500, 0, none⟩) n8 c9), (Value.int .i64 x10), (Value.int .i64 x11), (Value.int .i64 x12), (Value.int .i64 x13)] 26 false 1)), (1001, (AObj.cells [(Value.string s14), (Value.slice (some ⟨501, 0, none⟩) n15 c16)] 29 false 1)), (500, (AObj.sym l17 false 5)), (501, (AObj.sym l18 false 1))])
def rRS1 (C : Ct) (L : AtLoop) (x0 : Int) (x1 : Int) (x2 : Int) (x3 : Int) (x4 : Int) (x5 : Int) (x6 : Int) (x7 : Int) (n8 : Nat) (c9 : Nat) (x10 : Int) (x11 : Int) (x12 : Int) (x13 : Int) (s14 : ByteArray) (n15 : Nat) (c16 : Nat) (l17 : List Value) (l18 : List Value) (B : Bx) (X : Xx) (k : List D → Prop) : Prop := wpRound Tryz.prog (hP C) L 94 0 [(2, (Value.pointer (some ⟨1000, 0, none⟩))), (3, (Value.pointer (some ⟨1001, 0, none⟩))), (6, (Value.int .i64 x0)), (7, (Value.int .i64 x1))] [(1000, (AObj.cells [(Value.int .i64 x2), (Value.int .i64 x3), (Value.int .i64 x4), (Value.int .i64 x5), (Value.int .i64 x6), (Value.int .i64 x7), (Value.slice (some ⟨500, 0, none⟩) n8 c9), (Value.int .i64 x10), (Value.int .i64 x11), (Value.int .i64 x12), (Value.int .i64 x13)] 26 false 1)), (1001, (AObj.cells [(Value.string s14), (Value.slice (some ⟨501, 0, none⟩) n15 c16)] 29 false 1)), (500, (AObj.sym l17 false 5)), (501, (AObj.sym l18 false 1))] B X (dataK k)
theorem rRS1_text (C : Ct) (L : AtLoop) (x0 : Int) (x1 : Int) (x2 : Int) (x3 : Int) (x4 : Int) (x5 : Int) (x6 : Int) (x7 : Int) (n8 : Nat) (c9 : Nat) (x10 : Int) (x11 : Int) (x12 : Int) (x13 : Int) (s14 : ByteArray) (n15 : Nat) (c16 : Nat) (l17 : List Go.Value) (l18 : List Go.Value) (B : Bx) (X : Xx) (k : List D → Prop) : rRS1 C L x0 x1 x2 x3 x4 x5 x6 x7 n8 c9 x10 x11 x12 x13 s14 n15 c16 l17 l18 B X k =
 (bcase (decide (x1 < (↑n15 : Int)))
 (bcase (decide (0 ≤ x1))
 (bcase (decide (x1 < (↑n15 : Int)))
 (∃ n1 : Int,
 ((At (l18) (0 + Int.toNat x1 * 1) 1 [(vI n1)]) ∧
 (((Says C 9 [(D.val (vI n1)), (D.val (vI 1)), (D.val (vI 1000))] [(D.val (Value.bool true))]) ∧
 (bcase (decide (0 ≤ x1))
 (bcase (decide (x1 < (↑n15 : Int)))
 (∃ n2 : Int,
 ((At (l18) (0 + Int.toNat x1 * 1) 1 [(vI n2)]) ∧
 (bcase (decide (n2 > x0))
 (k [(D.val (vI x1)), (D.val (vI 9))])
 (bcase (decide (0 ≤ x1))
 (bcase (decide (x1 < (↑n15 : Int)))
 (∃ n3 : Int,
 ((At (l18) (0 + Int.toNat x1 * 1) 1 [(vI n3)]) ∧
 (B [(Prod.mk 2 (Pt 1000 0)), (Prod.mk 3 (Pt 1001 0)), (Prod.mk 6 (vI n3)), (Prod.mk 7 (vI (IntKind.wrap .i64 (x1 + 1))))] [(Prod.mk 1000 (AObj.cells [(vI x2), (vI x3), (vI x4), (vI x5), (vI x6), (vI x7), (Sl 500 (n8) (c9)), (vI x10), (vI x11), (vI x12), (vI x13)] 26 false 1)), (Prod.mk 1001 (AObj.cells [(Value.string (s14)), (Sl 501 (n15) (c16))] 29 false 1)), (Prod.mk 500 (AObj.sym (l17) false 5)), (Prod.mk 501 (AObj.sym (l18) false 1))])))
 False)
 False))))
 False)
 False)) ∨
 ((Says C 9 [(D.val (vI n1)), (D.val (vI 1)), (D.val (vI 1000))] [(D.val (Value.bool false))]) ∧
 (k [(D.val (vI x1)), (D.val (vI 2))])))))
 False)
 False)
 (X 0 [(Prod.mk 2 (Pt 1000 0)), (Prod.mk 6 (vI x0))] [(Prod.mk 1000 (AObj.cells [(vI x2), (vI x3), (vI x4), (vI x5), (vI x6), (vI x7), (Sl 500 (n8) (c9)), (vI x10), (vI x11), (vI x12), (vI x13)] 26 false 1)), (Prod.mk 500 (AObj.sym (l17) false 5))])) := by kernel_rfl
def nRS2 (C : Ct) (L : AtLoop) (x0 : Int) (x1 : Int) (x2 : Int) (x3 : Int) (x4 : Int) (x5 : Int) (x6 : Int) (n7 : Nat) (c8 : Nat) (x9 : Int) (x10 : Int) (x11 : Int) (x12 : Int) (l13 : List Value) (k : List D → Prop) : Prop := wpNext Tryz.prog (hP C) L 94 0 .normal [(2, (Value.pointer (some ⟨1000, 0, none⟩))), (6, (Value.int .i64 x0))] [(1000, (AObj.cells [(Value.int .i64 x1), (Value.int .i64 x2), (Value.int .i64 x3), (Value.int .i64 x4), (Value.int .i64 x5), (Value.int .i64 x6), (Value.slice (some ⟨500, 0, none⟩) n7 c8), (Value.int .i64 x9), (Value.int .i64 x10), (Value.int .i64 x11), (Value.int .i64 x12)] 26 false 1)), (500, (AObj.sym l13 false 5))] (dataK k)
theorem nRS2_text (C : Ct) (L : AtLoop) (x0 : Int) (x1 : Int) (x2 : Int) (x3 : Int) (x4 : Int) (x5 : Int) (x6 : Int) (n7 : Nat) (c8 : Nat) (x9 : Int) (x10 : Int) (x11 : Int) (x12 : Int) (l13 : List Go.Value) (k : List D → Prop) : nRS2 C L x0 x1 x2 x3 x4 x5 x6 n7 c8 x9 x10 x11 x12 l13 k =
 (bcase (x0 != x3)
 (k [(D.val (vI (IntKind.wrap .i64 ((↑n7 : Int) - 1)))), (D.val (vI 14))])
 (k [(D.val (vI 0)), (D.val (vI 0))])) := by kernel_rfl
def gRSn (C : Ct) (L : AtLoop) (x0 : Int) (x1 : Int) (x2 : Int) (x3 : Int) (x4 : Int) (x5 : Int) (n6 : Nat) (c6 : Nat) (l6 : List Value) (x7 : Int) (x8 : Int) (x9 : Int) (x10 : Int) (s11 : ByteArray) (k : List D → Prop) : Prop := wpFn Tryz.prog (hP C) L 0 94 #[.agg #[.int .i64 x0, .int .i64 x1, .int .i64 x2, .int .i64 x3, .int .i64 x4, .int .i64 x5, .slice (some ⟨500, 0, none⟩) n6 c6, .int .i64 x7, .int .i64 x8, .int .i64 x9, .int .i64 x10], .agg #[.string s11, .slice none 0 0]] (heapOf [(500, .sym l6 false 5)]) (dataK k)
theorem gRSn_text (C : Ct) (L : AtLoop) (x0 : Int) (x1 : Int) (x2 : Int) (x3 : Int) (x4 : Int) (x5 : Int) (n6 : Nat) (c6 : Nat) (l6 : List Go.Value) (x7 : Int) (x8 : Int) (x9 : Int) (x10 : Int) (s11 : ByteArray) (k : List D → Prop) : gRSn C L x0 x1 x2 x3 x4 x5 n6 c6 l6 x7 x8 x9 x10 s11 k =
 (((Says C 124 [(D.val (Value.string (s11)))] [(D.val (Value.bool true))]) ∧
 (bcase ((↑0 : Int) != (↑n6 : Int))
 (k [(D.val (vI 0)), (D.val (vI 10))])
 (L 0 [(Prod.mk 2 (Pt 1000 0)), (Prod.mk 3 (Pt 1001 0)), (Prod.mk 6 (vI x1)), (Prod.mk 7 (vI 0))] [(Prod.mk 1000 (AObj.cells [(vI x0), (vI x1), (vI x2), (vI x3), (vI x4), (vI x5), (Sl 500 (n6) (c6)), (vI x7), (vI x8), (vI x9), (vI x10)] 26 false 1)), (Prod.mk 1001 (AObj.cells [(Value.string (s11)), (Value.slice none 0 0)] 29 false 1)), (Prod.mk 500 (AObj.sym (l6) false 5))]))) ∨
 ((Says C 124 [(D.val (Value.string (s11)))] [(D.val (Value.bool false))]) ∧
 (k [(D.val (vI 0)), (D.val (vI 4))]))) := by kernel_rfl
def gSE (C : Ct) (L : AtLoop) (x0 : Int) (x1 : Int) (x2 : Int) (x3 : Int) (x4 : Int) (x5 : Int) (n6 : Nat) (c6 : Nat) (l6 : List Value) (x7 : Int) (x8 : Int) (x9 : Int) (x10 : Int) (s11 : ByteArray) (n12 : Nat) (c12 : Nat) (l12 : List Value) (k : List D → Prop) : Prop := wpFn Tryz.prog (hP C) L 0 46 #[.agg #[.int .i64 x0, .int .i64 x1, .int .i64 x2, .int .i64 x3, .int .i64 x4, .int .i64 x5, .slice (some ⟨500, 0, none⟩) n6 c6, .int .i64 x7, .int .i64 x8, .int .i64 x9, .int .i64 x10], .agg #[.string s11, .slice (some ⟨501, 0, none⟩) n12 c12]] (heapOf [(500, .sym l6 false 5), (501, .sym l12 false 1)]) (dataK k)
theorem gSE_text (C : Ct) (L : AtLoop) (x0 : Int) (x1 : Int) (x2 : Int) (x3 : Int) (x4 : Int) (x5 : Int) (n6 : Nat) (c6 : Nat) (l6 : List Go.Value) (x7 : Int) (x8 : Int) (x9 : Int) (x10 : Int) (s11 : ByteArray) (n12 : Nat) (c12 : Nat) (l12 : List Go.Value) (k : List D → Prop) : gSE C L x0 x1 x2 x3 x4 x5 n6 c6 l6 x7 x8 x9 x10 s11 n12 c12 l12 k =
 (bcase (decide (0 + n6 * 5 ≤ List.length l6))
 (bcase (decide (0 + n12 * 1 ≤ List.length l12))
 (∃ n1 : Int,
 (∃ n2 : Int,
 ((Says C 94 [(D.agg [(D.val (vI x0)), (D.val (vI x1)), (D.val (vI x2)), (D.val (vI x3)), (D.val (vI x4)), (D.val (vI x5)), (D.sl (n6) 5 (List.take (n6 * 5) (List.drop 0 l6))), (D.val (vI x7)), (D.val (vI x8)), (D.val (vI x9)), (D.val (vI x10))]), (D.agg [(D.val (Value.string (s11))), (D.sl (n12) 1 (List.take (n12 * 1) (List.drop 0 l12)))])] [(D.val (vI n1)), (D.val (vI n2))]) ∧
 (k [(D.val (vI n2))]))))
 False)
 False) := by kernel_rfl
def gSEn (C : Ct) (L : AtLoop) (x0 : Int) (x1 : Int) (x2 : Int) (x3 : Int) (x4 : Int) (x5 : Int) (n6 : Nat) (c6 : Nat) (l6 : List Value) (x7 : Int) (x8 : Int) (x9 : Int) (x10 : Int) (s11 : ByteArray) (k : List D → Prop) : Prop := wpFn Tryz.prog (hP C) L 0 46 #[.agg #[.int .i64 x0, .int .i64 x1, .int .i64 x2, .int .i64 x3, .int .i64 x4, .int .i64 x5, .slice (some ⟨500, 0, none⟩) n6 c6, .int .i64 x7, .int .i64 x8, .int .i64 x9, .int .i64 x10], .agg #[.string s11, .slice none 0 0]] (heapOf [(500, .sym l6 false 5)]) (dataK k)
theorem gSEn_text (C : Ct) (L : AtLoop) (x0 : Int) (x1 : Int) (x2 : Int) (x3 : Int) (x4 : Int) (x5 : Int) (n6 : Nat) (c6 : Nat) (l6 : List Go.Value) (x7 : Int) (x8 : Int) (x9 : Int) (x10 : Int) (s11 : ByteArray) (k : List D → Prop) : gSEn C L x0 x1 x2 x3 x4 x5 n6 c6 l6 x7 x8 x9 x10 s11 k =
 (bcase (decide (0 + n6 * 5 ≤ List.length l6))
 (∃ n1 : Int,
 (∃ n2 : Int,
 ((Says C 94 [(D.agg [(D.val (vI x0)), (D.val (vI x1)), (D.val (vI x2)), (D.val (vI x3)), (D.val (vI x4)), (D.val (vI x5)), (D.sl (n6) 5 (List.take (n6 * 5) (List.drop 0 l6))), (D.val (vI x7)), (D.val (vI x8)), (D.val (vI x9)), (D.val (vI x10))]), (D.agg [(D.val (Value.string (s11))), D.nil])] [(D.val (vI n1)), (D.val (vI n2))]) ∧
 (k [(D.val (vI n2))]))))
 False) := by kernel_rfl
def gBE (C : Ct) (L : AtLoop) (x0 : Int) (x1 : Int) (x2 : Int) (x3 : Int) (x4 : Int) (x5 : Int) (n6 : Nat) (c6 : Nat) (l6 : List Value) (x7 : Int) (x8 : Int) (x9 : Int) (x10 : Int) (s11 : ByteArray) (n12 : Nat) (c12 : Nat) (l12 : List Value) (k : List D → Prop) : Prop := wpFn Tryz.prog (hP C) L 0 8 #[.agg #[.int .i64 x0, .int .i64 x1, .int .i64 x2, .int .i64 x3, .int .i64 x4, .int .i64 x5, .slice (some ⟨500, 0, none⟩) n6 c6, .int .i64 x7, .int .i64 x8, .int .i64 x9, .int .i64 x10], .agg #[.string s11, .slice (some ⟨501, 0, none⟩) n12 c12]] (heapOf [(500, .sym l6 false 5), (501, .sym l12 false 1)]) (dataK k)
theorem gBE_text (C : Ct) (L : AtLoop) (x0 : Int) (x1 : Int) (x2 : Int) (x3 : Int) (x4 : Int) (x5 : Int) (n6 : Nat) (c6 : Nat) (l6 : List Go.Value) (x7 : Int) (x8 : Int) (x9 : Int) (x10 : Int) (s11 : ByteArray) (n12 : Nat) (c12 : Nat) (l12 : List Go.Value) (k : List D → Prop) : gBE C L x0 x1 x2 x3 x4 x5 n6 c6 l6 x7 x8 x9 x10 s11 n12 c12 l12 k =
 (bcase (decide (0 + n6 * 5 ≤ List.length l6))
 (∃ n1 : Int,
 ((Says C 45 [(D.agg [(D.val (vI x0)), (D.val (vI x1)), (D.val (vI x2)), (D.val (vI x3)), (D.val (vI x4)), (D.val (vI x5)), (D.sl (n6) 5 (List.take (n6 * 5) (List.drop 0 l6))), (D.val (vI x7)), (D.val (vI x8)), (D.val (vI x9)), (D.val (vI x10))])] [(D.val (vI n1))]) ∧
 (bcase (n1 != 0)
 (k [(D.val (vI n1))])
 (bcase (decide (0 + n6 * 5 ≤ List.length l6))
 (bcase (decide (0 + n12 * 1 ≤ List.length l12))
 (∃ n2 : Int,
 ((Says C 46 [(D.agg [(D.val (vI x0)), (D.val (vI x1)), (D.val (vI x2)), (D.val (vI x3)), (D.val (vI x4)), (D.val (vI x5)), (D.sl (n6) 5 (List.take (n6 * 5) (List.drop 0 l6))), (D.val (vI x7)), (D.val (vI x8)), (D.val (vI x9)), (D.val (vI x10))]), (D.agg [(D.val (Value.string (s11))), (D.sl (n12) 1 (List.take (n12 * 1) (List.drop 0 l12)))])] [(D.val (vI n2))]) ∧
 (k [(D.val (vI n2))])))
 False)
 False))))
 False) := by kernel_rfl
def gBEn (C : Ct) (L : AtLoop) (x0 : Int) (x1 : Int) (x2 : Int) (x3 : Int) (x4 : Int) (x5 : Int) (n6 : Nat) (c6 : Nat) (l6 : List Value) (x7 : Int) (x8 : Int) (x9 : Int) (x10 : Int) (s11 : ByteArray) (k : List D → Prop) : Prop := wpFn Tryz.prog (hP C) L 0 8 #[.agg #[.int .i64 x0, .int .i64 x1, .int .i64 x2, .int .i64 x3, .int .i64 x4, .int .i64 x5, .slice (some ⟨500, 0, none⟩) n6 c6, .int .i64 x7, .int .i64 x8, .int .i64 x9, .int .i64 x10], .agg #[.string s11, .slice none 0 0]] (heapOf [(500, .sym l6 false 5)]) (dataK k)
theorem gBEn_text (C : Ct) (L : AtLoop) (x0 : Int) (x1 : Int) (x2 : Int) (x3 : Int) (x4 : Int) (x5 : Int) (n6 : Nat) (c6 : Nat) (l6 : List Go.Value) (x7 : Int) (x8 : Int) (x9 : Int) (x10 : Int) (s11 : ByteArray) (k : List D → Prop) : gBEn C L x0 x1 x2 x3 x4 x5 n6 c6 l6 x7 x8 x9 x10 s11 k =
 (bcase (decide (0 + n6 * 5 ≤ List.length l6))
 (∃ n1 : Int,
 ((Says C 45 [(D.agg [(D.val (vI x0)), (D.val (vI x1)), (D.val (vI x2)), (D.val (vI x3)), (D.val (vI x4)), (D.val (vI x5)), (D.sl (n6) 5 (List.take (n6 * 5) (List.drop 0 l6))), (D.val (vI x7)), (D.val (vI x8)), (D.val (vI x9)), (D.val (vI x10))])] [(D.val (vI n1))]) ∧
 (bcase (n1 != 0)
 (k [(D.val (vI n1))])
 (bcase (decide (0 + n6 * 5 ≤ List.length l6))
 (∃ n2 : Int,
 ((Says C 46 [(D.agg [(D.val (vI x0)), (D.val (vI x1)), (D.val (vI x2)), (D.val (vI x3)), (D.val (vI x4)), (D.val (vI x5)), (D.sl (n6) 5 (List.take (n6 * 5) (List.drop 0 l6))), (D.val (vI x7)), (D.val (vI x8)), (D.val (vI x9)), (D.val (vI x10))]), (D.agg [(D.val (Value.string (s11))), D.nil])] [(D.val (vI n2))]) ∧
 (k [(D.val (vI n2))])))
 False))))
 False) := by kernel_rfl
def gBEm (C : Ct) (L : AtLoop) (x0 : Int) (x1 : Int) (x2 : Int) (x3 : Int) (x4 : Int) (x5 : Int) (x7 : Int) (x8 : Int) (x9 : Int) (x10 : Int) (s11 : ByteArray) (n12 : Nat) (c12 : Nat) (l12 : List Value) (k : List D → Prop) : Prop := wpFn Tryz.prog (hP C) L 0 8 #[.agg #[.int .i64 x0, .int .i64 x1, .int .i64 x2, .int .i64 x3, .int .i64 x4, .int .i64 x5, .slice none 0 0, .int .i64 x7, .int .i64 x8, .int .i64 x9, .int .i64 x10], .agg #[.string s11, .slice (some ⟨500, 0, none⟩) n12 c12]] (heapOf [(500, .sym l12 false 1)]) (dataK k)
theorem gBEm_text (C : Ct) (L : AtLoop) (x0 : Int) (x1 : Int) (x2 : Int) (x3 : Int) (x4 : Int) (x5 : Int) (x7 : Int) (x8 : Int) (x9 : Int) (x10 : Int) (s11 : ByteArray) (n12 : Nat) (c12 : Nat) (l12 : List Go.Value) (k : List D → Prop) : gBEm C L x0 x1 x2 x3 x4 x5 x7 x8 x9 x10 s11 n12 c12 l12 k =
 (∃ n1 : Int,
 ((Says C 45 [(D.agg [(D.val (vI x0)), (D.val (vI x1)), (D.val (vI x2)), (D.val (vI x3)), (D.val (vI x4)), (D.val (vI x5)), D.nil, (D.val (vI x7)), (D.val (vI x8)), (D.val (vI x9)), (D.val (vI x10))])] [(D.val (vI n1))]) ∧
 (bcase (n1 != 0)
 (k [(D.val (vI n1))])
 (bcase (decide (0 + n12 * 1 ≤ List.length l12))
 (∃ n2 : Int,
 ((Says C 46 [(D.agg [(D.val (vI x0)), (D.val (vI x1)), (D.val (vI x2)), (D.val (vI x3)), (D.val (vI x4)), (D.val (vI x5)), D.nil, (D.val (vI x7)), (D.val (vI x8)), (D.val (vI x9)), (D.val (vI x10))]), (D.agg [(D.val (Value.string (s11))), (D.sl (n12) 1 (List.take (n12 * 1) (List.drop 0 l12)))])] [(D.val (vI n2))]) ∧
 (k [(D.val (vI n2))])))
 False)))) := by kernel_rfl
def gBEk (C : Ct) (L : AtLoop) (x0 : Int) (x1 : Int) (x2 : Int) (x3 : Int) (x4 : Int) (x5 : Int) (x7 : Int) (x8 : Int) (x9 : Int) (x10 : Int) (s11 : ByteArray) (k : List D → Prop) : Prop := wpFn Tryz.prog (hP C) L 0 8 #[.agg #[.int .i64 x0, .int .i64 x1, .int .i64 x2, .int .i64 x3, .int .i64 x4, .int .i64 x5, .slice none 0 0, .int .i64 x7, .int .i64 x8, .int .i64 x9, .int .i64 x10], .agg #[.string s11, .slice none 0 0]] (heapOf []) (dataK k)
theorem gBEk_text (C : Ct) (L : AtLoop) (x0 : Int) (x1 : Int) (x2 : Int) (x3 : Int) (x4 : Int) (x5 : Int) (x7 : Int) (x8 : Int) (x9 : Int) (x10 : Int) (s11 : ByteArray) (k : List D → Prop) : gBEk C L x0 x1 x2 x3 x4 x5 x7 x8 x9 x10 s11 k =
 (∃ n1 : Int,
 ((Says C 45 [(D.agg [(D.val (vI x0)), (D.val (vI x1)), (D.val (vI x2)), (D.val (vI x3)), (D.val (vI x4)), (D.val (vI x5)), D.nil, (D.val (vI x7)), (D.val (vI x8)), (D.val (vI x9)), (D.val (vI x10))])] [(D.val (vI n1))]) ∧
 (bcase (n1 != 0)
 (k [(D.val (vI n1))])
 (∃ n2 : Int,
 ((Says C 46 [(D.agg [(D.val (vI x0)), (D.val (vI x1)), (D.val (vI x2)), (D.val (vI x3)), (D.val (vI x4)), (D.val (vI x5)), D.nil, (D.val (vI x7)), (D.val (vI x8)), (D.val (vI x9)), (D.val (vI x10))]), (D.agg [(D.val (Value.string (s11))), D.nil])] [(D.val (vI n2))]) ∧
 (k [(D.val (vI n2))])))))) := by kernel_rfl
def gbf (C : Ct) (L : AtLoop) (x0 : Int) (x1 : Int) (x2 : Int) (x3 : Int) (x4 : Int) (x5 : Int) (n6 : Nat) (c6 : Nat) (l6 : List Value) (x7 : Int) (x8 : Int) (x9 : Int) (x10 : Int) (s11 : ByteArray) (n12 : Nat) (c12 : Nat) (l12 : List Value) (x13 : Int) (k : List D → Prop) : Prop := wpFn Tryz.prog (hP C) L 0 70 #[.agg #[.int .i64 x0, .int .i64 x1, .int .i64 x2, .int .i64 x3, .int .i64 x4, .int .i64 x5, .slice (some ⟨500, 0, none⟩) n6 c6, .int .i64 x7, .int .i64 x8, .int .i64 x9, .int .i64 x10], .agg #[.string s11, .slice (some ⟨501, 0, none⟩) n12 c12], .int .i64 x13] (heapOf [(500, .sym l6 false 5), (501, .sym l12 false 1)]) (dataK k)
theorem gbf_text (C : Ct) (L : AtLoop) (x0 : Int) (x1 : Int) (x2 : Int) (x3 : Int) (x4 : Int) (x5 : Int) (n6 : Nat) (c6 : Nat) (l6 : List Go.Value) (x7 : Int) (x8 : Int) (x9 : Int) (x10 : Int) (s11 : ByteArray) (n12 : Nat) (c12 : Nat) (l12 : List Go.Value) (x13 : Int) (k : List D → Prop) : gbf C L x0 x1 x2 x3 x4 x5 n6 c6 l6 x7 x8 x9 x10 s11 n12 c12 l12 x13 k =
 (bcase (x13 == 0)
 (k [(D.val (vI x1))])
 (bcase (decide (0 ≤ IntKind.wrap .i64 (x13 - 1)))
 (bcase (decide (IntKind.wrap .i64 (x13 - 1) < (↑n12 : Int)))
 (∃ n1 : Int,
 ((At (l12) (0 + Int.toNat (IntKind.wrap .i64 (x13 - 1)) * 1) 1 [(vI n1)]) ∧
 (k [(D.val (vI n1))])))
 False)
 False)) := by kernel_rfl
def grf (C : Ct) (L : AtLoop) (x0 : Int) (x1 : Int) (x2 : Int) (x3 : Int) (x4 : Int) (x5 : Int) (n6 : Nat) (c6 : Nat) (l6 : List Value) (x7 : Int) (x8 : Int) (x9 : Int) (x10 : Int) (x11 : Int) (x12 : Int) (x13 : Int) (x14 : Int) (k : List D → Prop) : Prop := wpFn Tryz.prog (hP C) L 0 71 #[.agg #[.int .i64 x0, .int .i64 x1, .int .i64 x2, .int .i64 x3, .int .i64 x4, .int .i64 x5, .slice (some ⟨500, 0, none⟩) n6 c6, .int .i64 x7, .int .i64 x8, .int .i64 x9, .int .i64 x10], .int .i64 x11, .int .i64 x12, .int .i64 x13, .int .i64 x14] (heapOf [(500, .sym l6 false 5)]) (dataK k)
theorem grf_text (C : Ct) (L : AtLoop) (x0 : Int) (x1 : Int) (x2 : Int) (x3 : Int) (x4 : Int) (x5 : Int) (n6 : Nat) (c6 : Nat) (l6 : List Go.Value) (x7 : Int) (x8 : Int) (x9 : Int) (x10 : Int) (x11 : Int) (x12 : Int) (x13 : Int) (x14 : Int) (k : List D → Prop) : grf C L x0 x1 x2 x3 x4 x5 n6 c6 l6 x7 x8 x9 x10 x11 x12 x13 x14 k =
 (bcase (x11 == x12)
 (k [(D.val (vI 0))])
 (k [(D.val (vI (IntKind.wrap .i64 (x0 * IntKind.wrap .i64 (IntKind.wrap .i64 (x13 * IntKind.wrap .i64 (x11 - x12)) + IntKind.wrap .i64 (x14 * IntKind.wrap .i64 (x11 + x12)))))))])) := by kernel_rfl
def grt (C : Ct) (L : AtLoop) (x0 : Int) (x1 : Int) (x2 : Int) (x3 : Int) (x4 : Int) (x5 : Int) (n6 : Nat) (c6 : Nat) (l6 : List Value) (x7 : Int) (x8 : Int) (x9 : Int) (x10 : Int) (x11 : Int) (x12 : Int) (x13 : Int) (x14 : Int) (k : List D → Prop) : Prop := wpFn Tryz.prog (hP C) L 0 72 #[.agg #[.int .i64 x0, .int .i64 x1, .int .i64 x2, .int .i64 x3, .int .i64 x4, .int .i64 x5, .slice (some ⟨500, 0, none⟩) n6 c6, .int .i64 x7, .int .i64 x8, .int .i64 x9, .int .i64 x10], .int .i64 x11, .int .i64 x12, .int .i64 x13, .int .i64 x14] (heapOf [(500, .sym l6 false 5)]) (dataK k)
theorem grt_text (C : Ct) (L : AtLoop) (x0 : Int) (x1 : Int) (x2 : Int) (x3 : Int) (x4 : Int) (x5 : Int) (n6 : Nat) (c6 : Nat) (l6 : List Go.Value) (x7 : Int) (x8 : Int) (x9 : Int) (x10 : Int) (x11 : Int) (x12 : Int) (x13 : Int) (x14 : Int) (k : List D → Prop) : grt C L x0 x1 x2 x3 x4 x5 n6 c6 l6 x7 x8 x9 x10 x11 x12 x13 x14 k =
 (bcase (decide (0 + n6 * 5 ≤ List.length l6))
 (∃ n1 : Int,
 ((Says C 71 [(D.agg [(D.val (vI x0)), (D.val (vI x1)), (D.val (vI x2)), (D.val (vI x3)), (D.val (vI x4)), (D.val (vI x5)), (D.sl (n6) 5 (List.take (n6 * 5) (List.drop 0 l6))), (D.val (vI x7)), (D.val (vI x8)), (D.val (vI x9)), (D.val (vI x10))]), (D.val (vI x11)), (D.val (vI x12)), (D.val (vI x13)), (D.val (vI x14))] [(D.val (vI n1))]) ∧
 (k [(D.val (vI (IntKind.wrap .i64 (n1 * IntKind.wrap .i64 (x11 - x12)))))])))
 False) := by kernel_rfl
def grh (C : Ct) (L : AtLoop) (x0 : Int) (x1 : Int) (x2 : Int) (x3 : Int) (x4 : Int) (x5 : Int) (n6 : Nat) (c6 : Nat) (l6 : List Value) (x7 : Int) (x8 : Int) (x9 : Int) (x10 : Int) (x11 : Int) (x12 : Int) (x13 : Int) (x14 : Int) (k : List D → Prop) : Prop := wpFn Tryz.prog (hP C) L 0 74 #[.agg #[.int .i64 x0, .int .i64 x1, .int .i64 x2, .int .i64 x3, .int .i64 x4, .int .i64 x5, .slice (some ⟨500, 0, none⟩) n6 c6, .int .i64 x7, .int .i64 x8, .int .i64 x9, .int .i64 x10], .int .i64 x11, .int .i64 x12, .int .i64 x13, .int .i64 x14] (heapOf [(500, .sym l6 false 5)]) (dataK k)
theorem grh_text (C : Ct) (L : AtLoop) (x0 : Int) (x1 : Int) (x2 : Int) (x3 : Int) (x4 : Int) (x5 : Int) (n6 : Nat) (c6 : Nat) (l6 : List Go.Value) (x7 : Int) (x8 : Int) (x9 : Int) (x10 : Int) (x11 : Int) (x12 : Int) (x13 : Int) (x14 : Int) (k : List D → Prop) : grh C L x0 x1 x2 x3 x4 x5 n6 c6 l6 x7 x8 x9 x10 x11 x12 x13 x14 k =
 (k [(D.val (vI (IntKind.wrap .i64 (IntKind.wrap .i64 (100 * IntKind.wrap .i64 (x13 - x14)) + IntKind.wrap .i64 (x12 * IntKind.wrap .i64 (x1 - x11))))))]) := by kernel_rfl
def gWj (C : Ct) (L : AtLoop) (x0 : Int) (x1 : Int) (x2 : Int) (k : List D → Prop) : Prop := wpFn Tryz.prog (hE C) L 0 9 #[.int .i64 x0, .int .i64 x1, .int .i64 x2] (heapOf []) (dataK k)
theorem gWj_text (C : Ct) (L : AtLoop) (x0 : Int) (x1 : Int) (x2 : Int) (k : List D → Prop) : gWj C L x0 x1 x2 k =
 (bcase (decide (x1 ≤ x0))
 (bcase (decide (x0 ≤ x2))
 (k [(D.val (Value.bool true))])
 (k [(D.val (Value.bool false))]))
 (k [(D.val (Value.bool false))])) := by kernel_rfl
def gIN (C : Ct) (L : AtLoop) (s0 : ByteArray) (k : List D → Prop) : Prop := wpFn Tryz.prog (hP C) L 0 124 #[.string s0] (heapOf []) (dataK k)
theorem gIN_text (C : Ct) (L : AtLoop) (s0 : ByteArray) (k : List D → Prop) : gIN C L s0 k =
 (bcase (decide ((↑(ByteArray.size s0) : Int) < 1))
 (k [(D.val (Value.bool false))])
 (bcase (decide ((↑(ByteArray.size s0) : Int) > 12))
 (k [(D.val (Value.bool false))])
 (L 0 [(Prod.mk 0 (Value.string (s0))), (Prod.mk 3 (vI 0))] []))) := by kernel_rfl
abbrev zIN1 (s0 : ByteArray) (x1 : Int) : Slots × Blocks := ([(0, (Value.string s0)), (3, (Value.int .i64 x1))], [])
def rIN1 (C : Ct) (L : AtLoop) (s0 : ByteArray) (x1 : Int) (B : Bx) (X : Xx) (k : List D → Prop) : Prop := wpRound Tryz.prog (hP C) L 124 0 [(0, (Value.string s0)), (3, (Value.int .i64 x1))] [] B X (dataK k)
theorem rIN1_text (C : Ct) (L : AtLoop) (s0 : ByteArray) (x1 : Int) (B : Bx) (X : Xx) (k : List D → Prop) : rIN1 C L s0 x1 B X k =
 (bcase (decide (x1 < (↑(ByteArray.size s0) : Int)))
 (bcase (decide (0 ≤ x1))
 (∃ b1 : UInt8,
 ((ByteAt (s0) (Int.toNat x1) (b1)) ∧
 (bcase (decide ((↑(UInt8.toNat b1) : Int) ≥ 97))
 (bcase (decide ((↑(UInt8.toNat b1) : Int) ≤ 122))
 (B [(Prod.mk 0 (Value.string (s0))), (Prod.mk 3 (vI (IntKind.wrap .i64 (x1 + 1))))] [])
 (bcase (decide ((↑(UInt8.toNat b1) : Int) ≥ 65))
 (bcase (decide ((↑(UInt8.toNat b1) : Int) ≤ 90))
 (B [(Prod.mk 0 (Value.string (s0))), (Prod.mk 3 (vI (IntKind.wrap .i64 (x1 + 1))))] [])
 (bcase (x1 == 0)
 (k [(D.val (Value.bool false))])
 (bcase ((↑(UInt8.toNat b1) : Int) != 45)
 (bcase (decide ((↑(UInt8.toNat b1) : Int) < 48))
 (k [(D.val (Value.bool false))])
 (bcase (decide ((↑(UInt8.toNat b1) : Int) > 57))
 (k [(D.val (Value.bool false))])
 (B [(Prod.mk 0 (Value.string (s0))), (Prod.mk 3 (vI (IntKind.wrap .i64 (x1 + 1))))] [])))
 (B [(Prod.mk 0 (Value.string (s0))), (Prod.mk 3 (vI (IntKind.wrap .i64 (x1 + 1))))] []))))
 (bcase (x1 == 0)
 (k [(D.val (Value.bool false))])
 (bcase ((↑(UInt8.toNat b1) : Int) != 45)
 (bcase (decide ((↑(UInt8.toNat b1) : Int) < 48))
 (k [(D.val (Value.bool false))])
 (bcase (decide ((↑(UInt8.toNat b1) : Int) > 57))
 (k [(D.val (Value.bool false))])
 (B [(Prod.mk 0 (Value.string (s0))), (Prod.mk 3 (vI (IntKind.wrap .i64 (x1 + 1))))] [])))
 (B [(Prod.mk 0 (Value.string (s0))), (Prod.mk 3 (vI (IntKind.wrap .i64 (x1 + 1))))] [])))))
 (bcase (decide ((↑(UInt8.toNat b1) : Int) ≥ 65))
 (bcase (decide ((↑(UInt8.toNat b1) : Int) ≤ 90))
 (B [(Prod.mk 0 (Value.string (s0))), (Prod.mk 3 (vI (IntKind.wrap .i64 (x1 + 1))))] [])
 (bcase (x1 == 0)
 (k [(D.val (Value.bool false))])
 (bcase ((↑(UInt8.toNat b1) : Int) != 45)
 (bcase (decide ((↑(UInt8.toNat b1) : Int) < 48))
 (k [(D.val (Value.bool false))])
 (bcase (decide ((↑(UInt8.toNat b1) : Int) > 57))
 (k [(D.val (Value.bool false))])
 (B [(Prod.mk 0 (Value.string (s0))), (Prod.mk 3 (vI (IntKind.wrap .i64 (x1 + 1))))] [])))
 (B [(Prod.mk 0 (Value.string (s0))), (Prod.mk 3 (vI (IntKind.wrap .i64 (x1 + 1))))] []))))
 (bcase (x1 == 0)
 (k [(D.val (Value.bool false))])
 (bcase ((↑(UInt8.toNat b1) : Int) != 45)
 (bcase (decide ((↑(UInt8.toNat b1) : Int) < 48))
 (k [(D.val (Value.bool false))])
 (bcase (decide ((↑(UInt8.toNat b1) : Int) > 57))
 (k [(D.val (Value.bool false))])
 (B [(Prod.mk 0 (Value.string (s0))), (Prod.mk 3 (vI (IntKind.wrap .i64 (x1 + 1))))] [])))
 (B [(Prod.mk 0 (Value.string (s0))), (Prod.mk 3 (vI (IntKind.wrap .i64 (x1 + 1))))] [])))))))
 False)
 (X 0 [] [])) := by kernel_rfl
def nIN2 (C : Ct) (L : AtLoop) (k : List D → Prop) : Prop := wpNext Tryz.prog (hP C) L 124 0 .normal [] [] (dataK k)
theorem nIN2_text (C : Ct) (L : AtLoop) (k : List D → Prop) : nIN2 C L k =
 (k [(D.val (Value.bool true))]) := by kernel_rfl
def gLe (C : Ct) (L : AtLoop) (x0 : Int) (x1 : Int) (k : List D → Prop) : Prop := wpFn Tryz.prog (hP C) L 0 44 #[.int .i64 x0, .int .i64 x1] (heapOf []) (dataK k)
theorem gLe_text (C : Ct) (L : AtLoop) (x0 : Int) (x1 : Int) (k : List D → Prop) : gLe C L x0 x1 k =
 (∃ n1 : Int,
 ((Says C 57 [(D.val (vI x0)), (D.val (vI x1))] [(D.val (vI n1))]) ∧
 (bcase (decide (x1 < 0))
 (bcase (IntKind.wrap .i64 (0 - n1) != 0)
 (bcase (IntKind.wrap .i64 (0 - n1) != 0)
 (((Qv (Value.agg [(vI (IntKind.wrap .i64 (Int.tdiv x0 (IntKind.wrap .i64 (0 - n1))))), (vI (IntKind.wrap .i64 (Int.tdiv x1 (IntKind.wrap .i64 (0 - n1)))))].toArray)) ∧
 ((bcase (IntKind.wrap .i64 (0 - n1) != 0)
 (Qv (vI (IntKind.wrap .i64 (Int.tdiv x1 (IntKind.wrap .i64 (0 - n1))))))
 False) ∧
 ((Qv (vI (IntKind.wrap .i64 (0 - n1)))) ∧
 ((Qv (vI x1)) ∧
 ((bcase (IntKind.wrap .i64 (0 - n1) != 0)
 (Qv (vI (IntKind.wrap .i64 (Int.tdiv x0 (IntKind.wrap .i64 (0 - n1))))))
 False) ∧
 ((Qv (vI (IntKind.wrap .i64 (0 - n1)))) ∧
 ((Qv (vI x0)) ∧
 True))))))) ∧
 (True ∧
 (k [(D.agg [(D.val (vI (IntKind.wrap .i64 (Int.tdiv x0 (IntKind.wrap .i64 (0 - n1)))))), (D.val (vI (IntKind.wrap .i64 (Int.tdiv x1 (IntKind.wrap .i64 (0 - n1))))))])])))
 False)
 False)
 (bcase (n1 != 0)
 (bcase (n1 != 0)
 (((Qv (Value.agg [(vI (IntKind.wrap .i64 (Int.tdiv x0 n1))), (vI (IntKind.wrap .i64 (Int.tdiv x1 n1)))].toArray)) ∧
 ((bcase (n1 != 0)
 (Qv (vI (IntKind.wrap .i64 (Int.tdiv x1 n1))))
 False) ∧
 ((Qv (vI n1)) ∧
 ((Qv (vI x1)) ∧
 ((bcase (n1 != 0)
 (Qv (vI (IntKind.wrap .i64 (Int.tdiv x0 n1))))
 False) ∧
 ((Qv (vI n1)) ∧
 ((Qv (vI x0)) ∧
 True))))))) ∧
 (True ∧
 (k [(D.agg [(D.val (vI (IntKind.wrap .i64 (Int.tdiv x0 n1)))), (D.val (vI (IntKind.wrap .i64 (Int.tdiv x1 n1))))])])))
 False)
 False)))) := by kernel_rfl
def gGc (C : Ct) (L : AtLoop) (x0 : Int) (x1 : Int) (k : List D → Prop) : Prop := wpFn Tryz.prog (hP C) L 0 57 #[.int .i64 x0, .int .i64 x1] (heapOf []) (dataK k)
theorem gGc_text (C : Ct) (L : AtLoop) (x0 : Int) (x1 : Int) (k : List D → Prop) : gGc C L x0 x1 k =
 (L 0 [(Prod.mk 0 (vI x0)), (Prod.mk 1 (vI x1))] []) := by kernel_rfl
abbrev zGc1 (x0 : Int) (x1 : Int) : Slots × Blocks := ([(0, (Value.int .i64 x0)), (1, (Value.int .i64 x1))], [])
def rGc1 (C : Ct) (L : AtLoop) (x0 : Int) (x1 : Int) (B : Bx) (X : Xx) (k : List D → Prop) : Prop := wpRound Tryz.prog (hP C) L 57 0 [(0, (Value.int .i64 x0)), (1, (Value.int .i64 x1))] [] B X (dataK k)
theorem rGc1_text (C : Ct) (L : AtLoop) (x0 : Int) (x1 : Int) (B : Bx) (X : Xx) (k : List D → Prop) : rGc1 C L x0 x1 B X k =
 (bcase (x1 != 0)
 (bcase (x1 != 0)
 (((bcase (x1 != 0)
 (Qv (vI (Int.tmod x0 x1)))
 False) ∧
 ((Qv (vI x1)) ∧
 ((Qv (vI x0)) ∧
 ((Qv (vI x1)) ∧
 True)))) ∧
 (((bcase (x1 != 0)
 (Qv (vI (Int.tmod x0 x1)))
 False) ∧
 ((Qv (vI x1)) ∧
 True)) ∧
 (True ∧
 (B [(Prod.mk 0 (vI x1)), (Prod.mk 1 (vI (Int.tmod x0 x1)))] []))))
 False)
 (X 0 [(Prod.mk 0 (vI x0))] [])) := by kernel_rfl
def nGc2 (C : Ct) (L : AtLoop) (x0 : Int) (k : List D → Prop) : Prop := wpNext Tryz.prog (hP C) L 57 0 .normal [(0, (Value.int .i64 x0))] [] (dataK k)
theorem nGc2_text (C : Ct) (L : AtLoop) (x0 : Int) (k : List D → Prop) : nGc2 C L x0 k =
 (∃ n1 : Int,
 ((Says C 96 [(D.val (vI x0))] [(D.val (vI n1))]) ∧
 (k [(D.val (vI n1))]))) := by kernel_rfl
def gSi (C : Ct) (L : AtLoop) (x0 : Int) (k : List D → Prop) : Prop := wpFn Tryz.prog (hE C) L 0 96 #[.int .i64 x0] (heapOf []) (dataK k)
theorem gSi_text (C : Ct) (L : AtLoop) (x0 : Int) (k : List D → Prop) : gSi C L x0 k =
 (k [(D.val (vI (if IntKind.wrap .i64 (0 - x0) > x0 then IntKind.wrap .i64 (0 - x0) else x0)))]) := by kernel_rfl
def gFO (C : Ct) (L : AtLoop) (x0 : Int) (x1 : Int) (x2 : Int) (x3 : Int) (x4 : Int) (x5 : Int) (n6 : Nat) (c6 : Nat) (l6 : List Value) (x7 : Int) (x8 : Int) (x9 : Int) (x10 : Int) (s11 : ByteArray) (n12 : Nat) (c12 : Nat) (l12 : List Value) (k : List D → Prop) : Prop := wpFn Tryz.prog (hP C) L 0 21 #[.agg #[.int .i64 x0, .int .i64 x1, .int .i64 x2, .int .i64 x3, .int .i64 x4, .int .i64 x5, .slice (some ⟨500, 0, none⟩) n6 c6, .int .i64 x7, .int .i64 x8, .int .i64 x9, .int .i64 x10], .agg #[.string s11, .slice (some ⟨501, 0, none⟩) n12 c12]] (heapOf [(500, .sym l6 false 5), (501, .sym l12 false 1)]) (dataK k)
theorem gFO_text (C : Ct) (L : AtLoop) (x0 : Int) (x1 : Int) (x2 : Int) (x3 : Int) (x4 : Int) (x5 : Int) (n6 : Nat) (c6 : Nat) (l6 : List Go.Value) (x7 : Int) (x8 : Int) (x9 : Int) (x10 : Int) (s11 : ByteArray) (n12 : Nat) (c12 : Nat) (l12 : List Go.Value) (k : List D → Prop) : gFO C L x0 x1 x2 x3 x4 x5 n6 c6 l6 x7 x8 x9 x10 s11 n12 c12 l12 k =
 (bcase (decide (0 + n6 * 5 ≤ List.length l6))
 (bcase (decide (0 + n12 * 1 ≤ List.length l12))
 (∃ n1 : Int,
 (∃ n2 : Int,
 ((Says C 95 [(D.agg [(D.val (vI x0)), (D.val (vI x1)), (D.val (vI x2)), (D.val (vI x3)), (D.val (vI x4)), (D.val (vI x5)), (D.sl (n6) 5 (List.take (n6 * 5) (List.drop 0 l6))), (D.val (vI x7)), (D.val (vI x8)), (D.val (vI x9)), (D.val (vI x10))]), (D.agg [(D.val (Value.string (s11))), (D.sl (n12) 1 (List.take (n12 * 1) (List.drop 0 l12)))])] [(D.val (vI n1)), (D.val (vI n2))]) ∧
 (bcase (n2 != 0)
 (bcase (n2 != 0)
 (k [D.nil, (D.val (vI n2))])
 (∃ n3 : Nat,
 (∃ out1 : List Go.Value,
 ((GoodFresh Go.Proofs.Tryz.prog 64 2 [(Value.agg [(vI 0), (vI 0), (vI 0), (vI 0), (vI 0), (vI 0), (Value.slice none 0 0), (vI 0), (vI 0), (vI 0), (vI 0)].toArray), (Value.agg [(Value.string (s11)), (Sl 500 (n12) (c12))].toArray), (Value.func (Go.Fn.func 65) [(Value.agg [(vI 0), (vI 0), (vI 0), (vI 0), (vI 0), (vI 0), (Value.slice none 0 0), (vI 0), (vI 0), (vI 0), (vI 0)].toArray)].toArray [].toArray)] [(Prod.mk 500 (AObj.sym (l12) false 1))] (n3) (out1)) ∧
 (((Qv (n3)) ∧
 ((List.length out1) = (n3 * 2))) ∧
 (k [(D.sl (n3) 2 (out1)), (D.val (vI 0))]))))))
 (∃ n3 : Nat,
 (∃ out1 : List Go.Value,
 ((GoodFresh Go.Proofs.Tryz.prog 64 2 [(Value.agg [(vI x0), (vI x1), (vI x2), (vI x3), (vI x4), (vI x5), (Sl 500 (n6) (c6)), (vI x7), (vI x8), (vI x9), (vI x10)].toArray), (Value.agg [(Value.string (s11)), (Sl 501 (n12) (c12))].toArray), (Value.func (Go.Fn.func 65) [(Value.agg [(vI x0), (vI x1), (vI x2), (vI x3), (vI x4), (vI x5), (Sl 500 (n6) (c6)), (vI x7), (vI x8), (vI x9), (vI x10)].toArray)].toArray [].toArray)] [(Prod.mk 500 (AObj.sym (l6) false 5)), (Prod.mk 501 (AObj.sym (l12) false 1))] (n3) (out1)) ∧
 (((Qv (n3)) ∧
 ((List.length out1) = (n3 * 2))) ∧
 (k [(D.sl (n3) 2 (out1)), (D.val (vI 0))])))))))))
 False)
 False) := by kernel_rfl
def gTO (C : Ct) (L : AtLoop) (x0 : Int) (x1 : Int) (x2 : Int) (x3 : Int) (x4 : Int) (x5 : Int) (n6 : Nat) (c6 : Nat) (l6 : List Value) (x7 : Int) (x8 : Int) (x9 : Int) (x10 : Int) (s11 : ByteArray) (n12 : Nat) (c12 : Nat) (l12 : List Value) (k : List D → Prop) : Prop := wpFn Tryz.prog (hP C) L 0 22 #[.agg #[.int .i64 x0, .int .i64 x1, .int .i64 x2, .int .i64 x3, .int .i64 x4, .int .i64 x5, .slice (some ⟨500, 0, none⟩) n6 c6, .int .i64 x7, .int .i64 x8, .int .i64 x9, .int .i64 x10], .agg #[.string s11, .slice (some ⟨501, 0, none⟩) n12 c12]] (heapOf [(500, .sym l6 false 5), (501, .sym l12 false 1)]) (dataK k)
theorem gTO_text (C : Ct) (L : AtLoop) (x0 : Int) (x1 : Int) (x2 : Int) (x3 : Int) (x4 : Int) (x5 : Int) (n6 : Nat) (c6 : Nat) (l6 : List Go.Value) (x7 : Int) (x8 : Int) (x9 : Int) (x10 : Int) (s11 : ByteArray) (n12 : Nat) (c12 : Nat) (l12 : List Go.Value) (k : List D → Prop) : gTO C L x0 x1 x2 x3 x4 x5 n6 c6 l6 x7 x8 x9 x10 s11 n12 c12 l12 k =
 (bcase (decide (0 + n6 * 5 ≤ List.length l6))
 (bcase (decide (0 + n12 * 1 ≤ List.length l12))
 (∃ n1 : Int,
 (∃ n2 : Int,
 ((Says C 95 [(D.agg [(D.val (vI x0)), (D.val (vI x1)), (D.val (vI x2)), (D.val (vI x3)), (D.val (vI x4)), (D.val (vI x5)), (D.sl (n6) 5 (List.take (n6 * 5) (List.drop 0 l6))), (D.val (vI x7)), (D.val (vI x8)), (D.val (vI x9)), (D.val (vI x10))]), (D.agg [(D.val (Value.string (s11))), (D.sl (n12) 1 (List.take (n12 * 1) (List.drop 0 l12)))])] [(D.val (vI n1)), (D.val (vI n2))]) ∧
 (bcase (n2 != 0)
 (bcase (n2 != 0)
 (k [D.nil, (D.val (vI n2))])
 (∃ n3 : Nat,
 (∃ out1 : List Go.Value,
 ((GoodFresh Go.Proofs.Tryz.prog 64 2 [(Value.agg [(vI 0), (vI 0), (vI 0), (vI 0), (vI 0), (vI 0), (Value.slice none 0 0), (vI 0), (vI 0), (vI 0), (vI 0)].toArray), (Value.agg [(Value.string (s11)), (Sl 500 (n12) (c12))].toArray), (Value.func (Go.Fn.func 66) [(Value.agg [(vI 0), (vI 0), (vI 0), (vI 0), (vI 0), (vI 0), (Value.slice none 0 0), (vI 0), (vI 0), (vI 0), (vI 0)].toArray)].toArray [].toArray)] [(Prod.mk 500 (AObj.sym (l12) false 1))] (n3) (out1)) ∧
 (((Qv (n3)) ∧
 ((List.length out1) = (n3 * 2))) ∧
 (k [(D.sl (n3) 2 (out1)), (D.val (vI 0))]))))))
 (∃ n3 : Nat,
 (∃ out1 : List Go.Value,
 ((GoodFresh Go.Proofs.Tryz.prog 64 2 [(Value.agg [(vI x0), (vI x1), (vI x2), (vI x3), (vI x4), (vI x5), (Sl 500 (n6) (c6)), (vI x7), (vI x8), (vI x9), (vI x10)].toArray), (Value.agg [(Value.string (s11)), (Sl 501 (n12) (c12))].toArray), (Value.func (Go.Fn.func 66) [(Value.agg [(vI x0), (vI x1), (vI x2), (vI x3), (vI x4), (vI x5), (Sl 500 (n6) (c6)), (vI x7), (vI x8), (vI x9), (vI x10)].toArray)].toArray [].toArray)] [(Prod.mk 500 (AObj.sym (l6) false 5)), (Prod.mk 501 (AObj.sym (l12) false 1))] (n3) (out1)) ∧
 (((Qv (n3)) ∧
 ((List.length out1) = (n3 * 2))) ∧
 (k [(D.sl (n3) 2 (out1)), (D.val (vI 0))])))))))))
 False)
 False) := by kernel_rfl
def gHO (C : Ct) (L : AtLoop) (x0 : Int) (x1 : Int) (x2 : Int) (x3 : Int) (x4 : Int) (x5 : Int) (n6 : Nat) (c6 : Nat) (l6 : List Value) (x7 : Int) (x8 : Int) (x9 : Int) (x10 : Int) (s11 : ByteArray) (n12 : Nat) (c12 : Nat) (l12 : List Value) (k : List D → Prop) : Prop := wpFn Tryz.prog (hP C) L 0 23 #[.agg #[.int .i64 x0, .int .i64 x1, .int .i64 x2, .int .i64 x3, .int .i64 x4, .int .i64 x5, .slice (some ⟨500, 0, none⟩) n6 c6, .int .i64 x7, .int .i64 x8, .int .i64 x9, .int .i64 x10], .agg #[.string s11, .slice (some ⟨501, 0, none⟩) n12 c12]] (heapOf [(500, .sym l6 false 5), (501, .sym l12 false 1)]) (dataK k)
theorem gHO_text (C : Ct) (L : AtLoop) (x0 : Int) (x1 : Int) (x2 : Int) (x3 : Int) (x4 : Int) (x5 : Int) (n6 : Nat) (c6 : Nat) (l6 : List Go.Value) (x7 : Int) (x8 : Int) (x9 : Int) (x10 : Int) (s11 : ByteArray) (n12 : Nat) (c12 : Nat) (l12 : List Go.Value) (k : List D → Prop) : gHO C L x0 x1 x2 x3 x4 x5 n6 c6 l6 x7 x8 x9 x10 s11 n12 c12 l12 k =
 (bcase (decide (0 + n6 * 5 ≤ List.length l6))
 (bcase (decide (0 + n12 * 1 ≤ List.length l12))
 (∃ n1 : Int,
 (∃ n2 : Int,
 ((Says C 95 [(D.agg [(D.val (vI x0)), (D.val (vI x1)), (D.val (vI x2)), (D.val (vI x3)), (D.val (vI x4)), (D.val (vI x5)), (D.sl (n6) 5 (List.take (n6 * 5) (List.drop 0 l6))), (D.val (vI x7)), (D.val (vI x8)), (D.val (vI x9)), (D.val (vI x10))]), (D.agg [(D.val (Value.string (s11))), (D.sl (n12) 1 (List.take (n12 * 1) (List.drop 0 l12)))])] [(D.val (vI n1)), (D.val (vI n2))]) ∧
 (bcase (n2 != 0)
 (bcase (n2 != 0)
 (k [D.nil, (D.val (vI n2))])
 (∃ n3 : Nat,
 (∃ out1 : List Go.Value,
 ((GoodFresh Go.Proofs.Tryz.prog 67 4 [(Value.agg [(vI 0), (vI 0), (vI 0), (vI 0), (vI 0), (vI 0), (Value.slice none 0 0), (vI 0), (vI 0), (vI 0), (vI 0)].toArray), (Value.agg [(Value.string (s11)), (Sl 500 (n12) (c12))].toArray), (Value.func (Go.Fn.func 68) [].toArray [(Pt 501 0)].toArray)] [(Prod.mk 500 (AObj.sym (l12) false 1)), (Prod.mk 501 (AObj.cells [(vI 0), (vI 0), (vI 0), (vI 0), (vI 0), (vI 0), (Value.slice none 0 0), (vI 0), (vI 0), (vI 0), (vI 0)] 89 false 11))] (n3) (out1)) ∧
 (((Qv (n3)) ∧
 ((List.length out1) = (n3 * 4))) ∧
 (k [(D.sl (n3) 4 (out1)), (D.val (vI 0))]))))))
 (∃ n3 : Nat,
 (∃ out1 : List Go.Value,
 ((GoodFresh Go.Proofs.Tryz.prog 67 4 [(Value.agg [(vI x0), (vI x1), (vI x2), (vI x3), (vI x4), (vI x5), (Sl 500 (n6) (c6)), (vI x7), (vI x8), (vI x9), (vI x10)].toArray), (Value.agg [(Value.string (s11)), (Sl 501 (n12) (c12))].toArray), (Value.func (Go.Fn.func 68) [].toArray [(Pt 502 0)].toArray)] [(Prod.mk 500 (AObj.sym (l6) false 5)), (Prod.mk 501 (AObj.sym (l12) false 1)), (Prod.mk 502 (AObj.cells [(vI x0), (vI x1), (vI x2), (vI x3), (vI x4), (vI x5), (Sl 500 (n6) (c6)), (vI x7), (vI x8), (vI x9), (vI x10)] 89 false 11))] (n3) (out1)) ∧
 (((Qv (n3)) ∧
 ((List.length out1) = (n3 * 4))) ∧
 (k [(D.sl (n3) 4 (out1)), (D.val (vI 0))])))))))))
 False)
 False) := by kernel_rfl
def gfc (C : Ct) (L : AtLoop) (x0 : Int) (x1 : Int) (x2 : Int) (x3 : Int) (x4 : Int) (x5 : Int) (n6 : Nat) (c6 : Nat) (l6 : List Value) (x7 : Int) (x8 : Int) (x9 : Int) (x10 : Int) (s11 : ByteArray) (n12 : Nat) (c12 : Nat) (l12 : List Value) (k : List D → Prop) : Prop := wpFn Tryz.prog (hP C) L 0 25 #[.agg #[.int .i64 x0, .int .i64 x1, .int .i64 x2, .int .i64 x3, .int .i64 x4, .int .i64 x5, .slice (some ⟨500, 0, none⟩) n6 c6, .int .i64 x7, .int .i64 x8, .int .i64 x9, .int .i64 x10], .agg #[.string s11, .slice (some ⟨501, 0, none⟩) n12 c12]] (heapOf [(500, .sym l6 false 5), (501, .sym l12 false 1)]) (dataK k)
theorem gfc_text (C : Ct) (L : AtLoop) (x0 : Int) (x1 : Int) (x2 : Int) (x3 : Int) (x4 : Int) (x5 : Int) (n6 : Nat) (c6 : Nat) (l6 : List Go.Value) (x7 : Int) (x8 : Int) (x9 : Int) (x10 : Int) (s11 : ByteArray) (n12 : Nat) (c12 : Nat) (l12 : List Go.Value) (k : List D → Prop) : gfc C L x0 x1 x2 x3 x4 x5 n6 c6 l6 x7 x8 x9 x10 s11 n12 c12 l12 k =
 (L 0 [(Prod.mk 2 (Pt 1000 0)), (Prod.mk 3 (Pt 1001 0)), (Prod.mk 5 (Value.slice none 0 0)), (Prod.mk 6 (vI 0))] [(Prod.mk 1000 (AObj.cells [(vI x0), (vI x1), (vI x2), (vI x3), (vI x4), (vI x5), (Sl 500 (n6) (c6)), (vI x7), (vI x8), (vI x9), (vI x10)] 26 false 1)), (Prod.mk 1001 (AObj.cells [(Value.string (s11)), (Sl 501 (n12) (c12))] 29 false 1)), (Prod.mk 500 (AObj.sym (l6) false 5)), (Prod.mk 501 (AObj.sym (l12) false 1))]) := by kernel_rfl
abbrev zfc1 (x0 : Int) (x1 : Int) (x2 : Int) (x3 : Int) (x4 : Int) (x5 : Int) (x6 : Int) (n7 : Nat) (c8 : Nat) (x9 : Int) (x10 : Int) (x11 : Int) (x12 : Int) (s13 : ByteArray) (n14 : Nat) (c15 : Nat) (l16 : List Value) (l17 : List Value) : Slots × Blocks := ([(2, (Value.pointer (some ⟨1000, 0, none⟩))), (3, (Value.pointer (some ⟨1001, 0, none⟩))), (5, (Value.slice none 0 0)), (6, (Value.int .i64 x0))], [(1000, (AObj.cells [(Value.int .i64 x1), (Value.int .i64 x2), (Value.int .i64 x3), (Value.int .i64 x4), (Value.int .i64 x5), (Value.int .i64 x6), (Value.slice (some ⟨500, 0, none⟩) n7 c8), (Value.int .i64 x9), (Value.int .i64 x10), (Value.int .i64 x11), (Value.int .i64 x12)] 26 false 1)), (1001, (AObj.cells [(Value.string s13), (Value.slice (some ⟨501, 0, none⟩) n14 c15)] 29 false 1)), (500, (AObj.sym l16 false 5)), (501, (AObj.sym l17 false 1))])
def rfc1 (C : Ct) (L : AtLoop) (x0 : Int) (x1 : Int) (x2 : Int) (x3 : Int) (x4 : Int) (x5 : Int) (x6 : Int) (n7 : Nat) (c8 : Nat) (x9 : Int) (x10 : Int) (x11 : Int) (x12 : Int) (s13 : ByteArray) (n14 : Nat) (c15 : Nat) (l16 : List Value) (l17 : List Value) (B : Bx) (X : Xx) (k : List D → Prop) : Prop := wpRound Tryz.prog (hP C) L 25 0 [(2, (Value.pointer (some ⟨1000, 0, none⟩))), (3, (Value.pointer (some ⟨1001, 0, none⟩))), (5, (Value.slice none 0 0)), (6, (Value.int .i64 x0))] [(1000, (AObj.cells [(Value.int .i64 x1), (Value.int .i64 x2), (Value.int .i64 x3), (Value.int .i64 x4), (Value.int .i64 x5), (Value.int .i64 x6), (Value.slice (some ⟨500, 0, none⟩) n7 c8), (Value.int .i64 x9), (Value.int .i64 x10), (Value.int .i64 x11), (Value.int .i64 x12)] 26 false 1)), (1001, (AObj.cells [(Value.string s13), (Value.slice (some ⟨501, 0, none⟩) n14 c15)] 29 false 1)), (500, (AObj.sym l16 false 5)), (501, (AObj.sym l17 false 1))] B X (dataK k)
theorem rfc1_text (C : Ct) (L : AtLoop) (x0 : Int) (x1 : Int) (x2 : Int) (x3 : Int) (x4 : Int) (x5 : Int) (x6 : Int) (n7 : Nat) (c8 : Nat) (x9 : Int) (x10 : Int) (x11 : Int) (x12 : Int) (s13 : ByteArray) (n14 : Nat) (c15 : Nat) (l16 : List Go.Value) (l17 : List Go.Value) (B : Bx) (X : Xx) (k : List D → Prop) : rfc1 C L x0 x1 x2 x3 x4 x5 x6 n7 c8 x9 x10 x11 x12 s13 n14 c15 l16 l17 B X k =
 (bcase (decide (x0 < (↑n7 : Int)))
 (bcase (decide (0 ≤ x0))
 (bcase (decide (x0 < (↑n14 : Int)))
 (∃ n1 : Int,
 ((At (l17) (0 + Int.toNat x0 * 1) 1 [(vI n1)]) ∧
 (((∃ n2 : Int,
 ((At (l17) (0 + Int.toNat x0 * 1) 1 [(vI n2)]) ∧
 ((vI n2) = (vI n1)))) ∧
 ((bcase (decide (0 ≤ x0))
 (bcase (decide (x0 < (↑n14 : Int)))
 (Qv (Pt 501 (0 + Int.toNat x0 * 1)))
 False)
 False) ∧
 ((Qv (vI x0)) ∧
 ((Qv (Sl 501 (n14) (c15))) ∧
 ((Qv (Pt 1001 1)) ∧
 ((Qv (vI x0)) ∧
 ((Qv (Value.agg [(Value.string (s13)), (Sl 501 (n14) (c15))].toArray)) ∧
 ((Qv (Value.agg [(vI x1), (vI x2), (vI x3), (vI x4), (vI x5), (vI x6), (Sl 500 (n7) (c8)), (vI x9), (vI x10), (vI x11), (vI x12)].toArray)) ∧
 True)))))))) ∧
 (bcase (decide (0 + n7 * 5 ≤ List.length l16))
 (bcase (decide (0 + n14 * 1 ≤ List.length l17))
 (∃ n2 : Int,
 ((Says C 70 [(D.agg [(D.val (vI x1)), (D.val (vI x2)), (D.val (vI x3)), (D.val (vI x4)), (D.val (vI x5)), (D.val (vI x6)), (D.sl (n7) 5 (List.take (n7 * 5) (List.drop 0 l16))), (D.val (vI x9)), (D.val (vI x10)), (D.val (vI x11)), (D.val (vI x12))]), (D.agg [(D.val (Value.string (s13))), (D.sl (n14) 1 (List.take (n14 * 1) (List.drop 0 l17)))]), (D.val (vI x0))] [(D.val (vI n2))]) ∧
 (((∃ n3 : Int,
 ((At (l17) (0 + Int.toNat x0 * 1) 1 [(vI n3)]) ∧
 ((vI n3) = (vI n1)))) ∧
 ((bcase (decide (0 ≤ x0))
 (bcase (decide (x0 < (↑n14 : Int)))
 (Qv (Pt 501 (0 + Int.toNat x0 * 1)))
 False)
 False) ∧
 ((Qv (vI x0)) ∧
 ((Qv (Sl 501 (n14) (c15))) ∧
 ((Qv (Pt 1001 1)) ∧
 True))))) ∧
 (((∃ n3 : Int,
 ((At (l17) (0 + Int.toNat x0 * 1) 1 [(vI n3)]) ∧
 ((vI n3) = (vI n1)))) ∧
 ((bcase (decide (0 ≤ x0))
 (bcase (decide (x0 < (↑n14 : Int)))
 (Qv (Pt 501 (0 + Int.toNat x0 * 1)))
 False)
 False) ∧
 ((Qv (vI x0)) ∧
 ((Qv (Sl 501 (n14) (c15))) ∧
 ((Qv (Pt 1001 1)) ∧
 True))))) ∧
 (True ∧
 (((Qv (vI x12)) ∧
 ((Qv (Pt 1000 10)) ∧
 ((Qv (Pt 1000 9)) ∧
 ((Qv (vI x10)) ∧
 ((Qv (Pt 1000 8)) ∧
 ((Qv (Pt 1000 7)) ∧
 ((Qv (vI n1)) ∧
 ((Qv (vI n2)) ∧
 ((Qv (Value.agg [(vI x1), (vI x2), (vI x3), (vI x4), (vI x5), (vI x6), (Sl 500 (n7) (c8)), (vI x9), (vI x10), (vI x11), (vI x12)].toArray)) ∧
 ((Qv (vI x11)) ∧
 ((Qv (Pt 1000 9)) ∧
 ((Qv (Pt 1000 9)) ∧
 ((Qv (vI x9)) ∧
 ((Qv (Pt 1000 7)) ∧
 ((Qv (Pt 1000 7)) ∧
 ((Qv (vI n1)) ∧
 ((Qv (vI n2)) ∧
 ((Qv (Value.agg [(vI x1), (vI x2), (vI x3), (vI x4), (vI x5), (vI x6), (Sl 500 (n7) (c8)), (vI x9), (vI x10), (vI x11), (vI x12)].toArray)) ∧
 ((Qv (Value.slice none 0 0)) ∧
 True))))))))))))))))))) ∧
 (bcase (decide (0 + n7 * 5 ≤ List.length l16))
 (∃ n3 : Int,
 ((Says C 71 [(D.agg [(D.val (vI x1)), (D.val (vI x2)), (D.val (vI x3)), (D.val (vI x4)), (D.val (vI x5)), (D.val (vI x6)), (D.sl (n7) 5 (List.take (n7 * 5) (List.drop 0 l16))), (D.val (vI x9)), (D.val (vI x10)), (D.val (vI x11)), (D.val (vI x12))]), (D.val (vI n2)), (D.val (vI n1)), (D.val (vI x9)), (D.val (vI x11))] [(D.val (vI n3))]) ∧
 (((Qv (vI x12)) ∧
 ((Qv (Pt 1000 10)) ∧
 ((Qv (Pt 1000 9)) ∧
 ((Qv (vI x10)) ∧
 ((Qv (Pt 1000 8)) ∧
 ((Qv (Pt 1000 7)) ∧
 ((Qv (vI n1)) ∧
 ((Qv (vI n2)) ∧
 ((Qv (Value.agg [(vI x1), (vI x2), (vI x3), (vI x4), (vI x5), (vI x6), (Sl 500 (n7) (c8)), (vI x9), (vI x10), (vI x11), (vI x12)].toArray)) ∧
 ((Qv (Pt 1000 9)) ∧
 ((Qv (Pt 1000 9)) ∧
 ((Qv (Pt 1000 7)) ∧
 ((Qv (Pt 1000 7)) ∧
 ((Qv (Value.slice none 0 0)) ∧
 True)))))))))))))) ∧
 (bcase (decide (0 + n7 * 5 ≤ List.length l16))
 (∃ n4 : Int,
 ((Says C 71 [(D.agg [(D.val (vI x1)), (D.val (vI x2)), (D.val (vI x3)), (D.val (vI x4)), (D.val (vI x5)), (D.val (vI x6)), (D.sl (n7) 5 (List.take (n7 * 5) (List.drop 0 l16))), (D.val (vI x9)), (D.val (vI x10)), (D.val (vI x11)), (D.val (vI x12))]), (D.val (vI n2)), (D.val (vI n1)), (D.val (vI x10)), (D.val (vI x12))] [(D.val (vI n4))]) ∧
 ((((Qv (Sl 1002 1 1)) ∧
 (Qv (some (AObj.cells [(vI n3), (vI n4)] 23 false 2)))) ∧
 ((Qv (Value.agg [(vI n3), (vI n4)].toArray)) ∧
 ((Qv (Pt 1000 10)) ∧
 ((Qv (Pt 1000 9)) ∧
 ((Qv (Pt 1000 8)) ∧
 ((Qv (Pt 1000 7)) ∧
 ((Qv (Pt 1000 9)) ∧
 ((Qv (Pt 1000 9)) ∧
 ((Qv (Pt 1000 7)) ∧
 ((Qv (Pt 1000 7)) ∧
 ((Qv (Value.slice none 0 0)) ∧
 True))))))))))) ∧
 (((Qv (Value.agg [(vI n3), (vI n4)].toArray)) ∧
 ((Qv (Pt 1000 10)) ∧
 ((Qv (Pt 1000 9)) ∧
 ((Qv (Pt 1000 8)) ∧
 ((Qv (Pt 1000 7)) ∧
 ((Qv (Pt 1000 9)) ∧
 ((Qv (Pt 1000 9)) ∧
 ((Qv (Pt 1000 7)) ∧
 ((Qv (Pt 1000 7)) ∧
 True))))))))) ∧
 (True ∧
 (B [(Prod.mk 2 (Pt 1000 0)), (Prod.mk 3 (Pt 1001 0)), (Prod.mk 5 (Sl 1002 1 1)), (Prod.mk 6 (vI (IntKind.wrap .i64 (x0 + 1))))] [(Prod.mk 1000 (AObj.cells [(vI x1), (vI x2), (vI x3), (vI x4), (vI x5), (vI x6), (Sl 500 (n7) (c8)), (vI x9), (vI x10), (vI x11), (vI x12)] 26 false 1)), (Prod.mk 1001 (AObj.cells [(Value.string (s13)), (Sl 501 (n14) (c15))] 29 false 1)), (Prod.mk 1002 (AObj.sym [(vI n3), (vI n4)] true 2)), (Prod.mk 500 (AObj.sym (l16) false 5)), (Prod.mk 501 (AObj.sym (l17) false 1))]))))))
 False))))
 False)))))))
 False)
 False))))
 False)
 False)
 (X 0 [(Prod.mk 5 (Value.slice none 0 0))] [])) := by kernel_rfl
abbrev zfc2 (n0 : Nat) (x1 : Int) (x2 : Int) (x3 : Int) (x4 : Int) (x5 : Int) (x6 : Int) (x7 : Int) (n8 : Nat) (c9 : Nat) (x10 : Int) (x11 : Int) (x12 : Int) (x13 : Int) (s14 : ByteArray) (n15 : Nat) (c16 : Nat) (l17 : List Value) (l18 : List Value) (l19 : List Value) : Slots × Blocks := ([(2, (Value.pointer (some ⟨1000, 0, none⟩))), (3, (Value.pointer (some ⟨1001, 0, none⟩))), (5, (Value.slice (some ⟨1002, 0, none⟩) n0 n0)), (6, (Value.int .i64 x1))], [(1000, (AObj.cells [(Value.int .i64 x2), (Value.int .i64 x3), (Value.int .i64 x4), (Value.int .i64 x5), (Value.int .i64 x6), (Value.int .i64 x7), (Value.slice (some ⟨500, 0, none⟩) n8 c9), (Value.int .i64 x10), (Value.int .i64 x11), (Value.int .i64 x12), (Value.int .i64 x13)] 26 false 1)), (1001, (AObj.cells [(Value.string s14), (Value.slice (some ⟨501, 0, none⟩) n15 c16)] 29 false 1)), (1002, (AObj.sym l17 true 2)), (500, (AObj.sym l18 false 5)), (501, (AObj.sym l19 false 1))])
def rfc2 (C : Ct) (L : AtLoop) (n0 : Nat) (x1 : Int) (x2 : Int) (x3 : Int) (x4 : Int) (x5 : Int) (x6 : Int) (x7 : Int) (n8 : Nat) (c9 : Nat) (x10 : Int) (x11 : Int) (x12 : Int) (x13 : Int) (s14 : ByteArray) (n15 : Nat) (c16 : Nat) (l17 : List Value) (l18 : List Value) (l19 : List Value) (B : Bx) (X : Xx) (k : List D → Prop) : Prop := wpRound Tryz.prog (hP C) L 25 0 [(2, (Value.pointer (some ⟨1000, 0, none⟩))), (3, (Value.pointer (some ⟨1001, 0, none⟩))), (5, (Value.slice (some ⟨1002, 0, none⟩) n0 n0)), (6, (Value.int .i64 x1))] [(1000, (AObj.cells [(Value.int .i64 x2), (Value.int .i64 x3), (Value.int .i64 x4), (Value.int .i64 x5), (Value.int .i64 x6), (Value.int .i64 x7), (Value.slice (some ⟨500, 0, none⟩) n8 c9), (Value.int .i64 x10), (Value.int .i64 x11), (Value.int .i64 x12), (Value.int .i64 x13)] 26 false 1)), (1001, (AObj.cells [(Value.string s14), (Value.slice (some ⟨501, 0, none⟩) n15 c16)] 29 false 1)), (1002, (AObj.sym l17 true 2)), (500, (AObj.sym l18 false 5)), (501, (AObj.sym l19 false 1))] B X (dataK k)
theorem rfc2_text (C : Ct) (L : AtLoop) (n0 : Nat) (x1 : Int) (x2 : Int) (x3 : Int) (x4 : Int) (x5 : Int) (x6 : Int) (x7 : Int) (n8 : Nat) (c9 : Nat) (x10 : Int) (x11 : Int) (x12 : Int) (x13 : Int) (s14 : ByteArray) (n15 : Nat) (c16 : Nat) (l17 : List Go.Value) (l18 : List Go.Value) (l19 : List Go.Value) (B : Bx) (X : Xx) (k : List D → Prop) : rfc2 C L n0 x1 x2 x3 x4 x5 x6 x7 n8 c9 x10 x11 x12 x13 s14 n15 c16 l17 l18 l19 B X k =
 (bcase (decide (x1 < (↑n8 : Int)))
 (bcase (decide (0 ≤ x1))
 (bcase (decide (x1 < (↑n15 : Int)))
 (∃ n1 : Int,
 ((At (l19) (0 + Int.toNat x1 * 1) 1 [(vI n1)]) ∧
 (((∃ n2 : Int,
 ((At (l19) (0 + Int.toNat x1 * 1) 1 [(vI n2)]) ∧
 ((vI n2) = (vI n1)))) ∧
 ((bcase (decide (0 ≤ x1))
 (bcase (decide (x1 < (↑n15 : Int)))
 (Qv (Pt 501 (0 + Int.toNat x1 * 1)))
 False)
 False) ∧
 ((Qv (vI x1)) ∧
 ((Qv (Sl 501 (n15) (c16))) ∧
 ((Qv (Pt 1001 1)) ∧
 ((Qv (vI x1)) ∧
 ((Qv (Value.agg [(Value.string (s14)), (Sl 501 (n15) (c16))].toArray)) ∧
 ((Qv (Value.agg [(vI x2), (vI x3), (vI x4), (vI x5), (vI x6), (vI x7), (Sl 500 (n8) (c9)), (vI x10), (vI x11), (vI x12), (vI x13)].toArray)) ∧
 True)))))))) ∧
 (bcase (decide (0 + n8 * 5 ≤ List.length l18))
 (bcase (decide (0 + n15 * 1 ≤ List.length l19))
 (∃ n2 : Int,
 ((Says C 70 [(D.agg [(D.val (vI x2)), (D.val (vI x3)), (D.val (vI x4)), (D.val (vI x5)), (D.val (vI x6)), (D.val (vI x7)), (D.sl (n8) 5 (List.take (n8 * 5) (List.drop 0 l18))), (D.val (vI x10)), (D.val (vI x11)), (D.val (vI x12)), (D.val (vI x13))]), (D.agg [(D.val (Value.string (s14))), (D.sl (n15) 1 (List.take (n15 * 1) (List.drop 0 l19)))]), (D.val (vI x1))] [(D.val (vI n2))]) ∧
 (((∃ n3 : Int,
 ((At (l19) (0 + Int.toNat x1 * 1) 1 [(vI n3)]) ∧
 ((vI n3) = (vI n1)))) ∧
 ((bcase (decide (0 ≤ x1))
 (bcase (decide (x1 < (↑n15 : Int)))
 (Qv (Pt 501 (0 + Int.toNat x1 * 1)))
 False)
 False) ∧
 ((Qv (vI x1)) ∧
 ((Qv (Sl 501 (n15) (c16))) ∧
 ((Qv (Pt 1001 1)) ∧
 True))))) ∧
 (((∃ n3 : Int,
 ((At (l19) (0 + Int.toNat x1 * 1) 1 [(vI n3)]) ∧
 ((vI n3) = (vI n1)))) ∧
 ((bcase (decide (0 ≤ x1))
 (bcase (decide (x1 < (↑n15 : Int)))
 (Qv (Pt 501 (0 + Int.toNat x1 * 1)))
 False)
 False) ∧
 ((Qv (vI x1)) ∧
 ((Qv (Sl 501 (n15) (c16))) ∧
 ((Qv (Pt 1001 1)) ∧
 True))))) ∧
 (True ∧
 (((Qv (vI x13)) ∧
 ((Qv (Pt 1000 10)) ∧
 ((Qv (Pt 1000 9)) ∧
 ((Qv (vI x11)) ∧
 ((Qv (Pt 1000 8)) ∧
 ((Qv (Pt 1000 7)) ∧
 ((Qv (vI n1)) ∧
 ((Qv (vI n2)) ∧
 ((Qv (Value.agg [(vI x2), (vI x3), (vI x4), (vI x5), (vI x6), (vI x7), (Sl 500 (n8) (c9)), (vI x10), (vI x11), (vI x12), (vI x13)].toArray)) ∧
 ((Qv (vI x12)) ∧
 ((Qv (Pt 1000 9)) ∧
 ((Qv (Pt 1000 9)) ∧
 ((Qv (vI x10)) ∧
 ((Qv (Pt 1000 7)) ∧
 ((Qv (Pt 1000 7)) ∧
 ((Qv (vI n1)) ∧
 ((Qv (vI n2)) ∧
 ((Qv (Value.agg [(vI x2), (vI x3), (vI x4), (vI x5), (vI x6), (vI x7), (Sl 500 (n8) (c9)), (vI x10), (vI x11), (vI x12), (vI x13)].toArray)) ∧
 ((Qv (Sl 1002 (n0) (n0))) ∧
 True))))))))))))))))))) ∧
 (bcase (decide (0 + n8 * 5 ≤ List.length l18))
 (∃ n3 : Int,
 ((Says C 71 [(D.agg [(D.val (vI x2)), (D.val (vI x3)), (D.val (vI x4)), (D.val (vI x5)), (D.val (vI x6)), (D.val (vI x7)), (D.sl (n8) 5 (List.take (n8 * 5) (List.drop 0 l18))), (D.val (vI x10)), (D.val (vI x11)), (D.val (vI x12)), (D.val (vI x13))]), (D.val (vI n2)), (D.val (vI n1)), (D.val (vI x10)), (D.val (vI x12))] [(D.val (vI n3))]) ∧
 (((Qv (vI x13)) ∧
 ((Qv (Pt 1000 10)) ∧
 ((Qv (Pt 1000 9)) ∧
 ((Qv (vI x11)) ∧
 ((Qv (Pt 1000 8)) ∧
 ((Qv (Pt 1000 7)) ∧
 ((Qv (vI n1)) ∧
 ((Qv (vI n2)) ∧
 ((Qv (Value.agg [(vI x2), (vI x3), (vI x4), (vI x5), (vI x6), (vI x7), (Sl 500 (n8) (c9)), (vI x10), (vI x11), (vI x12), (vI x13)].toArray)) ∧
 ((Qv (Pt 1000 9)) ∧
 ((Qv (Pt 1000 9)) ∧
 ((Qv (Pt 1000 7)) ∧
 ((Qv (Pt 1000 7)) ∧
 ((Qv (Sl 1002 (n0) (n0))) ∧
 True)))))))))))))) ∧
 (bcase (decide (0 + n8 * 5 ≤ List.length l18))
 (∃ n4 : Int,
 ((Says C 71 [(D.agg [(D.val (vI x2)), (D.val (vI x3)), (D.val (vI x4)), (D.val (vI x5)), (D.val (vI x6)), (D.val (vI x7)), (D.sl (n8) 5 (List.take (n8 * 5) (List.drop 0 l18))), (D.val (vI x10)), (D.val (vI x11)), (D.val (vI x12)), (D.val (vI x13))]), (D.val (vI n2)), (D.val (vI n1)), (D.val (vI x11)), (D.val (vI x13))] [(D.val (vI n4))]) ∧
 ((((Qv (Sl 1003 1 1)) ∧
 (Qv (some (AObj.cells [(vI n3), (vI n4)] 23 false 2)))) ∧
 ((Qv (Value.agg [(vI n3), (vI n4)].toArray)) ∧
 ((Qv (Pt 1000 10)) ∧
 ((Qv (Pt 1000 9)) ∧
 ((Qv (Pt 1000 8)) ∧
 ((Qv (Pt 1000 7)) ∧
 ((Qv (Pt 1000 9)) ∧
 ((Qv (Pt 1000 9)) ∧
 ((Qv (Pt 1000 7)) ∧
 ((Qv (Pt 1000 7)) ∧
 ((Qv (Sl 1002 (n0) (n0))) ∧
 True))))))))))) ∧
 (bcase (decide (n0 < n0 + 1))
 (bcase (decide ((2 * (n0 + 1) + 768) * 16 ≤ 281474976710656))
 (bcase (decide (n0 + 1 ≤ 1099511627776))
 (bcase (decide (0 + n0 * 2 ≤ List.length l17))
 (bcase (decide (0 + n0 * 2 = List.length l17))
 (((Qv (Value.agg [(vI n3), (vI n4)].toArray)) ∧
 ((Qv (Pt 1000 10)) ∧
 ((Qv (Pt 1000 9)) ∧
 ((Qv (Pt 1000 8)) ∧
 ((Qv (Pt 1000 7)) ∧
 ((Qv (Pt 1000 9)) ∧
 ((Qv (Pt 1000 9)) ∧
 ((Qv (Pt 1000 7)) ∧
 ((Qv (Pt 1000 7)) ∧
 True))))))))) ∧
 (True ∧
 (B [(Prod.mk 2 (Pt 1000 0)), (Prod.mk 3 (Pt 1001 0)), (Prod.mk 5 (Sl 1002 (n0 + 1) (n0 + 1))), (Prod.mk 6 (vI (IntKind.wrap .i64 (x1 + 1))))] [(Prod.mk 1000 (AObj.cells [(vI x2), (vI x3), (vI x4), (vI x5), (vI x6), (vI x7), (Sl 500 (n8) (c9)), (vI x10), (vI x11), (vI x12), (vI x13)] 26 false 1)), (Prod.mk 1001 (AObj.cells [(Value.string (s14)), (Sl 501 (n15) (c16))] 29 false 1)), (Prod.mk 1002 (AObj.sym ((List.take (n0 * 2) (List.drop 0 l17)) ++ [(vI n3), (vI n4)]) true 2)), (Prod.mk 500 (AObj.sym (l18) false 5)), (Prod.mk 501 (AObj.sym (l19) false 1))])))
 False)
 False)
 False)
 False)
 False))))
 False))))
 False)))))))
 False)
 False))))
 False)
 False)
 (X 0 [(Prod.mk 5 (Sl 1000 (n0) (n0)))] [(Prod.mk 1000 (AObj.sym (l17) true 2))])) := by kernel_rfl
def nfc4 (C : Ct) (L : AtLoop) (n0 : Nat) (l1 : List Value) (k : List D → Prop) : Prop := wpNext Tryz.prog (hP C) L 25 0 .normal [(5, (Value.slice (some ⟨1000, 0, none⟩) n0 n0))] [(1000, (AObj.sym l1 true 2))] (dataK k)
theorem nfc4_text (C : Ct) (L : AtLoop) (n0 : Nat) (l1 : List Go.Value) (k : List D → Prop) : nfc4 C L n0 l1 k =
 (((Qv (n0)) ∧
 ((List.length l1) = (n0 * 2))) ∧
 (k [(D.sl (n0) 2 (l1))])) := by kernel_rfl
def gtq (C : Ct) (L : AtLoop) (x0 : Int) (x1 : Int) (x2 : Int) (x3 : Int) (x4 : Int) (x5 : Int) (n6 : Nat) (c6 : Nat) (l6 : List Value) (x7 : Int) (x8 : Int) (x9 : Int) (x10 : Int) (s11 : ByteArray) (n12 : Nat) (c12 : Nat) (l12 : List Value) (k : List D → Prop) : Prop := wpFn Tryz.prog (hP C) L 0 26 #[.agg #[.int .i64 x0, .int .i64 x1, .int .i64 x2, .int .i64 x3, .int .i64 x4, .int .i64 x5, .slice (some ⟨500, 0, none⟩) n6 c6, .int .i64 x7, .int .i64 x8, .int .i64 x9, .int .i64 x10], .agg #[.string s11, .slice (some ⟨501, 0, none⟩) n12 c12]] (heapOf [(500, .sym l6 false 5), (501, .sym l12 false 1)]) (dataK k)
theorem gtq_text (C : Ct) (L : AtLoop) (x0 : Int) (x1 : Int) (x2 : Int) (x3 : Int) (x4 : Int) (x5 : Int) (n6 : Nat) (c6 : Nat) (l6 : List Go.Value) (x7 : Int) (x8 : Int) (x9 : Int) (x10 : Int) (s11 : ByteArray) (n12 : Nat) (c12 : Nat) (l12 : List Go.Value) (k : List D → Prop) : gtq C L x0 x1 x2 x3 x4 x5 n6 c6 l6 x7 x8 x9 x10 s11 n12 c12 l12 k =
 (L 0 [(Prod.mk 2 (Pt 1000 0)), (Prod.mk 3 (Pt 1001 0)), (Prod.mk 5 (Value.slice none 0 0)), (Prod.mk 6 (vI 0))] [(Prod.mk 1000 (AObj.cells [(vI x0), (vI x1), (vI x2), (vI x3), (vI x4), (vI x5), (Sl 500 (n6) (c6)), (vI x7), (vI x8), (vI x9), (vI x10)] 26 false 1)), (Prod.mk 1001 (AObj.cells [(Value.string (s11)), (Sl 501 (n12) (c12))] 29 false 1)), (Prod.mk 500 (AObj.sym (l6) false 5)), (Prod.mk 501 (AObj.sym (l12) false 1))]) := by kernel_rfl
abbrev ztq1 (x0 : Int) (x1 : Int) (x2 : Int) (x3 : Int) (x4 : Int) (x5 : Int) (x6 : Int) (n7 : Nat) (c8 : Nat) (x9 : Int) (x10 : Int) (x11 : Int) (x12 : Int) (s13 : ByteArray) (n14 : Nat) (c15 : Nat) (l16 : List Value) (l17 : List Value) : Slots × Blocks := ([(2, (Value.pointer (some ⟨1000, 0, none⟩))), (3, (Value.pointer (some ⟨1001, 0, none⟩))), (5, (Value.slice none 0 0)), (6, (Value.int .i64 x0))], [(1000, (AObj.cells [(Value.int .i64 x1), (Value.int .i64 x2), (Value.int .i64 x3), (Value.int .i64 x4), (Value.int .i64 x5), (Value.int .i64 x6), (Value.slice (some ⟨500, 0, none⟩) n7 c8), (Value.int .i64 x9), (Value.int .i64 x10), (Value.int .i64 x11), (Value.int .i64 x12)] 26 false 1)), (1001, (AObj.cells [(Value.string s13), (Value.slice (some ⟨501, 0, none⟩) n14 c15)] 29 false 1)), (500, (AObj.sym l16 false 5)), (501, (AObj.sym l17 false 1))])
def rtq1 (C : Ct) (L : AtLoop) (x0 : Int) (x1 : Int) (x2 : Int) (x3 : Int) (x4 : Int) (x5 : Int) (x6 : Int) (n7 : Nat) (c8 : Nat) (x9 : Int) (x10 : Int) (x11 : Int) (x12 : Int) (s13 : ByteArray) (n14 : Nat) (c15 : Nat) (l16 : List Value) (l17 : List Value) (B : Bx) (X : Xx) (k : List D → Prop) : Prop := wpRound Tryz.prog (hP C) L 26 0 [(2, (Value.pointer (some ⟨1000, 0, none⟩))), (3, (Value.pointer (some ⟨1001, 0, none⟩))), (5, (Value.slice none 0 0)), (6, (Value.int .i64 x0))] [(1000, (AObj.cells [(Value.int .i64 x1), (Value.int .i64 x2), (Value.int .i64 x3), (Value.int .i64 x4), (Value.int .i64 x5), (Value.int .i64 x6), (Value.slice (some ⟨500, 0, none⟩) n7 c8), (Value.int .i64 x9), (Value.int .i64 x10), (Value.int .i64 x11), (Value.int .i64 x12)] 26 false 1)), (1001, (AObj.cells [(Value.string s13), (Value.slice (some ⟨501, 0, none⟩) n14 c15)] 29 false 1)), (500, (AObj.sym l16 false 5)), (501, (AObj.sym l17 false 1))] B X (dataK k)
theorem rtq1_text (C : Ct) (L : AtLoop) (x0 : Int) (x1 : Int) (x2 : Int) (x3 : Int) (x4 : Int) (x5 : Int) (x6 : Int) (n7 : Nat) (c8 : Nat) (x9 : Int) (x10 : Int) (x11 : Int) (x12 : Int) (s13 : ByteArray) (n14 : Nat) (c15 : Nat) (l16 : List Go.Value) (l17 : List Go.Value) (B : Bx) (X : Xx) (k : List D → Prop) : rtq1 C L x0 x1 x2 x3 x4 x5 x6 n7 c8 x9 x10 x11 x12 s13 n14 c15 l16 l17 B X k =
 (bcase (decide (x0 < (↑n7 : Int)))
 (bcase (decide (0 ≤ x0))
 (bcase (decide (x0 < (↑n14 : Int)))
 (∃ n1 : Int,
 ((At (l17) (0 + Int.toNat x0 * 1) 1 [(vI n1)]) ∧
 (((∃ n2 : Int,
 ((At (l17) (0 + Int.toNat x0 * 1) 1 [(vI n2)]) ∧
 ((vI n2) = (vI n1)))) ∧
 ((bcase (decide (0 ≤ x0))
 (bcase (decide (x0 < (↑n14 : Int)))
 (Qv (Pt 501 (0 + Int.toNat x0 * 1)))
 False)
 False) ∧
 ((Qv (vI x0)) ∧
 ((Qv (Sl 501 (n14) (c15))) ∧
 ((Qv (Pt 1001 1)) ∧
 ((Qv (vI x0)) ∧
 ((Qv (Value.agg [(Value.string (s13)), (Sl 501 (n14) (c15))].toArray)) ∧
 ((Qv (Value.agg [(vI x1), (vI x2), (vI x3), (vI x4), (vI x5), (vI x6), (Sl 500 (n7) (c8)), (vI x9), (vI x10), (vI x11), (vI x12)].toArray)) ∧
 True)))))))) ∧
 (bcase (decide (0 + n7 * 5 ≤ List.length l16))
 (bcase (decide (0 + n14 * 1 ≤ List.length l17))
 (∃ n2 : Int,
 ((Says C 70 [(D.agg [(D.val (vI x1)), (D.val (vI x2)), (D.val (vI x3)), (D.val (vI x4)), (D.val (vI x5)), (D.val (vI x6)), (D.sl (n7) 5 (List.take (n7 * 5) (List.drop 0 l16))), (D.val (vI x9)), (D.val (vI x10)), (D.val (vI x11)), (D.val (vI x12))]), (D.agg [(D.val (Value.string (s13))), (D.sl (n14) 1 (List.take (n14 * 1) (List.drop 0 l17)))]), (D.val (vI x0))] [(D.val (vI n2))]) ∧
 (((∃ n3 : Int,
 ((At (l17) (0 + Int.toNat x0 * 1) 1 [(vI n3)]) ∧
 ((vI n3) = (vI n1)))) ∧
 ((bcase (decide (0 ≤ x0))
 (bcase (decide (x0 < (↑n14 : Int)))
 (Qv (Pt 501 (0 + Int.toNat x0 * 1)))
 False)
 False) ∧
 ((Qv (vI x0)) ∧
 ((Qv (Sl 501 (n14) (c15))) ∧
 ((Qv (Pt 1001 1)) ∧
 True))))) ∧
 (((∃ n3 : Int,
 ((At (l17) (0 + Int.toNat x0 * 1) 1 [(vI n3)]) ∧
 ((vI n3) = (vI n1)))) ∧
 ((bcase (decide (0 ≤ x0))
 (bcase (decide (x0 < (↑n14 : Int)))
 (Qv (Pt 501 (0 + Int.toNat x0 * 1)))
 False)
 False) ∧
 ((Qv (vI x0)) ∧
 ((Qv (Sl 501 (n14) (c15))) ∧
 ((Qv (Pt 1001 1)) ∧
 True))))) ∧
 (True ∧
 (((Qv (vI x12)) ∧
 ((Qv (Pt 1000 10)) ∧
 ((Qv (Pt 1000 9)) ∧
 ((Qv (vI x10)) ∧
 ((Qv (Pt 1000 8)) ∧
 ((Qv (Pt 1000 7)) ∧
 ((Qv (vI n1)) ∧
 ((Qv (vI n2)) ∧
 ((Qv (Value.agg [(vI x1), (vI x2), (vI x3), (vI x4), (vI x5), (vI x6), (Sl 500 (n7) (c8)), (vI x9), (vI x10), (vI x11), (vI x12)].toArray)) ∧
 ((Qv (vI x11)) ∧
 ((Qv (Pt 1000 9)) ∧
 ((Qv (Pt 1000 9)) ∧
 ((Qv (vI x9)) ∧
 ((Qv (Pt 1000 7)) ∧
 ((Qv (Pt 1000 7)) ∧
 ((Qv (vI n1)) ∧
 ((Qv (vI n2)) ∧
 ((Qv (Value.agg [(vI x1), (vI x2), (vI x3), (vI x4), (vI x5), (vI x6), (Sl 500 (n7) (c8)), (vI x9), (vI x10), (vI x11), (vI x12)].toArray)) ∧
 ((Qv (Value.slice none 0 0)) ∧
 True))))))))))))))))))) ∧
 (bcase (decide (0 + n7 * 5 ≤ List.length l16))
 (∃ n3 : Int,
 ((Says C 72 [(D.agg [(D.val (vI x1)), (D.val (vI x2)), (D.val (vI x3)), (D.val (vI x4)), (D.val (vI x5)), (D.val (vI x6)), (D.sl (n7) 5 (List.take (n7 * 5) (List.drop 0 l16))), (D.val (vI x9)), (D.val (vI x10)), (D.val (vI x11)), (D.val (vI x12))]), (D.val (vI n2)), (D.val (vI n1)), (D.val (vI x9)), (D.val (vI x11))] [(D.val (vI n3))]) ∧
 (((Qv (vI x12)) ∧
 ((Qv (Pt 1000 10)) ∧
 ((Qv (Pt 1000 9)) ∧
 ((Qv (vI x10)) ∧
 ((Qv (Pt 1000 8)) ∧
 ((Qv (Pt 1000 7)) ∧
 ((Qv (vI n1)) ∧
 ((Qv (vI n2)) ∧
 ((Qv (Value.agg [(vI x1), (vI x2), (vI x3), (vI x4), (vI x5), (vI x6), (Sl 500 (n7) (c8)), (vI x9), (vI x10), (vI x11), (vI x12)].toArray)) ∧
 ((Qv (Pt 1000 9)) ∧
 ((Qv (Pt 1000 9)) ∧
 ((Qv (Pt 1000 7)) ∧
 ((Qv (Pt 1000 7)) ∧
 ((Qv (Value.slice none 0 0)) ∧
 True)))))))))))))) ∧
 (bcase (decide (0 + n7 * 5 ≤ List.length l16))
 (∃ n4 : Int,
 ((Says C 72 [(D.agg [(D.val (vI x1)), (D.val (vI x2)), (D.val (vI x3)), (D.val (vI x4)), (D.val (vI x5)), (D.val (vI x6)), (D.sl (n7) 5 (List.take (n7 * 5) (List.drop 0 l16))), (D.val (vI x9)), (D.val (vI x10)), (D.val (vI x11)), (D.val (vI x12))]), (D.val (vI n2)), (D.val (vI n1)), (D.val (vI x10)), (D.val (vI x12))] [(D.val (vI n4))]) ∧
 ((((Qv (Sl 1002 1 1)) ∧
 (Qv (some (AObj.cells [(vI n3), (vI n4)] 23 false 2)))) ∧
 ((Qv (Value.agg [(vI n3), (vI n4)].toArray)) ∧
 ((Qv (Pt 1000 10)) ∧
 ((Qv (Pt 1000 9)) ∧
 ((Qv (Pt 1000 8)) ∧
 ((Qv (Pt 1000 7)) ∧
 ((Qv (Pt 1000 9)) ∧
 ((Qv (Pt 1000 9)) ∧
 ((Qv (Pt 1000 7)) ∧
 ((Qv (Pt 1000 7)) ∧
 ((Qv (Value.slice none 0 0)) ∧
 True))))))))))) ∧
 (((Qv (Value.agg [(vI n3), (vI n4)].toArray)) ∧
 ((Qv (Pt 1000 10)) ∧
 ((Qv (Pt 1000 9)) ∧
 ((Qv (Pt 1000 8)) ∧
 ((Qv (Pt 1000 7)) ∧
 ((Qv (Pt 1000 9)) ∧
 ((Qv (Pt 1000 9)) ∧
 ((Qv (Pt 1000 7)) ∧
 ((Qv (Pt 1000 7)) ∧
 True))))))))) ∧
 (True ∧
 (B [(Prod.mk 2 (Pt 1000 0)), (Prod.mk 3 (Pt 1001 0)), (Prod.mk 5 (Sl 1002 1 1)), (Prod.mk 6 (vI (IntKind.wrap .i64 (x0 + 1))))] [(Prod.mk 1000 (AObj.cells [(vI x1), (vI x2), (vI x3), (vI x4), (vI x5), (vI x6), (Sl 500 (n7) (c8)), (vI x9), (vI x10), (vI x11), (vI x12)] 26 false 1)), (Prod.mk 1001 (AObj.cells [(Value.string (s13)), (Sl 501 (n14) (c15))] 29 false 1)), (Prod.mk 1002 (AObj.sym [(vI n3), (vI n4)] true 2)), (Prod.mk 500 (AObj.sym (l16) false 5)), (Prod.mk 501 (AObj.sym (l17) false 1))]))))))
 False))))
 False)))))))
 False)
 False))))
 False)
 False)
 (X 0 [(Prod.mk 5 (Value.slice none 0 0))] [])) := by kernel_rfl
abbrev ztq2 (n0 : Nat) (x1 : Int) (x2 : Int) (x3 : Int) (x4 : Int) (x5 : Int) (x6 : Int) (x7 : Int) (n8 : Nat) (c9 : Nat) (x10 : Int) (x11 : Int) (x12 : Int) (x13 : Int) (s14 : ByteArray) (n15 : Nat) (c16 : Nat) (l17 : List Value) (l18 : List Value) (l19 : List Value) : Slots × Blocks := ([(2, (Value.pointer (some ⟨1000, 0, none⟩))), (3, (Value.pointer (some ⟨1001, 0, none⟩))), (5, (Value.slice (some ⟨1002, 0, none⟩) n0 n0)), (6, (Value.int .i64 x1))], [(1000, (AObj.cells [(Value.int .i64 x2), (Value.int .i64 x3), (Value.int .i64 x4), (Value.int .i64 x5), (Value.int .i64 x6), (Value.int .i64 x7), (Value.slice (some ⟨500, 0, none⟩) n8 c9), (Value.int .i64 x10), (Value.int .i64 x11), (Value.int .i64 x12), (Value.int .i64 x13)] 26 false 1)), (1001, (AObj.cells [(Value.string s14), (Value.slice (some ⟨501, 0, none⟩) n15 c16)] 29 false 1)), (1002, (AObj.sym l17 true 2)), (500, (AObj.sym l18 false 5)), (501, (AObj.sym l19 false 1))])
def rtq2 (C : Ct) (L : AtLoop) (n0 : Nat) (x1 : Int) (x2 : Int) (x3 : Int) (x4 : Int) (x5 : Int) (x6 : Int) (x7 : Int) (n8 : Nat) (c9 : Nat) (x10 : Int) (x11 : Int) (x12 : Int) (x13 : Int) (s14 : ByteArray) (n15 : Nat) (c16 : Nat) (l17 : List Value) (l18 : List Value) (l19 : List Value) (B : Bx) (X : Xx) (k : List D → Prop) : Prop := wpRound Tryz.prog (hP C) L 26 0 [(2, (Value.pointer (some ⟨1000, 0, none⟩))), (3, (Value.pointer (some ⟨1001, 0, none⟩))), (5, (Value.slice (some ⟨1002, 0, none⟩) n0 n0)), (6, (Value.int .i64 x1))] [(1000, (AObj.cells [(Value.int .i64 x2), (Value.int .i64 x3), (Value.int .i64 x4), (Value.int .i64 x5), (Value.int .i64 x6), (Value.int .i64 x7), (Value.slice (some ⟨500, 0, none⟩) n8 c9), (Value.int .i64 x10), (Value.int .i64 x11), (Value.int .i64 x12), (Value.int .i64 x13)] 26 false 1)), (1001, (AObj.cells [(Value.string s14), (Value.slice (some ⟨501, 0, none⟩) n15 c16)] 29 false 1)), (1002, (AObj.sym l17 true 2)), (500, (AObj.sym l18 false 5)), (501, (AObj.sym l19 false 1))] B X (dataK k)
theorem rtq2_text (C : Ct) (L : AtLoop) (n0 : Nat) (x1 : Int) (x2 : Int) (x3 : Int) (x4 : Int) (x5 : Int) (x6 : Int) (x7 : Int) (n8 : Nat) (c9 : Nat) (x10 : Int) (x11 : Int) (x12 : Int) (x13 : Int) (s14 : ByteArray) (n15 : Nat) (c16 : Nat) (l17 : List Go.Value) (l18 : List Go.Value) (l19 : List Go.Value) (B : Bx) (X : Xx) (k : List D → Prop) : rtq2 C L n0 x1 x2 x3 x4 x5 x6 x7 n8 c9 x10 x11 x12 x13 s14 n15 c16 l17 l18 l19 B X k =
 (bcase (decide (x1 < (↑n8 : Int)))
 (bcase (decide (0 ≤ x1))
 (bcase (decide (x1 < (↑n15 : Int)))
 (∃ n1 : Int,
 ((At (l19) (0 + Int.toNat x1 * 1) 1 [(vI n1)]) ∧
 (((∃ n2 : Int,
 ((At (l19) (0 + Int.toNat x1 * 1) 1 [(vI n2)]) ∧
 ((vI n2) = (vI n1)))) ∧
 ((bcase (decide (0 ≤ x1))
 (bcase (decide (x1 < (↑n15 : Int)))
 (Qv (Pt 501 (0 + Int.toNat x1 * 1)))
 False)
 False) ∧
 ((Qv (vI x1)) ∧
 ((Qv (Sl 501 (n15) (c16))) ∧
 ((Qv (Pt 1001 1)) ∧
 ((Qv (vI x1)) ∧
 ((Qv (Value.agg [(Value.string (s14)), (Sl 501 (n15) (c16))].toArray)) ∧
 ((Qv (Value.agg [(vI x2), (vI x3), (vI x4), (vI x5), (vI x6), (vI x7), (Sl 500 (n8) (c9)), (vI x10), (vI x11), (vI x12), (vI x13)].toArray)) ∧
 True)))))))) ∧
 (bcase (decide (0 + n8 * 5 ≤ List.length l18))
 (bcase (decide (0 + n15 * 1 ≤ List.length l19))
 (∃ n2 : Int,
 ((Says C 70 [(D.agg [(D.val (vI x2)), (D.val (vI x3)), (D.val (vI x4)), (D.val (vI x5)), (D.val (vI x6)), (D.val (vI x7)), (D.sl (n8) 5 (List.take (n8 * 5) (List.drop 0 l18))), (D.val (vI x10)), (D.val (vI x11)), (D.val (vI x12)), (D.val (vI x13))]), (D.agg [(D.val (Value.string (s14))), (D.sl (n15) 1 (List.take (n15 * 1) (List.drop 0 l19)))]), (D.val (vI x1))] [(D.val (vI n2))]) ∧
 (((∃ n3 : Int,
 ((At (l19) (0 + Int.toNat x1 * 1) 1 [(vI n3)]) ∧
 ((vI n3) = (vI n1)))) ∧
 ((bcase (decide (0 ≤ x1))
 (bcase (decide (x1 < (↑n15 : Int)))
 (Qv (Pt 501 (0 + Int.toNat x1 * 1)))
 False)
 False) ∧
 ((Qv (vI x1)) ∧
 ((Qv (Sl 501 (n15) (c16))) ∧
 ((Qv (Pt 1001 1)) ∧
 True))))) ∧
 (((∃ n3 : Int,
 ((At (l19) (0 + Int.toNat x1 * 1) 1 [(vI n3)]) ∧
 ((vI n3) = (vI n1)))) ∧
 ((bcase (decide (0 ≤ x1))
 (bcase (decide (x1 < (↑n15 : Int)))
 (Qv (Pt 501 (0 + Int.toNat x1 * 1)))
 False)
 False) ∧
 ((Qv (vI x1)) ∧
 ((Qv (Sl 501 (n15) (c16))) ∧
 ((Qv (Pt 1001 1)) ∧
 True))))) ∧
 (True ∧
 (((Qv (vI x13)) ∧
 ((Qv (Pt 1000 10)) ∧
 ((Qv (Pt 1000 9)) ∧
 ((Qv (vI x11)) ∧
 ((Qv (Pt 1000 8)) ∧
 ((Qv (Pt 1000 7)) ∧
 ((Qv (vI n1)) ∧
 ((Qv (vI n2)) ∧
 ((Qv (Value.agg [(vI x2), (vI x3), (vI x4), (vI x5), (vI x6), (vI x7), (Sl 500 (n8) (c9)), (vI x10), (vI x11), (vI x12), (vI x13)].toArray)) ∧
 ((Qv (vI x12)) ∧
 ((Qv (Pt 1000 9)) ∧
 ((Qv (Pt 1000 9)) ∧
 ((Qv (vI x10)) ∧
 ((Qv (Pt 1000 7)) ∧
 ((Qv (Pt 1000 7)) ∧
 ((Qv (vI n1)) ∧
 ((Qv (vI n2)) ∧
 ((Qv (Value.agg [(vI x2), (vI x3), (vI x4), (vI x5), (vI x6), (vI x7), (Sl 500 (n8) (c9)), (vI x10), (vI x11), (vI x12), (vI x13)].toArray)) ∧
 ((Qv (Sl 1002 (n0) (n0))) ∧
 True))))))))))))))))))) ∧
 (bcase (decide (0 + n8 * 5 ≤ List.length l18))
 (∃ n3 : Int,
 ((Says C 72 [(D.agg [(D.val (vI x2)), (D.val (vI x3)), (D.val (vI x4)), (D.val (vI x5)), (D.val (vI x6)), (D.val (vI x7)), (D.sl (n8) 5 (List.take (n8 * 5) (List.drop 0 l18))), (D.val (vI x10)), (D.val (vI x11)), (D.val (vI x12)), (D.val (vI x13))]), (D.val (vI n2)), (D.val (vI n1)), (D.val (vI x10)), (D.val (vI x12))] [(D.val (vI n3))]) ∧
 (((Qv (vI x13)) ∧
 ((Qv (Pt 1000 10)) ∧
 ((Qv (Pt 1000 9)) ∧
 ((Qv (vI x11)) ∧
 ((Qv (Pt 1000 8)) ∧
 ((Qv (Pt 1000 7)) ∧
 ((Qv (vI n1)) ∧
 ((Qv (vI n2)) ∧
 ((Qv (Value.agg [(vI x2), (vI x3), (vI x4), (vI x5), (vI x6), (vI x7), (Sl 500 (n8) (c9)), (vI x10), (vI x11), (vI x12), (vI x13)].toArray)) ∧
 ((Qv (Pt 1000 9)) ∧
 ((Qv (Pt 1000 9)) ∧
 ((Qv (Pt 1000 7)) ∧
 ((Qv (Pt 1000 7)) ∧
 ((Qv (Sl 1002 (n0) (n0))) ∧
 True)))))))))))))) ∧
 (bcase (decide (0 + n8 * 5 ≤ List.length l18))
 (∃ n4 : Int,
 ((Says C 72 [(D.agg [(D.val (vI x2)), (D.val (vI x3)), (D.val (vI x4)), (D.val (vI x5)), (D.val (vI x6)), (D.val (vI x7)), (D.sl (n8) 5 (List.take (n8 * 5) (List.drop 0 l18))), (D.val (vI x10)), (D.val (vI x11)), (D.val (vI x12)), (D.val (vI x13))]), (D.val (vI n2)), (D.val (vI n1)), (D.val (vI x11)), (D.val (vI x13))] [(D.val (vI n4))]) ∧
 ((((Qv (Sl 1003 1 1)) ∧
 (Qv (some (AObj.cells [(vI n3), (vI n4)] 23 false 2)))) ∧
 ((Qv (Value.agg [(vI n3), (vI n4)].toArray)) ∧
 ((Qv (Pt 1000 10)) ∧
 ((Qv (Pt 1000 9)) ∧
 ((Qv (Pt 1000 8)) ∧
 ((Qv (Pt 1000 7)) ∧
 ((Qv (Pt 1000 9)) ∧
 ((Qv (Pt 1000 9)) ∧
 ((Qv (Pt 1000 7)) ∧
 ((Qv (Pt 1000 7)) ∧
 ((Qv (Sl 1002 (n0) (n0))) ∧
 True))))))))))) ∧
 (bcase (decide (n0 < n0 + 1))
 (bcase (decide ((2 * (n0 + 1) + 768) * 16 ≤ 281474976710656))
 (bcase (decide (n0 + 1 ≤ 1099511627776))
 (bcase (decide (0 + n0 * 2 ≤ List.length l17))
 (bcase (decide (0 + n0 * 2 = List.length l17))
 (((Qv (Value.agg [(vI n3), (vI n4)].toArray)) ∧
 ((Qv (Pt 1000 10)) ∧
 ((Qv (Pt 1000 9)) ∧
 ((Qv (Pt 1000 8)) ∧
 ((Qv (Pt 1000 7)) ∧
 ((Qv (Pt 1000 9)) ∧
 ((Qv (Pt 1000 9)) ∧
 ((Qv (Pt 1000 7)) ∧
 ((Qv (Pt 1000 7)) ∧
 True))))))))) ∧
 (True ∧
 (B [(Prod.mk 2 (Pt 1000 0)), (Prod.mk 3 (Pt 1001 0)), (Prod.mk 5 (Sl 1002 (n0 + 1) (n0 + 1))), (Prod.mk 6 (vI (IntKind.wrap .i64 (x1 + 1))))] [(Prod.mk 1000 (AObj.cells [(vI x2), (vI x3), (vI x4), (vI x5), (vI x6), (vI x7), (Sl 500 (n8) (c9)), (vI x10), (vI x11), (vI x12), (vI x13)] 26 false 1)), (Prod.mk 1001 (AObj.cells [(Value.string (s14)), (Sl 501 (n15) (c16))] 29 false 1)), (Prod.mk 1002 (AObj.sym ((List.take (n0 * 2) (List.drop 0 l17)) ++ [(vI n3), (vI n4)]) true 2)), (Prod.mk 500 (AObj.sym (l18) false 5)), (Prod.mk 501 (AObj.sym (l19) false 1))])))
 False)
 False)
 False)
 False)
 False))))
 False))))
 False)))))))
 False)
 False))))
 False)
 False)
 (X 0 [(Prod.mk 5 (Sl 1000 (n0) (n0)))] [(Prod.mk 1000 (AObj.sym (l17) true 2))])) := by kernel_rfl
def ntq4 (C : Ct) (L : AtLoop) (n0 : Nat) (l1 : List Value) (k : List D → Prop) : Prop := wpNext Tryz.prog (hP C) L 26 0 .normal [(5, (Value.slice (some ⟨1000, 0, none⟩) n0 n0))] [(1000, (AObj.sym l1 true 2))] (dataK k)
theorem ntq4_text (C : Ct) (L : AtLoop) (n0 : Nat) (l1 : List Go.Value) (k : List D → Prop) : ntq4 C L n0 l1 k =
 (((Qv (n0)) ∧
 ((List.length l1) = (n0 * 2))) ∧
 (k [(D.sl (n0) 2 (l1))])) := by kernel_rfl
def ghT (C : Ct) (L : AtLoop) (x0 : Int) (x1 : Int) (x2 : Int) (x3 : Int) (x4 : Int) (x5 : Int) (n6 : Nat) (c6 : Nat) (l6 : List Value) (x7 : Int) (x8 : Int) (x9 : Int) (x10 : Int) (s11 : ByteArray) (n12 : Nat) (c12 : Nat) (l12 : List Value) (k : List D → Prop) : Prop := wpFn Tryz.prog (hP C) L 0 28 #[.agg #[.int .i64 x0, .int .i64 x1, .int .i64 x2, .int .i64 x3, .int .i64 x4, .int .i64 x5, .slice (some ⟨500, 0, none⟩) n6 c6, .int .i64 x7, .int .i64 x8, .int .i64 x9, .int .i64 x10], .agg #[.string s11, .slice (some ⟨501, 0, none⟩) n12 c12]] (heapOf [(500, .sym l6 false 5), (501, .sym l12 false 1)]) (dataK k)
theorem ghT_text (C : Ct) (L : AtLoop) (x0 : Int) (x1 : Int) (x2 : Int) (x3 : Int) (x4 : Int) (x5 : Int) (n6 : Nat) (c6 : Nat) (l6 : List Go.Value) (x7 : Int) (x8 : Int) (x9 : Int) (x10 : Int) (s11 : ByteArray) (n12 : Nat) (c12 : Nat) (l12 : List Go.Value) (k : List D → Prop) : ghT C L x0 x1 x2 x3 x4 x5 n6 c6 l6 x7 x8 x9 x10 s11 n12 c12 l12 k =
 (L 0 [(Prod.mk 2 (Pt 1000 0)), (Prod.mk 3 (Pt 1001 0)), (Prod.mk 5 (Value.slice none 0 0)), (Prod.mk 6 (vI 0))] [(Prod.mk 1000 (AObj.cells [(vI x0), (vI x1), (vI x2), (vI x3), (vI x4), (vI x5), (Sl 500 (n6) (c6)), (vI x7), (vI x8), (vI x9), (vI x10)] 26 false 1)), (Prod.mk 1001 (AObj.cells [(Value.string (s11)), (Sl 501 (n12) (c12))] 29 false 1)), (Prod.mk 500 (AObj.sym (l6) false 5)), (Prod.mk 501 (AObj.sym (l12) false 1))]) := by kernel_rfl
abbrev zhT1 (x0 : Int) (x1 : Int) (x2 : Int) (x3 : Int) (x4 : Int) (x5 : Int) (x6 : Int) (n7 : Nat) (c8 : Nat) (x9 : Int) (x10 : Int) (x11 : Int) (x12 : Int) (s13 : ByteArray) (n14 : Nat) (c15 : Nat) (l16 : List Value) (l17 : List Value) : Slots × Blocks := ([(2, (Value.pointer (some ⟨1000, 0, none⟩))), (3, (Value.pointer (some ⟨1001, 0, none⟩))), (5, (Value.slice none 0 0)), (6, (Value.int .i64 x0))], [(1000, (AObj.cells [(Value.int .i64 x1), (Value.int .i64 x2), (Value.int .i64 x3), (Value.int .i64 x4), (Value.int .i64 x5), (Value.int .i64 x6), (Value.slice (some ⟨500, 0, none⟩) n7 c8), (Value.int .i64 x9), (Value.int .i64 x10), (Value.int .i64 x11), (Value.int .i64 x12)] 26 false 1)), (1001, (AObj.cells [(Value.string s13), (Value.slice (some ⟨501, 0, none⟩) n14 c15)] 29 false 1)), (500, (AObj.sym l16 false 5)), (501, (AObj.sym l17 false 1))])
def rhT1 (C : Ct) (L : AtLoop) (x0 : Int) (x1 : Int) (x2 : Int) (x3 : Int) (x4 : Int) (x5 : Int) (x6 : Int) (n7 : Nat) (c8 : Nat) (x9 : Int) (x10 : Int) (x11 : Int) (x12 : Int) (s13 : ByteArray) (n14 : Nat) (c15 : Nat) (l16 : List Value) (l17 : List Value) (B : Bx) (X : Xx) (k : List D → Prop) : Prop := wpRound Tryz.prog (hP C) L 28 0 [(2, (Value.pointer (some ⟨1000, 0, none⟩))), (3, (Value.pointer (some ⟨1001, 0, none⟩))), (5, (Value.slice none 0 0)), (6, (Value.int .i64 x0))] [(1000, (AObj.cells [(Value.int .i64 x1), (Value.int .i64 x2), (Value.int .i64 x3), (Value.int .i64 x4), (Value.int .i64 x5), (Value.int .i64 x6), (Value.slice (some ⟨500, 0, none⟩) n7 c8), (Value.int .i64 x9), (Value.int .i64 x10), (Value.int .i64 x11), (Value.int .i64 x12)] 26 false 1)), (1001, (AObj.cells [(Value.string s13), (Value.slice (some ⟨501, 0, none⟩) n14 c15)] 29 false 1)), (500, (AObj.sym l16 false 5)), (501, (AObj.sym l17 false 1))] B X (dataK k)
theorem rhT1_text (C : Ct) (L : AtLoop) (x0 : Int) (x1 : Int) (x2 : Int) (x3 : Int) (x4 : Int) (x5 : Int) (x6 : Int) (n7 : Nat) (c8 : Nat) (x9 : Int) (x10 : Int) (x11 : Int) (x12 : Int) (s13 : ByteArray) (n14 : Nat) (c15 : Nat) (l16 : List Go.Value) (l17 : List Go.Value) (B : Bx) (X : Xx) (k : List D → Prop) : rhT1 C L x0 x1 x2 x3 x4 x5 x6 n7 c8 x9 x10 x11 x12 s13 n14 c15 l16 l17 B X k =
 (bcase (decide (x0 < (↑n7 : Int)))
 (bcase (decide (0 + n7 * 5 ≤ List.length l16))
 (∃ n1 : Int,
 (∃ n2 : Int,
 ((Says C 73 [(D.agg [(D.val (vI x1)), (D.val (vI x2)), (D.val (vI x3)), (D.val (vI x4)), (D.val (vI x5)), (D.val (vI x6)), (D.sl (n7) 5 (List.take (n7 * 5) (List.drop 0 l16))), (D.val (vI x9)), (D.val (vI x10)), (D.val (vI x11)), (D.val (vI x12))]), (D.val (vI x0))] [(D.agg [(D.val (vI n1)), (D.val (vI n2))])]) ∧
 (bcase (decide (0 ≤ x0))
 (bcase (decide (x0 < (↑n14 : Int)))
 (∃ n3 : Int,
 ((At (l17) (0 + Int.toNat x0 * 1) 1 [(vI n3)]) ∧
 (bcase (decide (0 ≤ x0))
 (bcase (decide (x0 < (↑n14 : Int)))
 (∃ n4 : Int,
 ((At (l17) (0 + Int.toNat x0 * 1) 1 [(vI n4)]) ∧
 (((Qv (vI n1)) ∧
 ((Qv (Pt 1002 0)) ∧
 ((Qv (vI x5)) ∧
 ((Qv (Pt 1000 4)) ∧
 ((Qv (Pt 1000 3)) ∧
 ((Qv (vI x10)) ∧
 ((Qv (Pt 1000 8)) ∧
 ((Qv (Pt 1000 7)) ∧
 ((∃ n5 : Int,
 ((At (l17) (0 + Int.toNat x0 * 1) 1 [(vI n5)]) ∧
 ((vI n5) = (vI n4)))) ∧
 ((bcase (decide (0 ≤ x0))
 (bcase (decide (x0 < (↑n14 : Int)))
 (Qv (Pt 501 (0 + Int.toNat x0 * 1)))
 False)
 False) ∧
 ((Qv (vI x0)) ∧
 ((Qv (Sl 501 (n14) (c15))) ∧
 ((Qv (Pt 1001 1)) ∧
 ((Qv (Value.agg [(vI x1), (vI x2), (vI x3), (vI x4), (vI x5), (vI x6), (Sl 500 (n7) (c8)), (vI x9), (vI x10), (vI x11), (vI x12)].toArray)) ∧
 ((Qv (vI n2)) ∧
 ((Qv (Pt 1002 1)) ∧
 ((Qv (vI x4)) ∧
 ((Qv (Pt 1000 3)) ∧
 ((Qv (Pt 1000 3)) ∧
 ((Qv (vI x9)) ∧
 ((Qv (Pt 1000 7)) ∧
 ((Qv (Pt 1000 7)) ∧
 ((∃ n5 : Int,
 ((At (l17) (0 + Int.toNat x0 * 1) 1 [(vI n5)]) ∧
 ((vI n5) = (vI n3)))) ∧
 ((bcase (decide (0 ≤ x0))
 (bcase (decide (x0 < (↑n14 : Int)))
 (Qv (Pt 501 (0 + Int.toNat x0 * 1)))
 False)
 False) ∧
 ((Qv (vI x0)) ∧
 ((Qv (Sl 501 (n14) (c15))) ∧
 ((Qv (Pt 1001 1)) ∧
 ((Qv (Value.agg [(vI x1), (vI x2), (vI x3), (vI x4), (vI x5), (vI x6), (Sl 500 (n7) (c8)), (vI x9), (vI x10), (vI x11), (vI x12)].toArray)) ∧
 True)))))))))))))))))))))))))))) ∧
 (bcase (decide (0 + n7 * 5 ≤ List.length l16))
 (∃ n5 : Int,
 ((Says C 74 [(D.agg [(D.val (vI x1)), (D.val (vI x2)), (D.val (vI x3)), (D.val (vI x4)), (D.val (vI x5)), (D.val (vI x6)), (D.sl (n7) 5 (List.take (n7 * 5) (List.drop 0 l16))), (D.val (vI x9)), (D.val (vI x10)), (D.val (vI x11)), (D.val (vI x12))]), (D.val (vI n3)), (D.val (vI x9)), (D.val (vI x4)), (D.val (vI n2))] [(D.val (vI n5))]) ∧
 (((Qv (vI n1)) ∧
 ((Qv (Pt 1002 0)) ∧
 ((Qv (vI x5)) ∧
 ((Qv (Pt 1000 4)) ∧
 ((Qv (Pt 1000 3)) ∧
 ((Qv (vI x10)) ∧
 ((Qv (Pt 1000 8)) ∧
 ((Qv (Pt 1000 7)) ∧
 ((∃ n6 : Int,
 ((At (l17) (0 + Int.toNat x0 * 1) 1 [(vI n6)]) ∧
 ((vI n6) = (vI n4)))) ∧
 ((bcase (decide (0 ≤ x0))
 (bcase (decide (x0 < (↑n14 : Int)))
 (Qv (Pt 501 (0 + Int.toNat x0 * 1)))
 False)
 False) ∧
 ((Qv (vI x0)) ∧
 ((Qv (Sl 501 (n14) (c15))) ∧
 ((Qv (Pt 1001 1)) ∧
 ((Qv (Value.agg [(vI x1), (vI x2), (vI x3), (vI x4), (vI x5), (vI x6), (Sl 500 (n7) (c8)), (vI x9), (vI x10), (vI x11), (vI x12)].toArray)) ∧
 ((Qv (Pt 1002 1)) ∧
 ((Qv (Pt 1000 3)) ∧
 ((Qv (Pt 1000 3)) ∧
 ((Qv (Pt 1000 7)) ∧
 ((Qv (Pt 1000 7)) ∧
 ((bcase (decide (0 ≤ x0))
 (bcase (decide (x0 < (↑n14 : Int)))
 (Qv (Pt 501 (0 + Int.toNat x0 * 1)))
 False)
 False) ∧
 ((Qv (vI x0)) ∧
 ((Qv (Sl 501 (n14) (c15))) ∧
 ((Qv (Pt 1001 1)) ∧
 True))))))))))))))))))))))) ∧
 (bcase (decide (0 + n7 * 5 ≤ List.length l16))
 (∃ n6 : Int,
 ((Says C 74 [(D.agg [(D.val (vI x1)), (D.val (vI x2)), (D.val (vI x3)), (D.val (vI x4)), (D.val (vI x5)), (D.val (vI x6)), (D.sl (n7) 5 (List.take (n7 * 5) (List.drop 0 l16))), (D.val (vI x9)), (D.val (vI x10)), (D.val (vI x11)), (D.val (vI x12))]), (D.val (vI n4)), (D.val (vI x10)), (D.val (vI x5)), (D.val (vI n1))] [(D.val (vI n6))]) ∧
 (((Qv (Pt 1002 0)) ∧
 ((Qv (Pt 1000 4)) ∧
 ((Qv (Pt 1000 3)) ∧
 ((Qv (Pt 1000 8)) ∧
 ((Qv (Pt 1000 7)) ∧
 ((bcase (decide (0 ≤ x0))
 (bcase (decide (x0 < (↑n14 : Int)))
 (Qv (Pt 501 (0 + Int.toNat x0 * 1)))
 False)
 False) ∧
 ((Qv (vI x0)) ∧
 ((Qv (Sl 501 (n14) (c15))) ∧
 ((Qv (Pt 1001 1)) ∧
 ((Qv (Pt 1002 1)) ∧
 ((Qv (Pt 1000 3)) ∧
 ((Qv (Pt 1000 3)) ∧
 ((Qv (Pt 1000 7)) ∧
 ((Qv (Pt 1000 7)) ∧
 ((bcase (decide (0 ≤ x0))
 (bcase (decide (x0 < (↑n14 : Int)))
 (Qv (Pt 501 (0 + Int.toNat x0 * 1)))
 False)
 False) ∧
 ((Qv (vI x0)) ∧
 ((Qv (Sl 501 (n14) (c15))) ∧
 ((Qv (Pt 1001 1)) ∧
 True)))))))))))))))))) ∧
 (((Qv (Pt 1002 0)) ∧
 ((Qv (Pt 1000 4)) ∧
 ((Qv (Pt 1000 3)) ∧
 ((Qv (Pt 1000 8)) ∧
 ((Qv (Pt 1000 7)) ∧
 ((bcase (decide (0 ≤ x0))
 (bcase (decide (x0 < (↑n14 : Int)))
 (Qv (Pt 501 (0 + Int.toNat x0 * 1)))
 False)
 False) ∧
 ((Qv (vI x0)) ∧
 ((Qv (Sl 501 (n14) (c15))) ∧
 ((Qv (Pt 1001 1)) ∧
 True))))))))) ∧
 (True ∧
 (∃ n8 : Int,
 (∃ n9 : Int,
 ((Says C 44 [(D.val (vI n5)), (D.val (vI 100))] [(D.agg [(D.val (vI n8)), (D.val (vI n9))])]) ∧
 (∃ n10 : Int,
 (∃ n11 : Int,
 ((Says C 44 [(D.val (vI n6)), (D.val (vI 100))] [(D.agg [(D.val (vI n10)), (D.val (vI n11))])]) ∧
 (B [(Prod.mk 2 (Pt 1000 0)), (Prod.mk 3 (Pt 1001 0)), (Prod.mk 5 (Sl 1002 1 1)), (Prod.mk 6 (vI (IntKind.wrap .i64 (x0 + 1))))] [(Prod.mk 1000 (AObj.cells [(vI x1), (vI x2), (vI x3), (vI x4), (vI x5), (vI x6), (Sl 500 (n7) (c8)), (vI x9), (vI x10), (vI x11), (vI x12)] 26 false 1)), (Prod.mk 1001 (AObj.cells [(Value.string (s13)), (Sl 501 (n14) (c15))] 29 false 1)), (Prod.mk 1002 (AObj.sym [(vI n8), (vI n9), (vI n10), (vI n11)] true 4)), (Prod.mk 500 (AObj.sym (l16) false 5)), (Prod.mk 501 (AObj.sym (l17) false 1))]))))))))))))
 False))))
 False))))
 False)
 False)))
 False)
 False))))
 False)
 (X 0 [(Prod.mk 5 (Value.slice none 0 0))] [])) := by kernel_rfl
abbrev zhT2 (n0 : Nat) (x1 : Int) (x2 : Int) (x3 : Int) (x4 : Int) (x5 : Int) (x6 : Int) (x7 : Int) (n8 : Nat) (c9 : Nat) (x10 : Int) (x11 : Int) (x12 : Int) (x13 : Int) (s14 : ByteArray) (n15 : Nat) (c16 : Nat) (l17 : List Value) (l18 : List Value) (l19 : List Value) : Slots × Blocks := ([(2, (Value.pointer (some ⟨1000, 0, none⟩))), (3, (Value.pointer (some ⟨1001, 0, none⟩))), (5, (Value.slice (some ⟨1002, 0, none⟩) n0 n0)), (6, (Value.int .i64 x1))], [(1000, (AObj.cells [(Value.int .i64 x2), (Value.int .i64 x3), (Value.int .i64 x4), (Value.int .i64 x5), (Value.int .i64 x6), (Value.int .i64 x7), (Value.slice (some ⟨500, 0, none⟩) n8 c9), (Value.int .i64 x10), (Value.int .i64 x11), (Value.int .i64 x12), (Value.int .i64 x13)] 26 false 1)), (1001, (AObj.cells [(Value.string s14), (Value.slice (some ⟨501, 0, none⟩) n15 c16)] 29 false 1)), (1002, (AObj.sym l17 true 4)), (500, (AObj.sym l18 false 5)), (501, (AObj.sym l19 false 1))])
def rhT2 (C : Ct) (L : AtLoop) (n0 : Nat) (x1 : Int) (x2 : Int) (x3 : Int) (x4 : Int) (x5 : Int) (x6 : Int) (x7 : Int) (n8 : Nat) (c9 : Nat) (x10 : Int) (x11 : Int) (x12 : Int) (x13 : Int) (s14 : ByteArray) (n15 : Nat) (c16 : Nat) (l17 : List Value) (l18 : List Value) (l19 : List Value) (B : Bx) (X : Xx) (k : List D → Prop) : Prop := wpRound Tryz.prog (hP C) L 28 0 [(2, (Value.pointer (some ⟨1000, 0, none⟩))), (3, (Value.pointer (some ⟨1001, 0, none⟩))), (5, (Value.slice (some ⟨1002, 0, none⟩) n0 n0)), (6, (Value.int .i64 x1))] [(1000, (AObj.cells [(Value.int .i64 x2), (Value.int .i64 x3), (Value.int .i64 x4), (Value.int .i64 x5), (Value.int .i64 x6), (Value.int .i64 x7), (Value.slice (some ⟨500, 0, none⟩) n8 c9), (Value.int .i64 x10), (Value.int .i64 x11), (Value.int .i64 x12), (Value.int .i64 x13)] 26 false 1)), (1001, (AObj.cells [(Value.string s14), (Value.slice (some ⟨501, 0, none⟩) n15 c16)] 29 false 1)), (1002, (AObj.sym l17 true 4)), (500, (AObj.sym l18 false 5)), (501, (AObj.sym l19 false 1))] B X (dataK k)
theorem rhT2_text (C : Ct) (L : AtLoop) (n0 : Nat) (x1 : Int) (x2 : Int) (x3 : Int) (x4 : Int) (x5 : Int) (x6 : Int) (x7 : Int) (n8 : Nat) (c9 : Nat) (x10 : Int) (x11 : Int) (x12 : Int) (x13 : Int) (s14 : ByteArray) (n15 : Nat) (c16 : Nat) (l17 : List Go.Value) (l18 : List Go.Value) (l19 : List Go.Value) (B : Bx) (X : Xx) (k : List D → Prop) : rhT2 C L n0 x1 x2 x3 x4 x5 x6 x7 n8 c9 x10 x11 x12 x13 s14 n15 c16 l17 l18 l19 B X k =
 (bcase (decide (x1 < (↑n8 : Int)))
 (bcase (decide (0 + n8 * 5 ≤ List.length l18))
 (∃ n1 : Int,
 (∃ n2 : Int,
 ((Says C 73 [(D.agg [(D.val (vI x2)), (D.val (vI x3)), (D.val (vI x4)), (D.val (vI x5)), (D.val (vI x6)), (D.val (vI x7)), (D.sl (n8) 5 (List.take (n8 * 5) (List.drop 0 l18))), (D.val (vI x10)), (D.val (vI x11)), (D.val (vI x12)), (D.val (vI x13))]), (D.val (vI x1))] [(D.agg [(D.val (vI n1)), (D.val (vI n2))])]) ∧
 (bcase (decide (0 ≤ x1))
 (bcase (decide (x1 < (↑n15 : Int)))
 (∃ n3 : Int,
 ((At (l19) (0 + Int.toNat x1 * 1) 1 [(vI n3)]) ∧
 (bcase (decide (0 ≤ x1))
 (bcase (decide (x1 < (↑n15 : Int)))
 (∃ n4 : Int,
 ((At (l19) (0 + Int.toNat x1 * 1) 1 [(vI n4)]) ∧
 (((Qv (vI n1)) ∧
 ((Qv (Pt 1003 0)) ∧
 ((Qv (vI x6)) ∧
 ((Qv (Pt 1000 4)) ∧
 ((Qv (Pt 1000 3)) ∧
 ((Qv (vI x11)) ∧
 ((Qv (Pt 1000 8)) ∧
 ((Qv (Pt 1000 7)) ∧
 ((∃ n5 : Int,
 ((At (l19) (0 + Int.toNat x1 * 1) 1 [(vI n5)]) ∧
 ((vI n5) = (vI n4)))) ∧
 ((bcase (decide (0 ≤ x1))
 (bcase (decide (x1 < (↑n15 : Int)))
 (Qv (Pt 501 (0 + Int.toNat x1 * 1)))
 False)
 False) ∧
 ((Qv (vI x1)) ∧
 ((Qv (Sl 501 (n15) (c16))) ∧
 ((Qv (Pt 1001 1)) ∧
 ((Qv (Value.agg [(vI x2), (vI x3), (vI x4), (vI x5), (vI x6), (vI x7), (Sl 500 (n8) (c9)), (vI x10), (vI x11), (vI x12), (vI x13)].toArray)) ∧
 ((Qv (vI n2)) ∧
 ((Qv (Pt 1003 1)) ∧
 ((Qv (vI x5)) ∧
 ((Qv (Pt 1000 3)) ∧
 ((Qv (Pt 1000 3)) ∧
 ((Qv (vI x10)) ∧
 ((Qv (Pt 1000 7)) ∧
 ((Qv (Pt 1000 7)) ∧
 ((∃ n5 : Int,
 ((At (l19) (0 + Int.toNat x1 * 1) 1 [(vI n5)]) ∧
 ((vI n5) = (vI n3)))) ∧
 ((bcase (decide (0 ≤ x1))
 (bcase (decide (x1 < (↑n15 : Int)))
 (Qv (Pt 501 (0 + Int.toNat x1 * 1)))
 False)
 False) ∧
 ((Qv (vI x1)) ∧
 ((Qv (Sl 501 (n15) (c16))) ∧
 ((Qv (Pt 1001 1)) ∧
 ((Qv (Value.agg [(vI x2), (vI x3), (vI x4), (vI x5), (vI x6), (vI x7), (Sl 500 (n8) (c9)), (vI x10), (vI x11), (vI x12), (vI x13)].toArray)) ∧
 True)))))))))))))))))))))))))))) ∧
 (bcase (decide (0 + n8 * 5 ≤ List.length l18))
 (∃ n5 : Int,
 ((Says C 74 [(D.agg [(D.val (vI x2)), (D.val (vI x3)), (D.val (vI x4)), (D.val (vI x5)), (D.val (vI x6)), (D.val (vI x7)), (D.sl (n8) 5 (List.take (n8 * 5) (List.drop 0 l18))), (D.val (vI x10)), (D.val (vI x11)), (D.val (vI x12)), (D.val (vI x13))]), (D.val (vI n3)), (D.val (vI x10)), (D.val (vI x5)), (D.val (vI n2))] [(D.val (vI n5))]) ∧
 (((Qv (vI n1)) ∧
 ((Qv (Pt 1003 0)) ∧
 ((Qv (vI x6)) ∧
 ((Qv (Pt 1000 4)) ∧
 ((Qv (Pt 1000 3)) ∧
 ((Qv (vI x11)) ∧
 ((Qv (Pt 1000 8)) ∧
 ((Qv (Pt 1000 7)) ∧
 ((∃ n6 : Int,
 ((At (l19) (0 + Int.toNat x1 * 1) 1 [(vI n6)]) ∧
 ((vI n6) = (vI n4)))) ∧
 ((bcase (decide (0 ≤ x1))
 (bcase (decide (x1 < (↑n15 : Int)))
 (Qv (Pt 501 (0 + Int.toNat x1 * 1)))
 False)
 False) ∧
 ((Qv (vI x1)) ∧
 ((Qv (Sl 501 (n15) (c16))) ∧
 ((Qv (Pt 1001 1)) ∧
 ((Qv (Value.agg [(vI x2), (vI x3), (vI x4), (vI x5), (vI x6), (vI x7), (Sl 500 (n8) (c9)), (vI x10), (vI x11), (vI x12), (vI x13)].toArray)) ∧
 ((Qv (Pt 1003 1)) ∧
 ((Qv (Pt 1000 3)) ∧
 ((Qv (Pt 1000 3)) ∧
 ((Qv (Pt 1000 7)) ∧
 ((Qv (Pt 1000 7)) ∧
 ((bcase (decide (0 ≤ x1))
 (bcase (decide (x1 < (↑n15 : Int)))
 (Qv (Pt 501 (0 + Int.toNat x1 * 1)))
 False)
 False) ∧
 ((Qv (vI x1)) ∧
 ((Qv (Sl 501 (n15) (c16))) ∧
 ((Qv (Pt 1001 1)) ∧
 True))))))))))))))))))))))) ∧
 (bcase (decide (0 + n8 * 5 ≤ List.length l18))
 (∃ n6 : Int,
 ((Says C 74 [(D.agg [(D.val (vI x2)), (D.val (vI x3)), (D.val (vI x4)), (D.val (vI x5)), (D.val (vI x6)), (D.val (vI x7)), (D.sl (n8) 5 (List.take (n8 * 5) (List.drop 0 l18))), (D.val (vI x10)), (D.val (vI x11)), (D.val (vI x12)), (D.val (vI x13))]), (D.val (vI n4)), (D.val (vI x11)), (D.val (vI x6)), (D.val (vI n1))] [(D.val (vI n6))]) ∧
 (((Qv (Pt 1003 0)) ∧
 ((Qv (Pt 1000 4)) ∧
 ((Qv (Pt 1000 3)) ∧
 ((Qv (Pt 1000 8)) ∧
 ((Qv (Pt 1000 7)) ∧
 ((bcase (decide (0 ≤ x1))
 (bcase (decide (x1 < (↑n15 : Int)))
 (Qv (Pt 501 (0 + Int.toNat x1 * 1)))
 False)
 False) ∧
 ((Qv (vI x1)) ∧
 ((Qv (Sl 501 (n15) (c16))) ∧
 ((Qv (Pt 1001 1)) ∧
 ((Qv (Pt 1003 1)) ∧
 ((Qv (Pt 1000 3)) ∧
 ((Qv (Pt 1000 3)) ∧
 ((Qv (Pt 1000 7)) ∧
 ((Qv (Pt 1000 7)) ∧
 ((bcase (decide (0 ≤ x1))
 (bcase (decide (x1 < (↑n15 : Int)))
 (Qv (Pt 501 (0 + Int.toNat x1 * 1)))
 False)
 False) ∧
 ((Qv (vI x1)) ∧
 ((Qv (Sl 501 (n15) (c16))) ∧
 ((Qv (Pt 1001 1)) ∧
 True)))))))))))))))))) ∧
 (((Qv (Pt 1003 0)) ∧
 ((Qv (Pt 1000 4)) ∧
 ((Qv (Pt 1000 3)) ∧
 ((Qv (Pt 1000 8)) ∧
 ((Qv (Pt 1000 7)) ∧
 ((bcase (decide (0 ≤ x1))
 (bcase (decide (x1 < (↑n15 : Int)))
 (Qv (Pt 501 (0 + Int.toNat x1 * 1)))
 False)
 False) ∧
 ((Qv (vI x1)) ∧
 ((Qv (Sl 501 (n15) (c16))) ∧
 ((Qv (Pt 1001 1)) ∧
 True))))))))) ∧
 (True ∧
 (∃ n7 : Int,
 (∃ n9 : Int,
 ((Says C 44 [(D.val (vI n5)), (D.val (vI 100))] [(D.agg [(D.val (vI n7)), (D.val (vI n9))])]) ∧
 (∃ n10 : Int,
 (∃ n11 : Int,
 ((Says C 44 [(D.val (vI n6)), (D.val (vI 100))] [(D.agg [(D.val (vI n10)), (D.val (vI n11))])]) ∧
 (bcase (decide (n0 < n0 + 1))
 (bcase (decide ((2 * (n0 + 1) + 768) * 32 ≤ 281474976710656))
 (bcase (decide (n0 + 1 ≤ 1099511627776))
 (bcase (decide (0 + n0 * 4 ≤ List.length l17))
 (bcase (decide (0 + n0 * 4 = List.length l17))
 (B [(Prod.mk 2 (Pt 1000 0)), (Prod.mk 3 (Pt 1001 0)), (Prod.mk 5 (Sl 1002 (n0 + 1) (n0 + 1))), (Prod.mk 6 (vI (IntKind.wrap .i64 (x1 + 1))))] [(Prod.mk 1000 (AObj.cells [(vI x2), (vI x3), (vI x4), (vI x5), (vI x6), (vI x7), (Sl 500 (n8) (c9)), (vI x10), (vI x11), (vI x12), (vI x13)] 26 false 1)), (Prod.mk 1001 (AObj.cells [(Value.string (s14)), (Sl 501 (n15) (c16))] 29 false 1)), (Prod.mk 1002 (AObj.sym ((List.take (n0 * 4) (List.drop 0 l17)) ++ [(vI n7), (vI n9), (vI n10), (vI n11)]) true 4)), (Prod.mk 500 (AObj.sym (l18) false 5)), (Prod.mk 501 (AObj.sym (l19) false 1))])
 False)
 False)
 False)
 False)
 False))))))))))))
 False))))
 False))))
 False)
 False)))
 False)
 False))))
 False)
 (X 0 [(Prod.mk 5 (Sl 1000 (n0) (n0)))] [(Prod.mk 1000 (AObj.sym (l17) true 4))])) := by kernel_rfl
def nhT4 (C : Ct) (L : AtLoop) (n0 : Nat) (l1 : List Value) (k : List D → Prop) : Prop := wpNext Tryz.prog (hP C) L 28 0 .normal [(5, (Value.slice (some ⟨1000, 0, none⟩) n0 n0))] [(1000, (AObj.sym l1 true 4))] (dataK k)
theorem nhT4_text (C : Ct) (L : AtLoop) (n0 : Nat) (l1 : List Go.Value) (k : List D → Prop) : nhT4 C L n0 l1 k =
 (((Qv (n0)) ∧
 ((List.length l1) = (n0 * 4))) ∧
 (k [(D.sl (n0) 4 (l1))])) := by kernel_rfl
def gls (C : Ct) (L : AtLoop) (x0 : Int) (x1 : Int) (x2 : Int) (x3 : Int) (x4 : Int) (x5 : Int) (n6 : Nat) (c6 : Nat) (l6 : List Value) (x7 : Int) (x8 : Int) (x9 : Int) (x10 : Int) (x11 : Int) (k : List D → Prop) : Prop := wpFn Tryz.prog (hP C) L 0 73 #[.agg #[.int .i64 x0, .int .i64 x1, .int .i64 x2, .int .i64 x3, .int .i64 x4, .int .i64 x5, .slice (some ⟨500, 0, none⟩) n6 c6, .int .i64 x7, .int .i64 x8, .int .i64 x9, .int .i64 x10], .int .i64 x11] (heapOf [(500, .sym l6 false 5)]) (dataK k)
theorem gls_text (C : Ct) (L : AtLoop) (x0 : Int) (x1 : Int) (x2 : Int) (x3 : Int) (x4 : Int) (x5 : Int) (n6 : Nat) (c6 : Nat) (l6 : List Go.Value) (x7 : Int) (x8 : Int) (x9 : Int) (x10 : Int) (x11 : Int) (k : List D → Prop) : gls C L x0 x1 x2 x3 x4 x5 n6 c6 l6 x7 x8 x9 x10 x11 k =
 (L 0 [(Prod.mk 1 (vI x11)), (Prod.mk 2 (Pt 1000 0)), (Prod.mk 4 (Pt 1001 0)), (Prod.mk 5 (Pt 1002 0)), (Prod.mk 6 (vI 0))] [(Prod.mk 1000 (AObj.cells [(vI x0), (vI x1), (vI x2), (vI x3), (vI x4), (vI x5), (Sl 500 (n6) (c6)), (vI x7), (vI x8), (vI x9), (vI x10)] 26 false 1)), (Prod.mk 1001 (AObj.cells [(vI 0), (vI 0)] 23 false 2)), (Prod.mk 1002 (AObj.cells [(vI 0), (vI 0)] 23 false 2)), (Prod.mk 500 (AObj.sym (l6) false 5))]) := by kernel_rfl
abbrev zls1 (x0 : Int) (x1 : Int) (x2 : Int) (x3 : Int) (x4 : Int) (x5 : Int) (x6 : Int) (x7 : Int) (n8 : Nat) (c9 : Nat) (x10 : Int) (x11 : Int) (x12 : Int) (x13 : Int) (x14 : Int) (x15 : Int) (x16 : Int) (x17 : Int) (l18 : List Value) : Slots × Blocks := ([(1, (Value.int .i64 x0)), (2, (Value.pointer (some ⟨1000, 0, none⟩))), (4, (Value.pointer (some ⟨1001, 0, none⟩))), (5, (Value.pointer (some ⟨1002, 0, none⟩))), (6, (Value.int .i64 x1))], [(1000, (AObj.cells [(Value.int .i64 x2), (Value.int .i64 x3), (Value.int .i64 x4), (Value.int .i64 x5), (Value.int .i64 x6), (Value.int .i64 x7), (Value.slice (some ⟨500, 0, none⟩) n8 c9), (Value.int .i64 x10), (Value.int .i64 x11), (Value.int .i64 x12), (Value.int .i64 x13)] 26 false 1)), (1001, (AObj.cells [(Value.int .i64 x14), (Value.int .i64 x15)] 23 false 2)), (1002, (AObj.cells [(Value.int .i64 x16), (Value.int .i64 x17)] 23 false 2)), (500, (AObj.sym l18 false 5))])
def rls1 (C : Ct) (L : AtLoop) (x0 : Int) (x1 : Int) (x2 : Int) (x3 : Int) (x4 : Int) (x5 : Int) (x6 : Int) (x7 : Int) (n8 : Nat) (c9 : Nat) (x10 : Int) (x11 : Int) (x12 : Int) (x13 : Int) (x14 : Int) (x15 : Int) (x16 : Int) (x17 : Int) (l18 : List Value) (B : Bx) (X : Xx) (k : List D → Prop) : Prop := wpRound Tryz.prog (hP C) L 73 0 [(1, (Value.int .i64 x0)), (2, (Value.pointer (some ⟨1000, 0, none⟩))), (4, (Value.pointer (some ⟨1001, 0, none⟩))), (5, (Value.pointer (some ⟨1002, 0, none⟩))), (6, (Value.int .i64 x1))] [(1000, (AObj.cells [(Value.int .i64 x2), (Value.int .i64 x3), (Value.int .i64 x4), (Value.int .i64 x5), (Value.int .i64 x6), (Value.int .i64 x7), (Value.slice (some ⟨500, 0, none⟩) n8 c9), (Value.int .i64 x10), (Value.int .i64 x11), (Value.int .i64 x12), (Value.int .i64 x13)] 26 false 1)), (1001, (AObj.cells [(Value.int .i64 x14), (Value.int .i64 x15)] 23 false 2)), (1002, (AObj.cells [(Value.int .i64 x16), (Value.int .i64 x17)] 23 false 2)), (500, (AObj.sym l18 false 5))] B X (dataK k)
theorem rls1_text (C : Ct) (L : AtLoop) (x0 : Int) (x1 : Int) (x2 : Int) (x3 : Int) (x4 : Int) (x5 : Int) (x6 : Int) (x7 : Int) (n8 : Nat) (c9 : Nat) (x10 : Int) (x11 : Int) (x12 : Int) (x13 : Int) (x14 : Int) (x15 : Int) (x16 : Int) (x17 : Int) (l18 : List Go.Value) (B : Bx) (X : Xx) (k : List D → Prop) : rls1 C L x0 x1 x2 x3 x4 x5 x6 x7 n8 c9 x10 x11 x12 x13 x14 x15 x16 x17 l18 B X k =
 (bcase (decide (x1 ≤ x0))
 (bcase (decide (0 ≤ x1))
 (bcase (decide (x1 < (↑n8 : Int)))
 (∃ n1 : Int,
 ((At (l18) (Addr.off { block := 500, off := 0 + Int.toNat x1 * 5 } + 3) 1 [(vI n1)]) ∧
 (bcase (decide (0 ≤ x1))
 (bcase (decide (x1 < (↑n8 : Int)))
 (∃ n2 : Int,
 ((At (l18) (Addr.off (Addr.add { block := 500, off := 0 + Int.toNat x1 * 5 } 3) + 1) 1 [(vI n2)]) ∧
 (((Qv (Value.agg [(vI (IntKind.wrap .i64 (x16 + n1))), (vI (IntKind.wrap .i64 (x17 + n2)))].toArray)) ∧
 ((Qv (vI (IntKind.wrap .i64 (x17 + n2)))) ∧
 ((∃ n3 : Int,
 ((At (l18) (Addr.off (Addr.add { block := 500, off := 0 + Int.toNat x1 * 5 } 3) + 1) 1 [(vI n3)]) ∧
 ((vI n3) = (vI n2)))) ∧
 (((Value.pointer (some (Addr.mk 500 (Addr.off { block := 500, off := Addr.off { block := 500, off := 0 + Int.toNat x1 * 5 } + 3 } + 1) none))) = (Value.pointer (some (Addr.mk 500 (Addr.off (Addr.add { block := 500, off := 0 + Int.toNat x1 * 5 } 3) + 1) none)))) ∧
 ((Qv (Value.pointer (some (Addr.mk 500 (Addr.off { block := 500, off := 0 + Int.toNat x1 * 5 } + 3) none)))) ∧
 ((bcase (decide (0 ≤ x1))
 (bcase (decide (x1 < (↑n8 : Int)))
 (Qv (Pt 500 (0 + Int.toNat x1 * 5)))
 False)
 False) ∧
 ((Qv (vI x1)) ∧
 ((Qv (Sl 500 (n8) (c9))) ∧
 ((Qv (Pt 1000 6)) ∧
 ((Qv (vI x17)) ∧
 ((Qv (Pt 1002 1)) ∧
 ((Qv (vI (IntKind.wrap .i64 (x16 + n1)))) ∧
 ((∃ n3 : Int,
 ((At (l18) (Addr.off { block := 500, off := 0 + Int.toNat x1 * 5 } + 3) 1 [(vI n3)]) ∧
 ((vI n3) = (vI n1)))) ∧
 ((Qv (Value.pointer (some (Addr.mk 500 (Addr.off { block := 500, off := 0 + Int.toNat x1 * 5 } + 3) none)))) ∧
 ((Qv (Value.pointer (some (Addr.mk 500 (Addr.off { block := 500, off := 0 + Int.toNat x1 * 5 } + 3) none)))) ∧
 ((bcase (decide (0 ≤ x1))
 (bcase (decide (x1 < (↑n8 : Int)))
 (Qv (Pt 500 (0 + Int.toNat x1 * 5)))
 False)
 False) ∧
 ((Qv (vI x1)) ∧
 ((Qv (Sl 500 (n8) (c9))) ∧
 ((Qv (Pt 1000 6)) ∧
 ((Qv (vI x16)) ∧
 ((Qv (Pt 1002 0)) ∧
 True))))))))))))))))))))) ∧
 (True ∧
 (B [(Prod.mk 1 (vI x0)), (Prod.mk 2 (Pt 1000 0)), (Prod.mk 4 (Pt 1001 0)), (Prod.mk 5 (Pt 1002 0)), (Prod.mk 6 (vI (IntKind.wrap .i64 (x1 + 1))))] [(Prod.mk 1000 (AObj.cells [(vI x2), (vI x3), (vI x4), (vI x5), (vI x6), (vI x7), (Sl 500 (n8) (c9)), (vI x10), (vI x11), (vI x12), (vI x13)] 26 false 1)), (Prod.mk 1001 (AObj.cells [(vI x14), (vI x15)] 23 false 2)), (Prod.mk 1002 (AObj.cells [(vI (IntKind.wrap .i64 (x16 + n1))), (vI (IntKind.wrap .i64 (x17 + n2)))] 23 false 2)), (Prod.mk 500 (AObj.sym (l18) false 5))])))))
 False)
 False)))
 False)
 False)
 (X 0 [(Prod.mk 4 (Pt 1000 0)), (Prod.mk 5 (Pt 1001 0))] [(Prod.mk 1000 (AObj.cells [(vI x14), (vI x15)] 23 false 2)), (Prod.mk 1001 (AObj.cells [(vI x16), (vI x17)] 23 false 2))])) := by kernel_rfl
def nls2 (C : Ct) (L : AtLoop) (x0 : Int) (x1 : Int) (x2 : Int) (x3 : Int) (k : List D → Prop) : Prop := wpNext Tryz.prog (hP C) L 73 0 .normal [(4, (Value.pointer (some ⟨1000, 0, none⟩))), (5, (Value.pointer (some ⟨1001, 0, none⟩)))] [(1000, (AObj.cells [(Value.int .i64 x0), (Value.int .i64 x1)] 23 false 2)), (1001, (AObj.cells [(Value.int .i64 x2), (Value.int .i64 x3)] 23 false 2))] (dataK k)
theorem nls2_text (C : Ct) (L : AtLoop) (x0 : Int) (x1 : Int) (x2 : Int) (x3 : Int) (k : List D → Prop) : nls2 C L x0 x1 x2 x3 k =
 (k [(D.agg [(D.val (vI x2)), (D.val (vI x3))])]) := by kernel_rfl
def gSS (C : Ct) (L : AtLoop) (n0 : Nat) (c0 : Nat) (l0 : List Value) (n1 : Nat) (c1 : Nat) (l1 : List Value) (k : List D → Prop) : Prop := wpFn Tryz.prog (hP C) L 0 27 #[.slice (some ⟨500, 0, none⟩) n0 c0, .slice (some ⟨501, 0, none⟩) n1 c1] (heapOf [(500, .sym l0 false 4), (501, .sym l1 false 4)]) (dataK k)
theorem gSS_text (C : Ct) (L : AtLoop) (n0 : Nat) (c0 : Nat) (l0 : List Go.Value) (n1 : Nat) (c1 : Nat) (l1 : List Go.Value) (k : List D → Prop) : gSS C L n0 c0 l0 n1 c1 l1 k =
 (bcase ((↑n0 : Int) != (↑n1 : Int))
 (k [(D.val (Value.bool false))])
 (L 0 [(Prod.mk 0 (Sl 500 (n0) (c0))), (Prod.mk 1 (Sl 501 (n1) (c1))), (Prod.mk 5 (vI 0))] [(Prod.mk 500 (AObj.sym (l0) false 4)), (Prod.mk 501 (AObj.sym (l1) false 4))])) := by kernel_rfl
abbrev zSS1 (n0 : Nat) (c1 : Nat) (n2 : Nat) (c3 : Nat) (x4 : Int) (l5 : List Value) (l6 : List Value) : Slots × Blocks := ([(0, (Value.slice (some ⟨500, 0, none⟩) n0 c1)), (1, (Value.slice (some ⟨501, 0, none⟩) n2 c3)), (5, (Value.int .i64 x4))], [(500, (AObj.sym l5 false 4)), (501, (AObj.sym l6 false 4))])
def rSS1 (C : Ct) (L : AtLoop) (n0 : Nat) (c1 : Nat) (n2 : Nat) (c3 : Nat) (x4 : Int) (l5 : List Value) (l6 : List Value) (B : Bx) (X : Xx) (k : List D → Prop) : Prop := wpRound Tryz.prog (hP C) L 27 0 [(0, (Value.slice (some ⟨500, 0, none⟩) n0 c1)), (1, (Value.slice (some ⟨501, 0, none⟩) n2 c3)), (5, (Value.int .i64 x4))] [(500, (AObj.sym l5 false 4)), (501, (AObj.sym l6 false 4))] B X (dataK k)
theorem rSS1_text (C : Ct) (L : AtLoop) (n0 : Nat) (c1 : Nat) (n2 : Nat) (c3 : Nat) (x4 : Int) (l5 : List Go.Value) (l6 : List Go.Value) (B : Bx) (X : Xx) (k : List D → Prop) : rSS1 C L n0 c1 n2 c3 x4 l5 l6 B X k =
 (bcase (decide (x4 < (↑n0 : Int)))
 (bcase (decide (0 ≤ x4))
 (bcase (decide (x4 < (↑n0 : Int)))
 (∃ n1 : Int,
 (∃ n3 : Int,
 (∃ n4 : Int,
 (∃ n5 : Int,
 ((At (l5) (0 + Int.toNat x4 * 4) 4 [(vI n1), (vI n3), (vI n4), (vI n5)]) ∧
 (bcase (decide (0 ≤ x4))
 (bcase (decide (x4 < (↑n2 : Int)))
 (∃ n6 : Int,
 (∃ n7 : Int,
 (∃ n8 : Int,
 (∃ n9 : Int,
 ((At (l6) (0 + Int.toNat x4 * 4) 4 [(vI n6), (vI n7), (vI n8), (vI n9)]) ∧
 (bcase (if Bool.true = Bool.true then !(n1 == n6 && (n3 == n7 && Bool.true) && (n4 == n8 && (n5 == n9 && Bool.true) && Bool.true)) else n1 == n6 && (n3 == n7 && Bool.true) && (n4 == n8 && (n5 == n9 && Bool.true) && Bool.true))
 (((bcase (if Bool.true = Bool.true then !(n1 == n6 && (n3 == n7 && Bool.true) && (n4 == n8 && (n5 == n9 && Bool.true) && Bool.true)) else n1 == n6 && (n3 == n7 && Bool.true) && (n4 == n8 && (n5 == n9 && Bool.true) && Bool.true))
 (Qv (Value.bool true))
 ((Value.bool false) = (Value.bool true))) ∧
 ((∃ n10 : Int,
 (∃ n11 : Int,
 (∃ n12 : Int,
 (∃ n13 : Int,
 ((At (l6) (0 + Int.toNat x4 * 4) 4 [(vI n10), (vI n11), (vI n12), (vI n13)]) ∧
 ((Value.agg [(vI n10), (vI n11), (vI n12), (vI n13)].toArray) = (Value.agg [(vI n6), (vI n7), (vI n8), (vI n9)].toArray))))))) ∧
 ((bcase (decide (0 ≤ x4))
 (bcase (decide (x4 < (↑n2 : Int)))
 (Qv (Pt 501 (0 + Int.toNat x4 * 4)))
 False)
 False) ∧
 ((Qv (vI x4)) ∧
 ((Qv (Sl 501 (n2) (c3))) ∧
 ((∃ n10 : Int,
 (∃ n11 : Int,
 (∃ n12 : Int,
 (∃ n13 : Int,
 ((At (l5) (0 + Int.toNat x4 * 4) 4 [(vI n10), (vI n11), (vI n12), (vI n13)]) ∧
 ((Value.agg [(vI n10), (vI n11), (vI n12), (vI n13)].toArray) = (Value.agg [(vI n1), (vI n3), (vI n4), (vI n5)].toArray))))))) ∧
 ((bcase (decide (0 ≤ x4))
 (bcase (decide (x4 < (↑n0 : Int)))
 (Qv (Pt 500 (0 + Int.toNat x4 * 4)))
 False)
 False) ∧
 ((Qv (vI x4)) ∧
 ((Qv (Sl 500 (n0) (c1))) ∧
 True))))))))) ∧
 (k [(D.val (Value.bool false))]))
 (((bcase (if Bool.true = Bool.true then !(n1 == n6 && (n3 == n7 && Bool.true) && (n4 == n8 && (n5 == n9 && Bool.true) && Bool.true)) else n1 == n6 && (n3 == n7 && Bool.true) && (n4 == n8 && (n5 == n9 && Bool.true) && Bool.true))
 ((Value.bool true) = (Value.bool false))
 (Qv (Value.bool false))) ∧
 ((∃ n10 : Int,
 (∃ n11 : Int,
 (∃ n12 : Int,
 (∃ n13 : Int,
 ((At (l6) (0 + Int.toNat x4 * 4) 4 [(vI n10), (vI n11), (vI n12), (vI n13)]) ∧
 ((Value.agg [(vI n10), (vI n11), (vI n12), (vI n13)].toArray) = (Value.agg [(vI n6), (vI n7), (vI n8), (vI n9)].toArray))))))) ∧
 ((bcase (decide (0 ≤ x4))
 (bcase (decide (x4 < (↑n2 : Int)))
 (Qv (Pt 501 (0 + Int.toNat x4 * 4)))
 False)
 False) ∧
 ((Qv (vI x4)) ∧
 ((Qv (Sl 501 (n2) (c3))) ∧
 ((∃ n10 : Int,
 (∃ n11 : Int,
 (∃ n12 : Int,
 (∃ n13 : Int,
 ((At (l5) (0 + Int.toNat x4 * 4) 4 [(vI n10), (vI n11), (vI n12), (vI n13)]) ∧
 ((Value.agg [(vI n10), (vI n11), (vI n12), (vI n13)].toArray) = (Value.agg [(vI n1), (vI n3), (vI n4), (vI n5)].toArray))))))) ∧
 ((bcase (decide (0 ≤ x4))
 (bcase (decide (x4 < (↑n0 : Int)))
 (Qv (Pt 500 (0 + Int.toNat x4 * 4)))
 False)
 False) ∧
 ((Qv (vI x4)) ∧
 ((Qv (Sl 500 (n0) (c1))) ∧
 True))))))))) ∧
 (B [(Prod.mk 0 (Sl 500 (n0) (c1))), (Prod.mk 1 (Sl 501 (n2) (c3))), (Prod.mk 5 (vI (IntKind.wrap .i64 (x4 + 1))))] [(Prod.mk 500 (AObj.sym (l5) false 4)), (Prod.mk 501 (AObj.sym (l6) false 4))]))))))))
 False)
 False))))))
 False)
 False)
 (X 0 [] [])) := by kernel_rfl
def nSS2 (C : Ct) (L : AtLoop) (k : List D → Prop) : Prop := wpNext Tryz.prog (hP C) L 27 0 .normal [] [] (dataK k)
theorem nSS2_text (C : Ct) (L : AtLoop) (k : List D → Prop) : nSS2 C L k =
 (k [(D.val (Value.bool true))]) := by kernel_rfl
def gRg (C : Ct) (L : AtLoop) (n0 : Nat) (c0 : Nat) (l0 : List Value) (n1 : Nat) (c1 : Nat) (l1 : List Value) (k : List D → Prop) : Prop := wpFn Tryz.prog (hP C) L 0 24 #[.slice (some ⟨500, 0, none⟩) n0 c0, .slice (some ⟨501, 0, none⟩) n1 c1] (heapOf [(500, .sym l0 false 2), (501, .sym l1 false 2)]) (dataK k)
theorem gRg_text (C : Ct) (L : AtLoop) (n0 : Nat) (c0 : Nat) (l0 : List Go.Value) (n1 : Nat) (c1 : Nat) (l1 : List Go.Value) (k : List D → Prop) : gRg C L n0 c0 l0 n1 c1 l1 k =
 (bcase ((↑n0 : Int) != (↑n1 : Int))
 (k [(D.val (Value.bool false))])
 (L 0 [(Prod.mk 0 (Sl 500 (n0) (c0))), (Prod.mk 1 (Sl 501 (n1) (c1))), (Prod.mk 5 (vI 0))] [(Prod.mk 500 (AObj.sym (l0) false 2)), (Prod.mk 501 (AObj.sym (l1) false 2))])) := by kernel_rfl
abbrev zRg1 (n0 : Nat) (c1 : Nat) (n2 : Nat) (c3 : Nat) (x4 : Int) (l5 : List Value) (l6 : List Value) : Slots × Blocks := ([(0, (Value.slice (some ⟨500, 0, none⟩) n0 c1)), (1, (Value.slice (some ⟨501, 0, none⟩) n2 c3)), (5, (Value.int .i64 x4))], [(500, (AObj.sym l5 false 2)), (501, (AObj.sym l6 false 2))])
def rRg1 (C : Ct) (L : AtLoop) (n0 : Nat) (c1 : Nat) (n2 : Nat) (c3 : Nat) (x4 : Int) (l5 : List Value) (l6 : List Value) (B : Bx) (X : Xx) (k : List D → Prop) : Prop := wpRound Tryz.prog (hP C) L 24 0 [(0, (Value.slice (some ⟨500, 0, none⟩) n0 c1)), (1, (Value.slice (some ⟨501, 0, none⟩) n2 c3)), (5, (Value.int .i64 x4))] [(500, (AObj.sym l5 false 2)), (501, (AObj.sym l6 false 2))] B X (dataK k)
theorem rRg1_text (C : Ct) (L : AtLoop) (n0 : Nat) (c1 : Nat) (n2 : Nat) (c3 : Nat) (x4 : Int) (l5 : List Go.Value) (l6 : List Go.Value) (B : Bx) (X : Xx) (k : List D → Prop) : rRg1 C L n0 c1 n2 c3 x4 l5 l6 B X k =
 (bcase (decide (x4 < (↑n0 : Int)))
 (bcase (decide (0 ≤ x4))
 (bcase (decide (x4 < (↑n0 : Int)))
 (∃ n1 : Int,
 (∃ n3 : Int,
 ((At (l5) (0 + Int.toNat x4 * 2) 2 [(vI n1), (vI n3)]) ∧
 (bcase (decide (0 ≤ x4))
 (bcase (decide (x4 < (↑n2 : Int)))
 (∃ n4 : Int,
 (∃ n5 : Int,
 ((At (l6) (0 + Int.toNat x4 * 2) 2 [(vI n4), (vI n5)]) ∧
 (bcase (if Bool.true = Bool.true then !(n1 == n4 && (n3 == n5 && Bool.true)) else n1 == n4 && (n3 == n5 && Bool.true))
 (((bcase (if Bool.true = Bool.true then !(n1 == n4 && (n3 == n5 && Bool.true)) else n1 == n4 && (n3 == n5 && Bool.true))
 (Qv (Value.bool true))
 ((Value.bool false) = (Value.bool true))) ∧
 ((∃ n6 : Int,
 (∃ n7 : Int,
 ((At (l6) (0 + Int.toNat x4 * 2) 2 [(vI n6), (vI n7)]) ∧
 ((Value.agg [(vI n6), (vI n7)].toArray) = (Value.agg [(vI n4), (vI n5)].toArray))))) ∧
 ((bcase (decide (0 ≤ x4))
 (bcase (decide (x4 < (↑n2 : Int)))
 (Qv (Pt 501 (0 + Int.toNat x4 * 2)))
 False)
 False) ∧
 ((Qv (vI x4)) ∧
 ((Qv (Sl 501 (n2) (c3))) ∧
 ((∃ n6 : Int,
 (∃ n7 : Int,
 ((At (l5) (0 + Int.toNat x4 * 2) 2 [(vI n6), (vI n7)]) ∧
 ((Value.agg [(vI n6), (vI n7)].toArray) = (Value.agg [(vI n1), (vI n3)].toArray))))) ∧
 ((bcase (decide (0 ≤ x4))
 (bcase (decide (x4 < (↑n0 : Int)))
 (Qv (Pt 500 (0 + Int.toNat x4 * 2)))
 False)
 False) ∧
 ((Qv (vI x4)) ∧
 ((Qv (Sl 500 (n0) (c1))) ∧
 True))))))))) ∧
 (k [(D.val (Value.bool false))]))
 (((bcase (if Bool.true = Bool.true then !(n1 == n4 && (n3 == n5 && Bool.true)) else n1 == n4 && (n3 == n5 && Bool.true))
 ((Value.bool true) = (Value.bool false))
 (Qv (Value.bool false))) ∧
 ((∃ n6 : Int,
 (∃ n7 : Int,
 ((At (l6) (0 + Int.toNat x4 * 2) 2 [(vI n6), (vI n7)]) ∧
 ((Value.agg [(vI n6), (vI n7)].toArray) = (Value.agg [(vI n4), (vI n5)].toArray))))) ∧
 ((bcase (decide (0 ≤ x4))
 (bcase (decide (x4 < (↑n2 : Int)))
 (Qv (Pt 501 (0 + Int.toNat x4 * 2)))
 False)
 False) ∧
 ((Qv (vI x4)) ∧
 ((Qv (Sl 501 (n2) (c3))) ∧
 ((∃ n6 : Int,
 (∃ n7 : Int,
 ((At (l5) (0 + Int.toNat x4 * 2) 2 [(vI n6), (vI n7)]) ∧
 ((Value.agg [(vI n6), (vI n7)].toArray) = (Value.agg [(vI n1), (vI n3)].toArray))))) ∧
 ((bcase (decide (0 ≤ x4))
 (bcase (decide (x4 < (↑n0 : Int)))
 (Qv (Pt 500 (0 + Int.toNat x4 * 2)))
 False)
 False) ∧
 ((Qv (vI x4)) ∧
 ((Qv (Sl 500 (n0) (c1))) ∧
 True))))))))) ∧
 (B [(Prod.mk 0 (Sl 500 (n0) (c1))), (Prod.mk 1 (Sl 501 (n2) (c3))), (Prod.mk 5 (vI (IntKind.wrap .i64 (x4 + 1))))] [(Prod.mk 500 (AObj.sym (l5) false 2)), (Prod.mk 501 (AObj.sym (l6) false 2))]))))))
 False)
 False))))
 False)
 False)
 (X 0 [] [])) := by kernel_rfl
def nRg2 (C : Ct) (L : AtLoop) (k : List D → Prop) : Prop := wpNext Tryz.prog (hP C) L 24 0 .normal [] [] (dataK k)
theorem nRg2_text (C : Ct) (L : AtLoop) (k : List D → Prop) : nRg2 C L k =
 (k [(D.val (Value.bool true))]) := by kernel_rfl
end Go.Proofs.G5o
