/- What is left to show of each function, written out; the kernel reckons it. -/
import Derived.Test.YtccecnmimkfcpaaGreatDoorP4
namespace Go.Proofs.G5t
open Go Go.Abs Go.Proofs
set_option maxRecDepth 100000
set_option linter.unusedVariables false
def preC (C : Ct) : FuncId → Option Handler := fun g => if [4, 21, 59, 22, 28, 35, 62, 30, 31, 33, 61, 60, 34, 9, 5, 6, 8, 10, 7, 29, 32].contains g then some (saidH Tryz.prog C) else none
abbrev hC (C : Ct) : Handler := handlerX Tryz.prog (preC C) 12 6
def gWI (C : Ct) (L : AtLoop) (x0 : Int) (x1 : Int) (n2 : Nat) (c2 : Nat) (l2 : List Value) (k : List D → Prop) : Prop := wpFn Tryz.prog (hC C) L 0 34 #[.int .i64 x0, .int .i64 x1, .slice (some ⟨500, 0, none⟩) n2 c2] (heapOf [(500, .sym l2 false 1)]) (dataK k)
theorem gWI_text (C : Ct) (L : AtLoop) (x0 : Int) (x1 : Int) (n2 : Nat) (c2 : Nat) (l2 : List Go.Value) (k : List D → Prop) : gWI C L x0 x1 n2 c2 l2 k =
 (L 0 [(Prod.mk 0 (vI x0)), (Prod.mk 1 (vI x1)), (Prod.mk 9 (Go.Value.slice (Option.some (Go.Addr.mk 500 0 Option.none)) (n2) (c2))), (Prod.mk 10 (vI ((↑n2 : Int)))), (Prod.mk 11 (vI (0 : Int)))] [(Prod.mk 500 (AObj.sym (l2) false 1))]) := by kernel_rfl
abbrev zWI1 (x0 : Int) (x1 : Int) (n2 : Nat) (c3 : Nat) (x4 : Int) (x5 : Int) (l6 : List Value) : Slots × Blocks := ([(0, (Value.int .i64 x0)), (1, (Value.int .i64 x1)), (9, (Value.slice (some ⟨500, 0, none⟩) n2 c3)), (10, (Value.int .i64 x4)), (11, (Value.int .i64 x5))], [(500, (AObj.sym l6 false 1))])
def rWI1 (C : Ct) (L : AtLoop) (x0 : Int) (x1 : Int) (n2 : Nat) (c3 : Nat) (x4 : Int) (x5 : Int) (l6 : List Value) (B : Bx) (X : Xx) (k : List D → Prop) : Prop := wpRound Tryz.prog (hC C) L 34 0 [(0, (Value.int .i64 x0)), (1, (Value.int .i64 x1)), (9, (Value.slice (some ⟨500, 0, none⟩) n2 c3)), (10, (Value.int .i64 x4)), (11, (Value.int .i64 x5))] [(500, (AObj.sym l6 false 1))] B X (dataK k)
theorem rWI1_text (C : Ct) (L : AtLoop) (x0 : Int) (x1 : Int) (n2 : Nat) (c3 : Nat) (x4 : Int) (x5 : Int) (l6 : List Go.Value) (B : Bx) (X : Xx) (k : List D → Prop) : rWI1 C L x0 x1 n2 c3 x4 x5 l6 B X k =
 (bcase (decide (x5 < x4))
 (bcase (decide (0 ≤ x5))
 (bcase (decide (x5 < (↑n2 : Int)))
 (∃ n1 : Int,
 ((At (l6) (0 + Int.toNat x5 * 1) 1 [(vI n1)]) ∧
 (bcase (decide (n1 < x0))
 (k [(D.val (Value.bool false))])
 (bcase (decide (n1 > x1))
 (k [(D.val (Value.bool false))])
 (B [(Prod.mk 0 (vI x0)), (Prod.mk 1 (vI x1)), (Prod.mk 9 (Go.Value.slice (Option.some (Go.Addr.mk 500 0 Option.none)) (n2) (c3))), (Prod.mk 10 (vI x4)), (Prod.mk 11 (vI (IntKind.wrap .i64 (x5 + 1))))] [(Prod.mk 500 (AObj.sym (l6) false 1))])))))
 False)
 False)
 (X 0 [] [])) := by kernel_rfl
def nWI2 (C : Ct) (L : AtLoop) (k : List D → Prop) : Prop := wpNext Tryz.prog (hC C) L 34 0 .normal [] [] (dataK k)
theorem nWI2_text (C : Ct) (L : AtLoop) (k : List D → Prop) : nWI2 C L k =
 (k [(D.val (Value.bool true))]) := by kernel_rfl
def gIN (C : Ct) (L : AtLoop) (s0 : ByteArray) (k : List D → Prop) : Prop := wpFn Tryz.prog (hC C) L 0 61 #[.string s0] (heapOf []) (dataK k)
theorem gIN_text (C : Ct) (L : AtLoop) (s0 : ByteArray) (k : List D → Prop) : gIN C L s0 k =
 (bcase ((↑(ByteArray.size s0) : Int) == 0)
 (k [(D.val (Value.bool false))])
 (bcase (decide ((↑(ByteArray.size s0) : Int) > 6))
 (k [(D.val (Value.bool false))])
 (bcase (decide ((↑(ByteArray.size s0) : Int) > 1))
 (∃ b1 : UInt8,
 ((ByteAt (s0) 0 (b1)) ∧
 (bcase ((↑(UInt8.toNat b1) : Int) == 48)
 (k [(D.val (Value.bool false))])
 (L 0 [(Prod.mk 0 (Go.Value.string (s0))), (Prod.mk 23 (vI ((↑(ByteArray.size s0) : Int)))), (Prod.mk 24 (vI (0 : Int)))] []))))
 (L 0 [(Prod.mk 0 (Go.Value.string (s0))), (Prod.mk 23 (vI ((↑(ByteArray.size s0) : Int)))), (Prod.mk 24 (vI (0 : Int)))] [])))) := by kernel_rfl
abbrev zIN1 (s0 : ByteArray) (x1 : Int) (x2 : Int) : Slots × Blocks := ([(0, (Value.string s0)), (23, (Value.int .i64 x1)), (24, (Value.int .i64 x2))], [])
def rIN1 (C : Ct) (L : AtLoop) (s0 : ByteArray) (x1 : Int) (x2 : Int) (B : Bx) (X : Xx) (k : List D → Prop) : Prop := wpRound Tryz.prog (hC C) L 61 0 [(0, (Value.string s0)), (23, (Value.int .i64 x1)), (24, (Value.int .i64 x2))] [] B X (dataK k)
theorem rIN1_text (C : Ct) (L : AtLoop) (s0 : ByteArray) (x1 : Int) (x2 : Int) (B : Bx) (X : Xx) (k : List D → Prop) : rIN1 C L s0 x1 x2 B X k =
 (bcase (decide (x2 < x1))
 (bcase (decide (0 ≤ x2))
 (∃ b1 : UInt8,
 ((ByteAt (s0) (Int.toNat x2) (b1)) ∧
 (bcase (decide (48 ≤ (↑(UInt8.toNat b1) : Int)))
 (bcase (decide ((↑(UInt8.toNat b1) : Int) ≤ 57))
 (B [(Prod.mk 0 (Go.Value.string (s0))), (Prod.mk 23 (vI x1)), (Prod.mk 24 (vI (IntKind.wrap .i64 (x2 + 1))))] [])
 (k [(D.val (Value.bool false))]))
 (k [(D.val (Value.bool false))]))))
 False)
 (X 0 [] [])) := by kernel_rfl
def nIN2 (C : Ct) (L : AtLoop) (k : List D → Prop) : Prop := wpNext Tryz.prog (hC C) L 61 0 .normal [] [] (dataK k)
theorem nIN2_text (C : Ct) (L : AtLoop) (k : List D → Prop) : nIN2 C L k =
 (k [(D.val (Value.bool true))]) := by kernel_rfl
def gNO (C : Ct) (L : AtLoop) (s0 : ByteArray) (k : List D → Prop) : Prop := wpFn Tryz.prog (hC C) L 0 60 #[.string s0] (heapOf []) (dataK k)
theorem gNO_text (C : Ct) (L : AtLoop) (s0 : ByteArray) (k : List D → Prop) : gNO C L s0 k =
 (L 0 [(Prod.mk 0 (Go.Value.string (s0))), (Prod.mk 3 (vI (0 : Int))), (Prod.mk 6 (vI ((↑(ByteArray.size s0) : Int)))), (Prod.mk 7 (vI (0 : Int)))] []) := by kernel_rfl
abbrev zNO1 (s0 : ByteArray) (x1 : Int) (x2 : Int) (x3 : Int) : Slots × Blocks := ([(0, (Value.string s0)), (3, (Value.int .i64 x1)), (6, (Value.int .i64 x2)), (7, (Value.int .i64 x3))], [])
def rNO1 (C : Ct) (L : AtLoop) (s0 : ByteArray) (x1 : Int) (x2 : Int) (x3 : Int) (B : Bx) (X : Xx) (k : List D → Prop) : Prop := wpRound Tryz.prog (hC C) L 60 0 [(0, (Value.string s0)), (3, (Value.int .i64 x1)), (6, (Value.int .i64 x2)), (7, (Value.int .i64 x3))] [] B X (dataK k)
theorem rNO1_text (C : Ct) (L : AtLoop) (s0 : ByteArray) (x1 : Int) (x2 : Int) (x3 : Int) (B : Bx) (X : Xx) (k : List D → Prop) : rNO1 C L s0 x1 x2 x3 B X k =
 (bcase (decide (x3 < x2))
 (bcase (decide (0 ≤ x3))
 (∃ b1 : UInt8,
 ((ByteAt (s0) (Int.toNat x3) (b1)) ∧
 (B [(Prod.mk 0 (Go.Value.string (s0))), (Prod.mk 3 (vI (IntKind.wrap .i64 (IntKind.wrap .i64 (10 * x1) + IntKind.wrap .i64 (Go.IntKind.wrap Go.IntKind.u8 ((↑(UInt8.toNat b1) : Int) - 48)))))), (Prod.mk 6 (vI x2)), (Prod.mk 7 (vI (IntKind.wrap .i64 (x3 + 1))))] [])))
 False)
 (X 0 [(Prod.mk 3 (vI x1))] [])) := by kernel_rfl
def nNO2 (C : Ct) (L : AtLoop) (x0 : Int) (k : List D → Prop) : Prop := wpNext Tryz.prog (hC C) L 60 0 .normal [(3, (Value.int .i64 x0))] [] (dataK k)
theorem nNO2_text (C : Ct) (L : AtLoop) (x0 : Int) (k : List D → Prop) : nNO2 C L x0 k =
 (k [(D.val (vI x0))]) := by kernel_rfl
def gIA (C : Ct) (L : AtLoop) (s0 : ByteArray) (k : List D → Prop) : Prop := wpFn Tryz.prog (hC C) L 0 33 #[.string s0] (heapOf []) (dataK k)
theorem gIA_text (C : Ct) (L : AtLoop) (s0 : ByteArray) (k : List D → Prop) : gIA C L s0 k =
 (bcase ((↑(ByteArray.size s0) : Int) == 0)
 (k [(D.val (Value.bool false))])
 (bcase (decide ((↑(ByteArray.size s0) : Int) > 12))
 (k [(D.val (Value.bool false))])
 (∃ b1 : UInt8,
 ((ByteAt (s0) 0 (b1)) ∧
 (bcase (decide (97 ≤ (↑(UInt8.toNat b1) : Int)))
 (bcase (decide ((↑(UInt8.toNat b1) : Int) ≤ 122))
 (L 0 [(Prod.mk 0 (Go.Value.string (s0))), (Prod.mk 19 (vI ((↑(ByteArray.size s0) : Int)))), (Prod.mk 20 (vI (0 : Int)))] [])
 (bcase (decide (65 ≤ (↑(UInt8.toNat b1) : Int)))
 (bcase (decide ((↑(UInt8.toNat b1) : Int) ≤ 90))
 (L 0 [(Prod.mk 0 (Go.Value.string (s0))), (Prod.mk 19 (vI ((↑(ByteArray.size s0) : Int)))), (Prod.mk 20 (vI (0 : Int)))] [])
 (k [(D.val (Value.bool false))]))
 (k [(D.val (Value.bool false))])))
 (bcase (decide (65 ≤ (↑(UInt8.toNat b1) : Int)))
 (bcase (decide ((↑(UInt8.toNat b1) : Int) ≤ 90))
 (L 0 [(Prod.mk 0 (Go.Value.string (s0))), (Prod.mk 19 (vI ((↑(ByteArray.size s0) : Int)))), (Prod.mk 20 (vI (0 : Int)))] [])
 (k [(D.val (Value.bool false))]))
 (k [(D.val (Value.bool false))]))))))) := by kernel_rfl
abbrev zIA1 (s0 : ByteArray) (x1 : Int) (x2 : Int) : Slots × Blocks := ([(0, (Value.string s0)), (19, (Value.int .i64 x1)), (20, (Value.int .i64 x2))], [])
def rIA1 (C : Ct) (L : AtLoop) (s0 : ByteArray) (x1 : Int) (x2 : Int) (B : Bx) (X : Xx) (k : List D → Prop) : Prop := wpRound Tryz.prog (hC C) L 33 0 [(0, (Value.string s0)), (19, (Value.int .i64 x1)), (20, (Value.int .i64 x2))] [] B X (dataK k)
theorem rIA1_text (C : Ct) (L : AtLoop) (s0 : ByteArray) (x1 : Int) (x2 : Int) (B : Bx) (X : Xx) (k : List D → Prop) : rIA1 C L s0 x1 x2 B X k =
 (bcase (decide (x2 < x1))
 (bcase (decide (0 ≤ x2))
 (∃ b1 : UInt8,
 ((ByteAt (s0) (Int.toNat x2) (b1)) ∧
 (bcase (decide (97 ≤ (↑(UInt8.toNat b1) : Int)))
 (bcase (decide ((↑(UInt8.toNat b1) : Int) ≤ 122))
 (B [(Prod.mk 0 (Go.Value.string (s0))), (Prod.mk 19 (vI x1)), (Prod.mk 20 (vI (IntKind.wrap .i64 (x2 + 1))))] [])
 (bcase (decide (65 ≤ (↑(UInt8.toNat b1) : Int)))
 (bcase (decide ((↑(UInt8.toNat b1) : Int) ≤ 90))
 (B [(Prod.mk 0 (Go.Value.string (s0))), (Prod.mk 19 (vI x1)), (Prod.mk 20 (vI (IntKind.wrap .i64 (x2 + 1))))] [])
 (bcase (decide (0 ≤ x2))
 (∃ b2 : UInt8,
 ((ByteAt (s0) (Int.toNat x2) (b2)) ∧
 (bcase (decide (48 ≤ (↑(UInt8.toNat b2) : Int)))
 (bcase (decide ((↑(UInt8.toNat b2) : Int) ≤ 57))
 (B [(Prod.mk 0 (Go.Value.string (s0))), (Prod.mk 19 (vI x1)), (Prod.mk 20 (vI (IntKind.wrap .i64 (x2 + 1))))] [])
 (bcase (decide (0 ≤ x2))
 (∃ b3 : UInt8,
 ((ByteAt (s0) (Int.toNat x2) (b3)) ∧
 (bcase ((↑(UInt8.toNat b3) : Int) != 45)
 (k [(D.val (Value.bool false))])
 (B [(Prod.mk 0 (Go.Value.string (s0))), (Prod.mk 19 (vI x1)), (Prod.mk 20 (vI (IntKind.wrap .i64 (x2 + 1))))] []))))
 False))
 (bcase (decide (0 ≤ x2))
 (∃ b3 : UInt8,
 ((ByteAt (s0) (Int.toNat x2) (b3)) ∧
 (bcase ((↑(UInt8.toNat b3) : Int) != 45)
 (k [(D.val (Value.bool false))])
 (B [(Prod.mk 0 (Go.Value.string (s0))), (Prod.mk 19 (vI x1)), (Prod.mk 20 (vI (IntKind.wrap .i64 (x2 + 1))))] []))))
 False))))
 False))
 (bcase (decide (0 ≤ x2))
 (∃ b2 : UInt8,
 ((ByteAt (s0) (Int.toNat x2) (b2)) ∧
 (bcase (decide (48 ≤ (↑(UInt8.toNat b2) : Int)))
 (bcase (decide ((↑(UInt8.toNat b2) : Int) ≤ 57))
 (B [(Prod.mk 0 (Go.Value.string (s0))), (Prod.mk 19 (vI x1)), (Prod.mk 20 (vI (IntKind.wrap .i64 (x2 + 1))))] [])
 (bcase (decide (0 ≤ x2))
 (∃ b3 : UInt8,
 ((ByteAt (s0) (Int.toNat x2) (b3)) ∧
 (bcase ((↑(UInt8.toNat b3) : Int) != 45)
 (k [(D.val (Value.bool false))])
 (B [(Prod.mk 0 (Go.Value.string (s0))), (Prod.mk 19 (vI x1)), (Prod.mk 20 (vI (IntKind.wrap .i64 (x2 + 1))))] []))))
 False))
 (bcase (decide (0 ≤ x2))
 (∃ b3 : UInt8,
 ((ByteAt (s0) (Int.toNat x2) (b3)) ∧
 (bcase ((↑(UInt8.toNat b3) : Int) != 45)
 (k [(D.val (Value.bool false))])
 (B [(Prod.mk 0 (Go.Value.string (s0))), (Prod.mk 19 (vI x1)), (Prod.mk 20 (vI (IntKind.wrap .i64 (x2 + 1))))] []))))
 False))))
 False)))
 (bcase (decide (65 ≤ (↑(UInt8.toNat b1) : Int)))
 (bcase (decide ((↑(UInt8.toNat b1) : Int) ≤ 90))
 (B [(Prod.mk 0 (Go.Value.string (s0))), (Prod.mk 19 (vI x1)), (Prod.mk 20 (vI (IntKind.wrap .i64 (x2 + 1))))] [])
 (bcase (decide (0 ≤ x2))
 (∃ b2 : UInt8,
 ((ByteAt (s0) (Int.toNat x2) (b2)) ∧
 (bcase (decide (48 ≤ (↑(UInt8.toNat b2) : Int)))
 (bcase (decide ((↑(UInt8.toNat b2) : Int) ≤ 57))
 (B [(Prod.mk 0 (Go.Value.string (s0))), (Prod.mk 19 (vI x1)), (Prod.mk 20 (vI (IntKind.wrap .i64 (x2 + 1))))] [])
 (bcase (decide (0 ≤ x2))
 (∃ b3 : UInt8,
 ((ByteAt (s0) (Int.toNat x2) (b3)) ∧
 (bcase ((↑(UInt8.toNat b3) : Int) != 45)
 (k [(D.val (Value.bool false))])
 (B [(Prod.mk 0 (Go.Value.string (s0))), (Prod.mk 19 (vI x1)), (Prod.mk 20 (vI (IntKind.wrap .i64 (x2 + 1))))] []))))
 False))
 (bcase (decide (0 ≤ x2))
 (∃ b3 : UInt8,
 ((ByteAt (s0) (Int.toNat x2) (b3)) ∧
 (bcase ((↑(UInt8.toNat b3) : Int) != 45)
 (k [(D.val (Value.bool false))])
 (B [(Prod.mk 0 (Go.Value.string (s0))), (Prod.mk 19 (vI x1)), (Prod.mk 20 (vI (IntKind.wrap .i64 (x2 + 1))))] []))))
 False))))
 False))
 (bcase (decide (0 ≤ x2))
 (∃ b2 : UInt8,
 ((ByteAt (s0) (Int.toNat x2) (b2)) ∧
 (bcase (decide (48 ≤ (↑(UInt8.toNat b2) : Int)))
 (bcase (decide ((↑(UInt8.toNat b2) : Int) ≤ 57))
 (B [(Prod.mk 0 (Go.Value.string (s0))), (Prod.mk 19 (vI x1)), (Prod.mk 20 (vI (IntKind.wrap .i64 (x2 + 1))))] [])
 (bcase (decide (0 ≤ x2))
 (∃ b3 : UInt8,
 ((ByteAt (s0) (Int.toNat x2) (b3)) ∧
 (bcase ((↑(UInt8.toNat b3) : Int) != 45)
 (k [(D.val (Value.bool false))])
 (B [(Prod.mk 0 (Go.Value.string (s0))), (Prod.mk 19 (vI x1)), (Prod.mk 20 (vI (IntKind.wrap .i64 (x2 + 1))))] []))))
 False))
 (bcase (decide (0 ≤ x2))
 (∃ b3 : UInt8,
 ((ByteAt (s0) (Int.toNat x2) (b3)) ∧
 (bcase ((↑(UInt8.toNat b3) : Int) != 45)
 (k [(D.val (Value.bool false))])
 (B [(Prod.mk 0 (Go.Value.string (s0))), (Prod.mk 19 (vI x1)), (Prod.mk 20 (vI (IntKind.wrap .i64 (x2 + 1))))] []))))
 False))))
 False)))))
 False)
 (X 0 [] [])) := by kernel_rfl
def nIA2 (C : Ct) (L : AtLoop) (k : List D → Prop) : Prop := wpNext Tryz.prog (hC C) L 33 0 .normal [] [] (dataK k)
theorem nIA2_text (C : Ct) (L : AtLoop) (k : List D → Prop) : nIA2 C L k =
 (k [(D.val (Value.bool true))]) := by kernel_rfl
def gBN (C : Ct) (L : AtLoop) (s0 : ByteArray) (k : List D → Prop) : Prop := wpFn Tryz.prog (hC C) L 0 30 #[.string s0] (heapOf []) (dataK k)
theorem gBN_text (C : Ct) (L : AtLoop) (s0 : ByteArray) (k : List D → Prop) : gBN C L s0 k =
 (bcase (decide ((↑(ByteArray.size s0) : Int) < 1))
 (k [(D.val (Value.bool false))])
 (bcase (decide ((↑(ByteArray.size s0) : Int) > 12))
 (k [(D.val (Value.bool false))])
 (L 0 [(Prod.mk 0 (Go.Value.string (s0))), (Prod.mk 3 (vI (0 : Int)))] []))) := by kernel_rfl
abbrev zBN1 (s0 : ByteArray) (x1 : Int) : Slots × Blocks := ([(0, (Value.string s0)), (3, (Value.int .i64 x1))], [])
def rBN1 (C : Ct) (L : AtLoop) (s0 : ByteArray) (x1 : Int) (B : Bx) (X : Xx) (k : List D → Prop) : Prop := wpRound Tryz.prog (hC C) L 30 0 [(0, (Value.string s0)), (3, (Value.int .i64 x1))] [] B X (dataK k)
theorem rBN1_text (C : Ct) (L : AtLoop) (s0 : ByteArray) (x1 : Int) (B : Bx) (X : Xx) (k : List D → Prop) : rBN1 C L s0 x1 B X k =
 (bcase (decide (x1 < (↑(ByteArray.size s0) : Int)))
 (bcase (decide (0 ≤ x1))
 (∃ b1 : UInt8,
 ((ByteAt (s0) (Int.toNat x1) (b1)) ∧
 (bcase (decide ((↑(UInt8.toNat b1) : Int) ≥ 97))
 (bcase (decide ((↑(UInt8.toNat b1) : Int) ≤ 122))
 (B [(Prod.mk 0 (Go.Value.string (s0))), (Prod.mk 3 (vI (IntKind.wrap .i64 (x1 + 1))))] [])
 (bcase (decide ((↑(UInt8.toNat b1) : Int) ≥ 65))
 (bcase (decide ((↑(UInt8.toNat b1) : Int) ≤ 90))
 (B [(Prod.mk 0 (Go.Value.string (s0))), (Prod.mk 3 (vI (IntKind.wrap .i64 (x1 + 1))))] [])
 (bcase (x1 == 0)
 (k [(D.val (Value.bool false))])
 (bcase ((↑(UInt8.toNat b1) : Int) != 45)
 (bcase (decide ((↑(UInt8.toNat b1) : Int) < 48))
 (k [(D.val (Value.bool false))])
 (bcase (decide ((↑(UInt8.toNat b1) : Int) > 57))
 (k [(D.val (Value.bool false))])
 (B [(Prod.mk 0 (Go.Value.string (s0))), (Prod.mk 3 (vI (IntKind.wrap .i64 (x1 + 1))))] [])))
 (B [(Prod.mk 0 (Go.Value.string (s0))), (Prod.mk 3 (vI (IntKind.wrap .i64 (x1 + 1))))] []))))
 (bcase (x1 == 0)
 (k [(D.val (Value.bool false))])
 (bcase ((↑(UInt8.toNat b1) : Int) != 45)
 (bcase (decide ((↑(UInt8.toNat b1) : Int) < 48))
 (k [(D.val (Value.bool false))])
 (bcase (decide ((↑(UInt8.toNat b1) : Int) > 57))
 (k [(D.val (Value.bool false))])
 (B [(Prod.mk 0 (Go.Value.string (s0))), (Prod.mk 3 (vI (IntKind.wrap .i64 (x1 + 1))))] [])))
 (B [(Prod.mk 0 (Go.Value.string (s0))), (Prod.mk 3 (vI (IntKind.wrap .i64 (x1 + 1))))] [])))))
 (bcase (decide ((↑(UInt8.toNat b1) : Int) ≥ 65))
 (bcase (decide ((↑(UInt8.toNat b1) : Int) ≤ 90))
 (B [(Prod.mk 0 (Go.Value.string (s0))), (Prod.mk 3 (vI (IntKind.wrap .i64 (x1 + 1))))] [])
 (bcase (x1 == 0)
 (k [(D.val (Value.bool false))])
 (bcase ((↑(UInt8.toNat b1) : Int) != 45)
 (bcase (decide ((↑(UInt8.toNat b1) : Int) < 48))
 (k [(D.val (Value.bool false))])
 (bcase (decide ((↑(UInt8.toNat b1) : Int) > 57))
 (k [(D.val (Value.bool false))])
 (B [(Prod.mk 0 (Go.Value.string (s0))), (Prod.mk 3 (vI (IntKind.wrap .i64 (x1 + 1))))] [])))
 (B [(Prod.mk 0 (Go.Value.string (s0))), (Prod.mk 3 (vI (IntKind.wrap .i64 (x1 + 1))))] []))))
 (bcase (x1 == 0)
 (k [(D.val (Value.bool false))])
 (bcase ((↑(UInt8.toNat b1) : Int) != 45)
 (bcase (decide ((↑(UInt8.toNat b1) : Int) < 48))
 (k [(D.val (Value.bool false))])
 (bcase (decide ((↑(UInt8.toNat b1) : Int) > 57))
 (k [(D.val (Value.bool false))])
 (B [(Prod.mk 0 (Go.Value.string (s0))), (Prod.mk 3 (vI (IntKind.wrap .i64 (x1 + 1))))] [])))
 (B [(Prod.mk 0 (Go.Value.string (s0))), (Prod.mk 3 (vI (IntKind.wrap .i64 (x1 + 1))))] [])))))))
 False)
 (X 0 [] [])) := by kernel_rfl
def nBN2 (C : Ct) (L : AtLoop) (k : List D → Prop) : Prop := wpNext Tryz.prog (hC C) L 30 0 .normal [] [] (dataK k)
theorem nBN2_text (C : Ct) (L : AtLoop) (k : List D → Prop) : nBN2 C L k =
 (k [(D.val (Value.bool true))]) := by kernel_rfl
def gIW (C : Ct) (L : AtLoop) (x0 : Int) (k : List D → Prop) : Prop := wpFn Tryz.prog (hC C) L 0 32 #[.int .i64 x0] (heapOf []) (dataK k)
theorem gIW_text (C : Ct) (L : AtLoop) (x0 : Int) (k : List D → Prop) : gIW C L x0 k =
 (((Says C 31 [(D.val (vI x0)), (D.val (vI (500 : Int))), (D.val (vI (2500 : Int)))] [(D.val (Value.bool true))]) ∧
 (k [(D.val (Value.bool true))])) ∨
 ((Says C 31 [(D.val (vI x0)), (D.val (vI (500 : Int))), (D.val (vI (2500 : Int)))] [(D.val (Value.bool false))]) ∧
 (k [(D.val (Value.bool false))]))) := by kernel_rfl
def gPN (C : Ct) (L : AtLoop) (s0 : ByteArray) (k : List D → Prop) : Prop := wpFn Tryz.prog (hC C) L 0 29 #[.string s0] (heapOf []) (dataK k)
theorem gPN_text (C : Ct) (L : AtLoop) (s0 : ByteArray) (k : List D → Prop) : gPN C L s0 k =
 (∃ n1 : Int,
 (((Says C 62 [(D.val (Go.Value.string (s0))), (D.val (vI (6 : Int)))] [(D.val (vI n1)), (D.val (Value.bool true))]) ∧
 (bcase (decide (n1 ≥ 0))
 (k [(D.val (vI n1)), (D.val (Value.bool true))])
 (k [(D.val (vI n1)), (D.val (Value.bool false))]))) ∨
 ((Says C 62 [(D.val (Go.Value.string (s0))), (D.val (vI (6 : Int)))] [(D.val (vI n1)), (D.val (Value.bool false))]) ∧
 (k [(D.val (vI n1)), (D.val (Value.bool false))])))) := by kernel_rfl
def gCS (C : Ct) (L : AtLoop) (s0 : ByteArray) (x1 : Int) (x2 : Int) (x3 : Int) (x4 : Int) (k : List D → Prop) : Prop := wpFn Tryz.prog (hC C) L 0 9 #[.agg #[.string s0, .int .i64 x1, .int .i64 x2, .int .i64 x3, .int .i64 x4]] (heapOf []) (dataK k)
theorem gCS_text (C : Ct) (L : AtLoop) (s0 : ByteArray) (x1 : Int) (x2 : Int) (x3 : Int) (x4 : Int) (k : List D → Prop) : gCS C L s0 x1 x2 x3 x4 k =
 (((Says C 33 [(D.val (Go.Value.string (s0)))] [(D.val (Value.bool true))]) ∧
 (((Says C 34 [(D.val (vI (1 : Int))), (D.val (vI (99 : Int))), (D.sl 1 1 [(vI x1)])] [(D.val (Value.bool true))]) ∧
 (((Says C 34 [(D.val (vI (1 : Int))), (D.val (vI (300000 : Int))), (D.sl 1 1 [(vI x2)])] [(D.val (Value.bool true))]) ∧
 (((Says C 34 [(D.val (vI (500 : Int))), (D.val (vI (2500 : Int))), (D.sl 1 1 [(vI x3)])] [(D.val (Value.bool true))]) ∧
 (((Says C 34 [(D.val (vI (1 : Int))), (D.val (vI (20000 : Int))), (D.sl 1 1 [(vI x4)])] [(D.val (Value.bool true))]) ∧
 (k [(D.val (vI (0 : Int)))])) ∨
 ((Says C 34 [(D.val (vI (1 : Int))), (D.val (vI (20000 : Int))), (D.sl 1 1 [(vI x4)])] [(D.val (Value.bool false))]) ∧
 (k [(D.val (vI (2 : Int)))])))) ∨
 ((Says C 34 [(D.val (vI (500 : Int))), (D.val (vI (2500 : Int))), (D.sl 1 1 [(vI x3)])] [(D.val (Value.bool false))]) ∧
 (k [(D.val (vI (2 : Int)))])))) ∨
 ((Says C 34 [(D.val (vI (1 : Int))), (D.val (vI (300000 : Int))), (D.sl 1 1 [(vI x2)])] [(D.val (Value.bool false))]) ∧
 (k [(D.val (vI (2 : Int)))])))) ∨
 ((Says C 34 [(D.val (vI (1 : Int))), (D.val (vI (99 : Int))), (D.sl 1 1 [(vI x1)])] [(D.val (Value.bool false))]) ∧
 (k [(D.val (vI (2 : Int)))])))) ∨
 ((Says C 33 [(D.val (Go.Value.string (s0)))] [(D.val (Value.bool false))]) ∧
 (k [(D.val (vI (4 : Int)))]))) := by kernel_rfl
def gSE (C : Ct) (L : AtLoop) (s0 : ByteArray) (x1 : Int) (x2 : Int) (x3 : Int) (x4 : Int) (k : List D → Prop) : Prop := wpFn Tryz.prog (hC C) L 0 8 #[.agg #[.string s0, .int .i64 x1, .int .i64 x2, .int .i64 x3, .int .i64 x4]] (heapOf []) (dataK k)
theorem gSE_text (C : Ct) (L : AtLoop) (s0 : ByteArray) (x1 : Int) (x2 : Int) (x3 : Int) (x4 : Int) (k : List D → Prop) : gSE C L s0 x1 x2 x3 x4 k =
 (((Says C 30 [(D.val (Go.Value.string (s0)))] [(D.val (Value.bool true))]) ∧
 (((Says C 31 [(D.val (vI x1)), (D.val (vI (1 : Int))), (D.val (vI (99 : Int)))] [(D.val (Value.bool true))]) ∧
 (((Says C 31 [(D.val (vI x2)), (D.val (vI (1 : Int))), (D.val (vI (300000 : Int)))] [(D.val (Value.bool true))]) ∧
 (((Says C 32 [(D.val (vI x3))] [(D.val (Value.bool true))]) ∧
 (((Says C 31 [(D.val (vI x4)), (D.val (vI (1 : Int))), (D.val (vI (20000 : Int)))] [(D.val (Value.bool true))]) ∧
 (k [(D.val (vI (0 : Int)))])) ∨
 ((Says C 31 [(D.val (vI x4)), (D.val (vI (1 : Int))), (D.val (vI (20000 : Int)))] [(D.val (Value.bool false))]) ∧
 (k [(D.val (vI (2 : Int)))])))) ∨
 ((Says C 32 [(D.val (vI x3))] [(D.val (Value.bool false))]) ∧
 (k [(D.val (vI (2 : Int)))])))) ∨
 ((Says C 31 [(D.val (vI x2)), (D.val (vI (1 : Int))), (D.val (vI (300000 : Int)))] [(D.val (Value.bool false))]) ∧
 (k [(D.val (vI (2 : Int)))])))) ∨
 ((Says C 31 [(D.val (vI x1)), (D.val (vI (1 : Int))), (D.val (vI (99 : Int)))] [(D.val (Value.bool false))]) ∧
 (k [(D.val (vI (2 : Int)))])))) ∨
 ((Says C 30 [(D.val (Go.Value.string (s0)))] [(D.val (Value.bool false))]) ∧
 (k [(D.val (vI (4 : Int)))]))) := by kernel_rfl
def gFS (C : Ct) (s0 : ByteArray) (x1 : Int) (x2 : Int) (x3 : Int) (x4 : Int) (k : List D → Prop) : Prop := wpFn Tryz.prog (hC C) (fun _ _ _ => False) 8 5 #[.agg #[.string s0, .int .i64 x1, .int .i64 x2, .int .i64 x3, .int .i64 x4]] (heapOf []) (dataK k)
theorem gFS_text (C : Ct) (s0 : ByteArray) (x1 : Int) (x2 : Int) (x3 : Int) (x4 : Int) (k : List D → Prop) : gFS C s0 x1 x2 x3 x4 k =
 (∃ s1 : ByteArray,
 ((Says C 21 [(D.val (vI x1))] [(D.val (Go.Value.string (s1)))]) ∧
 (∃ s2 : ByteArray,
 ((Says C 21 [(D.val (vI x2))] [(D.val (Go.Value.string (s2)))]) ∧
 (∃ s3 : ByteArray,
 ((Says C 21 [(D.val (vI x3))] [(D.val (Go.Value.string (s3)))]) ∧
 (∃ s4 : ByteArray,
 ((Says C 21 [(D.val (vI x4))] [(D.val (Go.Value.string (s4)))]) ∧
 (∃ s5 : ByteArray,
 ((Says C 22 [(D.sl 5 1 [(Go.Value.string (s0)), (Go.Value.string (s1)), (Go.Value.string (s2)), (Go.Value.string (s3)), (Go.Value.string (s4))]), (D.val (Go.Value.string ({ data := #[32] })))] [(D.val (Go.Value.string (s5)))]) ∧
 (k [(D.val (Go.Value.string (s5)))]))))))))))) := by kernel_rfl
def gRF (C : Ct) (L : AtLoop) (s0 : ByteArray) (x1 : Int) (x2 : Int) (x3 : Int) (x4 : Int) (k : List D → Prop) : Prop := wpFn Tryz.prog (hC C) L 0 10 #[.agg #[.string s0, .int .i64 x1, .int .i64 x2, .int .i64 x3, .int .i64 x4]] (heapOf []) (dataK k)
theorem gRF_text (C : Ct) (L : AtLoop) (s0 : ByteArray) (x1 : Int) (x2 : Int) (x3 : Int) (x4 : Int) (k : List D → Prop) : gRF C L s0 x1 x2 x3 x4 k =
 (bcase (decide (ByteArray.size s0 + 1 ≤ 9223372036854775807))
 ((((vI x4) = (vI x4)) ∧
 (((Go.Value.pointer (Option.some (Go.Addr.mk 1000 4 Option.none))) = (Go.Value.pointer (Option.some (Go.Addr.mk 1000 4 Option.none)))) ∧
 (((vI x3) = (vI x3)) ∧
 (((Go.Value.pointer (Option.some (Go.Addr.mk 1000 3 Option.none))) = (Go.Value.pointer (Option.some (Go.Addr.mk 1000 3 Option.none)))) ∧
 (((vI x2) = (vI x2)) ∧
 (((Go.Value.pointer (Option.some (Go.Addr.mk 1000 2 Option.none))) = (Go.Value.pointer (Option.some (Go.Addr.mk 1000 2 Option.none)))) ∧
 (((vI x1) = (vI x1)) ∧
 (((Go.Value.pointer (Option.some (Go.Addr.mk 1000 1 Option.none))) = (Go.Value.pointer (Option.some (Go.Addr.mk 1000 1 Option.none)))) ∧
 ((bcase (decide (ByteArray.size s0 + 1 ≤ 9223372036854775807))
 ((Go.Value.string (s0 ++ { data := #[32] })) = (Go.Value.string (s0 ++ { data := #[32] })))
 False) ∧
 (((Go.Value.string (s0)) = (Go.Value.string (s0))) ∧
 (((Go.Value.pointer (Option.some (Go.Addr.mk 1000 0 Option.none))) = (Go.Value.pointer (Option.some (Go.Addr.mk 1000 0 Option.none)))) ∧
 True))))))))))) ∧
 (∃ s1 : ByteArray,
 ((Says C 35 [(D.val (vI x1))] [(D.val (Go.Value.string (s1)))]) ∧
 (bcase (decide (ByteArray.size (s0 ++ { data := #[32] }) + ByteArray.size s1 ≤ 9223372036854775807))
 (bcase (decide (ByteArray.size (s0 ++ { data := #[32] } ++ s1) + 1 ≤ 9223372036854775807))
 (((bcase (decide (ByteArray.size (s0 ++ { data := #[32] } ++ s1) + 1 ≤ 9223372036854775807))
 ((Go.Value.string (s0 ++ { data := #[32] } ++ s1 ++ { data := #[32] })) = (Go.Value.string (s0 ++ { data := #[32] } ++ s1 ++ { data := #[32] })))
 False) ∧
 ((bcase (decide (ByteArray.size (s0 ++ { data := #[32] }) + ByteArray.size s1 ≤ 9223372036854775807))
 ((Go.Value.string (s0 ++ { data := #[32] } ++ s1)) = (Go.Value.string (s0 ++ { data := #[32] } ++ s1)))
 False) ∧
 (((vI x4) = (vI x4)) ∧
 (((Go.Value.pointer (Option.some (Go.Addr.mk 1000 4 Option.none))) = (Go.Value.pointer (Option.some (Go.Addr.mk 1000 4 Option.none)))) ∧
 (((vI x3) = (vI x3)) ∧
 (((Go.Value.pointer (Option.some (Go.Addr.mk 1000 3 Option.none))) = (Go.Value.pointer (Option.some (Go.Addr.mk 1000 3 Option.none)))) ∧
 (((vI x2) = (vI x2)) ∧
 (((Go.Value.pointer (Option.some (Go.Addr.mk 1000 2 Option.none))) = (Go.Value.pointer (Option.some (Go.Addr.mk 1000 2 Option.none)))) ∧
 (((Go.Value.pointer (Option.some (Go.Addr.mk 1000 1 Option.none))) = (Go.Value.pointer (Option.some (Go.Addr.mk 1000 1 Option.none)))) ∧
 ((bcase (decide (ByteArray.size s0 + 1 ≤ 9223372036854775807))
 ((Go.Value.string (s0 ++ { data := #[32] })) = (Go.Value.string (s0 ++ { data := #[32] })))
 False) ∧
 (((Go.Value.string (s0)) = (Go.Value.string (s0))) ∧
 (((Go.Value.pointer (Option.some (Go.Addr.mk 1000 0 Option.none))) = (Go.Value.pointer (Option.some (Go.Addr.mk 1000 0 Option.none)))) ∧
 True)))))))))))) ∧
 (∃ s2 : ByteArray,
 ((Says C 35 [(D.val (vI x2))] [(D.val (Go.Value.string (s2)))]) ∧
 (bcase (decide (ByteArray.size (s0 ++ { data := #[32] } ++ s1 ++ { data := #[32] }) + ByteArray.size s2 ≤ 9223372036854775807))
 (bcase (decide (ByteArray.size (s0 ++ { data := #[32] } ++ s1 ++ { data := #[32] } ++ s2) + 1 ≤ 9223372036854775807))
 (((bcase (decide (ByteArray.size (s0 ++ { data := #[32] } ++ s1 ++ { data := #[32] } ++ s2) + 1 ≤ 9223372036854775807))
 ((Go.Value.string (s0 ++ { data := #[32] } ++ s1 ++ { data := #[32] } ++ s2 ++ { data := #[32] })) = (Go.Value.string (s0 ++ { data := #[32] } ++ s1 ++ { data := #[32] } ++ s2 ++ { data := #[32] })))
 False) ∧
 ((bcase (decide (ByteArray.size (s0 ++ { data := #[32] } ++ s1 ++ { data := #[32] }) + ByteArray.size s2 ≤ 9223372036854775807))
 ((Go.Value.string (s0 ++ { data := #[32] } ++ s1 ++ { data := #[32] } ++ s2)) = (Go.Value.string (s0 ++ { data := #[32] } ++ s1 ++ { data := #[32] } ++ s2)))
 False) ∧
 ((bcase (decide (ByteArray.size (s0 ++ { data := #[32] } ++ s1) + 1 ≤ 9223372036854775807))
 ((Go.Value.string (s0 ++ { data := #[32] } ++ s1 ++ { data := #[32] })) = (Go.Value.string (s0 ++ { data := #[32] } ++ s1 ++ { data := #[32] })))
 False) ∧
 ((bcase (decide (ByteArray.size (s0 ++ { data := #[32] }) + ByteArray.size s1 ≤ 9223372036854775807))
 ((Go.Value.string (s0 ++ { data := #[32] } ++ s1)) = (Go.Value.string (s0 ++ { data := #[32] } ++ s1)))
 False) ∧
 (((vI x4) = (vI x4)) ∧
 (((Go.Value.pointer (Option.some (Go.Addr.mk 1000 4 Option.none))) = (Go.Value.pointer (Option.some (Go.Addr.mk 1000 4 Option.none)))) ∧
 (((vI x3) = (vI x3)) ∧
 (((Go.Value.pointer (Option.some (Go.Addr.mk 1000 3 Option.none))) = (Go.Value.pointer (Option.some (Go.Addr.mk 1000 3 Option.none)))) ∧
 (((Go.Value.pointer (Option.some (Go.Addr.mk 1000 2 Option.none))) = (Go.Value.pointer (Option.some (Go.Addr.mk 1000 2 Option.none)))) ∧
 (((Go.Value.pointer (Option.some (Go.Addr.mk 1000 1 Option.none))) = (Go.Value.pointer (Option.some (Go.Addr.mk 1000 1 Option.none)))) ∧
 ((bcase (decide (ByteArray.size s0 + 1 ≤ 9223372036854775807))
 ((Go.Value.string (s0 ++ { data := #[32] })) = (Go.Value.string (s0 ++ { data := #[32] })))
 False) ∧
 (((Go.Value.string (s0)) = (Go.Value.string (s0))) ∧
 (((Go.Value.pointer (Option.some (Go.Addr.mk 1000 0 Option.none))) = (Go.Value.pointer (Option.some (Go.Addr.mk 1000 0 Option.none)))) ∧
 True))))))))))))) ∧
 (∃ s3 : ByteArray,
 ((Says C 35 [(D.val (vI x3))] [(D.val (Go.Value.string (s3)))]) ∧
 (bcase (decide (ByteArray.size (s0 ++ { data := #[32] } ++ s1 ++ { data := #[32] } ++ s2 ++ { data := #[32] }) + ByteArray.size s3 ≤ 9223372036854775807))
 (bcase (decide (ByteArray.size (s0 ++ { data := #[32] } ++ s1 ++ { data := #[32] } ++ s2 ++ { data := #[32] } ++ s3) + 1 ≤ 9223372036854775807))
 (((bcase (decide (ByteArray.size (s0 ++ { data := #[32] } ++ s1 ++ { data := #[32] } ++ s2 ++ { data := #[32] } ++ s3) + 1 ≤ 9223372036854775807))
 ((Go.Value.string (s0 ++ { data := #[32] } ++ s1 ++ { data := #[32] } ++ s2 ++ { data := #[32] } ++ s3 ++ { data := #[32] })) = (Go.Value.string (s0 ++ { data := #[32] } ++ s1 ++ { data := #[32] } ++ s2 ++ { data := #[32] } ++ s3 ++ { data := #[32] })))
 False) ∧
 ((bcase (decide (ByteArray.size (s0 ++ { data := #[32] } ++ s1 ++ { data := #[32] } ++ s2 ++ { data := #[32] }) + ByteArray.size s3 ≤ 9223372036854775807))
 ((Go.Value.string (s0 ++ { data := #[32] } ++ s1 ++ { data := #[32] } ++ s2 ++ { data := #[32] } ++ s3)) = (Go.Value.string (s0 ++ { data := #[32] } ++ s1 ++ { data := #[32] } ++ s2 ++ { data := #[32] } ++ s3)))
 False) ∧
 ((bcase (decide (ByteArray.size (s0 ++ { data := #[32] } ++ s1 ++ { data := #[32] } ++ s2) + 1 ≤ 9223372036854775807))
 ((Go.Value.string (s0 ++ { data := #[32] } ++ s1 ++ { data := #[32] } ++ s2 ++ { data := #[32] })) = (Go.Value.string (s0 ++ { data := #[32] } ++ s1 ++ { data := #[32] } ++ s2 ++ { data := #[32] })))
 False) ∧
 ((bcase (decide (ByteArray.size (s0 ++ { data := #[32] } ++ s1 ++ { data := #[32] }) + ByteArray.size s2 ≤ 9223372036854775807))
 ((Go.Value.string (s0 ++ { data := #[32] } ++ s1 ++ { data := #[32] } ++ s2)) = (Go.Value.string (s0 ++ { data := #[32] } ++ s1 ++ { data := #[32] } ++ s2)))
 False) ∧
 ((bcase (decide (ByteArray.size (s0 ++ { data := #[32] } ++ s1) + 1 ≤ 9223372036854775807))
 ((Go.Value.string (s0 ++ { data := #[32] } ++ s1 ++ { data := #[32] })) = (Go.Value.string (s0 ++ { data := #[32] } ++ s1 ++ { data := #[32] })))
 False) ∧
 ((bcase (decide (ByteArray.size (s0 ++ { data := #[32] }) + ByteArray.size s1 ≤ 9223372036854775807))
 ((Go.Value.string (s0 ++ { data := #[32] } ++ s1)) = (Go.Value.string (s0 ++ { data := #[32] } ++ s1)))
 False) ∧
 (((vI x4) = (vI x4)) ∧
 (((Go.Value.pointer (Option.some (Go.Addr.mk 1000 4 Option.none))) = (Go.Value.pointer (Option.some (Go.Addr.mk 1000 4 Option.none)))) ∧
 (((Go.Value.pointer (Option.some (Go.Addr.mk 1000 3 Option.none))) = (Go.Value.pointer (Option.some (Go.Addr.mk 1000 3 Option.none)))) ∧
 (((Go.Value.pointer (Option.some (Go.Addr.mk 1000 2 Option.none))) = (Go.Value.pointer (Option.some (Go.Addr.mk 1000 2 Option.none)))) ∧
 (((Go.Value.pointer (Option.some (Go.Addr.mk 1000 1 Option.none))) = (Go.Value.pointer (Option.some (Go.Addr.mk 1000 1 Option.none)))) ∧
 ((bcase (decide (ByteArray.size s0 + 1 ≤ 9223372036854775807))
 ((Go.Value.string (s0 ++ { data := #[32] })) = (Go.Value.string (s0 ++ { data := #[32] })))
 False) ∧
 (((Go.Value.string (s0)) = (Go.Value.string (s0))) ∧
 (((Go.Value.pointer (Option.some (Go.Addr.mk 1000 0 Option.none))) = (Go.Value.pointer (Option.some (Go.Addr.mk 1000 0 Option.none)))) ∧
 True)))))))))))))) ∧
 (∃ s4 : ByteArray,
 ((Says C 35 [(D.val (vI x4))] [(D.val (Go.Value.string (s4)))]) ∧
 (bcase (decide (ByteArray.size (s0 ++ { data := #[32] } ++ s1 ++ { data := #[32] } ++ s2 ++ { data := #[32] } ++ s3 ++ { data := #[32] }) + ByteArray.size s4 ≤ 9223372036854775807))
 (((bcase (decide (ByteArray.size (s0 ++ { data := #[32] } ++ s1 ++ { data := #[32] } ++ s2 ++ { data := #[32] } ++ s3 ++ { data := #[32] }) + ByteArray.size s4 ≤ 9223372036854775807))
 ((Go.Value.string (s0 ++ { data := #[32] } ++ s1 ++ { data := #[32] } ++ s2 ++ { data := #[32] } ++ s3 ++ { data := #[32] } ++ s4)) = (Go.Value.string (s0 ++ { data := #[32] } ++ s1 ++ { data := #[32] } ++ s2 ++ { data := #[32] } ++ s3 ++ { data := #[32] } ++ s4)))
 False) ∧
 ((bcase (decide (ByteArray.size (s0 ++ { data := #[32] } ++ s1 ++ { data := #[32] } ++ s2 ++ { data := #[32] } ++ s3) + 1 ≤ 9223372036854775807))
 ((Go.Value.string (s0 ++ { data := #[32] } ++ s1 ++ { data := #[32] } ++ s2 ++ { data := #[32] } ++ s3 ++ { data := #[32] })) = (Go.Value.string (s0 ++ { data := #[32] } ++ s1 ++ { data := #[32] } ++ s2 ++ { data := #[32] } ++ s3 ++ { data := #[32] })))
 False) ∧
 ((bcase (decide (ByteArray.size (s0 ++ { data := #[32] } ++ s1 ++ { data := #[32] } ++ s2 ++ { data := #[32] }) + ByteArray.size s3 ≤ 9223372036854775807))
 ((Go.Value.string (s0 ++ { data := #[32] } ++ s1 ++ { data := #[32] } ++ s2 ++ { data := #[32] } ++ s3)) = (Go.Value.string (s0 ++ { data := #[32] } ++ s1 ++ { data := #[32] } ++ s2 ++ { data := #[32] } ++ s3)))
 False) ∧
 ((bcase (decide (ByteArray.size (s0 ++ { data := #[32] } ++ s1 ++ { data := #[32] } ++ s2) + 1 ≤ 9223372036854775807))
 ((Go.Value.string (s0 ++ { data := #[32] } ++ s1 ++ { data := #[32] } ++ s2 ++ { data := #[32] })) = (Go.Value.string (s0 ++ { data := #[32] } ++ s1 ++ { data := #[32] } ++ s2 ++ { data := #[32] })))
 False) ∧
 ((bcase (decide (ByteArray.size (s0 ++ { data := #[32] } ++ s1 ++ { data := #[32] }) + ByteArray.size s2 ≤ 9223372036854775807))
 ((Go.Value.string (s0 ++ { data := #[32] } ++ s1 ++ { data := #[32] } ++ s2)) = (Go.Value.string (s0 ++ { data := #[32] } ++ s1 ++ { data := #[32] } ++ s2)))
 False) ∧
 ((bcase (decide (ByteArray.size (s0 ++ { data := #[32] } ++ s1) + 1 ≤ 9223372036854775807))
 ((Go.Value.string (s0 ++ { data := #[32] } ++ s1 ++ { data := #[32] })) = (Go.Value.string (s0 ++ { data := #[32] } ++ s1 ++ { data := #[32] })))
 False) ∧
 ((bcase (decide (ByteArray.size (s0 ++ { data := #[32] }) + ByteArray.size s1 ≤ 9223372036854775807))
 ((Go.Value.string (s0 ++ { data := #[32] } ++ s1)) = (Go.Value.string (s0 ++ { data := #[32] } ++ s1)))
 False) ∧
 (((Go.Value.pointer (Option.some (Go.Addr.mk 1000 4 Option.none))) = (Go.Value.pointer (Option.some (Go.Addr.mk 1000 4 Option.none)))) ∧
 (((Go.Value.pointer (Option.some (Go.Addr.mk 1000 3 Option.none))) = (Go.Value.pointer (Option.some (Go.Addr.mk 1000 3 Option.none)))) ∧
 (((Go.Value.pointer (Option.some (Go.Addr.mk 1000 2 Option.none))) = (Go.Value.pointer (Option.some (Go.Addr.mk 1000 2 Option.none)))) ∧
 (((Go.Value.pointer (Option.some (Go.Addr.mk 1000 1 Option.none))) = (Go.Value.pointer (Option.some (Go.Addr.mk 1000 1 Option.none)))) ∧
 ((bcase (decide (ByteArray.size s0 + 1 ≤ 9223372036854775807))
 ((Go.Value.string (s0 ++ { data := #[32] })) = (Go.Value.string (s0 ++ { data := #[32] })))
 False) ∧
 (((Go.Value.string (s0)) = (Go.Value.string (s0))) ∧
 (((Go.Value.pointer (Option.some (Go.Addr.mk 1000 0 Option.none))) = (Go.Value.pointer (Option.some (Go.Addr.mk 1000 0 Option.none)))) ∧
 True)))))))))))))) ∧
 (True ∧
 (k [(D.val (Go.Value.string (s0 ++ { data := #[32] } ++ s1 ++ { data := #[32] } ++ s2 ++ { data := #[32] } ++ s3 ++ { data := #[32] } ++ s4)))])))
 False))))
 False)
 False))))
 False)
 False))))
 False)
 False))))
 False) := by kernel_rfl
def gPS (C : Ct) (s0 : ByteArray) (k : List D → Prop) : Prop := wpFn Tryz.prog (hC C) (fun _ _ _ => False) 8 6 #[.string s0] (heapOf []) (dataK k)
theorem gPS_text (C : Ct) (s0 : ByteArray) (k : List D → Prop) : gPS C s0 k =
 (((Says C 59 [(D.val (Go.Value.string (s0))), (D.val (Go.Value.string ({ data := #[32] })))] [D.nil]) ∧
 ((((Go.Value.pointer (Option.some (Go.Addr.mk 1001 0 Option.none))) = (Go.Value.pointer (Option.some (Go.Addr.mk 1001 0 Option.none)))) ∧
 True) ∧
 ((((Value.bool false) = (Value.bool false)) ∧
 (((Value.bool false) = (Value.bool false)) ∧
 (((vI (0 : Int)) = (vI (0 : Int))) ∧
 (((Go.Value.slice Option.none 0 0) = (Go.Value.slice Option.none 0 0)) ∧
 (((Go.Value.pointer (Option.some (Go.Addr.mk 1001 0 Option.none))) = (Go.Value.pointer (Option.some (Go.Addr.mk 1001 0 Option.none)))) ∧
 (((Go.Value.pointer (Option.some (Go.Addr.mk 1001 0 Option.none))) = (Go.Value.pointer (Option.some (Go.Addr.mk 1001 0 Option.none)))) ∧
 (((Go.Value.pointer (Option.some (Go.Addr.mk 1001 0 Option.none))) = (Go.Value.pointer (Option.some (Go.Addr.mk 1001 0 Option.none)))) ∧
 (((vI (0 : Int)) = (vI (0 : Int))) ∧
 (((Go.Value.pointer (Option.some (Go.Addr.mk 1001 1 Option.none))) = (Go.Value.pointer (Option.some (Go.Addr.mk 1001 1 Option.none)))) ∧
 (((Go.Value.pointer (Option.some (Go.Addr.mk 1001 0 Option.none))) = (Go.Value.pointer (Option.some (Go.Addr.mk 1001 0 Option.none)))) ∧
 (((Go.Value.pointer (Option.some (Go.Addr.mk 1001 0 Option.none))) = (Go.Value.pointer (Option.some (Go.Addr.mk 1001 0 Option.none)))) ∧
 (((Value.bool true) = (Value.bool true)) ∧
 (((Value.bool true) = (Value.bool true)) ∧
 (((Value.bool false) = (Value.bool false)) ∧
 (((Go.Value.pointer (Option.some (Go.Addr.mk 1001 2 Option.none))) = (Go.Value.pointer (Option.some (Go.Addr.mk 1001 2 Option.none)))) ∧
 (((Go.Value.pointer (Option.some (Go.Addr.mk 1001 0 Option.none))) = (Go.Value.pointer (Option.some (Go.Addr.mk 1001 0 Option.none)))) ∧
 (((Go.Value.pointer (Option.some (Go.Addr.mk 1001 0 Option.none))) = (Go.Value.pointer (Option.some (Go.Addr.mk 1001 0 Option.none)))) ∧
 True))))))))))))))))) ∧
 (True ∧
 ((((Go.Value.tuple [].toArray) = (Go.Value.tuple [].toArray)) ∧
 (((Go.Value.tuple [].toArray) = (Go.Value.tuple [].toArray)) ∧
 (((Go.Value.tuple [].toArray) = (Go.Value.tuple [].toArray)) ∧
 (((Go.Value.tuple [].toArray) = (Go.Value.tuple [].toArray)) ∧
 (((Go.Value.tuple [].toArray) = (Go.Value.tuple [].toArray)) ∧
 (((Go.Value.tuple [].toArray) = (Go.Value.tuple [].toArray)) ∧
 (((Go.Value.tuple [].toArray) = (Go.Value.tuple [].toArray)) ∧
 (((Go.Value.tuple [].toArray) = (Go.Value.tuple [].toArray)) ∧
 (((Go.Value.tuple [].toArray) = (Go.Value.tuple [].toArray)) ∧
 (((Go.Value.tuple [].toArray) = (Go.Value.tuple [].toArray)) ∧
 (((Go.Value.tuple [].toArray) = (Go.Value.tuple [].toArray)) ∧
 (((Value.bool true) = (Value.bool true)) ∧
 (((Value.bool true) = (Value.bool true)) ∧
 True))))))))))))) ∧
 ((((Value.bool true) = (Value.bool true)) ∧
 (((Go.Value.tuple [].toArray) = (Go.Value.tuple [].toArray)) ∧
 (((Go.Value.tuple [].toArray) = (Go.Value.tuple [].toArray)) ∧
 (((Go.Value.tuple [].toArray) = (Go.Value.tuple [].toArray)) ∧
 (((Go.Value.tuple [].toArray) = (Go.Value.tuple [].toArray)) ∧
 (((Go.Value.tuple [].toArray) = (Go.Value.tuple [].toArray)) ∧
 (((Go.Value.tuple [].toArray) = (Go.Value.tuple [].toArray)) ∧
 (((Go.Value.tuple [].toArray) = (Go.Value.tuple [].toArray)) ∧
 (((Go.Value.tuple [].toArray) = (Go.Value.tuple [].toArray)) ∧
 (((Go.Value.tuple [].toArray) = (Go.Value.tuple [].toArray)) ∧
 (((Go.Value.tuple [].toArray) = (Go.Value.tuple [].toArray)) ∧
 (((Value.bool true) = (Value.bool true)) ∧
 True)))))))))))) ∧
 ((((Go.Value.pointer (Option.some (Go.Addr.mk 1001 0 Option.none))) = (Go.Value.pointer (Option.some (Go.Addr.mk 1001 0 Option.none)))) ∧
 True) ∧
 ((((Value.bool false) = (Value.bool false)) ∧
 (((Go.Value.tuple [].toArray) = (Go.Value.tuple [].toArray)) ∧
 (((Go.Value.tuple [].toArray) = (Go.Value.tuple [].toArray)) ∧
 (((Go.Value.tuple [].toArray) = (Go.Value.tuple [].toArray)) ∧
 (((Go.Value.tuple [].toArray) = (Go.Value.tuple [].toArray)) ∧
 (((Go.Value.tuple [].toArray) = (Go.Value.tuple [].toArray)) ∧
 (((Go.Value.tuple [].toArray) = (Go.Value.tuple [].toArray)) ∧
 (((Go.Value.tuple [].toArray) = (Go.Value.tuple [].toArray)) ∧
 (((Go.Value.tuple [].toArray) = (Go.Value.tuple [].toArray)) ∧
 (((Go.Value.tuple [].toArray) = (Go.Value.tuple [].toArray)) ∧
 (((Go.Value.tuple [].toArray) = (Go.Value.tuple [].toArray)) ∧
 (((Value.bool false) = (Value.bool false)) ∧
 (((Value.bool false) = (Value.bool false)) ∧
 (((Value.bool true) = (Value.bool true)) ∧
 (((Go.Value.pointer (Option.some (Go.Addr.mk 1001 2 Option.none))) = (Go.Value.pointer (Option.some (Go.Addr.mk 1001 2 Option.none)))) ∧
 (((Go.Value.pointer (Option.some (Go.Addr.mk 1001 0 Option.none))) = (Go.Value.pointer (Option.some (Go.Addr.mk 1001 0 Option.none)))) ∧
 (((Go.Value.pointer (Option.some (Go.Addr.mk 1001 0 Option.none))) = (Go.Value.pointer (Option.some (Go.Addr.mk 1001 0 Option.none)))) ∧
 True))))))))))))))))) ∧
 (True ∧
 ((((Go.Value.tuple [].toArray) = (Go.Value.tuple [].toArray)) ∧
 (((Go.Value.tuple [].toArray) = (Go.Value.tuple [].toArray)) ∧
 (((Go.Value.tuple [].toArray) = (Go.Value.tuple [].toArray)) ∧
 (((Go.Value.tuple [].toArray) = (Go.Value.tuple [].toArray)) ∧
 (((Go.Value.tuple [].toArray) = (Go.Value.tuple [].toArray)) ∧
 (((Go.Value.tuple [].toArray) = (Go.Value.tuple [].toArray)) ∧
 (((Go.Value.tuple [].toArray) = (Go.Value.tuple [].toArray)) ∧
 (((Go.Value.tuple [].toArray) = (Go.Value.tuple [].toArray)) ∧
 (((Go.Value.tuple [].toArray) = (Go.Value.tuple [].toArray)) ∧
 (((Go.Value.tuple [].toArray) = (Go.Value.tuple [].toArray)) ∧
 (((Go.Value.tuple [].toArray) = (Go.Value.tuple [].toArray)) ∧
 (((Value.bool true) = (Value.bool true)) ∧
 (((Value.bool true) = (Value.bool true)) ∧
 True))))))))))))) ∧
 ((((Value.bool true) = (Value.bool true)) ∧
 (((Go.Value.tuple [].toArray) = (Go.Value.tuple [].toArray)) ∧
 (((Go.Value.tuple [].toArray) = (Go.Value.tuple [].toArray)) ∧
 (((Go.Value.tuple [].toArray) = (Go.Value.tuple [].toArray)) ∧
 (((Go.Value.tuple [].toArray) = (Go.Value.tuple [].toArray)) ∧
 (((Go.Value.tuple [].toArray) = (Go.Value.tuple [].toArray)) ∧
 (((Go.Value.tuple [].toArray) = (Go.Value.tuple [].toArray)) ∧
 (((Go.Value.tuple [].toArray) = (Go.Value.tuple [].toArray)) ∧
 (((Go.Value.tuple [].toArray) = (Go.Value.tuple [].toArray)) ∧
 (((Go.Value.tuple [].toArray) = (Go.Value.tuple [].toArray)) ∧
 (((Go.Value.tuple [].toArray) = (Go.Value.tuple [].toArray)) ∧
 (((Value.bool true) = (Value.bool true)) ∧
 True)))))))))))) ∧
 (∃ n1 : Int,
 ((Says C 60 [(D.val (Go.Value.string ({ data := #[] })))] [(D.val (vI n1))]) ∧
 ((((Go.Value.pointer (Option.some (Go.Addr.mk 1001 0 Option.none))) = (Go.Value.pointer (Option.some (Go.Addr.mk 1001 0 Option.none)))) ∧
 True) ∧
 ((((Value.bool false) = (Value.bool false)) ∧
 (((Go.Value.tuple [].toArray) = (Go.Value.tuple [].toArray)) ∧
 (((Go.Value.tuple [].toArray) = (Go.Value.tuple [].toArray)) ∧
 (((Go.Value.tuple [].toArray) = (Go.Value.tuple [].toArray)) ∧
 (((Go.Value.tuple [].toArray) = (Go.Value.tuple [].toArray)) ∧
 (((Go.Value.tuple [].toArray) = (Go.Value.tuple [].toArray)) ∧
 (((Go.Value.tuple [].toArray) = (Go.Value.tuple [].toArray)) ∧
 (((Go.Value.tuple [].toArray) = (Go.Value.tuple [].toArray)) ∧
 (((Go.Value.tuple [].toArray) = (Go.Value.tuple [].toArray)) ∧
 (((Go.Value.tuple [].toArray) = (Go.Value.tuple [].toArray)) ∧
 (((Go.Value.tuple [].toArray) = (Go.Value.tuple [].toArray)) ∧
 (((Value.bool false) = (Value.bool false)) ∧
 (((Value.bool false) = (Value.bool false)) ∧
 (((Value.bool true) = (Value.bool true)) ∧
 (((Go.Value.pointer (Option.some (Go.Addr.mk 1001 2 Option.none))) = (Go.Value.pointer (Option.some (Go.Addr.mk 1001 2 Option.none)))) ∧
 (((Go.Value.pointer (Option.some (Go.Addr.mk 1001 0 Option.none))) = (Go.Value.pointer (Option.some (Go.Addr.mk 1001 0 Option.none)))) ∧
 (((Go.Value.pointer (Option.some (Go.Addr.mk 1001 0 Option.none))) = (Go.Value.pointer (Option.some (Go.Addr.mk 1001 0 Option.none)))) ∧
 True))))))))))))))))) ∧
 (True ∧
 ((((Go.Value.tuple [].toArray) = (Go.Value.tuple [].toArray)) ∧
 (((Go.Value.tuple [].toArray) = (Go.Value.tuple [].toArray)) ∧
 (((Go.Value.tuple [].toArray) = (Go.Value.tuple [].toArray)) ∧
 (((Go.Value.tuple [].toArray) = (Go.Value.tuple [].toArray)) ∧
 (((Go.Value.tuple [].toArray) = (Go.Value.tuple [].toArray)) ∧
 (((Go.Value.tuple [].toArray) = (Go.Value.tuple [].toArray)) ∧
 (((Go.Value.tuple [].toArray) = (Go.Value.tuple [].toArray)) ∧
 (((Go.Value.tuple [].toArray) = (Go.Value.tuple [].toArray)) ∧
 (((Go.Value.tuple [].toArray) = (Go.Value.tuple [].toArray)) ∧
 (((Go.Value.tuple [].toArray) = (Go.Value.tuple [].toArray)) ∧
 (((Go.Value.tuple [].toArray) = (Go.Value.tuple [].toArray)) ∧
 (((Value.bool true) = (Value.bool true)) ∧
 (((Value.bool true) = (Value.bool true)) ∧
 True))))))))))))) ∧
 ((((Value.bool true) = (Value.bool true)) ∧
 (((Go.Value.tuple [].toArray) = (Go.Value.tuple [].toArray)) ∧
 (((Go.Value.tuple [].toArray) = (Go.Value.tuple [].toArray)) ∧
 (((Go.Value.tuple [].toArray) = (Go.Value.tuple [].toArray)) ∧
 (((Go.Value.tuple [].toArray) = (Go.Value.tuple [].toArray)) ∧
 (((Go.Value.tuple [].toArray) = (Go.Value.tuple [].toArray)) ∧
 (((Go.Value.tuple [].toArray) = (Go.Value.tuple [].toArray)) ∧
 (((Go.Value.tuple [].toArray) = (Go.Value.tuple [].toArray)) ∧
 (((Go.Value.tuple [].toArray) = (Go.Value.tuple [].toArray)) ∧
 (((Go.Value.tuple [].toArray) = (Go.Value.tuple [].toArray)) ∧
 (((Go.Value.tuple [].toArray) = (Go.Value.tuple [].toArray)) ∧
 (((Value.bool true) = (Value.bool true)) ∧
 True)))))))))))) ∧
 (∃ n2 : Int,
 ((Says C 60 [(D.val (Go.Value.string ({ data := #[] })))] [(D.val (vI n2))]) ∧
 ((((Go.Value.pointer (Option.some (Go.Addr.mk 1001 0 Option.none))) = (Go.Value.pointer (Option.some (Go.Addr.mk 1001 0 Option.none)))) ∧
 True) ∧
 ((((Value.bool false) = (Value.bool false)) ∧
 (((Go.Value.tuple [].toArray) = (Go.Value.tuple [].toArray)) ∧
 (((Go.Value.tuple [].toArray) = (Go.Value.tuple [].toArray)) ∧
 (((Go.Value.tuple [].toArray) = (Go.Value.tuple [].toArray)) ∧
 (((Go.Value.tuple [].toArray) = (Go.Value.tuple [].toArray)) ∧
 (((Go.Value.tuple [].toArray) = (Go.Value.tuple [].toArray)) ∧
 (((Go.Value.tuple [].toArray) = (Go.Value.tuple [].toArray)) ∧
 (((Go.Value.tuple [].toArray) = (Go.Value.tuple [].toArray)) ∧
 (((Go.Value.tuple [].toArray) = (Go.Value.tuple [].toArray)) ∧
 (((Go.Value.tuple [].toArray) = (Go.Value.tuple [].toArray)) ∧
 (((Go.Value.tuple [].toArray) = (Go.Value.tuple [].toArray)) ∧
 (((Value.bool false) = (Value.bool false)) ∧
 (((Value.bool false) = (Value.bool false)) ∧
 (((Value.bool true) = (Value.bool true)) ∧
 (((Go.Value.pointer (Option.some (Go.Addr.mk 1001 2 Option.none))) = (Go.Value.pointer (Option.some (Go.Addr.mk 1001 2 Option.none)))) ∧
 (((Go.Value.pointer (Option.some (Go.Addr.mk 1001 0 Option.none))) = (Go.Value.pointer (Option.some (Go.Addr.mk 1001 0 Option.none)))) ∧
 (((Go.Value.pointer (Option.some (Go.Addr.mk 1001 0 Option.none))) = (Go.Value.pointer (Option.some (Go.Addr.mk 1001 0 Option.none)))) ∧
 True))))))))))))))))) ∧
 (True ∧
 ((((Go.Value.tuple [].toArray) = (Go.Value.tuple [].toArray)) ∧
 (((Go.Value.tuple [].toArray) = (Go.Value.tuple [].toArray)) ∧
 (((Go.Value.tuple [].toArray) = (Go.Value.tuple [].toArray)) ∧
 (((Go.Value.tuple [].toArray) = (Go.Value.tuple [].toArray)) ∧
 (((Go.Value.tuple [].toArray) = (Go.Value.tuple [].toArray)) ∧
 (((Go.Value.tuple [].toArray) = (Go.Value.tuple [].toArray)) ∧
 (((Go.Value.tuple [].toArray) = (Go.Value.tuple [].toArray)) ∧
 (((Go.Value.tuple [].toArray) = (Go.Value.tuple [].toArray)) ∧
 (((Go.Value.tuple [].toArray) = (Go.Value.tuple [].toArray)) ∧
 (((Go.Value.tuple [].toArray) = (Go.Value.tuple [].toArray)) ∧
 (((Go.Value.tuple [].toArray) = (Go.Value.tuple [].toArray)) ∧
 (((Value.bool true) = (Value.bool true)) ∧
 (((Value.bool true) = (Value.bool true)) ∧
 True))))))))))))) ∧
 ((((Value.bool true) = (Value.bool true)) ∧
 (((Go.Value.tuple [].toArray) = (Go.Value.tuple [].toArray)) ∧
 (((Go.Value.tuple [].toArray) = (Go.Value.tuple [].toArray)) ∧
 (((Go.Value.tuple [].toArray) = (Go.Value.tuple [].toArray)) ∧
 (((Go.Value.tuple [].toArray) = (Go.Value.tuple [].toArray)) ∧
 (((Go.Value.tuple [].toArray) = (Go.Value.tuple [].toArray)) ∧
 (((Go.Value.tuple [].toArray) = (Go.Value.tuple [].toArray)) ∧
 (((Go.Value.tuple [].toArray) = (Go.Value.tuple [].toArray)) ∧
 (((Go.Value.tuple [].toArray) = (Go.Value.tuple [].toArray)) ∧
 (((Go.Value.tuple [].toArray) = (Go.Value.tuple [].toArray)) ∧
 (((Go.Value.tuple [].toArray) = (Go.Value.tuple [].toArray)) ∧
 (((Value.bool true) = (Value.bool true)) ∧
 True)))))))))))) ∧
 (∃ n3 : Int,
 ((Says C 60 [(D.val (Go.Value.string ({ data := #[] })))] [(D.val (vI n3))]) ∧
 ((((Go.Value.pointer (Option.some (Go.Addr.mk 1001 0 Option.none))) = (Go.Value.pointer (Option.some (Go.Addr.mk 1001 0 Option.none)))) ∧
 True) ∧
 ((((Value.bool false) = (Value.bool false)) ∧
 (((Go.Value.tuple [].toArray) = (Go.Value.tuple [].toArray)) ∧
 (((Go.Value.tuple [].toArray) = (Go.Value.tuple [].toArray)) ∧
 (((Go.Value.tuple [].toArray) = (Go.Value.tuple [].toArray)) ∧
 (((Go.Value.tuple [].toArray) = (Go.Value.tuple [].toArray)) ∧
 (((Go.Value.tuple [].toArray) = (Go.Value.tuple [].toArray)) ∧
 (((Go.Value.tuple [].toArray) = (Go.Value.tuple [].toArray)) ∧
 (((Go.Value.tuple [].toArray) = (Go.Value.tuple [].toArray)) ∧
 (((Go.Value.tuple [].toArray) = (Go.Value.tuple [].toArray)) ∧
 (((Go.Value.tuple [].toArray) = (Go.Value.tuple [].toArray)) ∧
 (((Go.Value.tuple [].toArray) = (Go.Value.tuple [].toArray)) ∧
 (((Value.bool false) = (Value.bool false)) ∧
 (((Value.bool false) = (Value.bool false)) ∧
 (((Value.bool true) = (Value.bool true)) ∧
 (((Go.Value.pointer (Option.some (Go.Addr.mk 1001 2 Option.none))) = (Go.Value.pointer (Option.some (Go.Addr.mk 1001 2 Option.none)))) ∧
 (((Go.Value.pointer (Option.some (Go.Addr.mk 1001 0 Option.none))) = (Go.Value.pointer (Option.some (Go.Addr.mk 1001 0 Option.none)))) ∧
 (((Go.Value.pointer (Option.some (Go.Addr.mk 1001 0 Option.none))) = (Go.Value.pointer (Option.some (Go.Addr.mk 1001 0 Option.none)))) ∧
 True))))))))))))))))) ∧
 (True ∧
 ((((Go.Value.tuple [].toArray) = (Go.Value.tuple [].toArray)) ∧
 (((Go.Value.tuple [].toArray) = (Go.Value.tuple [].toArray)) ∧
 (((Go.Value.tuple [].toArray) = (Go.Value.tuple [].toArray)) ∧
 (((Go.Value.tuple [].toArray) = (Go.Value.tuple [].toArray)) ∧
 (((Go.Value.tuple [].toArray) = (Go.Value.tuple [].toArray)) ∧
 (((Go.Value.tuple [].toArray) = (Go.Value.tuple [].toArray)) ∧
 (((Go.Value.tuple [].toArray) = (Go.Value.tuple [].toArray)) ∧
 (((Go.Value.tuple [].toArray) = (Go.Value.tuple [].toArray)) ∧
 (((Go.Value.tuple [].toArray) = (Go.Value.tuple [].toArray)) ∧
 (((Go.Value.tuple [].toArray) = (Go.Value.tuple [].toArray)) ∧
 (((Go.Value.tuple [].toArray) = (Go.Value.tuple [].toArray)) ∧
 (((Value.bool true) = (Value.bool true)) ∧
 (((Value.bool true) = (Value.bool true)) ∧
 True))))))))))))) ∧
 ((((Value.bool true) = (Value.bool true)) ∧
 (((Go.Value.tuple [].toArray) = (Go.Value.tuple [].toArray)) ∧
 (((Go.Value.tuple [].toArray) = (Go.Value.tuple [].toArray)) ∧
 (((Go.Value.tuple [].toArray) = (Go.Value.tuple [].toArray)) ∧
 (((Go.Value.tuple [].toArray) = (Go.Value.tuple [].toArray)) ∧
 (((Go.Value.tuple [].toArray) = (Go.Value.tuple [].toArray)) ∧
 (((Go.Value.tuple [].toArray) = (Go.Value.tuple [].toArray)) ∧
 (((Go.Value.tuple [].toArray) = (Go.Value.tuple [].toArray)) ∧
 (((Go.Value.tuple [].toArray) = (Go.Value.tuple [].toArray)) ∧
 (((Go.Value.tuple [].toArray) = (Go.Value.tuple [].toArray)) ∧
 (((Go.Value.tuple [].toArray) = (Go.Value.tuple [].toArray)) ∧
 (((Value.bool true) = (Value.bool true)) ∧
 True)))))))))))) ∧
 (∃ n4 : Int,
 ((Says C 60 [(D.val (Go.Value.string ({ data := #[] })))] [(D.val (vI n4))]) ∧
 (k [(D.agg [(D.val (Go.Value.string ({ data := #[] }))), (D.val (vI (0 : Int))), (D.val (vI (0 : Int))), (D.val (vI (0 : Int))), (D.val (vI (0 : Int)))]), (D.val (vI (7 : Int)))]))))))))))))))))))))))))))))))))))) ∨
 (∃ n1 : Nat,
 (∃ cs1 : List Go.Value,
 ((Says C 59 [(D.val (Go.Value.string (s0))), (D.val (Go.Value.string ({ data := #[32] })))] [(D.sl (n1) 1 (cs1))]) ∧
 ((((Go.Value.pointer (Option.some (Go.Addr.mk 1002 0 Option.none))) = (Go.Value.pointer (Option.some (Go.Addr.mk 1002 0 Option.none)))) ∧
 True) ∧
 (bcase (decide (0 < (↑n1 : Int)))
 ((((Value.bool true) = (Value.bool true)) ∧
 ((bcase (decide (0 < (↑n1 : Int)))
 ((Value.bool true) = (Value.bool true))
 ((Value.bool false) = (Value.bool true))) ∧
 (((vI ((↑n1 : Int))) = (vI ((↑n1 : Int)))) ∧
 (((Go.Value.slice (Option.some (Go.Addr.mk 1001 0 Option.none)) (n1) (n1)) = (Go.Value.slice (Option.some (Go.Addr.mk 1001 0 Option.none)) (n1) (n1))) ∧
 (((Go.Value.pointer (Option.some (Go.Addr.mk 1002 0 Option.none))) = (Go.Value.pointer (Option.some (Go.Addr.mk 1002 0 Option.none)))) ∧
 (((Go.Value.pointer (Option.some (Go.Addr.mk 1002 0 Option.none))) = (Go.Value.pointer (Option.some (Go.Addr.mk 1002 0 Option.none)))) ∧
 (((Go.Value.pointer (Option.some (Go.Addr.mk 1002 0 Option.none))) = (Go.Value.pointer (Option.some (Go.Addr.mk 1002 0 Option.none)))) ∧
 (((vI (0 : Int)) = (vI (0 : Int))) ∧
 (((Go.Value.pointer (Option.some (Go.Addr.mk 1002 1 Option.none))) = (Go.Value.pointer (Option.some (Go.Addr.mk 1002 1 Option.none)))) ∧
 (((Go.Value.pointer (Option.some (Go.Addr.mk 1002 0 Option.none))) = (Go.Value.pointer (Option.some (Go.Addr.mk 1002 0 Option.none)))) ∧
 (((Go.Value.pointer (Option.some (Go.Addr.mk 1002 0 Option.none))) = (Go.Value.pointer (Option.some (Go.Addr.mk 1002 0 Option.none)))) ∧
 (((Value.bool true) = (Value.bool true)) ∧
 (((Value.bool true) = (Value.bool true)) ∧
 (((Value.bool false) = (Value.bool false)) ∧
 (((Go.Value.pointer (Option.some (Go.Addr.mk 1002 2 Option.none))) = (Go.Value.pointer (Option.some (Go.Addr.mk 1002 2 Option.none)))) ∧
 (((Go.Value.pointer (Option.some (Go.Addr.mk 1002 0 Option.none))) = (Go.Value.pointer (Option.some (Go.Addr.mk 1002 0 Option.none)))) ∧
 (((Go.Value.pointer (Option.some (Go.Addr.mk 1002 0 Option.none))) = (Go.Value.pointer (Option.some (Go.Addr.mk 1002 0 Option.none)))) ∧
 True))))))))))))))))) ∧
 (True ∧
 (bcase (decide (0 < (↑n1 : Int)))
 (∃ s1 : ByteArray,
 ((At (cs1) 0 1 [(Go.Value.string (s1))]) ∧
 (((∃ s2 : ByteArray,
 ((At (cs1) 0 1 [(Go.Value.string (s2))]) ∧
 ((Go.Value.string (s2)) = (Go.Value.string (s1))))) ∧
 ((bcase (decide (0 < (↑n1 : Int)))
 ((Go.Value.pointer (Option.some (Go.Addr.mk 1001 0 Option.none))) = (Go.Value.pointer (Option.some (Go.Addr.mk 1001 0 Option.none))))
 False) ∧
 (((vI (0 : Int)) = (vI (0 : Int))) ∧
 (((Go.Value.pointer (Option.some (Go.Addr.mk 1002 1 Option.none))) = (Go.Value.pointer (Option.some (Go.Addr.mk 1002 1 Option.none)))) ∧
 (((Go.Value.pointer (Option.some (Go.Addr.mk 1002 0 Option.none))) = (Go.Value.pointer (Option.some (Go.Addr.mk 1002 0 Option.none)))) ∧
 (((Go.Value.pointer (Option.some (Go.Addr.mk 1002 0 Option.none))) = (Go.Value.pointer (Option.some (Go.Addr.mk 1002 0 Option.none)))) ∧
 (((Go.Value.slice (Option.some (Go.Addr.mk 1001 0 Option.none)) (n1) (n1)) = (Go.Value.slice (Option.some (Go.Addr.mk 1001 0 Option.none)) (n1) (n1))) ∧
 (((Go.Value.pointer (Option.some (Go.Addr.mk 1002 0 Option.none))) = (Go.Value.pointer (Option.some (Go.Addr.mk 1002 0 Option.none)))) ∧
 (((Go.Value.pointer (Option.some (Go.Addr.mk 1002 0 Option.none))) = (Go.Value.pointer (Option.some (Go.Addr.mk 1002 0 Option.none)))) ∧
 (((Go.Value.pointer (Option.some (Go.Addr.mk 1002 0 Option.none))) = (Go.Value.pointer (Option.some (Go.Addr.mk 1002 0 Option.none)))) ∧
 (((Go.Value.func (Go.Fn.func 25) [].toArray [].toArray) = (Go.Value.func (Go.Fn.func 25) [].toArray [].toArray)) ∧
 (((Value.bool false) = (Value.bool false)) ∧
 (((Value.bool false) = (Value.bool false)) ∧
 True))))))))))))) ∧
 (bcase (!ByteArray.toList s1 == ByteArray.toList { data := #[] })
 ((((Value.bool false) = (Value.bool false)) ∧
 (((Value.bool false) = (Value.bool false)) ∧
 ((bcase (decide (0 < (↑n1 : Int)))
 ((Go.Value.pointer (Option.some (Go.Addr.mk 1001 0 Option.none))) = (Go.Value.pointer (Option.some (Go.Addr.mk 1001 0 Option.none))))
 False) ∧
 (((vI (0 : Int)) = (vI (0 : Int))) ∧
 (((Go.Value.pointer (Option.some (Go.Addr.mk 1002 1 Option.none))) = (Go.Value.pointer (Option.some (Go.Addr.mk 1002 1 Option.none)))) ∧
 (((Go.Value.pointer (Option.some (Go.Addr.mk 1002 0 Option.none))) = (Go.Value.pointer (Option.some (Go.Addr.mk 1002 0 Option.none)))) ∧
 (((Go.Value.pointer (Option.some (Go.Addr.mk 1002 0 Option.none))) = (Go.Value.pointer (Option.some (Go.Addr.mk 1002 0 Option.none)))) ∧
 (((Go.Value.slice (Option.some (Go.Addr.mk 1001 0 Option.none)) (n1) (n1)) = (Go.Value.slice (Option.some (Go.Addr.mk 1001 0 Option.none)) (n1) (n1))) ∧
 (((Go.Value.pointer (Option.some (Go.Addr.mk 1002 0 Option.none))) = (Go.Value.pointer (Option.some (Go.Addr.mk 1002 0 Option.none)))) ∧
 (((Go.Value.pointer (Option.some (Go.Addr.mk 1002 0 Option.none))) = (Go.Value.pointer (Option.some (Go.Addr.mk 1002 0 Option.none)))) ∧
 (((Go.Value.pointer (Option.some (Go.Addr.mk 1002 0 Option.none))) = (Go.Value.pointer (Option.some (Go.Addr.mk 1002 0 Option.none)))) ∧
 (((Value.bool false) = (Value.bool false)) ∧
 True)))))))))))) ∧
 (bcase (decide (0 < (↑n1 : Int)))
 (∃ s2 : ByteArray,
 ((At (cs1) 0 1 [(Go.Value.string (s2))]) ∧
 (((∃ s3 : ByteArray,
 ((At (cs1) 0 1 [(Go.Value.string (s3))]) ∧
 ((Go.Value.string (s3)) = (Go.Value.string (s2))))) ∧
 ((bcase (decide (0 < (↑n1 : Int)))
 ((Go.Value.pointer (Option.some (Go.Addr.mk 1001 0 Option.none))) = (Go.Value.pointer (Option.some (Go.Addr.mk 1001 0 Option.none))))
 False) ∧
 (((vI (0 : Int)) = (vI (0 : Int))) ∧
 (((Go.Value.pointer (Option.some (Go.Addr.mk 1002 1 Option.none))) = (Go.Value.pointer (Option.some (Go.Addr.mk 1002 1 Option.none)))) ∧
 (((Go.Value.pointer (Option.some (Go.Addr.mk 1002 0 Option.none))) = (Go.Value.pointer (Option.some (Go.Addr.mk 1002 0 Option.none)))) ∧
 (((Go.Value.pointer (Option.some (Go.Addr.mk 1002 0 Option.none))) = (Go.Value.pointer (Option.some (Go.Addr.mk 1002 0 Option.none)))) ∧
 (((Go.Value.slice (Option.some (Go.Addr.mk 1001 0 Option.none)) (n1) (n1)) = (Go.Value.slice (Option.some (Go.Addr.mk 1001 0 Option.none)) (n1) (n1))) ∧
 (((Go.Value.pointer (Option.some (Go.Addr.mk 1002 0 Option.none))) = (Go.Value.pointer (Option.some (Go.Addr.mk 1002 0 Option.none)))) ∧
 (((Go.Value.pointer (Option.some (Go.Addr.mk 1002 0 Option.none))) = (Go.Value.pointer (Option.some (Go.Addr.mk 1002 0 Option.none)))) ∧
 (((Go.Value.pointer (Option.some (Go.Addr.mk 1002 0 Option.none))) = (Go.Value.pointer (Option.some (Go.Addr.mk 1002 0 Option.none)))) ∧
 True)))))))))) ∧
 (True ∧
 ((((Go.Value.pointer (Option.some (Go.Addr.mk 1002 0 Option.none))) = (Go.Value.pointer (Option.some (Go.Addr.mk 1002 0 Option.none)))) ∧
 True) ∧
 (bcase (decide (IntKind.wrap .i64 (0 + 1) < (↑n1 : Int)))
 ((((Value.bool true) = (Value.bool true)) ∧
 ((bcase (decide (IntKind.wrap .i64 (0 + 1) < (↑n1 : Int)))
 ((Value.bool true) = (Value.bool true))
 ((Value.bool false) = (Value.bool true))) ∧
 (((vI ((↑n1 : Int))) = (vI ((↑n1 : Int)))) ∧
 (((Go.Value.slice (Option.some (Go.Addr.mk 1001 0 Option.none)) (n1) (n1)) = (Go.Value.slice (Option.some (Go.Addr.mk 1001 0 Option.none)) (n1) (n1))) ∧
 (((Go.Value.pointer (Option.some (Go.Addr.mk 1002 0 Option.none))) = (Go.Value.pointer (Option.some (Go.Addr.mk 1002 0 Option.none)))) ∧
 (((Go.Value.pointer (Option.some (Go.Addr.mk 1002 0 Option.none))) = (Go.Value.pointer (Option.some (Go.Addr.mk 1002 0 Option.none)))) ∧
 (((Go.Value.pointer (Option.some (Go.Addr.mk 1002 0 Option.none))) = (Go.Value.pointer (Option.some (Go.Addr.mk 1002 0 Option.none)))) ∧
 (((vI (1 : Int)) = (vI (1 : Int))) ∧
 (((Go.Value.pointer (Option.some (Go.Addr.mk 1002 1 Option.none))) = (Go.Value.pointer (Option.some (Go.Addr.mk 1002 1 Option.none)))) ∧
 (((Go.Value.pointer (Option.some (Go.Addr.mk 1002 0 Option.none))) = (Go.Value.pointer (Option.some (Go.Addr.mk 1002 0 Option.none)))) ∧
 (((Go.Value.pointer (Option.some (Go.Addr.mk 1002 0 Option.none))) = (Go.Value.pointer (Option.some (Go.Addr.mk 1002 0 Option.none)))) ∧
 (((Value.bool true) = (Value.bool true)) ∧
 (((Value.bool true) = (Value.bool true)) ∧
 (((Value.bool false) = (Value.bool false)) ∧
 (((Go.Value.pointer (Option.some (Go.Addr.mk 1002 2 Option.none))) = (Go.Value.pointer (Option.some (Go.Addr.mk 1002 2 Option.none)))) ∧
 (((Go.Value.pointer (Option.some (Go.Addr.mk 1002 0 Option.none))) = (Go.Value.pointer (Option.some (Go.Addr.mk 1002 0 Option.none)))) ∧
 (((Go.Value.pointer (Option.some (Go.Addr.mk 1002 0 Option.none))) = (Go.Value.pointer (Option.some (Go.Addr.mk 1002 0 Option.none)))) ∧
 True))))))))))))))))) ∧
 (True ∧
 (bcase (decide (IntKind.wrap .i64 (0 + 1) < (↑n1 : Int)))
 (∃ s3 : ByteArray,
 ((At (cs1) 1 1 [(Go.Value.string (s3))]) ∧
 (((∃ s4 : ByteArray,
 ((At (cs1) 1 1 [(Go.Value.string (s4))]) ∧
 ((Go.Value.string (s4)) = (Go.Value.string (s3))))) ∧
 ((bcase (decide (IntKind.wrap .i64 (0 + 1) < (↑n1 : Int)))
 ((Go.Value.pointer (Option.some (Go.Addr.mk 1001 1 Option.none))) = (Go.Value.pointer (Option.some (Go.Addr.mk 1001 1 Option.none))))
 False) ∧
 (((vI (1 : Int)) = (vI (1 : Int))) ∧
 (((Go.Value.pointer (Option.some (Go.Addr.mk 1002 1 Option.none))) = (Go.Value.pointer (Option.some (Go.Addr.mk 1002 1 Option.none)))) ∧
 (((Go.Value.pointer (Option.some (Go.Addr.mk 1002 0 Option.none))) = (Go.Value.pointer (Option.some (Go.Addr.mk 1002 0 Option.none)))) ∧
 (((Go.Value.pointer (Option.some (Go.Addr.mk 1002 0 Option.none))) = (Go.Value.pointer (Option.some (Go.Addr.mk 1002 0 Option.none)))) ∧
 (((Go.Value.slice (Option.some (Go.Addr.mk 1001 0 Option.none)) (n1) (n1)) = (Go.Value.slice (Option.some (Go.Addr.mk 1001 0 Option.none)) (n1) (n1))) ∧
 (((Go.Value.pointer (Option.some (Go.Addr.mk 1002 0 Option.none))) = (Go.Value.pointer (Option.some (Go.Addr.mk 1002 0 Option.none)))) ∧
 (((Go.Value.pointer (Option.some (Go.Addr.mk 1002 0 Option.none))) = (Go.Value.pointer (Option.some (Go.Addr.mk 1002 0 Option.none)))) ∧
 (((Go.Value.pointer (Option.some (Go.Addr.mk 1002 0 Option.none))) = (Go.Value.pointer (Option.some (Go.Addr.mk 1002 0 Option.none)))) ∧
 (((Go.Value.func (Go.Fn.func 61) [].toArray [].toArray) = (Go.Value.func (Go.Fn.func 61) [].toArray [].toArray)) ∧
 (((Value.bool false) = (Value.bool false)) ∧
 (((Value.bool false) = (Value.bool false)) ∧
 True))))))))))))) ∧
 (((Says C 61 [(D.val (Go.Value.string (s3)))] [(D.val (Value.bool true))]) ∧
 ((((Value.bool false) = (Value.bool false)) ∧
 (((Value.bool false) = (Value.bool false)) ∧
 ((bcase (decide (IntKind.wrap .i64 (0 + 1) < (↑n1 : Int)))
 ((Go.Value.pointer (Option.some (Go.Addr.mk 1001 1 Option.none))) = (Go.Value.pointer (Option.some (Go.Addr.mk 1001 1 Option.none))))
 False) ∧
 (((vI (1 : Int)) = (vI (1 : Int))) ∧
 (((Go.Value.pointer (Option.some (Go.Addr.mk 1002 1 Option.none))) = (Go.Value.pointer (Option.some (Go.Addr.mk 1002 1 Option.none)))) ∧
 (((Go.Value.pointer (Option.some (Go.Addr.mk 1002 0 Option.none))) = (Go.Value.pointer (Option.some (Go.Addr.mk 1002 0 Option.none)))) ∧
 (((Go.Value.pointer (Option.some (Go.Addr.mk 1002 0 Option.none))) = (Go.Value.pointer (Option.some (Go.Addr.mk 1002 0 Option.none)))) ∧
 (((Go.Value.slice (Option.some (Go.Addr.mk 1001 0 Option.none)) (n1) (n1)) = (Go.Value.slice (Option.some (Go.Addr.mk 1001 0 Option.none)) (n1) (n1))) ∧
 (((Go.Value.pointer (Option.some (Go.Addr.mk 1002 0 Option.none))) = (Go.Value.pointer (Option.some (Go.Addr.mk 1002 0 Option.none)))) ∧
 (((Go.Value.pointer (Option.some (Go.Addr.mk 1002 0 Option.none))) = (Go.Value.pointer (Option.some (Go.Addr.mk 1002 0 Option.none)))) ∧
 (((Go.Value.pointer (Option.some (Go.Addr.mk 1002 0 Option.none))) = (Go.Value.pointer (Option.some (Go.Addr.mk 1002 0 Option.none)))) ∧
 (((Value.bool false) = (Value.bool false)) ∧
 True)))))))))))) ∧
 (bcase (decide (IntKind.wrap .i64 (0 + 1) < (↑n1 : Int)))
 (∃ s4 : ByteArray,
 ((At (cs1) 1 1 [(Go.Value.string (s4))]) ∧
 (((∃ s5 : ByteArray,
 ((At (cs1) 1 1 [(Go.Value.string (s5))]) ∧
 ((Go.Value.string (s5)) = (Go.Value.string (s4))))) ∧
 ((bcase (decide (IntKind.wrap .i64 (0 + 1) < (↑n1 : Int)))
 ((Go.Value.pointer (Option.some (Go.Addr.mk 1001 1 Option.none))) = (Go.Value.pointer (Option.some (Go.Addr.mk 1001 1 Option.none))))
 False) ∧
 (((vI (1 : Int)) = (vI (1 : Int))) ∧
 (((Go.Value.pointer (Option.some (Go.Addr.mk 1002 1 Option.none))) = (Go.Value.pointer (Option.some (Go.Addr.mk 1002 1 Option.none)))) ∧
 (((Go.Value.pointer (Option.some (Go.Addr.mk 1002 0 Option.none))) = (Go.Value.pointer (Option.some (Go.Addr.mk 1002 0 Option.none)))) ∧
 (((Go.Value.pointer (Option.some (Go.Addr.mk 1002 0 Option.none))) = (Go.Value.pointer (Option.some (Go.Addr.mk 1002 0 Option.none)))) ∧
 (((Go.Value.slice (Option.some (Go.Addr.mk 1001 0 Option.none)) (n1) (n1)) = (Go.Value.slice (Option.some (Go.Addr.mk 1001 0 Option.none)) (n1) (n1))) ∧
 (((Go.Value.pointer (Option.some (Go.Addr.mk 1002 0 Option.none))) = (Go.Value.pointer (Option.some (Go.Addr.mk 1002 0 Option.none)))) ∧
 (((Go.Value.pointer (Option.some (Go.Addr.mk 1002 0 Option.none))) = (Go.Value.pointer (Option.some (Go.Addr.mk 1002 0 Option.none)))) ∧
 (((Go.Value.pointer (Option.some (Go.Addr.mk 1002 0 Option.none))) = (Go.Value.pointer (Option.some (Go.Addr.mk 1002 0 Option.none)))) ∧
 True)))))))))) ∧
 (True ∧
 (∃ n2 : Int,
 ((Says C 60 [(D.val (Go.Value.string (s4)))] [(D.val (vI n2))]) ∧
 ((((Go.Value.pointer (Option.some (Go.Addr.mk 1002 0 Option.none))) = (Go.Value.pointer (Option.some (Go.Addr.mk 1002 0 Option.none)))) ∧
 True) ∧
 (bcase (decide (IntKind.wrap .i64 (IntKind.wrap .i64 (0 + 1) + 1) < (↑n1 : Int)))
 ((((Value.bool true) = (Value.bool true)) ∧
 ((bcase (decide (IntKind.wrap .i64 (IntKind.wrap .i64 (0 + 1) + 1) < (↑n1 : Int)))
 ((Value.bool true) = (Value.bool true))
 ((Value.bool false) = (Value.bool true))) ∧
 (((vI ((↑n1 : Int))) = (vI ((↑n1 : Int)))) ∧
 (((Go.Value.slice (Option.some (Go.Addr.mk 1001 0 Option.none)) (n1) (n1)) = (Go.Value.slice (Option.some (Go.Addr.mk 1001 0 Option.none)) (n1) (n1))) ∧
 (((Go.Value.pointer (Option.some (Go.Addr.mk 1002 0 Option.none))) = (Go.Value.pointer (Option.some (Go.Addr.mk 1002 0 Option.none)))) ∧
 (((Go.Value.pointer (Option.some (Go.Addr.mk 1002 0 Option.none))) = (Go.Value.pointer (Option.some (Go.Addr.mk 1002 0 Option.none)))) ∧
 (((Go.Value.pointer (Option.some (Go.Addr.mk 1002 0 Option.none))) = (Go.Value.pointer (Option.some (Go.Addr.mk 1002 0 Option.none)))) ∧
 (((vI (2 : Int)) = (vI (2 : Int))) ∧
 (((Go.Value.pointer (Option.some (Go.Addr.mk 1002 1 Option.none))) = (Go.Value.pointer (Option.some (Go.Addr.mk 1002 1 Option.none)))) ∧
 (((Go.Value.pointer (Option.some (Go.Addr.mk 1002 0 Option.none))) = (Go.Value.pointer (Option.some (Go.Addr.mk 1002 0 Option.none)))) ∧
 (((Go.Value.pointer (Option.some (Go.Addr.mk 1002 0 Option.none))) = (Go.Value.pointer (Option.some (Go.Addr.mk 1002 0 Option.none)))) ∧
 (((Value.bool true) = (Value.bool true)) ∧
 (((Value.bool true) = (Value.bool true)) ∧
 (((Value.bool false) = (Value.bool false)) ∧
 (((Go.Value.pointer (Option.some (Go.Addr.mk 1002 2 Option.none))) = (Go.Value.pointer (Option.some (Go.Addr.mk 1002 2 Option.none)))) ∧
 (((Go.Value.pointer (Option.some (Go.Addr.mk 1002 0 Option.none))) = (Go.Value.pointer (Option.some (Go.Addr.mk 1002 0 Option.none)))) ∧
 (((Go.Value.pointer (Option.some (Go.Addr.mk 1002 0 Option.none))) = (Go.Value.pointer (Option.some (Go.Addr.mk 1002 0 Option.none)))) ∧
 True))))))))))))))))) ∧
 (True ∧
 (bcase (decide (IntKind.wrap .i64 (IntKind.wrap .i64 (0 + 1) + 1) < (↑n1 : Int)))
 (∃ s5 : ByteArray,
 ((At (cs1) 2 1 [(Go.Value.string (s5))]) ∧
 (((∃ s6 : ByteArray,
 ((At (cs1) 2 1 [(Go.Value.string (s6))]) ∧
 ((Go.Value.string (s6)) = (Go.Value.string (s5))))) ∧
 ((bcase (decide (IntKind.wrap .i64 (IntKind.wrap .i64 (0 + 1) + 1) < (↑n1 : Int)))
 ((Go.Value.pointer (Option.some (Go.Addr.mk 1001 2 Option.none))) = (Go.Value.pointer (Option.some (Go.Addr.mk 1001 2 Option.none))))
 False) ∧
 (((vI (2 : Int)) = (vI (2 : Int))) ∧
 (((Go.Value.pointer (Option.some (Go.Addr.mk 1002 1 Option.none))) = (Go.Value.pointer (Option.some (Go.Addr.mk 1002 1 Option.none)))) ∧
 (((Go.Value.pointer (Option.some (Go.Addr.mk 1002 0 Option.none))) = (Go.Value.pointer (Option.some (Go.Addr.mk 1002 0 Option.none)))) ∧
 (((Go.Value.pointer (Option.some (Go.Addr.mk 1002 0 Option.none))) = (Go.Value.pointer (Option.some (Go.Addr.mk 1002 0 Option.none)))) ∧
 (((Go.Value.slice (Option.some (Go.Addr.mk 1001 0 Option.none)) (n1) (n1)) = (Go.Value.slice (Option.some (Go.Addr.mk 1001 0 Option.none)) (n1) (n1))) ∧
 (((Go.Value.pointer (Option.some (Go.Addr.mk 1002 0 Option.none))) = (Go.Value.pointer (Option.some (Go.Addr.mk 1002 0 Option.none)))) ∧
 (((Go.Value.pointer (Option.some (Go.Addr.mk 1002 0 Option.none))) = (Go.Value.pointer (Option.some (Go.Addr.mk 1002 0 Option.none)))) ∧
 (((Go.Value.pointer (Option.some (Go.Addr.mk 1002 0 Option.none))) = (Go.Value.pointer (Option.some (Go.Addr.mk 1002 0 Option.none)))) ∧
 (((Go.Value.func (Go.Fn.func 61) [].toArray [].toArray) = (Go.Value.func (Go.Fn.func 61) [].toArray [].toArray)) ∧
 (((Value.bool false) = (Value.bool false)) ∧
 (((Value.bool false) = (Value.bool false)) ∧
 True))))))))))))) ∧
 (((Says C 61 [(D.val (Go.Value.string (s5)))] [(D.val (Value.bool true))]) ∧
 ((((Value.bool false) = (Value.bool false)) ∧
 (((Value.bool false) = (Value.bool false)) ∧
 ((bcase (decide (IntKind.wrap .i64 (IntKind.wrap .i64 (0 + 1) + 1) < (↑n1 : Int)))
 ((Go.Value.pointer (Option.some (Go.Addr.mk 1001 2 Option.none))) = (Go.Value.pointer (Option.some (Go.Addr.mk 1001 2 Option.none))))
 False) ∧
 (((vI (2 : Int)) = (vI (2 : Int))) ∧
 (((Go.Value.pointer (Option.some (Go.Addr.mk 1002 1 Option.none))) = (Go.Value.pointer (Option.some (Go.Addr.mk 1002 1 Option.none)))) ∧
 (((Go.Value.pointer (Option.some (Go.Addr.mk 1002 0 Option.none))) = (Go.Value.pointer (Option.some (Go.Addr.mk 1002 0 Option.none)))) ∧
 (((Go.Value.pointer (Option.some (Go.Addr.mk 1002 0 Option.none))) = (Go.Value.pointer (Option.some (Go.Addr.mk 1002 0 Option.none)))) ∧
 (((Go.Value.slice (Option.some (Go.Addr.mk 1001 0 Option.none)) (n1) (n1)) = (Go.Value.slice (Option.some (Go.Addr.mk 1001 0 Option.none)) (n1) (n1))) ∧
 (((Go.Value.pointer (Option.some (Go.Addr.mk 1002 0 Option.none))) = (Go.Value.pointer (Option.some (Go.Addr.mk 1002 0 Option.none)))) ∧
 (((Go.Value.pointer (Option.some (Go.Addr.mk 1002 0 Option.none))) = (Go.Value.pointer (Option.some (Go.Addr.mk 1002 0 Option.none)))) ∧
 (((Go.Value.pointer (Option.some (Go.Addr.mk 1002 0 Option.none))) = (Go.Value.pointer (Option.some (Go.Addr.mk 1002 0 Option.none)))) ∧
 (((Value.bool false) = (Value.bool false)) ∧
 True)))))))))))) ∧
 (bcase (decide (IntKind.wrap .i64 (IntKind.wrap .i64 (0 + 1) + 1) < (↑n1 : Int)))
 (∃ s6 : ByteArray,
 ((At (cs1) 2 1 [(Go.Value.string (s6))]) ∧
 (((∃ s7 : ByteArray,
 ((At (cs1) 2 1 [(Go.Value.string (s7))]) ∧
 ((Go.Value.string (s7)) = (Go.Value.string (s6))))) ∧
 ((bcase (decide (IntKind.wrap .i64 (IntKind.wrap .i64 (0 + 1) + 1) < (↑n1 : Int)))
 ((Go.Value.pointer (Option.some (Go.Addr.mk 1001 2 Option.none))) = (Go.Value.pointer (Option.some (Go.Addr.mk 1001 2 Option.none))))
 False) ∧
 (((vI (2 : Int)) = (vI (2 : Int))) ∧
 (((Go.Value.pointer (Option.some (Go.Addr.mk 1002 1 Option.none))) = (Go.Value.pointer (Option.some (Go.Addr.mk 1002 1 Option.none)))) ∧
 (((Go.Value.pointer (Option.some (Go.Addr.mk 1002 0 Option.none))) = (Go.Value.pointer (Option.some (Go.Addr.mk 1002 0 Option.none)))) ∧
 (((Go.Value.pointer (Option.some (Go.Addr.mk 1002 0 Option.none))) = (Go.Value.pointer (Option.some (Go.Addr.mk 1002 0 Option.none)))) ∧
 (((Go.Value.slice (Option.some (Go.Addr.mk 1001 0 Option.none)) (n1) (n1)) = (Go.Value.slice (Option.some (Go.Addr.mk 1001 0 Option.none)) (n1) (n1))) ∧
 (((Go.Value.pointer (Option.some (Go.Addr.mk 1002 0 Option.none))) = (Go.Value.pointer (Option.some (Go.Addr.mk 1002 0 Option.none)))) ∧
 (((Go.Value.pointer (Option.some (Go.Addr.mk 1002 0 Option.none))) = (Go.Value.pointer (Option.some (Go.Addr.mk 1002 0 Option.none)))) ∧
 (((Go.Value.pointer (Option.some (Go.Addr.mk 1002 0 Option.none))) = (Go.Value.pointer (Option.some (Go.Addr.mk 1002 0 Option.none)))) ∧
 True)))))))))) ∧
 (True ∧
 (∃ n3 : Int,
 ((Says C 60 [(D.val (Go.Value.string (s6)))] [(D.val (vI n3))]) ∧
 ((((Go.Value.pointer (Option.some (Go.Addr.mk 1002 0 Option.none))) = (Go.Value.pointer (Option.some (Go.Addr.mk 1002 0 Option.none)))) ∧
 True) ∧
 (bcase (decide (IntKind.wrap .i64 (IntKind.wrap .i64 (IntKind.wrap .i64 (0 + 1) + 1) + 1) < (↑n1 : Int)))
 ((((Value.bool true) = (Value.bool true)) ∧
 ((bcase (decide (IntKind.wrap .i64 (IntKind.wrap .i64 (IntKind.wrap .i64 (0 + 1) + 1) + 1) < (↑n1 : Int)))
 ((Value.bool true) = (Value.bool true))
 ((Value.bool false) = (Value.bool true))) ∧
 (((vI ((↑n1 : Int))) = (vI ((↑n1 : Int)))) ∧
 (((Go.Value.slice (Option.some (Go.Addr.mk 1001 0 Option.none)) (n1) (n1)) = (Go.Value.slice (Option.some (Go.Addr.mk 1001 0 Option.none)) (n1) (n1))) ∧
 (((Go.Value.pointer (Option.some (Go.Addr.mk 1002 0 Option.none))) = (Go.Value.pointer (Option.some (Go.Addr.mk 1002 0 Option.none)))) ∧
 (((Go.Value.pointer (Option.some (Go.Addr.mk 1002 0 Option.none))) = (Go.Value.pointer (Option.some (Go.Addr.mk 1002 0 Option.none)))) ∧
 (((Go.Value.pointer (Option.some (Go.Addr.mk 1002 0 Option.none))) = (Go.Value.pointer (Option.some (Go.Addr.mk 1002 0 Option.none)))) ∧
 (((vI (3 : Int)) = (vI (3 : Int))) ∧
 (((Go.Value.pointer (Option.some (Go.Addr.mk 1002 1 Option.none))) = (Go.Value.pointer (Option.some (Go.Addr.mk 1002 1 Option.none)))) ∧
 (((Go.Value.pointer (Option.some (Go.Addr.mk 1002 0 Option.none))) = (Go.Value.pointer (Option.some (Go.Addr.mk 1002 0 Option.none)))) ∧
 (((Go.Value.pointer (Option.some (Go.Addr.mk 1002 0 Option.none))) = (Go.Value.pointer (Option.some (Go.Addr.mk 1002 0 Option.none)))) ∧
 (((Value.bool true) = (Value.bool true)) ∧
 (((Value.bool true) = (Value.bool true)) ∧
 (((Value.bool false) = (Value.bool false)) ∧
 (((Go.Value.pointer (Option.some (Go.Addr.mk 1002 2 Option.none))) = (Go.Value.pointer (Option.some (Go.Addr.mk 1002 2 Option.none)))) ∧
 (((Go.Value.pointer (Option.some (Go.Addr.mk 1002 0 Option.none))) = (Go.Value.pointer (Option.some (Go.Addr.mk 1002 0 Option.none)))) ∧
 (((Go.Value.pointer (Option.some (Go.Addr.mk 1002 0 Option.none))) = (Go.Value.pointer (Option.some (Go.Addr.mk 1002 0 Option.none)))) ∧
 True))))))))))))))))) ∧
 (True ∧
 (bcase (decide (IntKind.wrap .i64 (IntKind.wrap .i64 (IntKind.wrap .i64 (0 + 1) + 1) + 1) < (↑n1 : Int)))
 (∃ s7 : ByteArray,
 ((At (cs1) 3 1 [(Go.Value.string (s7))]) ∧
 (((∃ s8 : ByteArray,
 ((At (cs1) 3 1 [(Go.Value.string (s8))]) ∧
 ((Go.Value.string (s8)) = (Go.Value.string (s7))))) ∧
 ((bcase (decide (IntKind.wrap .i64 (IntKind.wrap .i64 (IntKind.wrap .i64 (0 + 1) + 1) + 1) < (↑n1 : Int)))
 ((Go.Value.pointer (Option.some (Go.Addr.mk 1001 3 Option.none))) = (Go.Value.pointer (Option.some (Go.Addr.mk 1001 3 Option.none))))
 False) ∧
 (((vI (3 : Int)) = (vI (3 : Int))) ∧
 (((Go.Value.pointer (Option.some (Go.Addr.mk 1002 1 Option.none))) = (Go.Value.pointer (Option.some (Go.Addr.mk 1002 1 Option.none)))) ∧
 (((Go.Value.pointer (Option.some (Go.Addr.mk 1002 0 Option.none))) = (Go.Value.pointer (Option.some (Go.Addr.mk 1002 0 Option.none)))) ∧
 (((Go.Value.pointer (Option.some (Go.Addr.mk 1002 0 Option.none))) = (Go.Value.pointer (Option.some (Go.Addr.mk 1002 0 Option.none)))) ∧
 (((Go.Value.slice (Option.some (Go.Addr.mk 1001 0 Option.none)) (n1) (n1)) = (Go.Value.slice (Option.some (Go.Addr.mk 1001 0 Option.none)) (n1) (n1))) ∧
 (((Go.Value.pointer (Option.some (Go.Addr.mk 1002 0 Option.none))) = (Go.Value.pointer (Option.some (Go.Addr.mk 1002 0 Option.none)))) ∧
 (((Go.Value.pointer (Option.some (Go.Addr.mk 1002 0 Option.none))) = (Go.Value.pointer (Option.some (Go.Addr.mk 1002 0 Option.none)))) ∧
 (((Go.Value.pointer (Option.some (Go.Addr.mk 1002 0 Option.none))) = (Go.Value.pointer (Option.some (Go.Addr.mk 1002 0 Option.none)))) ∧
 (((Go.Value.func (Go.Fn.func 61) [].toArray [].toArray) = (Go.Value.func (Go.Fn.func 61) [].toArray [].toArray)) ∧
 (((Value.bool false) = (Value.bool false)) ∧
 (((Value.bool false) = (Value.bool false)) ∧
 True))))))))))))) ∧
 (((Says C 61 [(D.val (Go.Value.string (s7)))] [(D.val (Value.bool true))]) ∧
 ((((Value.bool false) = (Value.bool false)) ∧
 (((Value.bool false) = (Value.bool false)) ∧
 ((bcase (decide (IntKind.wrap .i64 (IntKind.wrap .i64 (IntKind.wrap .i64 (0 + 1) + 1) + 1) < (↑n1 : Int)))
 ((Go.Value.pointer (Option.some (Go.Addr.mk 1001 3 Option.none))) = (Go.Value.pointer (Option.some (Go.Addr.mk 1001 3 Option.none))))
 False) ∧
 (((vI (3 : Int)) = (vI (3 : Int))) ∧
 (((Go.Value.pointer (Option.some (Go.Addr.mk 1002 1 Option.none))) = (Go.Value.pointer (Option.some (Go.Addr.mk 1002 1 Option.none)))) ∧
 (((Go.Value.pointer (Option.some (Go.Addr.mk 1002 0 Option.none))) = (Go.Value.pointer (Option.some (Go.Addr.mk 1002 0 Option.none)))) ∧
 (((Go.Value.pointer (Option.some (Go.Addr.mk 1002 0 Option.none))) = (Go.Value.pointer (Option.some (Go.Addr.mk 1002 0 Option.none)))) ∧
 (((Go.Value.slice (Option.some (Go.Addr.mk 1001 0 Option.none)) (n1) (n1)) = (Go.Value.slice (Option.some (Go.Addr.mk 1001 0 Option.none)) (n1) (n1))) ∧
 (((Go.Value.pointer (Option.some (Go.Addr.mk 1002 0 Option.none))) = (Go.Value.pointer (Option.some (Go.Addr.mk 1002 0 Option.none)))) ∧
 (((Go.Value.pointer (Option.some (Go.Addr.mk 1002 0 Option.none))) = (Go.Value.pointer (Option.some (Go.Addr.mk 1002 0 Option.none)))) ∧
 (((Go.Value.pointer (Option.some (Go.Addr.mk 1002 0 Option.none))) = (Go.Value.pointer (Option.some (Go.Addr.mk 1002 0 Option.none)))) ∧
 (((Value.bool false) = (Value.bool false)) ∧
 True)))))))))))) ∧
 (bcase (decide (IntKind.wrap .i64 (IntKind.wrap .i64 (IntKind.wrap .i64 (0 + 1) + 1) + 1) < (↑n1 : Int)))
 (∃ s8 : ByteArray,
 ((At (cs1) 3 1 [(Go.Value.string (s8))]) ∧
 (((∃ s9 : ByteArray,
 ((At (cs1) 3 1 [(Go.Value.string (s9))]) ∧
 ((Go.Value.string (s9)) = (Go.Value.string (s8))))) ∧
 ((bcase (decide (IntKind.wrap .i64 (IntKind.wrap .i64 (IntKind.wrap .i64 (0 + 1) + 1) + 1) < (↑n1 : Int)))
 ((Go.Value.pointer (Option.some (Go.Addr.mk 1001 3 Option.none))) = (Go.Value.pointer (Option.some (Go.Addr.mk 1001 3 Option.none))))
 False) ∧
 (((vI (3 : Int)) = (vI (3 : Int))) ∧
 (((Go.Value.pointer (Option.some (Go.Addr.mk 1002 1 Option.none))) = (Go.Value.pointer (Option.some (Go.Addr.mk 1002 1 Option.none)))) ∧
 (((Go.Value.pointer (Option.some (Go.Addr.mk 1002 0 Option.none))) = (Go.Value.pointer (Option.some (Go.Addr.mk 1002 0 Option.none)))) ∧
 (((Go.Value.pointer (Option.some (Go.Addr.mk 1002 0 Option.none))) = (Go.Value.pointer (Option.some (Go.Addr.mk 1002 0 Option.none)))) ∧
 (((Go.Value.slice (Option.some (Go.Addr.mk 1001 0 Option.none)) (n1) (n1)) = (Go.Value.slice (Option.some (Go.Addr.mk 1001 0 Option.none)) (n1) (n1))) ∧
 (((Go.Value.pointer (Option.some (Go.Addr.mk 1002 0 Option.none))) = (Go.Value.pointer (Option.some (Go.Addr.mk 1002 0 Option.none)))) ∧
 (((Go.Value.pointer (Option.some (Go.Addr.mk 1002 0 Option.none))) = (Go.Value.pointer (Option.some (Go.Addr.mk 1002 0 Option.none)))) ∧
 (((Go.Value.pointer (Option.some (Go.Addr.mk 1002 0 Option.none))) = (Go.Value.pointer (Option.some (Go.Addr.mk 1002 0 Option.none)))) ∧
 True)))))))))) ∧
 (True ∧
 (∃ n4 : Int,
 ((Says C 60 [(D.val (Go.Value.string (s8)))] [(D.val (vI n4))]) ∧
 ((((Go.Value.pointer (Option.some (Go.Addr.mk 1002 0 Option.none))) = (Go.Value.pointer (Option.some (Go.Addr.mk 1002 0 Option.none)))) ∧
 True) ∧
 (bcase (decide (IntKind.wrap .i64 (IntKind.wrap .i64 (IntKind.wrap .i64 (IntKind.wrap .i64 (0 + 1) + 1) + 1) + 1) < (↑n1 : Int)))
 ((((Value.bool true) = (Value.bool true)) ∧
 ((bcase (decide (IntKind.wrap .i64 (IntKind.wrap .i64 (IntKind.wrap .i64 (IntKind.wrap .i64 (0 + 1) + 1) + 1) + 1) < (↑n1 : Int)))
 ((Value.bool true) = (Value.bool true))
 ((Value.bool false) = (Value.bool true))) ∧
 (((vI ((↑n1 : Int))) = (vI ((↑n1 : Int)))) ∧
 (((Go.Value.slice (Option.some (Go.Addr.mk 1001 0 Option.none)) (n1) (n1)) = (Go.Value.slice (Option.some (Go.Addr.mk 1001 0 Option.none)) (n1) (n1))) ∧
 (((Go.Value.pointer (Option.some (Go.Addr.mk 1002 0 Option.none))) = (Go.Value.pointer (Option.some (Go.Addr.mk 1002 0 Option.none)))) ∧
 (((Go.Value.pointer (Option.some (Go.Addr.mk 1002 0 Option.none))) = (Go.Value.pointer (Option.some (Go.Addr.mk 1002 0 Option.none)))) ∧
 (((Go.Value.pointer (Option.some (Go.Addr.mk 1002 0 Option.none))) = (Go.Value.pointer (Option.some (Go.Addr.mk 1002 0 Option.none)))) ∧
 (((vI (4 : Int)) = (vI (4 : Int))) ∧
 (((Go.Value.pointer (Option.some (Go.Addr.mk 1002 1 Option.none))) = (Go.Value.pointer (Option.some (Go.Addr.mk 1002 1 Option.none)))) ∧
 (((Go.Value.pointer (Option.some (Go.Addr.mk 1002 0 Option.none))) = (Go.Value.pointer (Option.some (Go.Addr.mk 1002 0 Option.none)))) ∧
 (((Go.Value.pointer (Option.some (Go.Addr.mk 1002 0 Option.none))) = (Go.Value.pointer (Option.some (Go.Addr.mk 1002 0 Option.none)))) ∧
 (((Value.bool true) = (Value.bool true)) ∧
 (((Value.bool true) = (Value.bool true)) ∧
 (((Value.bool false) = (Value.bool false)) ∧
 (((Go.Value.pointer (Option.some (Go.Addr.mk 1002 2 Option.none))) = (Go.Value.pointer (Option.some (Go.Addr.mk 1002 2 Option.none)))) ∧
 (((Go.Value.pointer (Option.some (Go.Addr.mk 1002 0 Option.none))) = (Go.Value.pointer (Option.some (Go.Addr.mk 1002 0 Option.none)))) ∧
 (((Go.Value.pointer (Option.some (Go.Addr.mk 1002 0 Option.none))) = (Go.Value.pointer (Option.some (Go.Addr.mk 1002 0 Option.none)))) ∧
 True))))))))))))))))) ∧
 (True ∧
 (bcase (decide (IntKind.wrap .i64 (IntKind.wrap .i64 (IntKind.wrap .i64 (IntKind.wrap .i64 (0 + 1) + 1) + 1) + 1) < (↑n1 : Int)))
 (∃ s9 : ByteArray,
 ((At (cs1) 4 1 [(Go.Value.string (s9))]) ∧
 (((∃ s10 : ByteArray,
 ((At (cs1) 4 1 [(Go.Value.string (s10))]) ∧
 ((Go.Value.string (s10)) = (Go.Value.string (s9))))) ∧
 ((bcase (decide (IntKind.wrap .i64 (IntKind.wrap .i64 (IntKind.wrap .i64 (IntKind.wrap .i64 (0 + 1) + 1) + 1) + 1) < (↑n1 : Int)))
 ((Go.Value.pointer (Option.some (Go.Addr.mk 1001 4 Option.none))) = (Go.Value.pointer (Option.some (Go.Addr.mk 1001 4 Option.none))))
 False) ∧
 (((vI (4 : Int)) = (vI (4 : Int))) ∧
 (((Go.Value.pointer (Option.some (Go.Addr.mk 1002 1 Option.none))) = (Go.Value.pointer (Option.some (Go.Addr.mk 1002 1 Option.none)))) ∧
 (((Go.Value.pointer (Option.some (Go.Addr.mk 1002 0 Option.none))) = (Go.Value.pointer (Option.some (Go.Addr.mk 1002 0 Option.none)))) ∧
 (((Go.Value.pointer (Option.some (Go.Addr.mk 1002 0 Option.none))) = (Go.Value.pointer (Option.some (Go.Addr.mk 1002 0 Option.none)))) ∧
 (((Go.Value.slice (Option.some (Go.Addr.mk 1001 0 Option.none)) (n1) (n1)) = (Go.Value.slice (Option.some (Go.Addr.mk 1001 0 Option.none)) (n1) (n1))) ∧
 (((Go.Value.pointer (Option.some (Go.Addr.mk 1002 0 Option.none))) = (Go.Value.pointer (Option.some (Go.Addr.mk 1002 0 Option.none)))) ∧
 (((Go.Value.pointer (Option.some (Go.Addr.mk 1002 0 Option.none))) = (Go.Value.pointer (Option.some (Go.Addr.mk 1002 0 Option.none)))) ∧
 (((Go.Value.pointer (Option.some (Go.Addr.mk 1002 0 Option.none))) = (Go.Value.pointer (Option.some (Go.Addr.mk 1002 0 Option.none)))) ∧
 (((Go.Value.func (Go.Fn.func 61) [].toArray [].toArray) = (Go.Value.func (Go.Fn.func 61) [].toArray [].toArray)) ∧
 (((Value.bool false) = (Value.bool false)) ∧
 (((Value.bool false) = (Value.bool false)) ∧
 True))))))))))))) ∧
 (((Says C 61 [(D.val (Go.Value.string (s9)))] [(D.val (Value.bool true))]) ∧
 ((((Value.bool false) = (Value.bool false)) ∧
 (((Value.bool false) = (Value.bool false)) ∧
 ((bcase (decide (IntKind.wrap .i64 (IntKind.wrap .i64 (IntKind.wrap .i64 (IntKind.wrap .i64 (0 + 1) + 1) + 1) + 1) < (↑n1 : Int)))
 ((Go.Value.pointer (Option.some (Go.Addr.mk 1001 4 Option.none))) = (Go.Value.pointer (Option.some (Go.Addr.mk 1001 4 Option.none))))
 False) ∧
 (((vI (4 : Int)) = (vI (4 : Int))) ∧
 (((Go.Value.pointer (Option.some (Go.Addr.mk 1002 1 Option.none))) = (Go.Value.pointer (Option.some (Go.Addr.mk 1002 1 Option.none)))) ∧
 (((Go.Value.pointer (Option.some (Go.Addr.mk 1002 0 Option.none))) = (Go.Value.pointer (Option.some (Go.Addr.mk 1002 0 Option.none)))) ∧
 (((Go.Value.pointer (Option.some (Go.Addr.mk 1002 0 Option.none))) = (Go.Value.pointer (Option.some (Go.Addr.mk 1002 0 Option.none)))) ∧
 (((Go.Value.slice (Option.some (Go.Addr.mk 1001 0 Option.none)) (n1) (n1)) = (Go.Value.slice (Option.some (Go.Addr.mk 1001 0 Option.none)) (n1) (n1))) ∧
 (((Go.Value.pointer (Option.some (Go.Addr.mk 1002 0 Option.none))) = (Go.Value.pointer (Option.some (Go.Addr.mk 1002 0 Option.none)))) ∧
 (((Go.Value.pointer (Option.some (Go.Addr.mk 1002 0 Option.none))) = (Go.Value.pointer (Option.some (Go.Addr.mk 1002 0 Option.none)))) ∧
 (((Go.Value.pointer (Option.some (Go.Addr.mk 1002 0 Option.none))) = (Go.Value.pointer (Option.some (Go.Addr.mk 1002 0 Option.none)))) ∧
 (((Value.bool false) = (Value.bool false)) ∧
 True)))))))))))) ∧
 (bcase (decide (IntKind.wrap .i64 (IntKind.wrap .i64 (IntKind.wrap .i64 (IntKind.wrap .i64 (0 + 1) + 1) + 1) + 1) < (↑n1 : Int)))
 (∃ s10 : ByteArray,
 ((At (cs1) 4 1 [(Go.Value.string (s10))]) ∧
 (((∃ s11 : ByteArray,
 ((At (cs1) 4 1 [(Go.Value.string (s11))]) ∧
 ((Go.Value.string (s11)) = (Go.Value.string (s10))))) ∧
 ((bcase (decide (IntKind.wrap .i64 (IntKind.wrap .i64 (IntKind.wrap .i64 (IntKind.wrap .i64 (0 + 1) + 1) + 1) + 1) < (↑n1 : Int)))
 ((Go.Value.pointer (Option.some (Go.Addr.mk 1001 4 Option.none))) = (Go.Value.pointer (Option.some (Go.Addr.mk 1001 4 Option.none))))
 False) ∧
 (((vI (4 : Int)) = (vI (4 : Int))) ∧
 (((Go.Value.pointer (Option.some (Go.Addr.mk 1002 1 Option.none))) = (Go.Value.pointer (Option.some (Go.Addr.mk 1002 1 Option.none)))) ∧
 (((Go.Value.pointer (Option.some (Go.Addr.mk 1002 0 Option.none))) = (Go.Value.pointer (Option.some (Go.Addr.mk 1002 0 Option.none)))) ∧
 (((Go.Value.pointer (Option.some (Go.Addr.mk 1002 0 Option.none))) = (Go.Value.pointer (Option.some (Go.Addr.mk 1002 0 Option.none)))) ∧
 (((Go.Value.slice (Option.some (Go.Addr.mk 1001 0 Option.none)) (n1) (n1)) = (Go.Value.slice (Option.some (Go.Addr.mk 1001 0 Option.none)) (n1) (n1))) ∧
 (((Go.Value.pointer (Option.some (Go.Addr.mk 1002 0 Option.none))) = (Go.Value.pointer (Option.some (Go.Addr.mk 1002 0 Option.none)))) ∧
 (((Go.Value.pointer (Option.some (Go.Addr.mk 1002 0 Option.none))) = (Go.Value.pointer (Option.some (Go.Addr.mk 1002 0 Option.none)))) ∧
 (((Go.Value.pointer (Option.some (Go.Addr.mk 1002 0 Option.none))) = (Go.Value.pointer (Option.some (Go.Addr.mk 1002 0 Option.none)))) ∧
 True)))))))))) ∧
 (True ∧
 (∃ n5 : Int,
 ((Says C 60 [(D.val (Go.Value.string (s10)))] [(D.val (vI n5))]) ∧
 (bcase (decide (IntKind.wrap .i64 (IntKind.wrap .i64 (IntKind.wrap .i64 (IntKind.wrap .i64 (IntKind.wrap .i64 (0 + 1) + 1) + 1) + 1) + 1) < (↑n1 : Int)))
 ((((Value.bool true) = (Value.bool true)) ∧
 ((bcase (decide (IntKind.wrap .i64 (IntKind.wrap .i64 (IntKind.wrap .i64 (IntKind.wrap .i64 (IntKind.wrap .i64 (0 + 1) + 1) + 1) + 1) + 1) < (↑n1 : Int)))
 ((Value.bool true) = (Value.bool true))
 ((Value.bool false) = (Value.bool true))) ∧
 (((vI ((↑n1 : Int))) = (vI ((↑n1 : Int)))) ∧
 (((Go.Value.slice (Option.some (Go.Addr.mk 1001 0 Option.none)) (n1) (n1)) = (Go.Value.slice (Option.some (Go.Addr.mk 1001 0 Option.none)) (n1) (n1))) ∧
 (((Go.Value.pointer (Option.some (Go.Addr.mk 1002 0 Option.none))) = (Go.Value.pointer (Option.some (Go.Addr.mk 1002 0 Option.none)))) ∧
 (((Go.Value.pointer (Option.some (Go.Addr.mk 1002 0 Option.none))) = (Go.Value.pointer (Option.some (Go.Addr.mk 1002 0 Option.none)))) ∧
 (((Go.Value.pointer (Option.some (Go.Addr.mk 1002 0 Option.none))) = (Go.Value.pointer (Option.some (Go.Addr.mk 1002 0 Option.none)))) ∧
 (((vI (5 : Int)) = (vI (5 : Int))) ∧
 (((Go.Value.pointer (Option.some (Go.Addr.mk 1002 1 Option.none))) = (Go.Value.pointer (Option.some (Go.Addr.mk 1002 1 Option.none)))) ∧
 (((Go.Value.pointer (Option.some (Go.Addr.mk 1002 0 Option.none))) = (Go.Value.pointer (Option.some (Go.Addr.mk 1002 0 Option.none)))) ∧
 (((Go.Value.pointer (Option.some (Go.Addr.mk 1002 0 Option.none))) = (Go.Value.pointer (Option.some (Go.Addr.mk 1002 0 Option.none)))) ∧
 (((Value.bool true) = (Value.bool true)) ∧
 (((Value.bool true) = (Value.bool true)) ∧
 (((Value.bool false) = (Value.bool false)) ∧
 (((Go.Value.pointer (Option.some (Go.Addr.mk 1002 2 Option.none))) = (Go.Value.pointer (Option.some (Go.Addr.mk 1002 2 Option.none)))) ∧
 (((Go.Value.pointer (Option.some (Go.Addr.mk 1002 0 Option.none))) = (Go.Value.pointer (Option.some (Go.Addr.mk 1002 0 Option.none)))) ∧
 (((Go.Value.pointer (Option.some (Go.Addr.mk 1002 0 Option.none))) = (Go.Value.pointer (Option.some (Go.Addr.mk 1002 0 Option.none)))) ∧
 True))))))))))))))))) ∧
 (True ∧
 (k [(D.agg [(D.val (Go.Value.string ({ data := #[] }))), (D.val (vI (0 : Int))), (D.val (vI (0 : Int))), (D.val (vI (0 : Int))), (D.val (vI (0 : Int)))]), (D.val (vI (7 : Int)))])))
 ((((Value.bool false) = (Value.bool false)) ∧
 ((bcase (decide (IntKind.wrap .i64 (IntKind.wrap .i64 (IntKind.wrap .i64 (IntKind.wrap .i64 (IntKind.wrap .i64 (0 + 1) + 1) + 1) + 1) + 1) < (↑n1 : Int)))
 ((Value.bool true) = (Value.bool false))
 ((Value.bool false) = (Value.bool false))) ∧
 (((vI ((↑n1 : Int))) = (vI ((↑n1 : Int)))) ∧
 (((Go.Value.slice (Option.some (Go.Addr.mk 1001 0 Option.none)) (n1) (n1)) = (Go.Value.slice (Option.some (Go.Addr.mk 1001 0 Option.none)) (n1) (n1))) ∧
 (((Go.Value.pointer (Option.some (Go.Addr.mk 1002 0 Option.none))) = (Go.Value.pointer (Option.some (Go.Addr.mk 1002 0 Option.none)))) ∧
 (((Go.Value.pointer (Option.some (Go.Addr.mk 1002 0 Option.none))) = (Go.Value.pointer (Option.some (Go.Addr.mk 1002 0 Option.none)))) ∧
 (((Go.Value.pointer (Option.some (Go.Addr.mk 1002 0 Option.none))) = (Go.Value.pointer (Option.some (Go.Addr.mk 1002 0 Option.none)))) ∧
 (((vI (5 : Int)) = (vI (5 : Int))) ∧
 (((Go.Value.pointer (Option.some (Go.Addr.mk 1002 1 Option.none))) = (Go.Value.pointer (Option.some (Go.Addr.mk 1002 1 Option.none)))) ∧
 (((Go.Value.pointer (Option.some (Go.Addr.mk 1002 0 Option.none))) = (Go.Value.pointer (Option.some (Go.Addr.mk 1002 0 Option.none)))) ∧
 (((Go.Value.pointer (Option.some (Go.Addr.mk 1002 0 Option.none))) = (Go.Value.pointer (Option.some (Go.Addr.mk 1002 0 Option.none)))) ∧
 (((Value.bool true) = (Value.bool true)) ∧
 (((Value.bool true) = (Value.bool true)) ∧
 (((Value.bool false) = (Value.bool false)) ∧
 (((Go.Value.pointer (Option.some (Go.Addr.mk 1002 2 Option.none))) = (Go.Value.pointer (Option.some (Go.Addr.mk 1002 2 Option.none)))) ∧
 (((Go.Value.pointer (Option.some (Go.Addr.mk 1002 0 Option.none))) = (Go.Value.pointer (Option.some (Go.Addr.mk 1002 0 Option.none)))) ∧
 (((Go.Value.pointer (Option.some (Go.Addr.mk 1002 0 Option.none))) = (Go.Value.pointer (Option.some (Go.Addr.mk 1002 0 Option.none)))) ∧
 True))))))))))))))))) ∧
 (True ∧
 (∃ n6 : Int,
 ((Says C 9 [(D.agg [(D.val (Go.Value.string (s2))), (D.val (vI n2)), (D.val (vI n3)), (D.val (vI n4)), (D.val (vI n5))])] [(D.val (vI n6))]) ∧
 (bcase (n6 != 0)
 (k [(D.agg [(D.val (Go.Value.string ({ data := #[] }))), (D.val (vI (0 : Int))), (D.val (vI (0 : Int))), (D.val (vI (0 : Int))), (D.val (vI (0 : Int)))]), (D.val (vI n6))])
 (k [(D.agg [(D.val (Go.Value.string (s2))), (D.val (vI n2)), (D.val (vI n3)), (D.val (vI n4)), (D.val (vI n5))]), (D.val (vI (0 : Int)))])))))))))))))
 False))) ∨
 ((Says C 61 [(D.val (Go.Value.string (s9)))] [(D.val (Value.bool false))]) ∧
 ((((Value.bool true) = (Value.bool true)) ∧
 (((Value.bool true) = (Value.bool true)) ∧
 ((bcase (decide (IntKind.wrap .i64 (IntKind.wrap .i64 (IntKind.wrap .i64 (IntKind.wrap .i64 (0 + 1) + 1) + 1) + 1) < (↑n1 : Int)))
 ((Go.Value.pointer (Option.some (Go.Addr.mk 1001 4 Option.none))) = (Go.Value.pointer (Option.some (Go.Addr.mk 1001 4 Option.none))))
 False) ∧
 (((vI (4 : Int)) = (vI (4 : Int))) ∧
 (((Go.Value.pointer (Option.some (Go.Addr.mk 1002 1 Option.none))) = (Go.Value.pointer (Option.some (Go.Addr.mk 1002 1 Option.none)))) ∧
 (((Go.Value.pointer (Option.some (Go.Addr.mk 1002 0 Option.none))) = (Go.Value.pointer (Option.some (Go.Addr.mk 1002 0 Option.none)))) ∧
 (((Go.Value.pointer (Option.some (Go.Addr.mk 1002 0 Option.none))) = (Go.Value.pointer (Option.some (Go.Addr.mk 1002 0 Option.none)))) ∧
 (((Go.Value.slice (Option.some (Go.Addr.mk 1001 0 Option.none)) (n1) (n1)) = (Go.Value.slice (Option.some (Go.Addr.mk 1001 0 Option.none)) (n1) (n1))) ∧
 (((Go.Value.pointer (Option.some (Go.Addr.mk 1002 0 Option.none))) = (Go.Value.pointer (Option.some (Go.Addr.mk 1002 0 Option.none)))) ∧
 (((Go.Value.pointer (Option.some (Go.Addr.mk 1002 0 Option.none))) = (Go.Value.pointer (Option.some (Go.Addr.mk 1002 0 Option.none)))) ∧
 (((Go.Value.pointer (Option.some (Go.Addr.mk 1002 0 Option.none))) = (Go.Value.pointer (Option.some (Go.Addr.mk 1002 0 Option.none)))) ∧
 (((Value.bool false) = (Value.bool false)) ∧
 True)))))))))))) ∧
 (∃ n5 : Int,
 ((Says C 60 [(D.val (Go.Value.string ({ data := #[] })))] [(D.val (vI n5))]) ∧
 (k [(D.agg [(D.val (Go.Value.string ({ data := #[] }))), (D.val (vI (0 : Int))), (D.val (vI (0 : Int))), (D.val (vI (0 : Int))), (D.val (vI (0 : Int)))]), (D.val (vI (7 : Int)))])))))))))
 False)))
 ((((Value.bool false) = (Value.bool false)) ∧
 ((bcase (decide (IntKind.wrap .i64 (IntKind.wrap .i64 (IntKind.wrap .i64 (IntKind.wrap .i64 (0 + 1) + 1) + 1) + 1) < (↑n1 : Int)))
 ((Value.bool true) = (Value.bool false))
 ((Value.bool false) = (Value.bool false))) ∧
 (((vI ((↑n1 : Int))) = (vI ((↑n1 : Int)))) ∧
 (((Go.Value.slice (Option.some (Go.Addr.mk 1001 0 Option.none)) (n1) (n1)) = (Go.Value.slice (Option.some (Go.Addr.mk 1001 0 Option.none)) (n1) (n1))) ∧
 (((Go.Value.pointer (Option.some (Go.Addr.mk 1002 0 Option.none))) = (Go.Value.pointer (Option.some (Go.Addr.mk 1002 0 Option.none)))) ∧
 (((Go.Value.pointer (Option.some (Go.Addr.mk 1002 0 Option.none))) = (Go.Value.pointer (Option.some (Go.Addr.mk 1002 0 Option.none)))) ∧
 (((Go.Value.pointer (Option.some (Go.Addr.mk 1002 0 Option.none))) = (Go.Value.pointer (Option.some (Go.Addr.mk 1002 0 Option.none)))) ∧
 (((vI (4 : Int)) = (vI (4 : Int))) ∧
 (((Go.Value.pointer (Option.some (Go.Addr.mk 1002 1 Option.none))) = (Go.Value.pointer (Option.some (Go.Addr.mk 1002 1 Option.none)))) ∧
 (((Go.Value.pointer (Option.some (Go.Addr.mk 1002 0 Option.none))) = (Go.Value.pointer (Option.some (Go.Addr.mk 1002 0 Option.none)))) ∧
 (((Go.Value.pointer (Option.some (Go.Addr.mk 1002 0 Option.none))) = (Go.Value.pointer (Option.some (Go.Addr.mk 1002 0 Option.none)))) ∧
 (((Value.bool true) = (Value.bool true)) ∧
 (((Value.bool true) = (Value.bool true)) ∧
 (((Value.bool false) = (Value.bool false)) ∧
 (((Go.Value.pointer (Option.some (Go.Addr.mk 1002 2 Option.none))) = (Go.Value.pointer (Option.some (Go.Addr.mk 1002 2 Option.none)))) ∧
 (((Go.Value.pointer (Option.some (Go.Addr.mk 1002 0 Option.none))) = (Go.Value.pointer (Option.some (Go.Addr.mk 1002 0 Option.none)))) ∧
 (((Go.Value.pointer (Option.some (Go.Addr.mk 1002 0 Option.none))) = (Go.Value.pointer (Option.some (Go.Addr.mk 1002 0 Option.none)))) ∧
 True))))))))))))))))) ∧
 (True ∧
 ((((Go.Value.tuple [].toArray) = (Go.Value.tuple [].toArray)) ∧
 (((Go.Value.tuple [].toArray) = (Go.Value.tuple [].toArray)) ∧
 (((Go.Value.tuple [].toArray) = (Go.Value.tuple [].toArray)) ∧
 (((Go.Value.tuple [].toArray) = (Go.Value.tuple [].toArray)) ∧
 (((Go.Value.tuple [].toArray) = (Go.Value.tuple [].toArray)) ∧
 (((Go.Value.tuple [].toArray) = (Go.Value.tuple [].toArray)) ∧
 (((Go.Value.tuple [].toArray) = (Go.Value.tuple [].toArray)) ∧
 (((Go.Value.tuple [].toArray) = (Go.Value.tuple [].toArray)) ∧
 (((Go.Value.tuple [].toArray) = (Go.Value.tuple [].toArray)) ∧
 (((Go.Value.tuple [].toArray) = (Go.Value.tuple [].toArray)) ∧
 (((Go.Value.tuple [].toArray) = (Go.Value.tuple [].toArray)) ∧
 (((Value.bool true) = (Value.bool true)) ∧
 (((Value.bool true) = (Value.bool true)) ∧
 True))))))))))))) ∧
 ((((Value.bool true) = (Value.bool true)) ∧
 (((Go.Value.tuple [].toArray) = (Go.Value.tuple [].toArray)) ∧
 (((Go.Value.tuple [].toArray) = (Go.Value.tuple [].toArray)) ∧
 (((Go.Value.tuple [].toArray) = (Go.Value.tuple [].toArray)) ∧
 (((Go.Value.tuple [].toArray) = (Go.Value.tuple [].toArray)) ∧
 (((Go.Value.tuple [].toArray) = (Go.Value.tuple [].toArray)) ∧
 (((Go.Value.tuple [].toArray) = (Go.Value.tuple [].toArray)) ∧
 (((Go.Value.tuple [].toArray) = (Go.Value.tuple [].toArray)) ∧
 (((Go.Value.tuple [].toArray) = (Go.Value.tuple [].toArray)) ∧
 (((Go.Value.tuple [].toArray) = (Go.Value.tuple [].toArray)) ∧
 (((Go.Value.tuple [].toArray) = (Go.Value.tuple [].toArray)) ∧
 (((Value.bool true) = (Value.bool true)) ∧
 True)))))))))))) ∧
 (∃ n5 : Int,
 ((Says C 60 [(D.val (Go.Value.string ({ data := #[] })))] [(D.val (vI n5))]) ∧
 (k [(D.agg [(D.val (Go.Value.string ({ data := #[] }))), (D.val (vI (0 : Int))), (D.val (vI (0 : Int))), (D.val (vI (0 : Int))), (D.val (vI (0 : Int)))]), (D.val (vI (7 : Int)))])))))))))))))))
 False))) ∨
 ((Says C 61 [(D.val (Go.Value.string (s7)))] [(D.val (Value.bool false))]) ∧
 ((((Value.bool true) = (Value.bool true)) ∧
 (((Value.bool true) = (Value.bool true)) ∧
 ((bcase (decide (IntKind.wrap .i64 (IntKind.wrap .i64 (IntKind.wrap .i64 (0 + 1) + 1) + 1) < (↑n1 : Int)))
 ((Go.Value.pointer (Option.some (Go.Addr.mk 1001 3 Option.none))) = (Go.Value.pointer (Option.some (Go.Addr.mk 1001 3 Option.none))))
 False) ∧
 (((vI (3 : Int)) = (vI (3 : Int))) ∧
 (((Go.Value.pointer (Option.some (Go.Addr.mk 1002 1 Option.none))) = (Go.Value.pointer (Option.some (Go.Addr.mk 1002 1 Option.none)))) ∧
 (((Go.Value.pointer (Option.some (Go.Addr.mk 1002 0 Option.none))) = (Go.Value.pointer (Option.some (Go.Addr.mk 1002 0 Option.none)))) ∧
 (((Go.Value.pointer (Option.some (Go.Addr.mk 1002 0 Option.none))) = (Go.Value.pointer (Option.some (Go.Addr.mk 1002 0 Option.none)))) ∧
 (((Go.Value.slice (Option.some (Go.Addr.mk 1001 0 Option.none)) (n1) (n1)) = (Go.Value.slice (Option.some (Go.Addr.mk 1001 0 Option.none)) (n1) (n1))) ∧
 (((Go.Value.pointer (Option.some (Go.Addr.mk 1002 0 Option.none))) = (Go.Value.pointer (Option.some (Go.Addr.mk 1002 0 Option.none)))) ∧
 (((Go.Value.pointer (Option.some (Go.Addr.mk 1002 0 Option.none))) = (Go.Value.pointer (Option.some (Go.Addr.mk 1002 0 Option.none)))) ∧
 (((Go.Value.pointer (Option.some (Go.Addr.mk 1002 0 Option.none))) = (Go.Value.pointer (Option.some (Go.Addr.mk 1002 0 Option.none)))) ∧
 (((Value.bool false) = (Value.bool false)) ∧
 True)))))))))))) ∧
 (∃ n4 : Int,
 ((Says C 60 [(D.val (Go.Value.string ({ data := #[] })))] [(D.val (vI n4))]) ∧
 ((((Go.Value.pointer (Option.some (Go.Addr.mk 1002 0 Option.none))) = (Go.Value.pointer (Option.some (Go.Addr.mk 1002 0 Option.none)))) ∧
 True) ∧
 ((((Value.bool false) = (Value.bool false)) ∧
 (((Go.Value.tuple [].toArray) = (Go.Value.tuple [].toArray)) ∧
 (((Go.Value.tuple [].toArray) = (Go.Value.tuple [].toArray)) ∧
 (((Go.Value.tuple [].toArray) = (Go.Value.tuple [].toArray)) ∧
 (((Go.Value.tuple [].toArray) = (Go.Value.tuple [].toArray)) ∧
 (((Go.Value.tuple [].toArray) = (Go.Value.tuple [].toArray)) ∧
 (((Go.Value.tuple [].toArray) = (Go.Value.tuple [].toArray)) ∧
 (((Go.Value.tuple [].toArray) = (Go.Value.tuple [].toArray)) ∧
 (((Go.Value.tuple [].toArray) = (Go.Value.tuple [].toArray)) ∧
 (((Go.Value.tuple [].toArray) = (Go.Value.tuple [].toArray)) ∧
 (((Go.Value.tuple [].toArray) = (Go.Value.tuple [].toArray)) ∧
 (((Value.bool false) = (Value.bool false)) ∧
 (((Value.bool false) = (Value.bool false)) ∧
 (((Value.bool true) = (Value.bool true)) ∧
 (((Go.Value.pointer (Option.some (Go.Addr.mk 1002 2 Option.none))) = (Go.Value.pointer (Option.some (Go.Addr.mk 1002 2 Option.none)))) ∧
 (((Go.Value.pointer (Option.some (Go.Addr.mk 1002 0 Option.none))) = (Go.Value.pointer (Option.some (Go.Addr.mk 1002 0 Option.none)))) ∧
 (((Go.Value.pointer (Option.some (Go.Addr.mk 1002 0 Option.none))) = (Go.Value.pointer (Option.some (Go.Addr.mk 1002 0 Option.none)))) ∧
 True))))))))))))))))) ∧
 (True ∧
 ((((Go.Value.tuple [].toArray) = (Go.Value.tuple [].toArray)) ∧
 (((Go.Value.tuple [].toArray) = (Go.Value.tuple [].toArray)) ∧
 (((Go.Value.tuple [].toArray) = (Go.Value.tuple [].toArray)) ∧
 (((Go.Value.tuple [].toArray) = (Go.Value.tuple [].toArray)) ∧
 (((Go.Value.tuple [].toArray) = (Go.Value.tuple [].toArray)) ∧
 (((Go.Value.tuple [].toArray) = (Go.Value.tuple [].toArray)) ∧
 (((Go.Value.tuple [].toArray) = (Go.Value.tuple [].toArray)) ∧
 (((Go.Value.tuple [].toArray) = (Go.Value.tuple [].toArray)) ∧
 (((Go.Value.tuple [].toArray) = (Go.Value.tuple [].toArray)) ∧
 (((Go.Value.tuple [].toArray) = (Go.Value.tuple [].toArray)) ∧
 (((Go.Value.tuple [].toArray) = (Go.Value.tuple [].toArray)) ∧
 (((Value.bool true) = (Value.bool true)) ∧
 (((Value.bool true) = (Value.bool true)) ∧
 True))))))))))))) ∧
 ((((Value.bool true) = (Value.bool true)) ∧
 (((Go.Value.tuple [].toArray) = (Go.Value.tuple [].toArray)) ∧
 (((Go.Value.tuple [].toArray) = (Go.Value.tuple [].toArray)) ∧
 (((Go.Value.tuple [].toArray) = (Go.Value.tuple [].toArray)) ∧
 (((Go.Value.tuple [].toArray) = (Go.Value.tuple [].toArray)) ∧
 (((Go.Value.tuple [].toArray) = (Go.Value.tuple [].toArray)) ∧
 (((Go.Value.tuple [].toArray) = (Go.Value.tuple [].toArray)) ∧
 (((Go.Value.tuple [].toArray) = (Go.Value.tuple [].toArray)) ∧
 (((Go.Value.tuple [].toArray) = (Go.Value.tuple [].toArray)) ∧
 (((Go.Value.tuple [].toArray) = (Go.Value.tuple [].toArray)) ∧
 (((Go.Value.tuple [].toArray) = (Go.Value.tuple [].toArray)) ∧
 (((Value.bool true) = (Value.bool true)) ∧
 True)))))))))))) ∧
 (∃ n5 : Int,
 ((Says C 60 [(D.val (Go.Value.string ({ data := #[] })))] [(D.val (vI n5))]) ∧
 (k [(D.agg [(D.val (Go.Value.string ({ data := #[] }))), (D.val (vI (0 : Int))), (D.val (vI (0 : Int))), (D.val (vI (0 : Int))), (D.val (vI (0 : Int)))]), (D.val (vI (7 : Int)))]))))))))))))))))
 False)))
 ((((Value.bool false) = (Value.bool false)) ∧
 ((bcase (decide (IntKind.wrap .i64 (IntKind.wrap .i64 (IntKind.wrap .i64 (0 + 1) + 1) + 1) < (↑n1 : Int)))
 ((Value.bool true) = (Value.bool false))
 ((Value.bool false) = (Value.bool false))) ∧
 (((vI ((↑n1 : Int))) = (vI ((↑n1 : Int)))) ∧
 (((Go.Value.slice (Option.some (Go.Addr.mk 1001 0 Option.none)) (n1) (n1)) = (Go.Value.slice (Option.some (Go.Addr.mk 1001 0 Option.none)) (n1) (n1))) ∧
 (((Go.Value.pointer (Option.some (Go.Addr.mk 1002 0 Option.none))) = (Go.Value.pointer (Option.some (Go.Addr.mk 1002 0 Option.none)))) ∧
 (((Go.Value.pointer (Option.some (Go.Addr.mk 1002 0 Option.none))) = (Go.Value.pointer (Option.some (Go.Addr.mk 1002 0 Option.none)))) ∧
 (((Go.Value.pointer (Option.some (Go.Addr.mk 1002 0 Option.none))) = (Go.Value.pointer (Option.some (Go.Addr.mk 1002 0 Option.none)))) ∧
 (((vI (3 : Int)) = (vI (3 : Int))) ∧
 (((Go.Value.pointer (Option.some (Go.Addr.mk 1002 1 Option.none))) = (Go.Value.pointer (Option.some (Go.Addr.mk 1002 1 Option.none)))) ∧
 (((Go.Value.pointer (Option.some (Go.Addr.mk 1002 0 Option.none))) = (Go.Value.pointer (Option.some (Go.Addr.mk 1002 0 Option.none)))) ∧
 (((Go.Value.pointer (Option.some (Go.Addr.mk 1002 0 Option.none))) = (Go.Value.pointer (Option.some (Go.Addr.mk 1002 0 Option.none)))) ∧
 (((Value.bool true) = (Value.bool true)) ∧
 (((Value.bool true) = (Value.bool true)) ∧
 (((Value.bool false) = (Value.bool false)) ∧
 (((Go.Value.pointer (Option.some (Go.Addr.mk 1002 2 Option.none))) = (Go.Value.pointer (Option.some (Go.Addr.mk 1002 2 Option.none)))) ∧
 (((Go.Value.pointer (Option.some (Go.Addr.mk 1002 0 Option.none))) = (Go.Value.pointer (Option.some (Go.Addr.mk 1002 0 Option.none)))) ∧
 (((Go.Value.pointer (Option.some (Go.Addr.mk 1002 0 Option.none))) = (Go.Value.pointer (Option.some (Go.Addr.mk 1002 0 Option.none)))) ∧
 True))))))))))))))))) ∧
 (True ∧
 ((((Go.Value.tuple [].toArray) = (Go.Value.tuple [].toArray)) ∧
 (((Go.Value.tuple [].toArray) = (Go.Value.tuple [].toArray)) ∧
 (((Go.Value.tuple [].toArray) = (Go.Value.tuple [].toArray)) ∧
 (((Go.Value.tuple [].toArray) = (Go.Value.tuple [].toArray)) ∧
 (((Go.Value.tuple [].toArray) = (Go.Value.tuple [].toArray)) ∧
 (((Go.Value.tuple [].toArray) = (Go.Value.tuple [].toArray)) ∧
 (((Go.Value.tuple [].toArray) = (Go.Value.tuple [].toArray)) ∧
 (((Go.Value.tuple [].toArray) = (Go.Value.tuple [].toArray)) ∧
 (((Go.Value.tuple [].toArray) = (Go.Value.tuple [].toArray)) ∧
 (((Go.Value.tuple [].toArray) = (Go.Value.tuple [].toArray)) ∧
 (((Go.Value.tuple [].toArray) = (Go.Value.tuple [].toArray)) ∧
 (((Value.bool true) = (Value.bool true)) ∧
 (((Value.bool true) = (Value.bool true)) ∧
 True))))))))))))) ∧
 ((((Value.bool true) = (Value.bool true)) ∧
 (((Go.Value.tuple [].toArray) = (Go.Value.tuple [].toArray)) ∧
 (((Go.Value.tuple [].toArray) = (Go.Value.tuple [].toArray)) ∧
 (((Go.Value.tuple [].toArray) = (Go.Value.tuple [].toArray)) ∧
 (((Go.Value.tuple [].toArray) = (Go.Value.tuple [].toArray)) ∧
 (((Go.Value.tuple [].toArray) = (Go.Value.tuple [].toArray)) ∧
 (((Go.Value.tuple [].toArray) = (Go.Value.tuple [].toArray)) ∧
 (((Go.Value.tuple [].toArray) = (Go.Value.tuple [].toArray)) ∧
 (((Go.Value.tuple [].toArray) = (Go.Value.tuple [].toArray)) ∧
 (((Go.Value.tuple [].toArray) = (Go.Value.tuple [].toArray)) ∧
 (((Go.Value.tuple [].toArray) = (Go.Value.tuple [].toArray)) ∧
 (((Value.bool true) = (Value.bool true)) ∧
 True)))))))))))) ∧
 (∃ n4 : Int,
 ((Says C 60 [(D.val (Go.Value.string ({ data := #[] })))] [(D.val (vI n4))]) ∧
 ((((Go.Value.pointer (Option.some (Go.Addr.mk 1002 0 Option.none))) = (Go.Value.pointer (Option.some (Go.Addr.mk 1002 0 Option.none)))) ∧
 True) ∧
 ((((Value.bool false) = (Value.bool false)) ∧
 (((Go.Value.tuple [].toArray) = (Go.Value.tuple [].toArray)) ∧
 (((Go.Value.tuple [].toArray) = (Go.Value.tuple [].toArray)) ∧
 (((Go.Value.tuple [].toArray) = (Go.Value.tuple [].toArray)) ∧
 (((Go.Value.tuple [].toArray) = (Go.Value.tuple [].toArray)) ∧
 (((Go.Value.tuple [].toArray) = (Go.Value.tuple [].toArray)) ∧
 (((Go.Value.tuple [].toArray) = (Go.Value.tuple [].toArray)) ∧
 (((Go.Value.tuple [].toArray) = (Go.Value.tuple [].toArray)) ∧
 (((Go.Value.tuple [].toArray) = (Go.Value.tuple [].toArray)) ∧
 (((Go.Value.tuple [].toArray) = (Go.Value.tuple [].toArray)) ∧
 (((Go.Value.tuple [].toArray) = (Go.Value.tuple [].toArray)) ∧
 (((Value.bool false) = (Value.bool false)) ∧
 (((Value.bool false) = (Value.bool false)) ∧
 (((Value.bool true) = (Value.bool true)) ∧
 (((Go.Value.pointer (Option.some (Go.Addr.mk 1002 2 Option.none))) = (Go.Value.pointer (Option.some (Go.Addr.mk 1002 2 Option.none)))) ∧
 (((Go.Value.pointer (Option.some (Go.Addr.mk 1002 0 Option.none))) = (Go.Value.pointer (Option.some (Go.Addr.mk 1002 0 Option.none)))) ∧
 (((Go.Value.pointer (Option.some (Go.Addr.mk 1002 0 Option.none))) = (Go.Value.pointer (Option.some (Go.Addr.mk 1002 0 Option.none)))) ∧
 True))))))))))))))))) ∧
 (True ∧
 ((((Go.Value.tuple [].toArray) = (Go.Value.tuple [].toArray)) ∧
 (((Go.Value.tuple [].toArray) = (Go.Value.tuple [].toArray)) ∧
 (((Go.Value.tuple [].toArray) = (Go.Value.tuple [].toArray)) ∧
 (((Go.Value.tuple [].toArray) = (Go.Value.tuple [].toArray)) ∧
 (((Go.Value.tuple [].toArray) = (Go.Value.tuple [].toArray)) ∧
 (((Go.Value.tuple [].toArray) = (Go.Value.tuple [].toArray)) ∧
 (((Go.Value.tuple [].toArray) = (Go.Value.tuple [].toArray)) ∧
 (((Go.Value.tuple [].toArray) = (Go.Value.tuple [].toArray)) ∧
 (((Go.Value.tuple [].toArray) = (Go.Value.tuple [].toArray)) ∧
 (((Go.Value.tuple [].toArray) = (Go.Value.tuple [].toArray)) ∧
 (((Go.Value.tuple [].toArray) = (Go.Value.tuple [].toArray)) ∧
 (((Value.bool true) = (Value.bool true)) ∧
 (((Value.bool true) = (Value.bool true)) ∧
 True))))))))))))) ∧
 ((((Value.bool true) = (Value.bool true)) ∧
 (((Go.Value.tuple [].toArray) = (Go.Value.tuple [].toArray)) ∧
 (((Go.Value.tuple [].toArray) = (Go.Value.tuple [].toArray)) ∧
 (((Go.Value.tuple [].toArray) = (Go.Value.tuple [].toArray)) ∧
 (((Go.Value.tuple [].toArray) = (Go.Value.tuple [].toArray)) ∧
 (((Go.Value.tuple [].toArray) = (Go.Value.tuple [].toArray)) ∧
 (((Go.Value.tuple [].toArray) = (Go.Value.tuple [].toArray)) ∧
 (((Go.Value.tuple [].toArray) = (Go.Value.tuple [].toArray)) ∧
 (((Go.Value.tuple [].toArray) = (Go.Value.tuple [].toArray)) ∧
 (((Go.Value.tuple [].toArray) = (Go.Value.tuple [].toArray)) ∧
 (((Go.Value.tuple [].toArray) = (Go.Value.tuple [].toArray)) ∧
 (((Value.bool true) = (Value.bool true)) ∧
 True)))))))))))) ∧
 (∃ n5 : Int,
 ((Says C 60 [(D.val (Go.Value.string ({ data := #[] })))] [(D.val (vI n5))]) ∧
 (k [(D.agg [(D.val (Go.Value.string ({ data := #[] }))), (D.val (vI (0 : Int))), (D.val (vI (0 : Int))), (D.val (vI (0 : Int))), (D.val (vI (0 : Int)))]), (D.val (vI (7 : Int)))]))))))))))))))))))))))
 False))) ∨
 ((Says C 61 [(D.val (Go.Value.string (s5)))] [(D.val (Value.bool false))]) ∧
 ((((Value.bool true) = (Value.bool true)) ∧
 (((Value.bool true) = (Value.bool true)) ∧
 ((bcase (decide (IntKind.wrap .i64 (IntKind.wrap .i64 (0 + 1) + 1) < (↑n1 : Int)))
 ((Go.Value.pointer (Option.some (Go.Addr.mk 1001 2 Option.none))) = (Go.Value.pointer (Option.some (Go.Addr.mk 1001 2 Option.none))))
 False) ∧
 (((vI (2 : Int)) = (vI (2 : Int))) ∧
 (((Go.Value.pointer (Option.some (Go.Addr.mk 1002 1 Option.none))) = (Go.Value.pointer (Option.some (Go.Addr.mk 1002 1 Option.none)))) ∧
 (((Go.Value.pointer (Option.some (Go.Addr.mk 1002 0 Option.none))) = (Go.Value.pointer (Option.some (Go.Addr.mk 1002 0 Option.none)))) ∧
 (((Go.Value.pointer (Option.some (Go.Addr.mk 1002 0 Option.none))) = (Go.Value.pointer (Option.some (Go.Addr.mk 1002 0 Option.none)))) ∧
 (((Go.Value.slice (Option.some (Go.Addr.mk 1001 0 Option.none)) (n1) (n1)) = (Go.Value.slice (Option.some (Go.Addr.mk 1001 0 Option.none)) (n1) (n1))) ∧
 (((Go.Value.pointer (Option.some (Go.Addr.mk 1002 0 Option.none))) = (Go.Value.pointer (Option.some (Go.Addr.mk 1002 0 Option.none)))) ∧
 (((Go.Value.pointer (Option.some (Go.Addr.mk 1002 0 Option.none))) = (Go.Value.pointer (Option.some (Go.Addr.mk 1002 0 Option.none)))) ∧
 (((Go.Value.pointer (Option.some (Go.Addr.mk 1002 0 Option.none))) = (Go.Value.pointer (Option.some (Go.Addr.mk 1002 0 Option.none)))) ∧
 (((Value.bool false) = (Value.bool false)) ∧
 True)))))))))))) ∧
 (∃ n3 : Int,
 ((Says C 60 [(D.val (Go.Value.string ({ data := #[] })))] [(D.val (vI n3))]) ∧
 ((((Go.Value.pointer (Option.some (Go.Addr.mk 1002 0 Option.none))) = (Go.Value.pointer (Option.some (Go.Addr.mk 1002 0 Option.none)))) ∧
 True) ∧
 ((((Value.bool false) = (Value.bool false)) ∧
 (((Go.Value.tuple [].toArray) = (Go.Value.tuple [].toArray)) ∧
 (((Go.Value.tuple [].toArray) = (Go.Value.tuple [].toArray)) ∧
 (((Go.Value.tuple [].toArray) = (Go.Value.tuple [].toArray)) ∧
 (((Go.Value.tuple [].toArray) = (Go.Value.tuple [].toArray)) ∧
 (((Go.Value.tuple [].toArray) = (Go.Value.tuple [].toArray)) ∧
 (((Go.Value.tuple [].toArray) = (Go.Value.tuple [].toArray)) ∧
 (((Go.Value.tuple [].toArray) = (Go.Value.tuple [].toArray)) ∧
 (((Go.Value.tuple [].toArray) = (Go.Value.tuple [].toArray)) ∧
 (((Go.Value.tuple [].toArray) = (Go.Value.tuple [].toArray)) ∧
 (((Go.Value.tuple [].toArray) = (Go.Value.tuple [].toArray)) ∧
 (((Value.bool false) = (Value.bool false)) ∧
 (((Value.bool false) = (Value.bool false)) ∧
 (((Value.bool true) = (Value.bool true)) ∧
 (((Go.Value.pointer (Option.some (Go.Addr.mk 1002 2 Option.none))) = (Go.Value.pointer (Option.some (Go.Addr.mk 1002 2 Option.none)))) ∧
 (((Go.Value.pointer (Option.some (Go.Addr.mk 1002 0 Option.none))) = (Go.Value.pointer (Option.some (Go.Addr.mk 1002 0 Option.none)))) ∧
 (((Go.Value.pointer (Option.some (Go.Addr.mk 1002 0 Option.none))) = (Go.Value.pointer (Option.some (Go.Addr.mk 1002 0 Option.none)))) ∧
 True))))))))))))))))) ∧
 (True ∧
 ((((Go.Value.tuple [].toArray) = (Go.Value.tuple [].toArray)) ∧
 (((Go.Value.tuple [].toArray) = (Go.Value.tuple [].toArray)) ∧
 (((Go.Value.tuple [].toArray) = (Go.Value.tuple [].toArray)) ∧
 (((Go.Value.tuple [].toArray) = (Go.Value.tuple [].toArray)) ∧
 (((Go.Value.tuple [].toArray) = (Go.Value.tuple [].toArray)) ∧
 (((Go.Value.tuple [].toArray) = (Go.Value.tuple [].toArray)) ∧
 (((Go.Value.tuple [].toArray) = (Go.Value.tuple [].toArray)) ∧
 (((Go.Value.tuple [].toArray) = (Go.Value.tuple [].toArray)) ∧
 (((Go.Value.tuple [].toArray) = (Go.Value.tuple [].toArray)) ∧
 (((Go.Value.tuple [].toArray) = (Go.Value.tuple [].toArray)) ∧
 (((Go.Value.tuple [].toArray) = (Go.Value.tuple [].toArray)) ∧
 (((Value.bool true) = (Value.bool true)) ∧
 (((Value.bool true) = (Value.bool true)) ∧
 True))))))))))))) ∧
 ((((Value.bool true) = (Value.bool true)) ∧
 (((Go.Value.tuple [].toArray) = (Go.Value.tuple [].toArray)) ∧
 (((Go.Value.tuple [].toArray) = (Go.Value.tuple [].toArray)) ∧
 (((Go.Value.tuple [].toArray) = (Go.Value.tuple [].toArray)) ∧
 (((Go.Value.tuple [].toArray) = (Go.Value.tuple [].toArray)) ∧
 (((Go.Value.tuple [].toArray) = (Go.Value.tuple [].toArray)) ∧
 (((Go.Value.tuple [].toArray) = (Go.Value.tuple [].toArray)) ∧
 (((Go.Value.tuple [].toArray) = (Go.Value.tuple [].toArray)) ∧
 (((Go.Value.tuple [].toArray) = (Go.Value.tuple [].toArray)) ∧
 (((Go.Value.tuple [].toArray) = (Go.Value.tuple [].toArray)) ∧
 (((Go.Value.tuple [].toArray) = (Go.Value.tuple [].toArray)) ∧
 (((Value.bool true) = (Value.bool true)) ∧
 True)))))))))))) ∧
 (∃ n4 : Int,
 ((Says C 60 [(D.val (Go.Value.string ({ data := #[] })))] [(D.val (vI n4))]) ∧
 ((((Go.Value.pointer (Option.some (Go.Addr.mk 1002 0 Option.none))) = (Go.Value.pointer (Option.some (Go.Addr.mk 1002 0 Option.none)))) ∧
 True) ∧
 ((((Value.bool false) = (Value.bool false)) ∧
 (((Go.Value.tuple [].toArray) = (Go.Value.tuple [].toArray)) ∧
 (((Go.Value.tuple [].toArray) = (Go.Value.tuple [].toArray)) ∧
 (((Go.Value.tuple [].toArray) = (Go.Value.tuple [].toArray)) ∧
 (((Go.Value.tuple [].toArray) = (Go.Value.tuple [].toArray)) ∧
 (((Go.Value.tuple [].toArray) = (Go.Value.tuple [].toArray)) ∧
 (((Go.Value.tuple [].toArray) = (Go.Value.tuple [].toArray)) ∧
 (((Go.Value.tuple [].toArray) = (Go.Value.tuple [].toArray)) ∧
 (((Go.Value.tuple [].toArray) = (Go.Value.tuple [].toArray)) ∧
 (((Go.Value.tuple [].toArray) = (Go.Value.tuple [].toArray)) ∧
 (((Go.Value.tuple [].toArray) = (Go.Value.tuple [].toArray)) ∧
 (((Value.bool false) = (Value.bool false)) ∧
 (((Value.bool false) = (Value.bool false)) ∧
 (((Value.bool true) = (Value.bool true)) ∧
 (((Go.Value.pointer (Option.some (Go.Addr.mk 1002 2 Option.none))) = (Go.Value.pointer (Option.some (Go.Addr.mk 1002 2 Option.none)))) ∧
 (((Go.Value.pointer (Option.some (Go.Addr.mk 1002 0 Option.none))) = (Go.Value.pointer (Option.some (Go.Addr.mk 1002 0 Option.none)))) ∧
 (((Go.Value.pointer (Option.some (Go.Addr.mk 1002 0 Option.none))) = (Go.Value.pointer (Option.some (Go.Addr.mk 1002 0 Option.none)))) ∧
 True))))))))))))))))) ∧
 (True ∧
 ((((Go.Value.tuple [].toArray) = (Go.Value.tuple [].toArray)) ∧
 (((Go.Value.tuple [].toArray) = (Go.Value.tuple [].toArray)) ∧
 (((Go.Value.tuple [].toArray) = (Go.Value.tuple [].toArray)) ∧
 (((Go.Value.tuple [].toArray) = (Go.Value.tuple [].toArray)) ∧
 (((Go.Value.tuple [].toArray) = (Go.Value.tuple [].toArray)) ∧
 (((Go.Value.tuple [].toArray) = (Go.Value.tuple [].toArray)) ∧
 (((Go.Value.tuple [].toArray) = (Go.Value.tuple [].toArray)) ∧
 (((Go.Value.tuple [].toArray) = (Go.Value.tuple [].toArray)) ∧
 (((Go.Value.tuple [].toArray) = (Go.Value.tuple [].toArray)) ∧
 (((Go.Value.tuple [].toArray) = (Go.Value.tuple [].toArray)) ∧
 (((Go.Value.tuple [].toArray) = (Go.Value.tuple [].toArray)) ∧
 (((Value.bool true) = (Value.bool true)) ∧
 (((Value.bool true) = (Value.bool true)) ∧
 True))))))))))))) ∧
 ((((Value.bool true) = (Value.bool true)) ∧
 (((Go.Value.tuple [].toArray) = (Go.Value.tuple [].toArray)) ∧
 (((Go.Value.tuple [].toArray) = (Go.Value.tuple [].toArray)) ∧
 (((Go.Value.tuple [].toArray) = (Go.Value.tuple [].toArray)) ∧
 (((Go.Value.tuple [].toArray) = (Go.Value.tuple [].toArray)) ∧
 (((Go.Value.tuple [].toArray) = (Go.Value.tuple [].toArray)) ∧
 (((Go.Value.tuple [].toArray) = (Go.Value.tuple [].toArray)) ∧
 (((Go.Value.tuple [].toArray) = (Go.Value.tuple [].toArray)) ∧
 (((Go.Value.tuple [].toArray) = (Go.Value.tuple [].toArray)) ∧
 (((Go.Value.tuple [].toArray) = (Go.Value.tuple [].toArray)) ∧
 (((Go.Value.tuple [].toArray) = (Go.Value.tuple [].toArray)) ∧
 (((Value.bool true) = (Value.bool true)) ∧
 True)))))))))))) ∧
 (∃ n5 : Int,
 ((Says C 60 [(D.val (Go.Value.string ({ data := #[] })))] [(D.val (vI n5))]) ∧
 (k [(D.agg [(D.val (Go.Value.string ({ data := #[] }))), (D.val (vI (0 : Int))), (D.val (vI (0 : Int))), (D.val (vI (0 : Int))), (D.val (vI (0 : Int)))]), (D.val (vI (7 : Int)))])))))))))))))))))))))))
 False)))
 ((((Value.bool false) = (Value.bool false)) ∧
 ((bcase (decide (IntKind.wrap .i64 (IntKind.wrap .i64 (0 + 1) + 1) < (↑n1 : Int)))
 ((Value.bool true) = (Value.bool false))
 ((Value.bool false) = (Value.bool false))) ∧
 (((vI ((↑n1 : Int))) = (vI ((↑n1 : Int)))) ∧
 (((Go.Value.slice (Option.some (Go.Addr.mk 1001 0 Option.none)) (n1) (n1)) = (Go.Value.slice (Option.some (Go.Addr.mk 1001 0 Option.none)) (n1) (n1))) ∧
 (((Go.Value.pointer (Option.some (Go.Addr.mk 1002 0 Option.none))) = (Go.Value.pointer (Option.some (Go.Addr.mk 1002 0 Option.none)))) ∧
 (((Go.Value.pointer (Option.some (Go.Addr.mk 1002 0 Option.none))) = (Go.Value.pointer (Option.some (Go.Addr.mk 1002 0 Option.none)))) ∧
 (((Go.Value.pointer (Option.some (Go.Addr.mk 1002 0 Option.none))) = (Go.Value.pointer (Option.some (Go.Addr.mk 1002 0 Option.none)))) ∧
 (((vI (2 : Int)) = (vI (2 : Int))) ∧
 (((Go.Value.pointer (Option.some (Go.Addr.mk 1002 1 Option.none))) = (Go.Value.pointer (Option.some (Go.Addr.mk 1002 1 Option.none)))) ∧
 (((Go.Value.pointer (Option.some (Go.Addr.mk 1002 0 Option.none))) = (Go.Value.pointer (Option.some (Go.Addr.mk 1002 0 Option.none)))) ∧
 (((Go.Value.pointer (Option.some (Go.Addr.mk 1002 0 Option.none))) = (Go.Value.pointer (Option.some (Go.Addr.mk 1002 0 Option.none)))) ∧
 (((Value.bool true) = (Value.bool true)) ∧
 (((Value.bool true) = (Value.bool true)) ∧
 (((Value.bool false) = (Value.bool false)) ∧
 (((Go.Value.pointer (Option.some (Go.Addr.mk 1002 2 Option.none))) = (Go.Value.pointer (Option.some (Go.Addr.mk 1002 2 Option.none)))) ∧
 (((Go.Value.pointer (Option.some (Go.Addr.mk 1002 0 Option.none))) = (Go.Value.pointer (Option.some (Go.Addr.mk 1002 0 Option.none)))) ∧
 (((Go.Value.pointer (Option.some (Go.Addr.mk 1002 0 Option.none))) = (Go.Value.pointer (Option.some (Go.Addr.mk 1002 0 Option.none)))) ∧
 True))))))))))))))))) ∧
 (True ∧
 ((((Go.Value.tuple [].toArray) = (Go.Value.tuple [].toArray)) ∧
 (((Go.Value.tuple [].toArray) = (Go.Value.tuple [].toArray)) ∧
 (((Go.Value.tuple [].toArray) = (Go.Value.tuple [].toArray)) ∧
 (((Go.Value.tuple [].toArray) = (Go.Value.tuple [].toArray)) ∧
 (((Go.Value.tuple [].toArray) = (Go.Value.tuple [].toArray)) ∧
 (((Go.Value.tuple [].toArray) = (Go.Value.tuple [].toArray)) ∧
 (((Go.Value.tuple [].toArray) = (Go.Value.tuple [].toArray)) ∧
 (((Go.Value.tuple [].toArray) = (Go.Value.tuple [].toArray)) ∧
 (((Go.Value.tuple [].toArray) = (Go.Value.tuple [].toArray)) ∧
 (((Go.Value.tuple [].toArray) = (Go.Value.tuple [].toArray)) ∧
 (((Go.Value.tuple [].toArray) = (Go.Value.tuple [].toArray)) ∧
 (((Value.bool true) = (Value.bool true)) ∧
 (((Value.bool true) = (Value.bool true)) ∧
 True))))))))))))) ∧
 ((((Value.bool true) = (Value.bool true)) ∧
 (((Go.Value.tuple [].toArray) = (Go.Value.tuple [].toArray)) ∧
 (((Go.Value.tuple [].toArray) = (Go.Value.tuple [].toArray)) ∧
 (((Go.Value.tuple [].toArray) = (Go.Value.tuple [].toArray)) ∧
 (((Go.Value.tuple [].toArray) = (Go.Value.tuple [].toArray)) ∧
 (((Go.Value.tuple [].toArray) = (Go.Value.tuple [].toArray)) ∧
 (((Go.Value.tuple [].toArray) = (Go.Value.tuple [].toArray)) ∧
 (((Go.Value.tuple [].toArray) = (Go.Value.tuple [].toArray)) ∧
 (((Go.Value.tuple [].toArray) = (Go.Value.tuple [].toArray)) ∧
 (((Go.Value.tuple [].toArray) = (Go.Value.tuple [].toArray)) ∧
 (((Go.Value.tuple [].toArray) = (Go.Value.tuple [].toArray)) ∧
 (((Value.bool true) = (Value.bool true)) ∧
 True)))))))))))) ∧
 (∃ n3 : Int,
 ((Says C 60 [(D.val (Go.Value.string ({ data := #[] })))] [(D.val (vI n3))]) ∧
 ((((Go.Value.pointer (Option.some (Go.Addr.mk 1002 0 Option.none))) = (Go.Value.pointer (Option.some (Go.Addr.mk 1002 0 Option.none)))) ∧
 True) ∧
 ((((Value.bool false) = (Value.bool false)) ∧
 (((Go.Value.tuple [].toArray) = (Go.Value.tuple [].toArray)) ∧
 (((Go.Value.tuple [].toArray) = (Go.Value.tuple [].toArray)) ∧
 (((Go.Value.tuple [].toArray) = (Go.Value.tuple [].toArray)) ∧
 (((Go.Value.tuple [].toArray) = (Go.Value.tuple [].toArray)) ∧
 (((Go.Value.tuple [].toArray) = (Go.Value.tuple [].toArray)) ∧
 (((Go.Value.tuple [].toArray) = (Go.Value.tuple [].toArray)) ∧
 (((Go.Value.tuple [].toArray) = (Go.Value.tuple [].toArray)) ∧
 (((Go.Value.tuple [].toArray) = (Go.Value.tuple [].toArray)) ∧
 (((Go.Value.tuple [].toArray) = (Go.Value.tuple [].toArray)) ∧
 (((Go.Value.tuple [].toArray) = (Go.Value.tuple [].toArray)) ∧
 (((Value.bool false) = (Value.bool false)) ∧
 (((Value.bool false) = (Value.bool false)) ∧
 (((Value.bool true) = (Value.bool true)) ∧
 (((Go.Value.pointer (Option.some (Go.Addr.mk 1002 2 Option.none))) = (Go.Value.pointer (Option.some (Go.Addr.mk 1002 2 Option.none)))) ∧
 (((Go.Value.pointer (Option.some (Go.Addr.mk 1002 0 Option.none))) = (Go.Value.pointer (Option.some (Go.Addr.mk 1002 0 Option.none)))) ∧
 (((Go.Value.pointer (Option.some (Go.Addr.mk 1002 0 Option.none))) = (Go.Value.pointer (Option.some (Go.Addr.mk 1002 0 Option.none)))) ∧
 True))))))))))))))))) ∧
 (True ∧
 ((((Go.Value.tuple [].toArray) = (Go.Value.tuple [].toArray)) ∧
 (((Go.Value.tuple [].toArray) = (Go.Value.tuple [].toArray)) ∧
 (((Go.Value.tuple [].toArray) = (Go.Value.tuple [].toArray)) ∧
 (((Go.Value.tuple [].toArray) = (Go.Value.tuple [].toArray)) ∧
 (((Go.Value.tuple [].toArray) = (Go.Value.tuple [].toArray)) ∧
 (((Go.Value.tuple [].toArray) = (Go.Value.tuple [].toArray)) ∧
 (((Go.Value.tuple [].toArray) = (Go.Value.tuple [].toArray)) ∧
 (((Go.Value.tuple [].toArray) = (Go.Value.tuple [].toArray)) ∧
 (((Go.Value.tuple [].toArray) = (Go.Value.tuple [].toArray)) ∧
 (((Go.Value.tuple [].toArray) = (Go.Value.tuple [].toArray)) ∧
 (((Go.Value.tuple [].toArray) = (Go.Value.tuple [].toArray)) ∧
 (((Value.bool true) = (Value.bool true)) ∧
 (((Value.bool true) = (Value.bool true)) ∧
 True))))))))))))) ∧
 ((((Value.bool true) = (Value.bool true)) ∧
 (((Go.Value.tuple [].toArray) = (Go.Value.tuple [].toArray)) ∧
 (((Go.Value.tuple [].toArray) = (Go.Value.tuple [].toArray)) ∧
 (((Go.Value.tuple [].toArray) = (Go.Value.tuple [].toArray)) ∧
 (((Go.Value.tuple [].toArray) = (Go.Value.tuple [].toArray)) ∧
 (((Go.Value.tuple [].toArray) = (Go.Value.tuple [].toArray)) ∧
 (((Go.Value.tuple [].toArray) = (Go.Value.tuple [].toArray)) ∧
 (((Go.Value.tuple [].toArray) = (Go.Value.tuple [].toArray)) ∧
 (((Go.Value.tuple [].toArray) = (Go.Value.tuple [].toArray)) ∧
 (((Go.Value.tuple [].toArray) = (Go.Value.tuple [].toArray)) ∧
 (((Go.Value.tuple [].toArray) = (Go.Value.tuple [].toArray)) ∧
 (((Value.bool true) = (Value.bool true)) ∧
 True)))))))))))) ∧
 (∃ n4 : Int,
 ((Says C 60 [(D.val (Go.Value.string ({ data := #[] })))] [(D.val (vI n4))]) ∧
 ((((Go.Value.pointer (Option.some (Go.Addr.mk 1002 0 Option.none))) = (Go.Value.pointer (Option.some (Go.Addr.mk 1002 0 Option.none)))) ∧
 True) ∧
 ((((Value.bool false) = (Value.bool false)) ∧
 (((Go.Value.tuple [].toArray) = (Go.Value.tuple [].toArray)) ∧
 (((Go.Value.tuple [].toArray) = (Go.Value.tuple [].toArray)) ∧
 (((Go.Value.tuple [].toArray) = (Go.Value.tuple [].toArray)) ∧
 (((Go.Value.tuple [].toArray) = (Go.Value.tuple [].toArray)) ∧
 (((Go.Value.tuple [].toArray) = (Go.Value.tuple [].toArray)) ∧
 (((Go.Value.tuple [].toArray) = (Go.Value.tuple [].toArray)) ∧
 (((Go.Value.tuple [].toArray) = (Go.Value.tuple [].toArray)) ∧
 (((Go.Value.tuple [].toArray) = (Go.Value.tuple [].toArray)) ∧
 (((Go.Value.tuple [].toArray) = (Go.Value.tuple [].toArray)) ∧
 (((Go.Value.tuple [].toArray) = (Go.Value.tuple [].toArray)) ∧
 (((Value.bool false) = (Value.bool false)) ∧
 (((Value.bool false) = (Value.bool false)) ∧
 (((Value.bool true) = (Value.bool true)) ∧
 (((Go.Value.pointer (Option.some (Go.Addr.mk 1002 2 Option.none))) = (Go.Value.pointer (Option.some (Go.Addr.mk 1002 2 Option.none)))) ∧
 (((Go.Value.pointer (Option.some (Go.Addr.mk 1002 0 Option.none))) = (Go.Value.pointer (Option.some (Go.Addr.mk 1002 0 Option.none)))) ∧
 (((Go.Value.pointer (Option.some (Go.Addr.mk 1002 0 Option.none))) = (Go.Value.pointer (Option.some (Go.Addr.mk 1002 0 Option.none)))) ∧
 True))))))))))))))))) ∧
 (True ∧
 ((((Go.Value.tuple [].toArray) = (Go.Value.tuple [].toArray)) ∧
 (((Go.Value.tuple [].toArray) = (Go.Value.tuple [].toArray)) ∧
 (((Go.Value.tuple [].toArray) = (Go.Value.tuple [].toArray)) ∧
 (((Go.Value.tuple [].toArray) = (Go.Value.tuple [].toArray)) ∧
 (((Go.Value.tuple [].toArray) = (Go.Value.tuple [].toArray)) ∧
 (((Go.Value.tuple [].toArray) = (Go.Value.tuple [].toArray)) ∧
 (((Go.Value.tuple [].toArray) = (Go.Value.tuple [].toArray)) ∧
 (((Go.Value.tuple [].toArray) = (Go.Value.tuple [].toArray)) ∧
 (((Go.Value.tuple [].toArray) = (Go.Value.tuple [].toArray)) ∧
 (((Go.Value.tuple [].toArray) = (Go.Value.tuple [].toArray)) ∧
 (((Go.Value.tuple [].toArray) = (Go.Value.tuple [].toArray)) ∧
 (((Value.bool true) = (Value.bool true)) ∧
 (((Value.bool true) = (Value.bool true)) ∧
 True))))))))))))) ∧
 ((((Value.bool true) = (Value.bool true)) ∧
 (((Go.Value.tuple [].toArray) = (Go.Value.tuple [].toArray)) ∧
 (((Go.Value.tuple [].toArray) = (Go.Value.tuple [].toArray)) ∧
 (((Go.Value.tuple [].toArray) = (Go.Value.tuple [].toArray)) ∧
 (((Go.Value.tuple [].toArray) = (Go.Value.tuple [].toArray)) ∧
 (((Go.Value.tuple [].toArray) = (Go.Value.tuple [].toArray)) ∧
 (((Go.Value.tuple [].toArray) = (Go.Value.tuple [].toArray)) ∧
 (((Go.Value.tuple [].toArray) = (Go.Value.tuple [].toArray)) ∧
 (((Go.Value.tuple [].toArray) = (Go.Value.tuple [].toArray)) ∧
 (((Go.Value.tuple [].toArray) = (Go.Value.tuple [].toArray)) ∧
 (((Go.Value.tuple [].toArray) = (Go.Value.tuple [].toArray)) ∧
 (((Value.bool true) = (Value.bool true)) ∧
 True)))))))))))) ∧
 (∃ n5 : Int,
 ((Says C 60 [(D.val (Go.Value.string ({ data := #[] })))] [(D.val (vI n5))]) ∧
 (k [(D.agg [(D.val (Go.Value.string ({ data := #[] }))), (D.val (vI (0 : Int))), (D.val (vI (0 : Int))), (D.val (vI (0 : Int))), (D.val (vI (0 : Int)))]), (D.val (vI (7 : Int)))])))))))))))))))))))))))))))))
 False))) ∨
 ((Says C 61 [(D.val (Go.Value.string (s3)))] [(D.val (Value.bool false))]) ∧
 ((((Value.bool true) = (Value.bool true)) ∧
 (((Value.bool true) = (Value.bool true)) ∧
 ((bcase (decide (IntKind.wrap .i64 (0 + 1) < (↑n1 : Int)))
 ((Go.Value.pointer (Option.some (Go.Addr.mk 1001 1 Option.none))) = (Go.Value.pointer (Option.some (Go.Addr.mk 1001 1 Option.none))))
 False) ∧
 (((vI (1 : Int)) = (vI (1 : Int))) ∧
 (((Go.Value.pointer (Option.some (Go.Addr.mk 1002 1 Option.none))) = (Go.Value.pointer (Option.some (Go.Addr.mk 1002 1 Option.none)))) ∧
 (((Go.Value.pointer (Option.some (Go.Addr.mk 1002 0 Option.none))) = (Go.Value.pointer (Option.some (Go.Addr.mk 1002 0 Option.none)))) ∧
 (((Go.Value.pointer (Option.some (Go.Addr.mk 1002 0 Option.none))) = (Go.Value.pointer (Option.some (Go.Addr.mk 1002 0 Option.none)))) ∧
 (((Go.Value.slice (Option.some (Go.Addr.mk 1001 0 Option.none)) (n1) (n1)) = (Go.Value.slice (Option.some (Go.Addr.mk 1001 0 Option.none)) (n1) (n1))) ∧
 (((Go.Value.pointer (Option.some (Go.Addr.mk 1002 0 Option.none))) = (Go.Value.pointer (Option.some (Go.Addr.mk 1002 0 Option.none)))) ∧
 (((Go.Value.pointer (Option.some (Go.Addr.mk 1002 0 Option.none))) = (Go.Value.pointer (Option.some (Go.Addr.mk 1002 0 Option.none)))) ∧
 (((Go.Value.pointer (Option.some (Go.Addr.mk 1002 0 Option.none))) = (Go.Value.pointer (Option.some (Go.Addr.mk 1002 0 Option.none)))) ∧
 (((Value.bool false) = (Value.bool false)) ∧
 True)))))))))))) ∧
 (∃ n2 : Int,
 ((Says C 60 [(D.val (Go.Value.string ({ data := #[] })))] [(D.val (vI n2))]) ∧
 ((((Go.Value.pointer (Option.some (Go.Addr.mk 1002 0 Option.none))) = (Go.Value.pointer (Option.some (Go.Addr.mk 1002 0 Option.none)))) ∧
 True) ∧
 ((((Value.bool false) = (Value.bool false)) ∧
 (((Go.Value.tuple [].toArray) = (Go.Value.tuple [].toArray)) ∧
 (((Go.Value.tuple [].toArray) = (Go.Value.tuple [].toArray)) ∧
 (((Go.Value.tuple [].toArray) = (Go.Value.tuple [].toArray)) ∧
 (((Go.Value.tuple [].toArray) = (Go.Value.tuple [].toArray)) ∧
 (((Go.Value.tuple [].toArray) = (Go.Value.tuple [].toArray)) ∧
 (((Go.Value.tuple [].toArray) = (Go.Value.tuple [].toArray)) ∧
 (((Go.Value.tuple [].toArray) = (Go.Value.tuple [].toArray)) ∧
 (((Go.Value.tuple [].toArray) = (Go.Value.tuple [].toArray)) ∧
 (((Go.Value.tuple [].toArray) = (Go.Value.tuple [].toArray)) ∧
 (((Go.Value.tuple [].toArray) = (Go.Value.tuple [].toArray)) ∧
 (((Value.bool false) = (Value.bool false)) ∧
 (((Value.bool false) = (Value.bool false)) ∧
 (((Value.bool true) = (Value.bool true)) ∧
 (((Go.Value.pointer (Option.some (Go.Addr.mk 1002 2 Option.none))) = (Go.Value.pointer (Option.some (Go.Addr.mk 1002 2 Option.none)))) ∧
 (((Go.Value.pointer (Option.some (Go.Addr.mk 1002 0 Option.none))) = (Go.Value.pointer (Option.some (Go.Addr.mk 1002 0 Option.none)))) ∧
 (((Go.Value.pointer (Option.some (Go.Addr.mk 1002 0 Option.none))) = (Go.Value.pointer (Option.some (Go.Addr.mk 1002 0 Option.none)))) ∧
 True))))))))))))))))) ∧
 (True ∧
 ((((Go.Value.tuple [].toArray) = (Go.Value.tuple [].toArray)) ∧
 (((Go.Value.tuple [].toArray) = (Go.Value.tuple [].toArray)) ∧
 (((Go.Value.tuple [].toArray) = (Go.Value.tuple [].toArray)) ∧
 (((Go.Value.tuple [].toArray) = (Go.Value.tuple [].toArray)) ∧
 (((Go.Value.tuple [].toArray) = (Go.Value.tuple [].toArray)) ∧
 (((Go.Value.tuple [].toArray) = (Go.Value.tuple [].toArray)) ∧
 (((Go.Value.tuple [].toArray) = (Go.Value.tuple [].toArray)) ∧
 (((Go.Value.tuple [].toArray) = (Go.Value.tuple [].toArray)) ∧
 (((Go.Value.tuple [].toArray) = (Go.Value.tuple [].toArray)) ∧
 (((Go.Value.tuple [].toArray) = (Go.Value.tuple [].toArray)) ∧
 (((Go.Value.tuple [].toArray) = (Go.Value.tuple [].toArray)) ∧
 (((Value.bool true) = (Value.bool true)) ∧
 (((Value.bool true) = (Value.bool true)) ∧
 True))))))))))))) ∧
 ((((Value.bool true) = (Value.bool true)) ∧
 (((Go.Value.tuple [].toArray) = (Go.Value.tuple [].toArray)) ∧
 (((Go.Value.tuple [].toArray) = (Go.Value.tuple [].toArray)) ∧
 (((Go.Value.tuple [].toArray) = (Go.Value.tuple [].toArray)) ∧
 (((Go.Value.tuple [].toArray) = (Go.Value.tuple [].toArray)) ∧
 (((Go.Value.tuple [].toArray) = (Go.Value.tuple [].toArray)) ∧
 (((Go.Value.tuple [].toArray) = (Go.Value.tuple [].toArray)) ∧
 (((Go.Value.tuple [].toArray) = (Go.Value.tuple [].toArray)) ∧
 (((Go.Value.tuple [].toArray) = (Go.Value.tuple [].toArray)) ∧
 (((Go.Value.tuple [].toArray) = (Go.Value.tuple [].toArray)) ∧
 (((Go.Value.tuple [].toArray) = (Go.Value.tuple [].toArray)) ∧
 (((Value.bool true) = (Value.bool true)) ∧
 True)))))))))))) ∧
 (∃ n3 : Int,
 ((Says C 60 [(D.val (Go.Value.string ({ data := #[] })))] [(D.val (vI n3))]) ∧
 ((((Go.Value.pointer (Option.some (Go.Addr.mk 1002 0 Option.none))) = (Go.Value.pointer (Option.some (Go.Addr.mk 1002 0 Option.none)))) ∧
 True) ∧
 ((((Value.bool false) = (Value.bool false)) ∧
 (((Go.Value.tuple [].toArray) = (Go.Value.tuple [].toArray)) ∧
 (((Go.Value.tuple [].toArray) = (Go.Value.tuple [].toArray)) ∧
 (((Go.Value.tuple [].toArray) = (Go.Value.tuple [].toArray)) ∧
 (((Go.Value.tuple [].toArray) = (Go.Value.tuple [].toArray)) ∧
 (((Go.Value.tuple [].toArray) = (Go.Value.tuple [].toArray)) ∧
 (((Go.Value.tuple [].toArray) = (Go.Value.tuple [].toArray)) ∧
 (((Go.Value.tuple [].toArray) = (Go.Value.tuple [].toArray)) ∧
 (((Go.Value.tuple [].toArray) = (Go.Value.tuple [].toArray)) ∧
 (((Go.Value.tuple [].toArray) = (Go.Value.tuple [].toArray)) ∧
 (((Go.Value.tuple [].toArray) = (Go.Value.tuple [].toArray)) ∧
 (((Value.bool false) = (Value.bool false)) ∧
 (((Value.bool false) = (Value.bool false)) ∧
 (((Value.bool true) = (Value.bool true)) ∧
 (((Go.Value.pointer (Option.some (Go.Addr.mk 1002 2 Option.none))) = (Go.Value.pointer (Option.some (Go.Addr.mk 1002 2 Option.none)))) ∧
 (((Go.Value.pointer (Option.some (Go.Addr.mk 1002 0 Option.none))) = (Go.Value.pointer (Option.some (Go.Addr.mk 1002 0 Option.none)))) ∧
 (((Go.Value.pointer (Option.some (Go.Addr.mk 1002 0 Option.none))) = (Go.Value.pointer (Option.some (Go.Addr.mk 1002 0 Option.none)))) ∧
 True))))))))))))))))) ∧
 (True ∧
 ((((Go.Value.tuple [].toArray) = (Go.Value.tuple [].toArray)) ∧
 (((Go.Value.tuple [].toArray) = (Go.Value.tuple [].toArray)) ∧
 (((Go.Value.tuple [].toArray) = (Go.Value.tuple [].toArray)) ∧
 (((Go.Value.tuple [].toArray) = (Go.Value.tuple [].toArray)) ∧
 (((Go.Value.tuple [].toArray) = (Go.Value.tuple [].toArray)) ∧
 (((Go.Value.tuple [].toArray) = (Go.Value.tuple [].toArray)) ∧
 (((Go.Value.tuple [].toArray) = (Go.Value.tuple [].toArray)) ∧
 (((Go.Value.tuple [].toArray) = (Go.Value.tuple [].toArray)) ∧
 (((Go.Value.tuple [].toArray) = (Go.Value.tuple [].toArray)) ∧
 (((Go.Value.tuple [].toArray) = (Go.Value.tuple [].toArray)) ∧
 (((Go.Value.tuple [].toArray) = (Go.Value.tuple [].toArray)) ∧
 (((Value.bool true) = (Value.bool true)) ∧
 (((Value.bool true) = (Value.bool true)) ∧
 True))))))))))))) ∧
 ((((Value.bool true) = (Value.bool true)) ∧
 (((Go.Value.tuple [].toArray) = (Go.Value.tuple [].toArray)) ∧
 (((Go.Value.tuple [].toArray) = (Go.Value.tuple [].toArray)) ∧
 (((Go.Value.tuple [].toArray) = (Go.Value.tuple [].toArray)) ∧
 (((Go.Value.tuple [].toArray) = (Go.Value.tuple [].toArray)) ∧
 (((Go.Value.tuple [].toArray) = (Go.Value.tuple [].toArray)) ∧
 (((Go.Value.tuple [].toArray) = (Go.Value.tuple [].toArray)) ∧
 (((Go.Value.tuple [].toArray) = (Go.Value.tuple [].toArray)) ∧
 (((Go.Value.tuple [].toArray) = (Go.Value.tuple [].toArray)) ∧
 (((Go.Value.tuple [].toArray) = (Go.Value.tuple [].toArray)) ∧
 (((Go.Value.tuple [].toArray) = (Go.Value.tuple [].toArray)) ∧
 (((Value.bool true) = (Value.bool true)) ∧
 True)))))))))))) ∧
 (∃ n4 : Int,
 ((Says C 60 [(D.val (Go.Value.string ({ data := #[] })))] [(D.val (vI n4))]) ∧
 ((((Go.Value.pointer (Option.some (Go.Addr.mk 1002 0 Option.none))) = (Go.Value.pointer (Option.some (Go.Addr.mk 1002 0 Option.none)))) ∧
 True) ∧
 ((((Value.bool false) = (Value.bool false)) ∧
 (((Go.Value.tuple [].toArray) = (Go.Value.tuple [].toArray)) ∧
 (((Go.Value.tuple [].toArray) = (Go.Value.tuple [].toArray)) ∧
 (((Go.Value.tuple [].toArray) = (Go.Value.tuple [].toArray)) ∧
 (((Go.Value.tuple [].toArray) = (Go.Value.tuple [].toArray)) ∧
 (((Go.Value.tuple [].toArray) = (Go.Value.tuple [].toArray)) ∧
 (((Go.Value.tuple [].toArray) = (Go.Value.tuple [].toArray)) ∧
 (((Go.Value.tuple [].toArray) = (Go.Value.tuple [].toArray)) ∧
 (((Go.Value.tuple [].toArray) = (Go.Value.tuple [].toArray)) ∧
 (((Go.Value.tuple [].toArray) = (Go.Value.tuple [].toArray)) ∧
 (((Go.Value.tuple [].toArray) = (Go.Value.tuple [].toArray)) ∧
 (((Value.bool false) = (Value.bool false)) ∧
 (((Value.bool false) = (Value.bool false)) ∧
 (((Value.bool true) = (Value.bool true)) ∧
 (((Go.Value.pointer (Option.some (Go.Addr.mk 1002 2 Option.none))) = (Go.Value.pointer (Option.some (Go.Addr.mk 1002 2 Option.none)))) ∧
 (((Go.Value.pointer (Option.some (Go.Addr.mk 1002 0 Option.none))) = (Go.Value.pointer (Option.some (Go.Addr.mk 1002 0 Option.none)))) ∧
 (((Go.Value.pointer (Option.some (Go.Addr.mk 1002 0 Option.none))) = (Go.Value.pointer (Option.some (Go.Addr.mk 1002 0 Option.none)))) ∧
 True))))))))))))))))) ∧
 (True ∧
 ((((Go.Value.tuple [].toArray) = (Go.Value.tuple [].toArray)) ∧
 (((Go.Value.tuple [].toArray) = (Go.Value.tuple [].toArray)) ∧
 (((Go.Value.tuple [].toArray) = (Go.Value.tuple [].toArray)) ∧
 (((Go.Value.tuple [].toArray) = (Go.Value.tuple [].toArray)) ∧
 (((Go.Value.tuple [].toArray) = (Go.Value.tuple [].toArray)) ∧
 (((Go.Value.tuple [].toArray) = (Go.Value.tuple [].toArray)) ∧
 (((Go.Value.tuple [].toArray) = (Go.Value.tuple [].toArray)) ∧
 (((Go.Value.tuple [].toArray) = (Go.Value.tuple [].toArray)) ∧
 (((Go.Value.tuple [].toArray) = (Go.Value.tuple [].toArray)) ∧
 (((Go.Value.tuple [].toArray) = (Go.Value.tuple [].toArray)) ∧
 (((Go.Value.tuple [].toArray) = (Go.Value.tuple [].toArray)) ∧
 (((Value.bool true) = (Value.bool true)) ∧
 (((Value.bool true) = (Value.bool true)) ∧
 True))))))))))))) ∧
 ((((Value.bool true) = (Value.bool true)) ∧
 (((Go.Value.tuple [].toArray) = (Go.Value.tuple [].toArray)) ∧
 (((Go.Value.tuple [].toArray) = (Go.Value.tuple [].toArray)) ∧
 (((Go.Value.tuple [].toArray) = (Go.Value.tuple [].toArray)) ∧
 (((Go.Value.tuple [].toArray) = (Go.Value.tuple [].toArray)) ∧
 (((Go.Value.tuple [].toArray) = (Go.Value.tuple [].toArray)) ∧
 (((Go.Value.tuple [].toArray) = (Go.Value.tuple [].toArray)) ∧
 (((Go.Value.tuple [].toArray) = (Go.Value.tuple [].toArray)) ∧
 (((Go.Value.tuple [].toArray) = (Go.Value.tuple [].toArray)) ∧
 (((Go.Value.tuple [].toArray) = (Go.Value.tuple [].toArray)) ∧
 (((Go.Value.tuple [].toArray) = (Go.Value.tuple [].toArray)) ∧
 (((Value.bool true) = (Value.bool true)) ∧
 True)))))))))))) ∧
 (∃ n5 : Int,
 ((Says C 60 [(D.val (Go.Value.string ({ data := #[] })))] [(D.val (vI n5))]) ∧
 (k [(D.agg [(D.val (Go.Value.string ({ data := #[] }))), (D.val (vI (0 : Int))), (D.val (vI (0 : Int))), (D.val (vI (0 : Int))), (D.val (vI (0 : Int)))]), (D.val (vI (7 : Int)))]))))))))))))))))))))))))))))))
 False)))
 ((((Value.bool false) = (Value.bool false)) ∧
 ((bcase (decide (IntKind.wrap .i64 (0 + 1) < (↑n1 : Int)))
 ((Value.bool true) = (Value.bool false))
 ((Value.bool false) = (Value.bool false))) ∧
 (((vI ((↑n1 : Int))) = (vI ((↑n1 : Int)))) ∧
 (((Go.Value.slice (Option.some (Go.Addr.mk 1001 0 Option.none)) (n1) (n1)) = (Go.Value.slice (Option.some (Go.Addr.mk 1001 0 Option.none)) (n1) (n1))) ∧
 (((Go.Value.pointer (Option.some (Go.Addr.mk 1002 0 Option.none))) = (Go.Value.pointer (Option.some (Go.Addr.mk 1002 0 Option.none)))) ∧
 (((Go.Value.pointer (Option.some (Go.Addr.mk 1002 0 Option.none))) = (Go.Value.pointer (Option.some (Go.Addr.mk 1002 0 Option.none)))) ∧
 (((Go.Value.pointer (Option.some (Go.Addr.mk 1002 0 Option.none))) = (Go.Value.pointer (Option.some (Go.Addr.mk 1002 0 Option.none)))) ∧
 (((vI (1 : Int)) = (vI (1 : Int))) ∧
 (((Go.Value.pointer (Option.some (Go.Addr.mk 1002 1 Option.none))) = (Go.Value.pointer (Option.some (Go.Addr.mk 1002 1 Option.none)))) ∧
 (((Go.Value.pointer (Option.some (Go.Addr.mk 1002 0 Option.none))) = (Go.Value.pointer (Option.some (Go.Addr.mk 1002 0 Option.none)))) ∧
 (((Go.Value.pointer (Option.some (Go.Addr.mk 1002 0 Option.none))) = (Go.Value.pointer (Option.some (Go.Addr.mk 1002 0 Option.none)))) ∧
 (((Value.bool true) = (Value.bool true)) ∧
 (((Value.bool true) = (Value.bool true)) ∧
 (((Value.bool false) = (Value.bool false)) ∧
 (((Go.Value.pointer (Option.some (Go.Addr.mk 1002 2 Option.none))) = (Go.Value.pointer (Option.some (Go.Addr.mk 1002 2 Option.none)))) ∧
 (((Go.Value.pointer (Option.some (Go.Addr.mk 1002 0 Option.none))) = (Go.Value.pointer (Option.some (Go.Addr.mk 1002 0 Option.none)))) ∧
 (((Go.Value.pointer (Option.some (Go.Addr.mk 1002 0 Option.none))) = (Go.Value.pointer (Option.some (Go.Addr.mk 1002 0 Option.none)))) ∧
 True))))))))))))))))) ∧
 (True ∧
 ((((Go.Value.tuple [].toArray) = (Go.Value.tuple [].toArray)) ∧
 (((Go.Value.tuple [].toArray) = (Go.Value.tuple [].toArray)) ∧
 (((Go.Value.tuple [].toArray) = (Go.Value.tuple [].toArray)) ∧
 (((Go.Value.tuple [].toArray) = (Go.Value.tuple [].toArray)) ∧
 (((Go.Value.tuple [].toArray) = (Go.Value.tuple [].toArray)) ∧
 (((Go.Value.tuple [].toArray) = (Go.Value.tuple [].toArray)) ∧
 (((Go.Value.tuple [].toArray) = (Go.Value.tuple [].toArray)) ∧
 (((Go.Value.tuple [].toArray) = (Go.Value.tuple [].toArray)) ∧
 (((Go.Value.tuple [].toArray) = (Go.Value.tuple [].toArray)) ∧
 (((Go.Value.tuple [].toArray) = (Go.Value.tuple [].toArray)) ∧
 (((Go.Value.tuple [].toArray) = (Go.Value.tuple [].toArray)) ∧
 (((Value.bool true) = (Value.bool true)) ∧
 (((Value.bool true) = (Value.bool true)) ∧
 True))))))))))))) ∧
 ((((Value.bool true) = (Value.bool true)) ∧
 (((Go.Value.tuple [].toArray) = (Go.Value.tuple [].toArray)) ∧
 (((Go.Value.tuple [].toArray) = (Go.Value.tuple [].toArray)) ∧
 (((Go.Value.tuple [].toArray) = (Go.Value.tuple [].toArray)) ∧
 (((Go.Value.tuple [].toArray) = (Go.Value.tuple [].toArray)) ∧
 (((Go.Value.tuple [].toArray) = (Go.Value.tuple [].toArray)) ∧
 (((Go.Value.tuple [].toArray) = (Go.Value.tuple [].toArray)) ∧
 (((Go.Value.tuple [].toArray) = (Go.Value.tuple [].toArray)) ∧
 (((Go.Value.tuple [].toArray) = (Go.Value.tuple [].toArray)) ∧
 (((Go.Value.tuple [].toArray) = (Go.Value.tuple [].toArray)) ∧
 (((Go.Value.tuple [].toArray) = (Go.Value.tuple [].toArray)) ∧
 (((Value.bool true) = (Value.bool true)) ∧
 True)))))))))))) ∧
 (∃ n2 : Int,
 ((Says C 60 [(D.val (Go.Value.string ({ data := #[] })))] [(D.val (vI n2))]) ∧
 ((((Go.Value.pointer (Option.some (Go.Addr.mk 1002 0 Option.none))) = (Go.Value.pointer (Option.some (Go.Addr.mk 1002 0 Option.none)))) ∧
 True) ∧
 ((((Value.bool false) = (Value.bool false)) ∧
 (((Go.Value.tuple [].toArray) = (Go.Value.tuple [].toArray)) ∧
 (((Go.Value.tuple [].toArray) = (Go.Value.tuple [].toArray)) ∧
 (((Go.Value.tuple [].toArray) = (Go.Value.tuple [].toArray)) ∧
 (((Go.Value.tuple [].toArray) = (Go.Value.tuple [].toArray)) ∧
 (((Go.Value.tuple [].toArray) = (Go.Value.tuple [].toArray)) ∧
 (((Go.Value.tuple [].toArray) = (Go.Value.tuple [].toArray)) ∧
 (((Go.Value.tuple [].toArray) = (Go.Value.tuple [].toArray)) ∧
 (((Go.Value.tuple [].toArray) = (Go.Value.tuple [].toArray)) ∧
 (((Go.Value.tuple [].toArray) = (Go.Value.tuple [].toArray)) ∧
 (((Go.Value.tuple [].toArray) = (Go.Value.tuple [].toArray)) ∧
 (((Value.bool false) = (Value.bool false)) ∧
 (((Value.bool false) = (Value.bool false)) ∧
 (((Value.bool true) = (Value.bool true)) ∧
 (((Go.Value.pointer (Option.some (Go.Addr.mk 1002 2 Option.none))) = (Go.Value.pointer (Option.some (Go.Addr.mk 1002 2 Option.none)))) ∧
 (((Go.Value.pointer (Option.some (Go.Addr.mk 1002 0 Option.none))) = (Go.Value.pointer (Option.some (Go.Addr.mk 1002 0 Option.none)))) ∧
 (((Go.Value.pointer (Option.some (Go.Addr.mk 1002 0 Option.none))) = (Go.Value.pointer (Option.some (Go.Addr.mk 1002 0 Option.none)))) ∧
 True))))))))))))))))) ∧
 (True ∧
 ((((Go.Value.tuple [].toArray) = (Go.Value.tuple [].toArray)) ∧
 (((Go.Value.tuple [].toArray) = (Go.Value.tuple [].toArray)) ∧
 (((Go.Value.tuple [].toArray) = (Go.Value.tuple [].toArray)) ∧
 (((Go.Value.tuple [].toArray) = (Go.Value.tuple [].toArray)) ∧
 (((Go.Value.tuple [].toArray) = (Go.Value.tuple [].toArray)) ∧
 (((Go.Value.tuple [].toArray) = (Go.Value.tuple [].toArray)) ∧
 (((Go.Value.tuple [].toArray) = (Go.Value.tuple [].toArray)) ∧
 (((Go.Value.tuple [].toArray) = (Go.Value.tuple [].toArray)) ∧
 (((Go.Value.tuple [].toArray) = (Go.Value.tuple [].toArray)) ∧
 (((Go.Value.tuple [].toArray) = (Go.Value.tuple [].toArray)) ∧
 (((Go.Value.tuple [].toArray) = (Go.Value.tuple [].toArray)) ∧
 (((Value.bool true) = (Value.bool true)) ∧
 (((Value.bool true) = (Value.bool true)) ∧
 True))))))))))))) ∧
 ((((Value.bool true) = (Value.bool true)) ∧
 (((Go.Value.tuple [].toArray) = (Go.Value.tuple [].toArray)) ∧
 (((Go.Value.tuple [].toArray) = (Go.Value.tuple [].toArray)) ∧
 (((Go.Value.tuple [].toArray) = (Go.Value.tuple [].toArray)) ∧
 (((Go.Value.tuple [].toArray) = (Go.Value.tuple [].toArray)) ∧
 (((Go.Value.tuple [].toArray) = (Go.Value.tuple [].toArray)) ∧
 (((Go.Value.tuple [].toArray) = (Go.Value.tuple [].toArray)) ∧
 (((Go.Value.tuple [].toArray) = (Go.Value.tuple [].toArray)) ∧
 (((Go.Value.tuple [].toArray) = (Go.Value.tuple [].toArray)) ∧
 (((Go.Value.tuple [].toArray) = (Go.Value.tuple [].toArray)) ∧
 (((Go.Value.tuple [].toArray) = (Go.Value.tuple [].toArray)) ∧
 (((Value.bool true) = (Value.bool true)) ∧
 True)))))))))))) ∧
 (∃ n3 : Int,
 ((Says C 60 [(D.val (Go.Value.string ({ data := #[] })))] [(D.val (vI n3))]) ∧
 ((((Go.Value.pointer (Option.some (Go.Addr.mk 1002 0 Option.none))) = (Go.Value.pointer (Option.some (Go.Addr.mk 1002 0 Option.none)))) ∧
 True) ∧
 ((((Value.bool false) = (Value.bool false)) ∧
 (((Go.Value.tuple [].toArray) = (Go.Value.tuple [].toArray)) ∧
 (((Go.Value.tuple [].toArray) = (Go.Value.tuple [].toArray)) ∧
 (((Go.Value.tuple [].toArray) = (Go.Value.tuple [].toArray)) ∧
 (((Go.Value.tuple [].toArray) = (Go.Value.tuple [].toArray)) ∧
 (((Go.Value.tuple [].toArray) = (Go.Value.tuple [].toArray)) ∧
 (((Go.Value.tuple [].toArray) = (Go.Value.tuple [].toArray)) ∧
 (((Go.Value.tuple [].toArray) = (Go.Value.tuple [].toArray)) ∧
 (((Go.Value.tuple [].toArray) = (Go.Value.tuple [].toArray)) ∧
 (((Go.Value.tuple [].toArray) = (Go.Value.tuple [].toArray)) ∧
 (((Go.Value.tuple [].toArray) = (Go.Value.tuple [].toArray)) ∧
 (((Value.bool false) = (Value.bool false)) ∧
 (((Value.bool false) = (Value.bool false)) ∧
 (((Value.bool true) = (Value.bool true)) ∧
 (((Go.Value.pointer (Option.some (Go.Addr.mk 1002 2 Option.none))) = (Go.Value.pointer (Option.some (Go.Addr.mk 1002 2 Option.none)))) ∧
 (((Go.Value.pointer (Option.some (Go.Addr.mk 1002 0 Option.none))) = (Go.Value.pointer (Option.some (Go.Addr.mk 1002 0 Option.none)))) ∧
 (((Go.Value.pointer (Option.some (Go.Addr.mk 1002 0 Option.none))) = (Go.Value.pointer (Option.some (Go.Addr.mk 1002 0 Option.none)))) ∧
 True))))))))))))))))) ∧
 (True ∧
 ((((Go.Value.tuple [].toArray) = (Go.Value.tuple [].toArray)) ∧
 (((Go.Value.tuple [].toArray) = (Go.Value.tuple [].toArray)) ∧
 (((Go.Value.tuple [].toArray) = (Go.Value.tuple [].toArray)) ∧
 (((Go.Value.tuple [].toArray) = (Go.Value.tuple [].toArray)) ∧
 (((Go.Value.tuple [].toArray) = (Go.Value.tuple [].toArray)) ∧
 (((Go.Value.tuple [].toArray) = (Go.Value.tuple [].toArray)) ∧
 (((Go.Value.tuple [].toArray) = (Go.Value.tuple [].toArray)) ∧
 (((Go.Value.tuple [].toArray) = (Go.Value.tuple [].toArray)) ∧
 (((Go.Value.tuple [].toArray) = (Go.Value.tuple [].toArray)) ∧
 (((Go.Value.tuple [].toArray) = (Go.Value.tuple [].toArray)) ∧
 (((Go.Value.tuple [].toArray) = (Go.Value.tuple [].toArray)) ∧
 (((Value.bool true) = (Value.bool true)) ∧
 (((Value.bool true) = (Value.bool true)) ∧
 True))))))))))))) ∧
 ((((Value.bool true) = (Value.bool true)) ∧
 (((Go.Value.tuple [].toArray) = (Go.Value.tuple [].toArray)) ∧
 (((Go.Value.tuple [].toArray) = (Go.Value.tuple [].toArray)) ∧
 (((Go.Value.tuple [].toArray) = (Go.Value.tuple [].toArray)) ∧
 (((Go.Value.tuple [].toArray) = (Go.Value.tuple [].toArray)) ∧
 (((Go.Value.tuple [].toArray) = (Go.Value.tuple [].toArray)) ∧
 (((Go.Value.tuple [].toArray) = (Go.Value.tuple [].toArray)) ∧
 (((Go.Value.tuple [].toArray) = (Go.Value.tuple [].toArray)) ∧
 (((Go.Value.tuple [].toArray) = (Go.Value.tuple [].toArray)) ∧
 (((Go.Value.tuple [].toArray) = (Go.Value.tuple [].toArray)) ∧
 (((Go.Value.tuple [].toArray) = (Go.Value.tuple [].toArray)) ∧
 (((Value.bool true) = (Value.bool true)) ∧
 True)))))))))))) ∧
 (∃ n4 : Int,
 ((Says C 60 [(D.val (Go.Value.string ({ data := #[] })))] [(D.val (vI n4))]) ∧
 ((((Go.Value.pointer (Option.some (Go.Addr.mk 1002 0 Option.none))) = (Go.Value.pointer (Option.some (Go.Addr.mk 1002 0 Option.none)))) ∧
 True) ∧
 ((((Value.bool false) = (Value.bool false)) ∧
 (((Go.Value.tuple [].toArray) = (Go.Value.tuple [].toArray)) ∧
 (((Go.Value.tuple [].toArray) = (Go.Value.tuple [].toArray)) ∧
 (((Go.Value.tuple [].toArray) = (Go.Value.tuple [].toArray)) ∧
 (((Go.Value.tuple [].toArray) = (Go.Value.tuple [].toArray)) ∧
 (((Go.Value.tuple [].toArray) = (Go.Value.tuple [].toArray)) ∧
 (((Go.Value.tuple [].toArray) = (Go.Value.tuple [].toArray)) ∧
 (((Go.Value.tuple [].toArray) = (Go.Value.tuple [].toArray)) ∧
 (((Go.Value.tuple [].toArray) = (Go.Value.tuple [].toArray)) ∧
 (((Go.Value.tuple [].toArray) = (Go.Value.tuple [].toArray)) ∧
 (((Go.Value.tuple [].toArray) = (Go.Value.tuple [].toArray)) ∧
 (((Value.bool false) = (Value.bool false)) ∧
 (((Value.bool false) = (Value.bool false)) ∧
 (((Value.bool true) = (Value.bool true)) ∧
 (((Go.Value.pointer (Option.some (Go.Addr.mk 1002 2 Option.none))) = (Go.Value.pointer (Option.some (Go.Addr.mk 1002 2 Option.none)))) ∧
 (((Go.Value.pointer (Option.some (Go.Addr.mk 1002 0 Option.none))) = (Go.Value.pointer (Option.some (Go.Addr.mk 1002 0 Option.none)))) ∧
 (((Go.Value.pointer (Option.some (Go.Addr.mk 1002 0 Option.none))) = (Go.Value.pointer (Option.some (Go.Addr.mk 1002 0 Option.none)))) ∧
 True))))))))))))))))) ∧
 (True ∧
 ((((Go.Value.tuple [].toArray) = (Go.Value.tuple [].toArray)) ∧
 (((Go.Value.tuple [].toArray) = (Go.Value.tuple [].toArray)) ∧
 (((Go.Value.tuple [].toArray) = (Go.Value.tuple [].toArray)) ∧
 (((Go.Value.tuple [].toArray) = (Go.Value.tuple [].toArray)) ∧
 (((Go.Value.tuple [].toArray) = (Go.Value.tuple [].toArray)) ∧
 (((Go.Value.tuple [].toArray) = (Go.Value.tuple [].toArray)) ∧
 (((Go.Value.tuple [].toArray) = (Go.Value.tuple [].toArray)) ∧
 (((Go.Value.tuple [].toArray) = (Go.Value.tuple [].toArray)) ∧
 (((Go.Value.tuple [].toArray) = (Go.Value.tuple [].toArray)) ∧
 (((Go.Value.tuple [].toArray) = (Go.Value.tuple [].toArray)) ∧
 (((Go.Value.tuple [].toArray) = (Go.Value.tuple [].toArray)) ∧
 (((Value.bool true) = (Value.bool true)) ∧
 (((Value.bool true) = (Value.bool true)) ∧
 True))))))))))))) ∧
 ((((Value.bool true) = (Value.bool true)) ∧
 (((Go.Value.tuple [].toArray) = (Go.Value.tuple [].toArray)) ∧
 (((Go.Value.tuple [].toArray) = (Go.Value.tuple [].toArray)) ∧
 (((Go.Value.tuple [].toArray) = (Go.Value.tuple [].toArray)) ∧
 (((Go.Value.tuple [].toArray) = (Go.Value.tuple [].toArray)) ∧
 (((Go.Value.tuple [].toArray) = (Go.Value.tuple [].toArray)) ∧
 (((Go.Value.tuple [].toArray) = (Go.Value.tuple [].toArray)) ∧
 (((Go.Value.tuple [].toArray) = (Go.Value.tuple [].toArray)) ∧
 (((Go.Value.tuple [].toArray) = (Go.Value.tuple [].toArray)) ∧
 (((Go.Value.tuple [].toArray) = (Go.Value.tuple [].toArray)) ∧
 (((Go.Value.tuple [].toArray) = (Go.Value.tuple [].toArray)) ∧
 (((Value.bool true) = (Value.bool true)) ∧
 True)))))))))))) ∧
 (∃ n5 : Int,
 ((Says C 60 [(D.val (Go.Value.string ({ data := #[] })))] [(D.val (vI n5))]) ∧
 (k [(D.agg [(D.val (Go.Value.string ({ data := #[] }))), (D.val (vI (0 : Int))), (D.val (vI (0 : Int))), (D.val (vI (0 : Int))), (D.val (vI (0 : Int)))]), (D.val (vI (7 : Int)))]))))))))))))))))))))))))))))))))))
 False))
 ((((Value.bool true) = (Value.bool true)) ∧
 (((Value.bool true) = (Value.bool true)) ∧
 ((bcase (decide (0 < (↑n1 : Int)))
 ((Go.Value.pointer (Option.some (Go.Addr.mk 1001 0 Option.none))) = (Go.Value.pointer (Option.some (Go.Addr.mk 1001 0 Option.none))))
 False) ∧
 (((vI (0 : Int)) = (vI (0 : Int))) ∧
 (((Go.Value.pointer (Option.some (Go.Addr.mk 1002 1 Option.none))) = (Go.Value.pointer (Option.some (Go.Addr.mk 1002 1 Option.none)))) ∧
 (((Go.Value.pointer (Option.some (Go.Addr.mk 1002 0 Option.none))) = (Go.Value.pointer (Option.some (Go.Addr.mk 1002 0 Option.none)))) ∧
 (((Go.Value.pointer (Option.some (Go.Addr.mk 1002 0 Option.none))) = (Go.Value.pointer (Option.some (Go.Addr.mk 1002 0 Option.none)))) ∧
 (((Go.Value.slice (Option.some (Go.Addr.mk 1001 0 Option.none)) (n1) (n1)) = (Go.Value.slice (Option.some (Go.Addr.mk 1001 0 Option.none)) (n1) (n1))) ∧
 (((Go.Value.pointer (Option.some (Go.Addr.mk 1002 0 Option.none))) = (Go.Value.pointer (Option.some (Go.Addr.mk 1002 0 Option.none)))) ∧
 (((Go.Value.pointer (Option.some (Go.Addr.mk 1002 0 Option.none))) = (Go.Value.pointer (Option.some (Go.Addr.mk 1002 0 Option.none)))) ∧
 (((Go.Value.pointer (Option.some (Go.Addr.mk 1002 0 Option.none))) = (Go.Value.pointer (Option.some (Go.Addr.mk 1002 0 Option.none)))) ∧
 (((Value.bool false) = (Value.bool false)) ∧
 True)))))))))))) ∧
 ((((Go.Value.pointer (Option.some (Go.Addr.mk 1002 0 Option.none))) = (Go.Value.pointer (Option.some (Go.Addr.mk 1002 0 Option.none)))) ∧
 True) ∧
 ((((Value.bool false) = (Value.bool false)) ∧
 (((Go.Value.tuple [].toArray) = (Go.Value.tuple [].toArray)) ∧
 (((Go.Value.tuple [].toArray) = (Go.Value.tuple [].toArray)) ∧
 (((Go.Value.tuple [].toArray) = (Go.Value.tuple [].toArray)) ∧
 (((Go.Value.tuple [].toArray) = (Go.Value.tuple [].toArray)) ∧
 (((Go.Value.tuple [].toArray) = (Go.Value.tuple [].toArray)) ∧
 (((Go.Value.tuple [].toArray) = (Go.Value.tuple [].toArray)) ∧
 (((Go.Value.tuple [].toArray) = (Go.Value.tuple [].toArray)) ∧
 (((Go.Value.tuple [].toArray) = (Go.Value.tuple [].toArray)) ∧
 (((Go.Value.tuple [].toArray) = (Go.Value.tuple [].toArray)) ∧
 (((Go.Value.tuple [].toArray) = (Go.Value.tuple [].toArray)) ∧
 (((Value.bool false) = (Value.bool false)) ∧
 (((Value.bool false) = (Value.bool false)) ∧
 (((Value.bool true) = (Value.bool true)) ∧
 (((Go.Value.pointer (Option.some (Go.Addr.mk 1002 2 Option.none))) = (Go.Value.pointer (Option.some (Go.Addr.mk 1002 2 Option.none)))) ∧
 (((Go.Value.pointer (Option.some (Go.Addr.mk 1002 0 Option.none))) = (Go.Value.pointer (Option.some (Go.Addr.mk 1002 0 Option.none)))) ∧
 (((Go.Value.pointer (Option.some (Go.Addr.mk 1002 0 Option.none))) = (Go.Value.pointer (Option.some (Go.Addr.mk 1002 0 Option.none)))) ∧
 True))))))))))))))))) ∧
 (True ∧
 ((((Go.Value.tuple [].toArray) = (Go.Value.tuple [].toArray)) ∧
 (((Go.Value.tuple [].toArray) = (Go.Value.tuple [].toArray)) ∧
 (((Go.Value.tuple [].toArray) = (Go.Value.tuple [].toArray)) ∧
 (((Go.Value.tuple [].toArray) = (Go.Value.tuple [].toArray)) ∧
 (((Go.Value.tuple [].toArray) = (Go.Value.tuple [].toArray)) ∧
 (((Go.Value.tuple [].toArray) = (Go.Value.tuple [].toArray)) ∧
 (((Go.Value.tuple [].toArray) = (Go.Value.tuple [].toArray)) ∧
 (((Go.Value.tuple [].toArray) = (Go.Value.tuple [].toArray)) ∧
 (((Go.Value.tuple [].toArray) = (Go.Value.tuple [].toArray)) ∧
 (((Go.Value.tuple [].toArray) = (Go.Value.tuple [].toArray)) ∧
 (((Go.Value.tuple [].toArray) = (Go.Value.tuple [].toArray)) ∧
 (((Value.bool true) = (Value.bool true)) ∧
 (((Value.bool true) = (Value.bool true)) ∧
 True))))))))))))) ∧
 ((((Value.bool true) = (Value.bool true)) ∧
 (((Go.Value.tuple [].toArray) = (Go.Value.tuple [].toArray)) ∧
 (((Go.Value.tuple [].toArray) = (Go.Value.tuple [].toArray)) ∧
 (((Go.Value.tuple [].toArray) = (Go.Value.tuple [].toArray)) ∧
 (((Go.Value.tuple [].toArray) = (Go.Value.tuple [].toArray)) ∧
 (((Go.Value.tuple [].toArray) = (Go.Value.tuple [].toArray)) ∧
 (((Go.Value.tuple [].toArray) = (Go.Value.tuple [].toArray)) ∧
 (((Go.Value.tuple [].toArray) = (Go.Value.tuple [].toArray)) ∧
 (((Go.Value.tuple [].toArray) = (Go.Value.tuple [].toArray)) ∧
 (((Go.Value.tuple [].toArray) = (Go.Value.tuple [].toArray)) ∧
 (((Go.Value.tuple [].toArray) = (Go.Value.tuple [].toArray)) ∧
 (((Value.bool true) = (Value.bool true)) ∧
 True)))))))))))) ∧
 (∃ n2 : Int,
 ((Says C 60 [(D.val (Go.Value.string ({ data := #[] })))] [(D.val (vI n2))]) ∧
 ((((Go.Value.pointer (Option.some (Go.Addr.mk 1002 0 Option.none))) = (Go.Value.pointer (Option.some (Go.Addr.mk 1002 0 Option.none)))) ∧
 True) ∧
 ((((Value.bool false) = (Value.bool false)) ∧
 (((Go.Value.tuple [].toArray) = (Go.Value.tuple [].toArray)) ∧
 (((Go.Value.tuple [].toArray) = (Go.Value.tuple [].toArray)) ∧
 (((Go.Value.tuple [].toArray) = (Go.Value.tuple [].toArray)) ∧
 (((Go.Value.tuple [].toArray) = (Go.Value.tuple [].toArray)) ∧
 (((Go.Value.tuple [].toArray) = (Go.Value.tuple [].toArray)) ∧
 (((Go.Value.tuple [].toArray) = (Go.Value.tuple [].toArray)) ∧
 (((Go.Value.tuple [].toArray) = (Go.Value.tuple [].toArray)) ∧
 (((Go.Value.tuple [].toArray) = (Go.Value.tuple [].toArray)) ∧
 (((Go.Value.tuple [].toArray) = (Go.Value.tuple [].toArray)) ∧
 (((Go.Value.tuple [].toArray) = (Go.Value.tuple [].toArray)) ∧
 (((Value.bool false) = (Value.bool false)) ∧
 (((Value.bool false) = (Value.bool false)) ∧
 (((Value.bool true) = (Value.bool true)) ∧
 (((Go.Value.pointer (Option.some (Go.Addr.mk 1002 2 Option.none))) = (Go.Value.pointer (Option.some (Go.Addr.mk 1002 2 Option.none)))) ∧
 (((Go.Value.pointer (Option.some (Go.Addr.mk 1002 0 Option.none))) = (Go.Value.pointer (Option.some (Go.Addr.mk 1002 0 Option.none)))) ∧
 (((Go.Value.pointer (Option.some (Go.Addr.mk 1002 0 Option.none))) = (Go.Value.pointer (Option.some (Go.Addr.mk 1002 0 Option.none)))) ∧
 True))))))))))))))))) ∧
 (True ∧
 ((((Go.Value.tuple [].toArray) = (Go.Value.tuple [].toArray)) ∧
 (((Go.Value.tuple [].toArray) = (Go.Value.tuple [].toArray)) ∧
 (((Go.Value.tuple [].toArray) = (Go.Value.tuple [].toArray)) ∧
 (((Go.Value.tuple [].toArray) = (Go.Value.tuple [].toArray)) ∧
 (((Go.Value.tuple [].toArray) = (Go.Value.tuple [].toArray)) ∧
 (((Go.Value.tuple [].toArray) = (Go.Value.tuple [].toArray)) ∧
 (((Go.Value.tuple [].toArray) = (Go.Value.tuple [].toArray)) ∧
 (((Go.Value.tuple [].toArray) = (Go.Value.tuple [].toArray)) ∧
 (((Go.Value.tuple [].toArray) = (Go.Value.tuple [].toArray)) ∧
 (((Go.Value.tuple [].toArray) = (Go.Value.tuple [].toArray)) ∧
 (((Go.Value.tuple [].toArray) = (Go.Value.tuple [].toArray)) ∧
 (((Value.bool true) = (Value.bool true)) ∧
 (((Value.bool true) = (Value.bool true)) ∧
 True))))))))))))) ∧
 ((((Value.bool true) = (Value.bool true)) ∧
 (((Go.Value.tuple [].toArray) = (Go.Value.tuple [].toArray)) ∧
 (((Go.Value.tuple [].toArray) = (Go.Value.tuple [].toArray)) ∧
 (((Go.Value.tuple [].toArray) = (Go.Value.tuple [].toArray)) ∧
 (((Go.Value.tuple [].toArray) = (Go.Value.tuple [].toArray)) ∧
 (((Go.Value.tuple [].toArray) = (Go.Value.tuple [].toArray)) ∧
 (((Go.Value.tuple [].toArray) = (Go.Value.tuple [].toArray)) ∧
 (((Go.Value.tuple [].toArray) = (Go.Value.tuple [].toArray)) ∧
 (((Go.Value.tuple [].toArray) = (Go.Value.tuple [].toArray)) ∧
 (((Go.Value.tuple [].toArray) = (Go.Value.tuple [].toArray)) ∧
 (((Go.Value.tuple [].toArray) = (Go.Value.tuple [].toArray)) ∧
 (((Value.bool true) = (Value.bool true)) ∧
 True)))))))))))) ∧
 (∃ n3 : Int,
 ((Says C 60 [(D.val (Go.Value.string ({ data := #[] })))] [(D.val (vI n3))]) ∧
 ((((Go.Value.pointer (Option.some (Go.Addr.mk 1002 0 Option.none))) = (Go.Value.pointer (Option.some (Go.Addr.mk 1002 0 Option.none)))) ∧
 True) ∧
 ((((Value.bool false) = (Value.bool false)) ∧
 (((Go.Value.tuple [].toArray) = (Go.Value.tuple [].toArray)) ∧
 (((Go.Value.tuple [].toArray) = (Go.Value.tuple [].toArray)) ∧
 (((Go.Value.tuple [].toArray) = (Go.Value.tuple [].toArray)) ∧
 (((Go.Value.tuple [].toArray) = (Go.Value.tuple [].toArray)) ∧
 (((Go.Value.tuple [].toArray) = (Go.Value.tuple [].toArray)) ∧
 (((Go.Value.tuple [].toArray) = (Go.Value.tuple [].toArray)) ∧
 (((Go.Value.tuple [].toArray) = (Go.Value.tuple [].toArray)) ∧
 (((Go.Value.tuple [].toArray) = (Go.Value.tuple [].toArray)) ∧
 (((Go.Value.tuple [].toArray) = (Go.Value.tuple [].toArray)) ∧
 (((Go.Value.tuple [].toArray) = (Go.Value.tuple [].toArray)) ∧
 (((Value.bool false) = (Value.bool false)) ∧
 (((Value.bool false) = (Value.bool false)) ∧
 (((Value.bool true) = (Value.bool true)) ∧
 (((Go.Value.pointer (Option.some (Go.Addr.mk 1002 2 Option.none))) = (Go.Value.pointer (Option.some (Go.Addr.mk 1002 2 Option.none)))) ∧
 (((Go.Value.pointer (Option.some (Go.Addr.mk 1002 0 Option.none))) = (Go.Value.pointer (Option.some (Go.Addr.mk 1002 0 Option.none)))) ∧
 (((Go.Value.pointer (Option.some (Go.Addr.mk 1002 0 Option.none))) = (Go.Value.pointer (Option.some (Go.Addr.mk 1002 0 Option.none)))) ∧
 True))))))))))))))))) ∧
 (True ∧
 ((((Go.Value.tuple [].toArray) = (Go.Value.tuple [].toArray)) ∧
 (((Go.Value.tuple [].toArray) = (Go.Value.tuple [].toArray)) ∧
 (((Go.Value.tuple [].toArray) = (Go.Value.tuple [].toArray)) ∧
 (((Go.Value.tuple [].toArray) = (Go.Value.tuple [].toArray)) ∧
 (((Go.Value.tuple [].toArray) = (Go.Value.tuple [].toArray)) ∧
 (((Go.Value.tuple [].toArray) = (Go.Value.tuple [].toArray)) ∧
 (((Go.Value.tuple [].toArray) = (Go.Value.tuple [].toArray)) ∧
 (((Go.Value.tuple [].toArray) = (Go.Value.tuple [].toArray)) ∧
 (((Go.Value.tuple [].toArray) = (Go.Value.tuple [].toArray)) ∧
 (((Go.Value.tuple [].toArray) = (Go.Value.tuple [].toArray)) ∧
 (((Go.Value.tuple [].toArray) = (Go.Value.tuple [].toArray)) ∧
 (((Value.bool true) = (Value.bool true)) ∧
 (((Value.bool true) = (Value.bool true)) ∧
 True))))))))))))) ∧
 ((((Value.bool true) = (Value.bool true)) ∧
 (((Go.Value.tuple [].toArray) = (Go.Value.tuple [].toArray)) ∧
 (((Go.Value.tuple [].toArray) = (Go.Value.tuple [].toArray)) ∧
 (((Go.Value.tuple [].toArray) = (Go.Value.tuple [].toArray)) ∧
 (((Go.Value.tuple [].toArray) = (Go.Value.tuple [].toArray)) ∧
 (((Go.Value.tuple [].toArray) = (Go.Value.tuple [].toArray)) ∧
 (((Go.Value.tuple [].toArray) = (Go.Value.tuple [].toArray)) ∧
 (((Go.Value.tuple [].toArray) = (Go.Value.tuple [].toArray)) ∧
 (((Go.Value.tuple [].toArray) = (Go.Value.tuple [].toArray)) ∧
 (((Go.Value.tuple [].toArray) = (Go.Value.tuple [].toArray)) ∧
 (((Go.Value.tuple [].toArray) = (Go.Value.tuple [].toArray)) ∧
 (((Value.bool true) = (Value.bool true)) ∧
 True)))))))))))) ∧
 (∃ n4 : Int,
 ((Says C 60 [(D.val (Go.Value.string ({ data := #[] })))] [(D.val (vI n4))]) ∧
 ((((Go.Value.pointer (Option.some (Go.Addr.mk 1002 0 Option.none))) = (Go.Value.pointer (Option.some (Go.Addr.mk 1002 0 Option.none)))) ∧
 True) ∧
 ((((Value.bool false) = (Value.bool false)) ∧
 (((Go.Value.tuple [].toArray) = (Go.Value.tuple [].toArray)) ∧
 (((Go.Value.tuple [].toArray) = (Go.Value.tuple [].toArray)) ∧
 (((Go.Value.tuple [].toArray) = (Go.Value.tuple [].toArray)) ∧
 (((Go.Value.tuple [].toArray) = (Go.Value.tuple [].toArray)) ∧
 (((Go.Value.tuple [].toArray) = (Go.Value.tuple [].toArray)) ∧
 (((Go.Value.tuple [].toArray) = (Go.Value.tuple [].toArray)) ∧
 (((Go.Value.tuple [].toArray) = (Go.Value.tuple [].toArray)) ∧
 (((Go.Value.tuple [].toArray) = (Go.Value.tuple [].toArray)) ∧
 (((Go.Value.tuple [].toArray) = (Go.Value.tuple [].toArray)) ∧
 (((Go.Value.tuple [].toArray) = (Go.Value.tuple [].toArray)) ∧
 (((Value.bool false) = (Value.bool false)) ∧
 (((Value.bool false) = (Value.bool false)) ∧
 (((Value.bool true) = (Value.bool true)) ∧
 (((Go.Value.pointer (Option.some (Go.Addr.mk 1002 2 Option.none))) = (Go.Value.pointer (Option.some (Go.Addr.mk 1002 2 Option.none)))) ∧
 (((Go.Value.pointer (Option.some (Go.Addr.mk 1002 0 Option.none))) = (Go.Value.pointer (Option.some (Go.Addr.mk 1002 0 Option.none)))) ∧
 (((Go.Value.pointer (Option.some (Go.Addr.mk 1002 0 Option.none))) = (Go.Value.pointer (Option.some (Go.Addr.mk 1002 0 Option.none)))) ∧
 True))))))))))))))))) ∧
 (True ∧
 ((((Go.Value.tuple [].toArray) = (Go.Value.tuple [].toArray)) ∧
 (((Go.Value.tuple [].toArray) = (Go.Value.tuple [].toArray)) ∧
 (((Go.Value.tuple [].toArray) = (Go.Value.tuple [].toArray)) ∧
 (((Go.Value.tuple [].toArray) = (Go.Value.tuple [].toArray)) ∧
 (((Go.Value.tuple [].toArray) = (Go.Value.tuple [].toArray)) ∧
 (((Go.Value.tuple [].toArray) = (Go.Value.tuple [].toArray)) ∧
 (((Go.Value.tuple [].toArray) = (Go.Value.tuple [].toArray)) ∧
 (((Go.Value.tuple [].toArray) = (Go.Value.tuple [].toArray)) ∧
 (((Go.Value.tuple [].toArray) = (Go.Value.tuple [].toArray)) ∧
 (((Go.Value.tuple [].toArray) = (Go.Value.tuple [].toArray)) ∧
 (((Go.Value.tuple [].toArray) = (Go.Value.tuple [].toArray)) ∧
 (((Value.bool true) = (Value.bool true)) ∧
 (((Value.bool true) = (Value.bool true)) ∧
 True))))))))))))) ∧
 ((((Value.bool true) = (Value.bool true)) ∧
 (((Go.Value.tuple [].toArray) = (Go.Value.tuple [].toArray)) ∧
 (((Go.Value.tuple [].toArray) = (Go.Value.tuple [].toArray)) ∧
 (((Go.Value.tuple [].toArray) = (Go.Value.tuple [].toArray)) ∧
 (((Go.Value.tuple [].toArray) = (Go.Value.tuple [].toArray)) ∧
 (((Go.Value.tuple [].toArray) = (Go.Value.tuple [].toArray)) ∧
 (((Go.Value.tuple [].toArray) = (Go.Value.tuple [].toArray)) ∧
 (((Go.Value.tuple [].toArray) = (Go.Value.tuple [].toArray)) ∧
 (((Go.Value.tuple [].toArray) = (Go.Value.tuple [].toArray)) ∧
 (((Go.Value.tuple [].toArray) = (Go.Value.tuple [].toArray)) ∧
 (((Go.Value.tuple [].toArray) = (Go.Value.tuple [].toArray)) ∧
 (((Value.bool true) = (Value.bool true)) ∧
 True)))))))))))) ∧
 (∃ n5 : Int,
 ((Says C 60 [(D.val (Go.Value.string ({ data := #[] })))] [(D.val (vI n5))]) ∧
 (k [(D.agg [(D.val (Go.Value.string ({ data := #[] }))), (D.val (vI (0 : Int))), (D.val (vI (0 : Int))), (D.val (vI (0 : Int))), (D.val (vI (0 : Int)))]), (D.val (vI (7 : Int)))]))))))))))))))))))))))))))))))))))
 False)))
 ((((Value.bool false) = (Value.bool false)) ∧
 ((bcase (decide (0 < (↑n1 : Int)))
 ((Value.bool true) = (Value.bool false))
 ((Value.bool false) = (Value.bool false))) ∧
 (((vI ((↑n1 : Int))) = (vI ((↑n1 : Int)))) ∧
 (((Go.Value.slice (Option.some (Go.Addr.mk 1001 0 Option.none)) (n1) (n1)) = (Go.Value.slice (Option.some (Go.Addr.mk 1001 0 Option.none)) (n1) (n1))) ∧
 (((Go.Value.pointer (Option.some (Go.Addr.mk 1002 0 Option.none))) = (Go.Value.pointer (Option.some (Go.Addr.mk 1002 0 Option.none)))) ∧
 (((Go.Value.pointer (Option.some (Go.Addr.mk 1002 0 Option.none))) = (Go.Value.pointer (Option.some (Go.Addr.mk 1002 0 Option.none)))) ∧
 (((Go.Value.pointer (Option.some (Go.Addr.mk 1002 0 Option.none))) = (Go.Value.pointer (Option.some (Go.Addr.mk 1002 0 Option.none)))) ∧
 (((vI (0 : Int)) = (vI (0 : Int))) ∧
 (((Go.Value.pointer (Option.some (Go.Addr.mk 1002 1 Option.none))) = (Go.Value.pointer (Option.some (Go.Addr.mk 1002 1 Option.none)))) ∧
 (((Go.Value.pointer (Option.some (Go.Addr.mk 1002 0 Option.none))) = (Go.Value.pointer (Option.some (Go.Addr.mk 1002 0 Option.none)))) ∧
 (((Go.Value.pointer (Option.some (Go.Addr.mk 1002 0 Option.none))) = (Go.Value.pointer (Option.some (Go.Addr.mk 1002 0 Option.none)))) ∧
 (((Value.bool true) = (Value.bool true)) ∧
 (((Value.bool true) = (Value.bool true)) ∧
 (((Value.bool false) = (Value.bool false)) ∧
 (((Go.Value.pointer (Option.some (Go.Addr.mk 1002 2 Option.none))) = (Go.Value.pointer (Option.some (Go.Addr.mk 1002 2 Option.none)))) ∧
 (((Go.Value.pointer (Option.some (Go.Addr.mk 1002 0 Option.none))) = (Go.Value.pointer (Option.some (Go.Addr.mk 1002 0 Option.none)))) ∧
 (((Go.Value.pointer (Option.some (Go.Addr.mk 1002 0 Option.none))) = (Go.Value.pointer (Option.some (Go.Addr.mk 1002 0 Option.none)))) ∧
 True))))))))))))))))) ∧
 (True ∧
 ((((Go.Value.tuple [].toArray) = (Go.Value.tuple [].toArray)) ∧
 (((Go.Value.tuple [].toArray) = (Go.Value.tuple [].toArray)) ∧
 (((Go.Value.tuple [].toArray) = (Go.Value.tuple [].toArray)) ∧
 (((Go.Value.tuple [].toArray) = (Go.Value.tuple [].toArray)) ∧
 (((Go.Value.tuple [].toArray) = (Go.Value.tuple [].toArray)) ∧
 (((Go.Value.tuple [].toArray) = (Go.Value.tuple [].toArray)) ∧
 (((Go.Value.tuple [].toArray) = (Go.Value.tuple [].toArray)) ∧
 (((Go.Value.tuple [].toArray) = (Go.Value.tuple [].toArray)) ∧
 (((Go.Value.tuple [].toArray) = (Go.Value.tuple [].toArray)) ∧
 (((Go.Value.tuple [].toArray) = (Go.Value.tuple [].toArray)) ∧
 (((Go.Value.tuple [].toArray) = (Go.Value.tuple [].toArray)) ∧
 (((Value.bool true) = (Value.bool true)) ∧
 (((Value.bool true) = (Value.bool true)) ∧
 True))))))))))))) ∧
 ((((Value.bool true) = (Value.bool true)) ∧
 (((Go.Value.tuple [].toArray) = (Go.Value.tuple [].toArray)) ∧
 (((Go.Value.tuple [].toArray) = (Go.Value.tuple [].toArray)) ∧
 (((Go.Value.tuple [].toArray) = (Go.Value.tuple [].toArray)) ∧
 (((Go.Value.tuple [].toArray) = (Go.Value.tuple [].toArray)) ∧
 (((Go.Value.tuple [].toArray) = (Go.Value.tuple [].toArray)) ∧
 (((Go.Value.tuple [].toArray) = (Go.Value.tuple [].toArray)) ∧
 (((Go.Value.tuple [].toArray) = (Go.Value.tuple [].toArray)) ∧
 (((Go.Value.tuple [].toArray) = (Go.Value.tuple [].toArray)) ∧
 (((Go.Value.tuple [].toArray) = (Go.Value.tuple [].toArray)) ∧
 (((Go.Value.tuple [].toArray) = (Go.Value.tuple [].toArray)) ∧
 (((Value.bool true) = (Value.bool true)) ∧
 True)))))))))))) ∧
 ((((Go.Value.pointer (Option.some (Go.Addr.mk 1002 0 Option.none))) = (Go.Value.pointer (Option.some (Go.Addr.mk 1002 0 Option.none)))) ∧
 True) ∧
 ((((Value.bool false) = (Value.bool false)) ∧
 (((Go.Value.tuple [].toArray) = (Go.Value.tuple [].toArray)) ∧
 (((Go.Value.tuple [].toArray) = (Go.Value.tuple [].toArray)) ∧
 (((Go.Value.tuple [].toArray) = (Go.Value.tuple [].toArray)) ∧
 (((Go.Value.tuple [].toArray) = (Go.Value.tuple [].toArray)) ∧
 (((Go.Value.tuple [].toArray) = (Go.Value.tuple [].toArray)) ∧
 (((Go.Value.tuple [].toArray) = (Go.Value.tuple [].toArray)) ∧
 (((Go.Value.tuple [].toArray) = (Go.Value.tuple [].toArray)) ∧
 (((Go.Value.tuple [].toArray) = (Go.Value.tuple [].toArray)) ∧
 (((Go.Value.tuple [].toArray) = (Go.Value.tuple [].toArray)) ∧
 (((Go.Value.tuple [].toArray) = (Go.Value.tuple [].toArray)) ∧
 (((Value.bool false) = (Value.bool false)) ∧
 (((Value.bool false) = (Value.bool false)) ∧
 (((Value.bool true) = (Value.bool true)) ∧
 (((Go.Value.pointer (Option.some (Go.Addr.mk 1002 2 Option.none))) = (Go.Value.pointer (Option.some (Go.Addr.mk 1002 2 Option.none)))) ∧
 (((Go.Value.pointer (Option.some (Go.Addr.mk 1002 0 Option.none))) = (Go.Value.pointer (Option.some (Go.Addr.mk 1002 0 Option.none)))) ∧
 (((Go.Value.pointer (Option.some (Go.Addr.mk 1002 0 Option.none))) = (Go.Value.pointer (Option.some (Go.Addr.mk 1002 0 Option.none)))) ∧
 True))))))))))))))))) ∧
 (True ∧
 ((((Go.Value.tuple [].toArray) = (Go.Value.tuple [].toArray)) ∧
 (((Go.Value.tuple [].toArray) = (Go.Value.tuple [].toArray)) ∧
 (((Go.Value.tuple [].toArray) = (Go.Value.tuple [].toArray)) ∧
 (((Go.Value.tuple [].toArray) = (Go.Value.tuple [].toArray)) ∧
 (((Go.Value.tuple [].toArray) = (Go.Value.tuple [].toArray)) ∧
 (((Go.Value.tuple [].toArray) = (Go.Value.tuple [].toArray)) ∧
 (((Go.Value.tuple [].toArray) = (Go.Value.tuple [].toArray)) ∧
 (((Go.Value.tuple [].toArray) = (Go.Value.tuple [].toArray)) ∧
 (((Go.Value.tuple [].toArray) = (Go.Value.tuple [].toArray)) ∧
 (((Go.Value.tuple [].toArray) = (Go.Value.tuple [].toArray)) ∧
 (((Go.Value.tuple [].toArray) = (Go.Value.tuple [].toArray)) ∧
 (((Value.bool true) = (Value.bool true)) ∧
 (((Value.bool true) = (Value.bool true)) ∧
 True))))))))))))) ∧
 ((((Value.bool true) = (Value.bool true)) ∧
 (((Go.Value.tuple [].toArray) = (Go.Value.tuple [].toArray)) ∧
 (((Go.Value.tuple [].toArray) = (Go.Value.tuple [].toArray)) ∧
 (((Go.Value.tuple [].toArray) = (Go.Value.tuple [].toArray)) ∧
 (((Go.Value.tuple [].toArray) = (Go.Value.tuple [].toArray)) ∧
 (((Go.Value.tuple [].toArray) = (Go.Value.tuple [].toArray)) ∧
 (((Go.Value.tuple [].toArray) = (Go.Value.tuple [].toArray)) ∧
 (((Go.Value.tuple [].toArray) = (Go.Value.tuple [].toArray)) ∧
 (((Go.Value.tuple [].toArray) = (Go.Value.tuple [].toArray)) ∧
 (((Go.Value.tuple [].toArray) = (Go.Value.tuple [].toArray)) ∧
 (((Go.Value.tuple [].toArray) = (Go.Value.tuple [].toArray)) ∧
 (((Value.bool true) = (Value.bool true)) ∧
 True)))))))))))) ∧
 (∃ n2 : Int,
 ((Says C 60 [(D.val (Go.Value.string ({ data := #[] })))] [(D.val (vI n2))]) ∧
 ((((Go.Value.pointer (Option.some (Go.Addr.mk 1002 0 Option.none))) = (Go.Value.pointer (Option.some (Go.Addr.mk 1002 0 Option.none)))) ∧
 True) ∧
 ((((Value.bool false) = (Value.bool false)) ∧
 (((Go.Value.tuple [].toArray) = (Go.Value.tuple [].toArray)) ∧
 (((Go.Value.tuple [].toArray) = (Go.Value.tuple [].toArray)) ∧
 (((Go.Value.tuple [].toArray) = (Go.Value.tuple [].toArray)) ∧
 (((Go.Value.tuple [].toArray) = (Go.Value.tuple [].toArray)) ∧
 (((Go.Value.tuple [].toArray) = (Go.Value.tuple [].toArray)) ∧
 (((Go.Value.tuple [].toArray) = (Go.Value.tuple [].toArray)) ∧
 (((Go.Value.tuple [].toArray) = (Go.Value.tuple [].toArray)) ∧
 (((Go.Value.tuple [].toArray) = (Go.Value.tuple [].toArray)) ∧
 (((Go.Value.tuple [].toArray) = (Go.Value.tuple [].toArray)) ∧
 (((Go.Value.tuple [].toArray) = (Go.Value.tuple [].toArray)) ∧
 (((Value.bool false) = (Value.bool false)) ∧
 (((Value.bool false) = (Value.bool false)) ∧
 (((Value.bool true) = (Value.bool true)) ∧
 (((Go.Value.pointer (Option.some (Go.Addr.mk 1002 2 Option.none))) = (Go.Value.pointer (Option.some (Go.Addr.mk 1002 2 Option.none)))) ∧
 (((Go.Value.pointer (Option.some (Go.Addr.mk 1002 0 Option.none))) = (Go.Value.pointer (Option.some (Go.Addr.mk 1002 0 Option.none)))) ∧
 (((Go.Value.pointer (Option.some (Go.Addr.mk 1002 0 Option.none))) = (Go.Value.pointer (Option.some (Go.Addr.mk 1002 0 Option.none)))) ∧
 True))))))))))))))))) ∧
 (True ∧
 ((((Go.Value.tuple [].toArray) = (Go.Value.tuple [].toArray)) ∧
 (((Go.Value.tuple [].toArray) = (Go.Value.tuple [].toArray)) ∧
 (((Go.Value.tuple [].toArray) = (Go.Value.tuple [].toArray)) ∧
 (((Go.Value.tuple [].toArray) = (Go.Value.tuple [].toArray)) ∧
 (((Go.Value.tuple [].toArray) = (Go.Value.tuple [].toArray)) ∧
 (((Go.Value.tuple [].toArray) = (Go.Value.tuple [].toArray)) ∧
 (((Go.Value.tuple [].toArray) = (Go.Value.tuple [].toArray)) ∧
 (((Go.Value.tuple [].toArray) = (Go.Value.tuple [].toArray)) ∧
 (((Go.Value.tuple [].toArray) = (Go.Value.tuple [].toArray)) ∧
 (((Go.Value.tuple [].toArray) = (Go.Value.tuple [].toArray)) ∧
 (((Go.Value.tuple [].toArray) = (Go.Value.tuple [].toArray)) ∧
 (((Value.bool true) = (Value.bool true)) ∧
 (((Value.bool true) = (Value.bool true)) ∧
 True))))))))))))) ∧
 ((((Value.bool true) = (Value.bool true)) ∧
 (((Go.Value.tuple [].toArray) = (Go.Value.tuple [].toArray)) ∧
 (((Go.Value.tuple [].toArray) = (Go.Value.tuple [].toArray)) ∧
 (((Go.Value.tuple [].toArray) = (Go.Value.tuple [].toArray)) ∧
 (((Go.Value.tuple [].toArray) = (Go.Value.tuple [].toArray)) ∧
 (((Go.Value.tuple [].toArray) = (Go.Value.tuple [].toArray)) ∧
 (((Go.Value.tuple [].toArray) = (Go.Value.tuple [].toArray)) ∧
 (((Go.Value.tuple [].toArray) = (Go.Value.tuple [].toArray)) ∧
 (((Go.Value.tuple [].toArray) = (Go.Value.tuple [].toArray)) ∧
 (((Go.Value.tuple [].toArray) = (Go.Value.tuple [].toArray)) ∧
 (((Go.Value.tuple [].toArray) = (Go.Value.tuple [].toArray)) ∧
 (((Value.bool true) = (Value.bool true)) ∧
 True)))))))))))) ∧
 (∃ n3 : Int,
 ((Says C 60 [(D.val (Go.Value.string ({ data := #[] })))] [(D.val (vI n3))]) ∧
 ((((Go.Value.pointer (Option.some (Go.Addr.mk 1002 0 Option.none))) = (Go.Value.pointer (Option.some (Go.Addr.mk 1002 0 Option.none)))) ∧
 True) ∧
 ((((Value.bool false) = (Value.bool false)) ∧
 (((Go.Value.tuple [].toArray) = (Go.Value.tuple [].toArray)) ∧
 (((Go.Value.tuple [].toArray) = (Go.Value.tuple [].toArray)) ∧
 (((Go.Value.tuple [].toArray) = (Go.Value.tuple [].toArray)) ∧
 (((Go.Value.tuple [].toArray) = (Go.Value.tuple [].toArray)) ∧
 (((Go.Value.tuple [].toArray) = (Go.Value.tuple [].toArray)) ∧
 (((Go.Value.tuple [].toArray) = (Go.Value.tuple [].toArray)) ∧
 (((Go.Value.tuple [].toArray) = (Go.Value.tuple [].toArray)) ∧
 (((Go.Value.tuple [].toArray) = (Go.Value.tuple [].toArray)) ∧
 (((Go.Value.tuple [].toArray) = (Go.Value.tuple [].toArray)) ∧
 (((Go.Value.tuple [].toArray) = (Go.Value.tuple [].toArray)) ∧
 (((Value.bool false) = (Value.bool false)) ∧
 (((Value.bool false) = (Value.bool false)) ∧
 (((Value.bool true) = (Value.bool true)) ∧
 (((Go.Value.pointer (Option.some (Go.Addr.mk 1002 2 Option.none))) = (Go.Value.pointer (Option.some (Go.Addr.mk 1002 2 Option.none)))) ∧
 (((Go.Value.pointer (Option.some (Go.Addr.mk 1002 0 Option.none))) = (Go.Value.pointer (Option.some (Go.Addr.mk 1002 0 Option.none)))) ∧
 (((Go.Value.pointer (Option.some (Go.Addr.mk 1002 0 Option.none))) = (Go.Value.pointer (Option.some (Go.Addr.mk 1002 0 Option.none)))) ∧
 True))))))))))))))))) ∧
 (True ∧
 ((((Go.Value.tuple [].toArray) = (Go.Value.tuple [].toArray)) ∧
 (((Go.Value.tuple [].toArray) = (Go.Value.tuple [].toArray)) ∧
 (((Go.Value.tuple [].toArray) = (Go.Value.tuple [].toArray)) ∧
 (((Go.Value.tuple [].toArray) = (Go.Value.tuple [].toArray)) ∧
 (((Go.Value.tuple [].toArray) = (Go.Value.tuple [].toArray)) ∧
 (((Go.Value.tuple [].toArray) = (Go.Value.tuple [].toArray)) ∧
 (((Go.Value.tuple [].toArray) = (Go.Value.tuple [].toArray)) ∧
 (((Go.Value.tuple [].toArray) = (Go.Value.tuple [].toArray)) ∧
 (((Go.Value.tuple [].toArray) = (Go.Value.tuple [].toArray)) ∧
 (((Go.Value.tuple [].toArray) = (Go.Value.tuple [].toArray)) ∧
 (((Go.Value.tuple [].toArray) = (Go.Value.tuple [].toArray)) ∧
 (((Value.bool true) = (Value.bool true)) ∧
 (((Value.bool true) = (Value.bool true)) ∧
 True))))))))))))) ∧
 ((((Value.bool true) = (Value.bool true)) ∧
 (((Go.Value.tuple [].toArray) = (Go.Value.tuple [].toArray)) ∧
 (((Go.Value.tuple [].toArray) = (Go.Value.tuple [].toArray)) ∧
 (((Go.Value.tuple [].toArray) = (Go.Value.tuple [].toArray)) ∧
 (((Go.Value.tuple [].toArray) = (Go.Value.tuple [].toArray)) ∧
 (((Go.Value.tuple [].toArray) = (Go.Value.tuple [].toArray)) ∧
 (((Go.Value.tuple [].toArray) = (Go.Value.tuple [].toArray)) ∧
 (((Go.Value.tuple [].toArray) = (Go.Value.tuple [].toArray)) ∧
 (((Go.Value.tuple [].toArray) = (Go.Value.tuple [].toArray)) ∧
 (((Go.Value.tuple [].toArray) = (Go.Value.tuple [].toArray)) ∧
 (((Go.Value.tuple [].toArray) = (Go.Value.tuple [].toArray)) ∧
 (((Value.bool true) = (Value.bool true)) ∧
 True)))))))))))) ∧
 (∃ n4 : Int,
 ((Says C 60 [(D.val (Go.Value.string ({ data := #[] })))] [(D.val (vI n4))]) ∧
 ((((Go.Value.pointer (Option.some (Go.Addr.mk 1002 0 Option.none))) = (Go.Value.pointer (Option.some (Go.Addr.mk 1002 0 Option.none)))) ∧
 True) ∧
 ((((Value.bool false) = (Value.bool false)) ∧
 (((Go.Value.tuple [].toArray) = (Go.Value.tuple [].toArray)) ∧
 (((Go.Value.tuple [].toArray) = (Go.Value.tuple [].toArray)) ∧
 (((Go.Value.tuple [].toArray) = (Go.Value.tuple [].toArray)) ∧
 (((Go.Value.tuple [].toArray) = (Go.Value.tuple [].toArray)) ∧
 (((Go.Value.tuple [].toArray) = (Go.Value.tuple [].toArray)) ∧
 (((Go.Value.tuple [].toArray) = (Go.Value.tuple [].toArray)) ∧
 (((Go.Value.tuple [].toArray) = (Go.Value.tuple [].toArray)) ∧
 (((Go.Value.tuple [].toArray) = (Go.Value.tuple [].toArray)) ∧
 (((Go.Value.tuple [].toArray) = (Go.Value.tuple [].toArray)) ∧
 (((Go.Value.tuple [].toArray) = (Go.Value.tuple [].toArray)) ∧
 (((Value.bool false) = (Value.bool false)) ∧
 (((Value.bool false) = (Value.bool false)) ∧
 (((Value.bool true) = (Value.bool true)) ∧
 (((Go.Value.pointer (Option.some (Go.Addr.mk 1002 2 Option.none))) = (Go.Value.pointer (Option.some (Go.Addr.mk 1002 2 Option.none)))) ∧
 (((Go.Value.pointer (Option.some (Go.Addr.mk 1002 0 Option.none))) = (Go.Value.pointer (Option.some (Go.Addr.mk 1002 0 Option.none)))) ∧
 (((Go.Value.pointer (Option.some (Go.Addr.mk 1002 0 Option.none))) = (Go.Value.pointer (Option.some (Go.Addr.mk 1002 0 Option.none)))) ∧
 True))))))))))))))))) ∧
 (True ∧
 ((((Go.Value.tuple [].toArray) = (Go.Value.tuple [].toArray)) ∧
 (((Go.Value.tuple [].toArray) = (Go.Value.tuple [].toArray)) ∧
 (((Go.Value.tuple [].toArray) = (Go.Value.tuple [].toArray)) ∧
 (((Go.Value.tuple [].toArray) = (Go.Value.tuple [].toArray)) ∧
 (((Go.Value.tuple [].toArray) = (Go.Value.tuple [].toArray)) ∧
 (((Go.Value.tuple [].toArray) = (Go.Value.tuple [].toArray)) ∧
 (((Go.Value.tuple [].toArray) = (Go.Value.tuple [].toArray)) ∧
 (((Go.Value.tuple [].toArray) = (Go.Value.tuple [].toArray)) ∧
 (((Go.Value.tuple [].toArray) = (Go.Value.tuple [].toArray)) ∧
 (((Go.Value.tuple [].toArray) = (Go.Value.tuple [].toArray)) ∧
 (((Go.Value.tuple [].toArray) = (Go.Value.tuple [].toArray)) ∧
 (((Value.bool true) = (Value.bool true)) ∧
 (((Value.bool true) = (Value.bool true)) ∧
 True))))))))))))) ∧
 ((((Value.bool true) = (Value.bool true)) ∧
 (((Go.Value.tuple [].toArray) = (Go.Value.tuple [].toArray)) ∧
 (((Go.Value.tuple [].toArray) = (Go.Value.tuple [].toArray)) ∧
 (((Go.Value.tuple [].toArray) = (Go.Value.tuple [].toArray)) ∧
 (((Go.Value.tuple [].toArray) = (Go.Value.tuple [].toArray)) ∧
 (((Go.Value.tuple [].toArray) = (Go.Value.tuple [].toArray)) ∧
 (((Go.Value.tuple [].toArray) = (Go.Value.tuple [].toArray)) ∧
 (((Go.Value.tuple [].toArray) = (Go.Value.tuple [].toArray)) ∧
 (((Go.Value.tuple [].toArray) = (Go.Value.tuple [].toArray)) ∧
 (((Go.Value.tuple [].toArray) = (Go.Value.tuple [].toArray)) ∧
 (((Go.Value.tuple [].toArray) = (Go.Value.tuple [].toArray)) ∧
 (((Value.bool true) = (Value.bool true)) ∧
 True)))))))))))) ∧
 (∃ n5 : Int,
 ((Says C 60 [(D.val (Go.Value.string ({ data := #[] })))] [(D.val (vI n5))]) ∧
 (k [(D.agg [(D.val (Go.Value.string ({ data := #[] }))), (D.val (vI (0 : Int))), (D.val (vI (0 : Int))), (D.val (vI (0 : Int))), (D.val (vI (0 : Int)))]), (D.val (vI (7 : Int)))]))))))))))))))))))))))))))))))))))))))) := by kernel_rfl
def gRP (C : Ct) (s0 : ByteArray) (k : List D → Prop) : Prop := wpFn Tryz.prog (hC C) (fun _ _ _ => False) 8 7 #[.string s0] (heapOf []) (dataK k)
theorem gRP_text (C : Ct) (s0 : ByteArray) (k : List D → Prop) : gRP C s0 k =
 (((Says C 28 [(D.val (Go.Value.string (s0))), (D.val (Go.Value.int Go.IntKind.u8 (32 : Int)))] [D.nil]) ∧
 (k [(D.agg [(D.val (Go.Value.string ({ data := #[] }))), (D.val (vI (0 : Int))), (D.val (vI (0 : Int))), (D.val (vI (0 : Int))), (D.val (vI (0 : Int)))]), (D.val (vI (7 : Int)))])) ∨
 (∃ n1 : Nat,
 (∃ cs1 : List Go.Value,
 ((Says C 28 [(D.val (Go.Value.string (s0))), (D.val (Go.Value.int Go.IntKind.u8 (32 : Int)))] [(D.sl (n1) 1 (cs1))]) ∧
 (bcase ((↑n1 : Int) != 5)
 (k [(D.agg [(D.val (Go.Value.string ({ data := #[] }))), (D.val (vI (0 : Int))), (D.val (vI (0 : Int))), (D.val (vI (0 : Int))), (D.val (vI (0 : Int)))]), (D.val (vI (7 : Int)))])
 (bcase (decide (0 < (↑n1 : Int)))
 (∃ s1 : ByteArray,
 ((At (cs1) 0 1 [(Go.Value.string (s1))]) ∧
 (bcase (ByteArray.toList s1 == ByteArray.toList { data := #[] })
 (k [(D.agg [(D.val (Go.Value.string ({ data := #[] }))), (D.val (vI (0 : Int))), (D.val (vI (0 : Int))), (D.val (vI (0 : Int))), (D.val (vI (0 : Int)))]), (D.val (vI (7 : Int)))])
 (bcase (decide (1 < (↑n1 : Int)))
 (∃ s2 : ByteArray,
 ((At (cs1) 1 1 [(Go.Value.string (s2))]) ∧
 (∃ n2 : Int,
 (((Says C 29 [(D.val (Go.Value.string (s2)))] [(D.val (vI n2)), (D.val (Value.bool true))]) ∧
 (bcase (decide (IntKind.wrap .i64 (1 + 1) < (↑n1 : Int)))
 (∃ s3 : ByteArray,
 ((At (cs1) 2 1 [(Go.Value.string (s3))]) ∧
 (∃ n3 : Int,
 (((Says C 29 [(D.val (Go.Value.string (s3)))] [(D.val (vI n3)), (D.val (Value.bool true))]) ∧
 (bcase (decide (IntKind.wrap .i64 (IntKind.wrap .i64 (1 + 1) + 1) < (↑n1 : Int)))
 (∃ s4 : ByteArray,
 ((At (cs1) 3 1 [(Go.Value.string (s4))]) ∧
 (∃ n4 : Int,
 (((Says C 29 [(D.val (Go.Value.string (s4)))] [(D.val (vI n4)), (D.val (Value.bool true))]) ∧
 (bcase (decide (IntKind.wrap .i64 (IntKind.wrap .i64 (IntKind.wrap .i64 (1 + 1) + 1) + 1) < (↑n1 : Int)))
 (∃ s5 : ByteArray,
 ((At (cs1) 4 1 [(Go.Value.string (s5))]) ∧
 (∃ n5 : Int,
 (((Says C 29 [(D.val (Go.Value.string (s5)))] [(D.val (vI n5)), (D.val (Value.bool true))]) ∧
 (bcase (decide (0 < (↑n1 : Int)))
 (∃ s6 : ByteArray,
 ((At (cs1) 0 1 [(Go.Value.string (s6))]) ∧
 (∃ n6 : Int,
 ((At [(vI n2), (vI n3), (vI n4), (vI n5)] 0 1 [(vI n6)]) ∧
 (∃ n7 : Int,
 ((At [(vI n2), (vI n3), (vI n4), (vI n5)] 1 1 [(vI n7)]) ∧
 (∃ n8 : Int,
 ((At [(vI n2), (vI n3), (vI n4), (vI n5)] 2 1 [(vI n8)]) ∧
 (∃ n9 : Int,
 ((At [(vI n2), (vI n3), (vI n4), (vI n5)] 3 1 [(vI n9)]) ∧
 (((((Go.Value.pointer (Option.some (Go.Addr.mk 1011 0 Option.none))) = (Go.Value.pointer (Option.some (Go.Addr.mk 1011 0 Option.none)))) ∧
 ((Option.some (AObj.cells [(Go.Value.string ({ data := #[] })), (vI (0 : Int)), (vI (0 : Int)), (vI (0 : Int)), (vI (0 : Int))] 23 false 5)) = (Option.some (AObj.cells [(Go.Value.string ({ data := #[] })), (vI (0 : Int)), (vI (0 : Int)), (vI (0 : Int)), (vI (0 : Int))] 23 false 5)))) ∧
 (((Go.Value.agg [(Go.Value.string (s6)), (vI n6), (vI n7), (vI n8), (vI n9)].toArray) = (Go.Value.agg [(Go.Value.string (s6)), (vI n6), (vI n7), (vI n8), (vI n9)].toArray)) ∧
 ((∃ n10 : Int,
 ((At [(vI n2), (vI n3), (vI n4), (vI n5)] 3 1 [(vI n10)]) ∧
 ((vI n10) = (vI n9)))) ∧
 (((Go.Value.pointer (Option.some (Go.Addr.mk 1010 3 Option.none))) = (Go.Value.pointer (Option.some (Go.Addr.mk 1010 3 Option.none)))) ∧
 (((Go.Value.slice (Option.some (Go.Addr.mk 1010 0 Option.none)) 4 4) = (Go.Value.slice (Option.some (Go.Addr.mk 1010 0 Option.none)) 4 4)) ∧
 ((∃ n10 : Int,
 ((At [(vI n2), (vI n3), (vI n4), (vI n5)] 2 1 [(vI n10)]) ∧
 ((vI n10) = (vI n8)))) ∧
 (((Go.Value.pointer (Option.some (Go.Addr.mk 1010 2 Option.none))) = (Go.Value.pointer (Option.some (Go.Addr.mk 1010 2 Option.none)))) ∧
 (((Go.Value.slice (Option.some (Go.Addr.mk 1010 0 Option.none)) 4 4) = (Go.Value.slice (Option.some (Go.Addr.mk 1010 0 Option.none)) 4 4)) ∧
 ((∃ n10 : Int,
 ((At [(vI n2), (vI n3), (vI n4), (vI n5)] 1 1 [(vI n10)]) ∧
 ((vI n10) = (vI n7)))) ∧
 (((Go.Value.pointer (Option.some (Go.Addr.mk 1010 1 Option.none))) = (Go.Value.pointer (Option.some (Go.Addr.mk 1010 1 Option.none)))) ∧
 (((Go.Value.slice (Option.some (Go.Addr.mk 1010 0 Option.none)) 4 4) = (Go.Value.slice (Option.some (Go.Addr.mk 1010 0 Option.none)) 4 4)) ∧
 ((∃ n10 : Int,
 ((At [(vI n2), (vI n3), (vI n4), (vI n5)] 0 1 [(vI n10)]) ∧
 ((vI n10) = (vI n6)))) ∧
 (((Go.Value.pointer (Option.some (Go.Addr.mk 1010 0 Option.none))) = (Go.Value.pointer (Option.some (Go.Addr.mk 1010 0 Option.none)))) ∧
 (((Go.Value.slice (Option.some (Go.Addr.mk 1010 0 Option.none)) 4 4) = (Go.Value.slice (Option.some (Go.Addr.mk 1010 0 Option.none)) 4 4)) ∧
 ((∃ s7 : ByteArray,
 ((At (cs1) 0 1 [(Go.Value.string (s7))]) ∧
 ((Go.Value.string (s7)) = (Go.Value.string (s6))))) ∧
 ((bcase (decide (0 < (↑n1 : Int)))
 ((Go.Value.pointer (Option.some (Go.Addr.mk 1002 0 Option.none))) = (Go.Value.pointer (Option.some (Go.Addr.mk 1002 0 Option.none))))
 False) ∧
 (((Go.Value.slice (Option.some (Go.Addr.mk 1002 0 Option.none)) (n1) (n1)) = (Go.Value.slice (Option.some (Go.Addr.mk 1002 0 Option.none)) (n1) (n1))) ∧
 True))))))))))))))))) ∧
 (True ∧
 (∃ n10 : Int,
 ((Says C 8 [(D.agg [(D.val (Go.Value.string (s6))), (D.val (vI n6)), (D.val (vI n7)), (D.val (vI n8)), (D.val (vI n9))])] [(D.val (vI n10))]) ∧
 (bcase (n10 != 0)
 (k [(D.agg [(D.val (Go.Value.string ({ data := #[] }))), (D.val (vI (0 : Int))), (D.val (vI (0 : Int))), (D.val (vI (0 : Int))), (D.val (vI (0 : Int)))]), (D.val (vI n10))])
 (k [(D.agg [(D.val (Go.Value.string (s6))), (D.val (vI n6)), (D.val (vI n7)), (D.val (vI n8)), (D.val (vI n9))]), (D.val (vI (0 : Int)))]))))))))))))))))
 False)) ∨
 ((Says C 29 [(D.val (Go.Value.string (s5)))] [(D.val (vI n5)), (D.val (Value.bool false))]) ∧
 (k [(D.agg [(D.val (Go.Value.string ({ data := #[] }))), (D.val (vI (0 : Int))), (D.val (vI (0 : Int))), (D.val (vI (0 : Int))), (D.val (vI (0 : Int)))]), (D.val (vI (7 : Int)))]))))))
 False)) ∨
 ((Says C 29 [(D.val (Go.Value.string (s4)))] [(D.val (vI n4)), (D.val (Value.bool false))]) ∧
 (k [(D.agg [(D.val (Go.Value.string ({ data := #[] }))), (D.val (vI (0 : Int))), (D.val (vI (0 : Int))), (D.val (vI (0 : Int))), (D.val (vI (0 : Int)))]), (D.val (vI (7 : Int)))]))))))
 False)) ∨
 ((Says C 29 [(D.val (Go.Value.string (s3)))] [(D.val (vI n3)), (D.val (Value.bool false))]) ∧
 (k [(D.agg [(D.val (Go.Value.string ({ data := #[] }))), (D.val (vI (0 : Int))), (D.val (vI (0 : Int))), (D.val (vI (0 : Int))), (D.val (vI (0 : Int)))]), (D.val (vI (7 : Int)))]))))))
 False)) ∨
 ((Says C 29 [(D.val (Go.Value.string (s2)))] [(D.val (vI n2)), (D.val (Value.bool false))]) ∧
 (k [(D.agg [(D.val (Go.Value.string ({ data := #[] }))), (D.val (vI (0 : Int))), (D.val (vI (0 : Int))), (D.val (vI (0 : Int))), (D.val (vI (0 : Int)))]), (D.val (vI (7 : Int)))]))))))
 False))))
 False)))))) := by kernel_rfl
def gLw (C : Ct) (L : AtLoop) (s0 : ByteArray) (x1 : Int) (x2 : Int) (x3 : Int) (x4 : Int) (s5 : ByteArray) (k : List D → Prop) : Prop := wpFn Tryz.prog (hC C) L 0 3 #[.agg #[.string s0, .int .i64 x1, .int .i64 x2, .int .i64 x3, .int .i64 x4], .string s5] (heapOf []) (dataK k)
theorem gLw_text (C : Ct) (L : AtLoop) (s0 : ByteArray) (x1 : Int) (x2 : Int) (x3 : Int) (x4 : Int) (s5 : ByteArray) (k : List D → Prop) : gLw C L s0 x1 x2 x3 x4 s5 k =
 (((Says C 4 [] [(D.val (Value.bool true))]) ∧
 (bcase (decide ((↑(ByteArray.size s0) : Int) > 30))
 (k [(D.val (Value.bool true))])
 (bcase (decide ((↑(ByteArray.size s5) : Int) > 200))
 (k [(D.val (Value.bool true))])
 (∃ s1 : ByteArray,
 ((Says C 5 [(D.agg [(D.val (Go.Value.string (s0))), (D.val (vI x1)), (D.val (vI x2)), (D.val (vI x3)), (D.val (vI x4))])] [(D.val (Go.Value.string (s1)))]) ∧
 (∃ s2 : ByteArray,
 (∃ n1 : Int,
 (∃ n2 : Int,
 (∃ n3 : Int,
 (∃ n4 : Int,
 (∃ n5 : Int,
 ((Says C 6 [(D.val (Go.Value.string (s5)))] [(D.agg [(D.val (Go.Value.string (s2))), (D.val (vI n1)), (D.val (vI n2)), (D.val (vI n3)), (D.val (vI n4))]), (D.val (vI n5))]) ∧
 (∃ s3 : ByteArray,
 (∃ n6 : Int,
 (∃ n7 : Int,
 (∃ n8 : Int,
 (∃ n9 : Int,
 (∃ n10 : Int,
 ((Says C 7 [(D.val (Go.Value.string (s5)))] [(D.agg [(D.val (Go.Value.string (s3))), (D.val (vI n6)), (D.val (vI n7)), (D.val (vI n8)), (D.val (vI n9))]), (D.val (vI n10))]) ∧
 (∃ n11 : Int,
 ((Says C 8 [(D.agg [(D.val (Go.Value.string (s0))), (D.val (vI x1)), (D.val (vI x2)), (D.val (vI x3)), (D.val (vI x4))])] [(D.val (vI n11))]) ∧
 (∃ n12 : Int,
 ((Says C 9 [(D.agg [(D.val (Go.Value.string (s0))), (D.val (vI x1)), (D.val (vI x2)), (D.val (vI x3)), (D.val (vI x4))])] [(D.val (vI n12))]) ∧
 (bcase (n12 != n11)
 (k [(D.val (Value.bool false))])
 (∃ s4 : ByteArray,
 ((Says C 10 [(D.agg [(D.val (Go.Value.string (s0))), (D.val (vI x1)), (D.val (vI x2)), (D.val (vI x3)), (D.val (vI x4))])] [(D.val (Go.Value.string (s4)))]) ∧
 (bcase (!ByteArray.toList s1 == ByteArray.toList s4)
 (k [(D.val (Value.bool false))])
 (bcase (n5 != n10)
 (k [(D.val (Value.bool false))])
 (bcase (if Bool.true = Bool.true then !(s2 == s3 && (n1 == n6 && (n2 == n7 && (n3 == n8 && (n4 == n9 && Bool.true))))) else s2 == s3 && (n1 == n6 && (n2 == n7 && (n3 == n8 && (n4 == n9 && Bool.true)))))
 (k [(D.val (Value.bool false))])
 (bcase (n11 != 0)
 (k [(D.val (Value.bool true))])
 (∃ s6 : ByteArray,
 (∃ n13 : Int,
 (∃ n14 : Int,
 (∃ n15 : Int,
 (∃ n16 : Int,
 (∃ n17 : Int,
 ((Says C 6 [(D.val (Go.Value.string (s1)))] [(D.agg [(D.val (Go.Value.string (s6))), (D.val (vI n13)), (D.val (vI n14)), (D.val (vI n15)), (D.val (vI n16))]), (D.val (vI n17))]) ∧
 (bcase (n17 == 0)
 (bcase (if Bool.false = Bool.true then !(s6 == s0 && (n13 == x1 && (n14 == x2 && (n15 == x3 && (n16 == x4 && Bool.true))))) else s6 == s0 && (n13 == x1 && (n14 == x2 && (n15 == x3 && (n16 == x4 && Bool.true)))))
 (k [(D.val (Value.bool true))])
 (k [(D.val (Value.bool false))]))
 (k [(D.val (Value.bool false))]))))))))))))))))))))))))))))))))))))))) ∨
 ((Says C 4 [] [(D.val (Value.bool false))]) ∧
 (k [(D.val (Value.bool false))]))) := by kernel_rfl
end Go.Proofs.G5t
