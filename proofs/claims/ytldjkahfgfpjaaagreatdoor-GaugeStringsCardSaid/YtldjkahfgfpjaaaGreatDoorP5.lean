/- Texts of the proof, put together: GuSGT, GuS1, GStr3, GuSD, GuT1, GuSW, GuSG1. -/
import Derived.Test.YtldjkahfgfpjaaaGreatDoorP4
import Derived.WalkKit
import Derived.BigCall
import Derived.WalkSmall
import Derived.Lib.AtoiBound
/- What is left to show of each function, written out; the kernel reckons it. -/
namespace Go.Proofs.G5u
open Go Go.Abs Go.Proofs
set_option maxRecDepth 100000
set_option linter.unusedVariables false
def copyL : List D → Option (List D) := fun ds => match ds with | [.agg [.sl n es cs, d]] => some [.agg [.sl n es cs, d]] | [.agg [.nil, d]] => some [.agg [.sl 0 2 [], d]] | _ => none
def preG (C : Ct) : FuncId → Option Handler := fun g => if g == 102 then some (stateH (witAll 3 58 29)) else if [4, 21, 26, 24, 22, 29, 31, 30, 32, 20, 34, 65, 64, 25, 63, 27, 28, 6, 8, 12, 10, 9, 11].contains g then some (saidH Tryz.prog C) else if g == 7 then some (fixH C copyL) else none
abbrev hG (C : Ct) : Handler := handlerX Tryz.prog (preG C) 12 6
def gFE (C : Ct) (L : AtLoop) (n0 : Nat) (c0 : Nat) (l0 : List Value) (k : List D → Prop) : Prop := wpFn Tryz.prog (hG C) L 0 34 #[.slice (some ⟨500, 0, none⟩) n0 c0] (heapOf [(500, .sym l0 false 1)]) (dataK k)
theorem gFE_text (C : Ct) (L : AtLoop) (n0 : Nat) (c0 : Nat) (l0 : List Go.Value) (k : List D → Prop) : gFE C L n0 c0 l0 k =
 (L 0 [(Prod.mk 5 (Go.Value.slice (Option.some (Go.Addr.mk 500 0 Option.none)) (n0) (c0))), (Prod.mk 6 (vI ((↑n0 : Int)))), (Prod.mk 7 (vI (0 : Int)))] [(Prod.mk 500 (AObj.sym (l0) false 1))]) := by kernel_rfl
abbrev zFE1 (n0 : Nat) (c1 : Nat) (x2 : Int) (x3 : Int) (l4 : List Value) : Slots × Blocks := ([(5, (Value.slice (some ⟨500, 0, none⟩) n0 c1)), (6, (Value.int .i64 x2)), (7, (Value.int .i64 x3))], [(500, (AObj.sym l4 false 1))])
def rFE1 (C : Ct) (L : AtLoop) (n0 : Nat) (c1 : Nat) (x2 : Int) (x3 : Int) (l4 : List Value) (B : Bx) (X : Xx) (k : List D → Prop) : Prop := wpRound Tryz.prog (hG C) L 34 0 [(5, (Value.slice (some ⟨500, 0, none⟩) n0 c1)), (6, (Value.int .i64 x2)), (7, (Value.int .i64 x3))] [(500, (AObj.sym l4 false 1))] B X (dataK k)
theorem rFE1_text (C : Ct) (L : AtLoop) (n0 : Nat) (c1 : Nat) (x2 : Int) (x3 : Int) (l4 : List Go.Value) (B : Bx) (X : Xx) (k : List D → Prop) : rFE1 C L n0 c1 x2 x3 l4 B X k =
 (bcase (decide (x3 < x2))
 (bcase (decide (0 ≤ x3))
 (bcase (decide (x3 < (↑n0 : Int)))
 (∃ n1 : Int,
 ((At (l4) (0 + Int.toNat x3 * 1) 1 [(vI n1)]) ∧
 (bcase (n1 != 0)
 (k [(D.val (vI n1))])
 (B [(Prod.mk 5 (Go.Value.slice (Option.some (Go.Addr.mk 500 0 Option.none)) (n0) (c1))), (Prod.mk 6 (vI x2)), (Prod.mk 7 (vI (IntKind.wrap .i64 (x3 + 1))))] [(Prod.mk 500 (AObj.sym (l4) false 1))]))))
 False)
 False)
 (X 0 [] [])) := by kernel_rfl
def nFE2 (C : Ct) (L : AtLoop) (k : List D → Prop) : Prop := wpNext Tryz.prog (hG C) L 34 0 .normal [] [] (dataK k)
theorem nFE2_text (C : Ct) (L : AtLoop) (k : List D → Prop) : nFE2 C L k =
 (k [(D.val (vI (0 : Int)))]) := by kernel_rfl
def gKE (C : Ct) (L : AtLoop) (n0 : Nat) (c0 : Nat) (l0 : List Value) (k : List D → Prop) : Prop := wpFn Tryz.prog (hG C) L 0 65 #[.slice (some ⟨500, 0, none⟩) n0 c0] (heapOf [(500, .sym l0 false 2)]) (dataK k)
theorem gKE_text (C : Ct) (L : AtLoop) (n0 : Nat) (c0 : Nat) (l0 : List Go.Value) (k : List D → Prop) : gKE C L n0 c0 l0 k =
 (L 0 [(Prod.mk 5 (Go.Value.slice (Option.some (Go.Addr.mk 500 0 Option.none)) (n0) (c0))), (Prod.mk 6 (vI ((↑n0 : Int)))), (Prod.mk 7 (vI (0 : Int)))] [(Prod.mk 500 (AObj.sym (l0) false 2))]) := by kernel_rfl
abbrev zKE1 (n0 : Nat) (c1 : Nat) (x2 : Int) (x3 : Int) (l4 : List Value) : Slots × Blocks := ([(5, (Value.slice (some ⟨500, 0, none⟩) n0 c1)), (6, (Value.int .i64 x2)), (7, (Value.int .i64 x3))], [(500, (AObj.sym l4 false 2))])
def rKE1 (C : Ct) (L : AtLoop) (n0 : Nat) (c1 : Nat) (x2 : Int) (x3 : Int) (l4 : List Value) (B : Bx) (X : Xx) (k : List D → Prop) : Prop := wpRound Tryz.prog (hG C) L 65 0 [(5, (Value.slice (some ⟨500, 0, none⟩) n0 c1)), (6, (Value.int .i64 x2)), (7, (Value.int .i64 x3))] [(500, (AObj.sym l4 false 2))] B X (dataK k)
theorem rKE1_text (C : Ct) (L : AtLoop) (n0 : Nat) (c1 : Nat) (x2 : Int) (x3 : Int) (l4 : List Go.Value) (B : Bx) (X : Xx) (k : List D → Prop) : rKE1 C L n0 c1 x2 x3 l4 B X k =
 (bcase (decide (x3 < x2))
 (bcase (decide (0 ≤ x3))
 (bcase (decide (x3 < (↑n0 : Int)))
 (∃ n1 : Int,
 (∃ n2 : Int,
 ((At (l4) (0 + Int.toNat x3 * 2) 2 [(vI n1), (vI n2)]) ∧
 (bcase (decide (n1 > n2))
 (k [(D.val (vI (9 : Int)))])
 (B [(Prod.mk 5 (Go.Value.slice (Option.some (Go.Addr.mk 500 0 Option.none)) (n0) (c1))), (Prod.mk 6 (vI x2)), (Prod.mk 7 (vI (IntKind.wrap .i64 (x3 + 1))))] [(Prod.mk 500 (AObj.sym (l4) false 2))])))))
 False)
 False)
 (X 0 [] [])) := by kernel_rfl
def nKE2 (C : Ct) (L : AtLoop) (k : List D → Prop) : Prop := wpNext Tryz.prog (hG C) L 65 0 .normal [] [] (dataK k)
theorem nKE2_text (C : Ct) (L : AtLoop) (k : List D → Prop) : nKE2 C L k =
 (k [(D.val (vI (0 : Int)))]) := by kernel_rfl
def gKC (C : Ct) (L : AtLoop) (x0 : Int) (x1 : Int) (k : List D → Prop) : Prop := wpFn Tryz.prog (hG C) L 0 64 #[.int .i64 x0, .int .i64 x1] (heapOf []) (dataK k)
theorem gKC_text (C : Ct) (L : AtLoop) (x0 : Int) (x1 : Int) (k : List D → Prop) : gKC C L x0 x1 k =
 (bcase (x0 == 0)
 (k [(D.val (vI (10 : Int)))])
 (bcase (decide (x0 > x1))
 (k [(D.val (vI (8 : Int)))])
 (k [(D.val (vI (0 : Int)))]))) := by kernel_rfl
def gCL (C : Ct) (L : AtLoop) (n0 : Nat) (c0 : Nat) (l0 : List Value) (x1 : Int) (k : List D → Prop) : Prop := wpFn Tryz.prog (hG C) L 0 28 #[.agg #[.slice (some ⟨500, 0, none⟩) n0 c0, .int .i64 x1]] (heapOf [(500, .sym l0 false 2)]) (dataK k)
theorem gCL_text (C : Ct) (L : AtLoop) (n0 : Nat) (c0 : Nat) (l0 : List Go.Value) (x1 : Int) (k : List D → Prop) : gCL C L n0 c0 l0 x1 k =
 (∃ n1 : Int,
 ((Says C 64 [(D.val (vI ((↑n0 : Int)))), (D.val (vI (3 : Int)))] [(D.val (vI n1))]) ∧
 (bcase (n1 != 0)
 (k [(D.val (vI n1))])
 (L 0 [(Prod.mk 1 (Go.Value.pointer (Option.some (Go.Addr.mk 1000 0 Option.none)))), (Prod.mk 15 (Go.Value.slice (Option.some (Go.Addr.mk 500 0 Option.none)) (n0) (c0))), (Prod.mk 16 (vI ((↑n0 : Int)))), (Prod.mk 17 (vI (0 : Int)))] [(Prod.mk 1000 (AObj.cells [(Go.Value.slice (Option.some (Go.Addr.mk 500 0 Option.none)) (n0) (c0)), (vI x1)] 24 false 1)), (Prod.mk 500 (AObj.sym (l0) false 2))])))) := by kernel_rfl
abbrev zCL1 (n0 : Nat) (c1 : Nat) (x2 : Int) (x3 : Int) (n4 : Nat) (c5 : Nat) (x6 : Int) (l7 : List Value) : Slots × Blocks := ([(1, (Value.pointer (some ⟨1000, 0, none⟩))), (15, (Value.slice (some ⟨500, 0, none⟩) n0 c1)), (16, (Value.int .i64 x2)), (17, (Value.int .i64 x3))], [(1000, (AObj.cells [(Value.slice (some ⟨500, 0, none⟩) n4 c5), (Value.int .i64 x6)] 24 false 1)), (500, (AObj.sym l7 false 2))])
def rCL1 (C : Ct) (L : AtLoop) (n0 : Nat) (c1 : Nat) (x2 : Int) (x3 : Int) (n4 : Nat) (c5 : Nat) (x6 : Int) (l7 : List Value) (B : Bx) (X : Xx) (k : List D → Prop) : Prop := wpRound Tryz.prog (hG C) L 28 0 [(1, (Value.pointer (some ⟨1000, 0, none⟩))), (15, (Value.slice (some ⟨500, 0, none⟩) n0 c1)), (16, (Value.int .i64 x2)), (17, (Value.int .i64 x3))] [(1000, (AObj.cells [(Value.slice (some ⟨500, 0, none⟩) n4 c5), (Value.int .i64 x6)] 24 false 1)), (500, (AObj.sym l7 false 2))] B X (dataK k)
theorem rCL1_text (C : Ct) (L : AtLoop) (n0 : Nat) (c1 : Nat) (x2 : Int) (x3 : Int) (n4 : Nat) (c5 : Nat) (x6 : Int) (l7 : List Go.Value) (B : Bx) (X : Xx) (k : List D → Prop) : rCL1 C L n0 c1 x2 x3 n4 c5 x6 l7 B X k =
 (bcase (decide (x3 < x2))
 (bcase (decide (0 ≤ x3))
 (bcase (decide (x3 < (↑n0 : Int)))
 (∃ n1 : Int,
 (∃ n2 : Int,
 ((At (l7) (0 + Int.toNat x3 * 2) 2 [(vI n1), (vI n2)]) ∧
 (((((Go.Value.slice (Option.some (Go.Addr.mk 1003 0 Option.none)) 1 1) = (Go.Value.slice (Option.some (Go.Addr.mk 1003 0 Option.none)) 1 1)) ∧
 ((Option.some (AObj.cells [(vI n1), (vI n2)] 58 false 2)) = (Option.some (AObj.cells [(vI n1), (vI n2)] 58 false 2)))) ∧
 (((Go.Value.agg [(vI n1), (vI n2)].toArray) = (Go.Value.agg [(vI n1), (vI n2)].toArray)) ∧
 ((((Go.Value.slice (Option.some (Go.Addr.mk 1002 0 Option.none)) 2 2) = (Go.Value.slice (Option.some (Go.Addr.mk 1002 0 Option.none)) 2 2)) ∧
 ((Option.some (AObj.cells [(vI n1), (vI n2)] 3 false 1)) = (Option.some (AObj.cells [(vI n1), (vI n2)] 3 false 1)))) ∧
 (((vI n2) = (vI n2)) ∧
 (((Go.Value.pointer (Option.some (Go.Addr.mk 1001 1 Option.none))) = (Go.Value.pointer (Option.some (Go.Addr.mk 1001 1 Option.none)))) ∧
 (((vI n1) = (vI n1)) ∧
 (((Go.Value.pointer (Option.some (Go.Addr.mk 1001 0 Option.none))) = (Go.Value.pointer (Option.some (Go.Addr.mk 1001 0 Option.none)))) ∧
 True))))))) ∧
 (((((Go.Value.slice (Option.some (Go.Addr.mk 1003 0 Option.none)) 1 1) = (Go.Value.slice (Option.some (Go.Addr.mk 1003 0 Option.none)) 1 1)) ∧
 ((Option.some (AObj.cells [(vI n1), (vI n2)] 58 false 2)) = (Option.some (AObj.cells [(vI n1), (vI n2)] 58 false 2)))) ∧
 (((Go.Value.agg [(vI n1), (vI n2)].toArray) = (Go.Value.agg [(vI n1), (vI n2)].toArray)) ∧
 ((((Go.Value.slice (Option.some (Go.Addr.mk 1002 0 Option.none)) 2 2) = (Go.Value.slice (Option.some (Go.Addr.mk 1002 0 Option.none)) 2 2)) ∧
 ((Option.some (AObj.cells [(vI n1), (vI n2)] 3 false 1)) = (Option.some (AObj.cells [(vI n1), (vI n2)] 3 false 1)))) ∧
 (((vI n2) = (vI n2)) ∧
 (((Go.Value.pointer (Option.some (Go.Addr.mk 1001 1 Option.none))) = (Go.Value.pointer (Option.some (Go.Addr.mk 1001 1 Option.none)))) ∧
 (((vI n1) = (vI n1)) ∧
 (((Go.Value.pointer (Option.some (Go.Addr.mk 1001 0 Option.none))) = (Go.Value.pointer (Option.some (Go.Addr.mk 1001 0 Option.none)))) ∧
 True))))))) ∧
 (∃ r1 : Int,
 ((Says witC 0 [(D.val (vI (-(9 + 1) : Int))), (D.val (vI (10 : Int))), (D.val (vI (2 : Int))), (D.sl 2 1 [(vI n1), (vI n2)])] [(D.val (vI r1))]) ∧
 (((((Go.Value.slice (Option.some (Go.Addr.mk 1003 0 Option.none)) 1 1) = (Go.Value.slice (Option.some (Go.Addr.mk 1003 0 Option.none)) 1 1)) ∧
 ((Option.some (AObj.cells [(vI n1), (vI n2)] 58 false 2)) = (Option.some (AObj.cells [(vI n1), (vI n2)] 58 false 2)))) ∧
 (((Go.Value.agg [(vI n1), (vI n2)].toArray) = (Go.Value.agg [(vI n1), (vI n2)].toArray)) ∧
 (((vI n2) = (vI n2)) ∧
 (((Go.Value.pointer (Option.some (Go.Addr.mk 1001 1 Option.none))) = (Go.Value.pointer (Option.some (Go.Addr.mk 1001 1 Option.none)))) ∧
 (((vI n1) = (vI n1)) ∧
 (((Go.Value.pointer (Option.some (Go.Addr.mk 1001 0 Option.none))) = (Go.Value.pointer (Option.some (Go.Addr.mk 1001 0 Option.none)))) ∧
 True)))))) ∧
 (∃ n3 : Int,
 ((Says C 65 [(D.sl 1 2 [(vI n1), (vI n2)])] [(D.val (vI n3))]) ∧
 (((((Go.Value.slice (Option.some (Go.Addr.mk 1006 0 Option.none)) 2 2) = (Go.Value.slice (Option.some (Go.Addr.mk 1006 0 Option.none)) 2 2)) ∧
 ((Option.some (AObj.cells [(vI r1), (vI n3)] 29 false 1)) = (Option.some (AObj.cells [(vI r1), (vI n3)] 29 false 1)))) ∧
 (((Go.Value.agg [(vI n1), (vI n2)].toArray) = (Go.Value.agg [(vI n1), (vI n2)].toArray)) ∧
 (((vI n2) = (vI n2)) ∧
 (((Go.Value.pointer (Option.some (Go.Addr.mk 1001 1 Option.none))) = (Go.Value.pointer (Option.some (Go.Addr.mk 1001 1 Option.none)))) ∧
 (((vI n1) = (vI n1)) ∧
 (((Go.Value.pointer (Option.some (Go.Addr.mk 1001 0 Option.none))) = (Go.Value.pointer (Option.some (Go.Addr.mk 1001 0 Option.none)))) ∧
 True)))))) ∧
 (∃ n5 : Int,
 ((Says C 34 [(D.sl 2 1 [(vI r1), (vI n3)])] [(D.val (vI n5))]) ∧
 ((((Go.Value.agg [(vI n1), (vI n2)].toArray) = (Go.Value.agg [(vI n1), (vI n2)].toArray)) ∧
 (((vI n2) = (vI n2)) ∧
 (((Go.Value.pointer (Option.some (Go.Addr.mk 1001 1 Option.none))) = (Go.Value.pointer (Option.some (Go.Addr.mk 1001 1 Option.none)))) ∧
 (((vI n1) = (vI n1)) ∧
 (((Go.Value.pointer (Option.some (Go.Addr.mk 1001 0 Option.none))) = (Go.Value.pointer (Option.some (Go.Addr.mk 1001 0 Option.none)))) ∧
 True))))) ∧
 (True ∧
 (bcase (n5 != 0)
 (k [(D.val (vI n5))])
 (B [(Prod.mk 1 (Go.Value.pointer (Option.some (Go.Addr.mk 1000 0 Option.none)))), (Prod.mk 15 (Go.Value.slice (Option.some (Go.Addr.mk 500 0 Option.none)) (n0) (c1))), (Prod.mk 16 (vI x2)), (Prod.mk 17 (vI (IntKind.wrap .i64 (x3 + 1))))] [(Prod.mk 1000 (AObj.cells [(Go.Value.slice (Option.some (Go.Addr.mk 500 0 Option.none)) (n4) (c5)), (vI x6)] 24 false 1)), (Prod.mk 500 (AObj.sym (l7) false 2))])))))))))))))))))
 False)
 False)
 (X 0 [(Prod.mk 1 (Go.Value.pointer (Option.some (Go.Addr.mk 1000 0 Option.none))))] [(Prod.mk 1000 (AObj.cells [(Go.Value.slice (Option.some (Go.Addr.mk 500 0 Option.none)) (n4) (c5)), (vI x6)] 24 false 1)), (Prod.mk 500 (AObj.sym (l7) false 2))])) := by kernel_rfl
def nCL2 (C : Ct) (L : AtLoop) (n0 : Nat) (c1 : Nat) (x2 : Int) (l3 : List Value) (k : List D → Prop) : Prop := wpNext Tryz.prog (hG C) L 28 0 .normal [(1, (Value.pointer (some ⟨1000, 0, none⟩)))] [(1000, (AObj.cells [(Value.slice (some ⟨500, 0, none⟩) n0 c1), (Value.int .i64 x2)] 24 false 1)), (500, (AObj.sym l3 false 2))] (dataK k)
theorem nCL2_text (C : Ct) (L : AtLoop) (n0 : Nat) (c1 : Nat) (x2 : Int) (l3 : List Go.Value) (k : List D → Prop) : nCL2 C L n0 c1 x2 l3 k =
 (((((Go.Value.slice (Option.some (Go.Addr.mk 1001 0 Option.none)) 1 1) = (Go.Value.slice (Option.some (Go.Addr.mk 1001 0 Option.none)) 1 1)) ∧
 ((Option.some (AObj.cells [(vI x2)] 3 false 1)) = (Option.some (AObj.cells [(vI x2)] 3 false 1)))) ∧
 (((vI x2) = (vI x2)) ∧
 (((Go.Value.pointer (Option.some (Go.Addr.mk 1000 1 Option.none))) = (Go.Value.pointer (Option.some (Go.Addr.mk 1000 1 Option.none)))) ∧
 True))) ∧
 (((((Go.Value.slice (Option.some (Go.Addr.mk 1001 0 Option.none)) 1 1) = (Go.Value.slice (Option.some (Go.Addr.mk 1001 0 Option.none)) 1 1)) ∧
 ((Option.some (AObj.cells [(vI x2)] 3 false 1)) = (Option.some (AObj.cells [(vI x2)] 3 false 1)))) ∧
 (((vI x2) = (vI x2)) ∧
 (((Go.Value.pointer (Option.some (Go.Addr.mk 1000 1 Option.none))) = (Go.Value.pointer (Option.some (Go.Addr.mk 1000 1 Option.none)))) ∧
 True))) ∧
 (∃ r1 : Int,
 ((Says witC 0 [(D.val (vI (1 : Int))), (D.val (vI (10 : Int))), (D.val (vI (2 : Int))), (D.sl 1 1 [(vI x2)])] [(D.val (vI r1))]) ∧
 ((((vI x2) = (vI x2)) ∧
 (((Go.Value.pointer (Option.some (Go.Addr.mk 1000 1 Option.none))) = (Go.Value.pointer (Option.some (Go.Addr.mk 1000 1 Option.none)))) ∧
 True)) ∧
 (True ∧
 (k [(D.val (vI r1))]))))))) := by kernel_rfl
abbrev zCLn1 (x0 : Int) (x1 : Int) (x2 : Int) : Slots × Blocks := ([(1, (Value.pointer (some ⟨1000, 0, none⟩))), (15, (Value.slice none 0 0)), (16, (Value.int .i64 x0)), (17, (Value.int .i64 x1))], [(1000, (AObj.cells [(Value.slice none 0 0), (Value.int .i64 x2)] 24 false 1))])
def gLE (C : Ct) (L : AtLoop) (n0 : Nat) (c0 : Nat) (l0 : List Value) (x1 : Int) (k : List D → Prop) : Prop := wpFn Tryz.prog (hG C) L 0 12 #[.agg #[.slice (some ⟨500, 0, none⟩) n0 c0, .int .i64 x1]] (heapOf [(500, .sym l0 false 2)]) (dataK k)
theorem gLE_text (C : Ct) (L : AtLoop) (n0 : Nat) (c0 : Nat) (l0 : List Go.Value) (x1 : Int) (k : List D → Prop) : gLE C L n0 c0 l0 x1 k =
 (bcase ((↑n0 : Int) == 0)
 (k [(D.val (vI (10 : Int)))])
 (bcase (decide ((↑n0 : Int) > 3))
 (k [(D.val (vI (8 : Int)))])
 (L 0 [(Prod.mk 1 (Go.Value.pointer (Option.some (Go.Addr.mk 1000 0 Option.none)))), (Prod.mk 3 (vI (0 : Int)))] [(Prod.mk 1000 (AObj.cells [(Go.Value.slice (Option.some (Go.Addr.mk 500 0 Option.none)) (n0) (c0)), (vI x1)] 24 false 1)), (Prod.mk 500 (AObj.sym (l0) false 2))]))) := by kernel_rfl
abbrev zLE1 (x0 : Int) (n1 : Nat) (c2 : Nat) (x3 : Int) (l4 : List Value) : Slots × Blocks := ([(1, (Value.pointer (some ⟨1000, 0, none⟩))), (3, (Value.int .i64 x0))], [(1000, (AObj.cells [(Value.slice (some ⟨500, 0, none⟩) n1 c2), (Value.int .i64 x3)] 24 false 1)), (500, (AObj.sym l4 false 2))])
def rLE1 (C : Ct) (L : AtLoop) (x0 : Int) (n1 : Nat) (c2 : Nat) (x3 : Int) (l4 : List Value) (B : Bx) (X : Xx) (k : List D → Prop) : Prop := wpRound Tryz.prog (hG C) L 12 0 [(1, (Value.pointer (some ⟨1000, 0, none⟩))), (3, (Value.int .i64 x0))] [(1000, (AObj.cells [(Value.slice (some ⟨500, 0, none⟩) n1 c2), (Value.int .i64 x3)] 24 false 1)), (500, (AObj.sym l4 false 2))] B X (dataK k)
theorem rLE1_text (C : Ct) (L : AtLoop) (x0 : Int) (n1 : Nat) (c2 : Nat) (x3 : Int) (l4 : List Go.Value) (B : Bx) (X : Xx) (k : List D → Prop) : rLE1 C L x0 n1 c2 x3 l4 B X k =
 (bcase (decide (x0 < (↑n1 : Int)))
 (bcase (decide (0 ≤ x0))
 (bcase (decide (x0 < (↑n1 : Int)))
 (∃ n2 : Int,
 (∃ n3 : Int,
 ((At (l4) (0 + Int.toNat x0 * 2) 2 [(vI n2), (vI n3)]) ∧
 (((Says C 32 [(D.val (vI n2)), (D.val (vI (-(9 + 1) : Int))), (D.val (vI (10 : Int)))] [(D.val (Value.bool true))]) ∧
 (((Says C 32 [(D.val (vI n3)), (D.val (vI (-(9 + 1) : Int))), (D.val (vI (10 : Int)))] [(D.val (Value.bool true))]) ∧
 (bcase (decide (n2 > n3))
 (k [(D.val (vI (9 : Int)))])
 (B [(Prod.mk 1 (Go.Value.pointer (Option.some (Go.Addr.mk 1000 0 Option.none)))), (Prod.mk 3 (vI (IntKind.wrap .i64 (x0 + 1))))] [(Prod.mk 1000 (AObj.cells [(Go.Value.slice (Option.some (Go.Addr.mk 500 0 Option.none)) (n1) (c2)), (vI x3)] 24 false 1)), (Prod.mk 500 (AObj.sym (l4) false 2))]))) ∨
 ((Says C 32 [(D.val (vI n3)), (D.val (vI (-(9 + 1) : Int))), (D.val (vI (10 : Int)))] [(D.val (Value.bool false))]) ∧
 (k [(D.val (vI (2 : Int)))])))) ∨
 ((Says C 32 [(D.val (vI n2)), (D.val (vI (-(9 + 1) : Int))), (D.val (vI (10 : Int)))] [(D.val (Value.bool false))]) ∧
 (k [(D.val (vI (2 : Int)))]))))))
 False)
 False)
 (X 0 [(Prod.mk 1 (Go.Value.pointer (Option.some (Go.Addr.mk 1000 0 Option.none))))] [(Prod.mk 1000 (AObj.cells [(Go.Value.slice (Option.some (Go.Addr.mk 500 0 Option.none)) (n1) (c2)), (vI x3)] 24 false 1)), (Prod.mk 500 (AObj.sym (l4) false 2))])) := by kernel_rfl
def nLE2 (C : Ct) (L : AtLoop) (n0 : Nat) (c1 : Nat) (x2 : Int) (l3 : List Value) (k : List D → Prop) : Prop := wpNext Tryz.prog (hG C) L 12 0 .normal [(1, (Value.pointer (some ⟨1000, 0, none⟩)))] [(1000, (AObj.cells [(Value.slice (some ⟨500, 0, none⟩) n0 c1), (Value.int .i64 x2)] 24 false 1)), (500, (AObj.sym l3 false 2))] (dataK k)
theorem nLE2_text (C : Ct) (L : AtLoop) (n0 : Nat) (c1 : Nat) (x2 : Int) (l3 : List Go.Value) (k : List D → Prop) : nLE2 C L n0 c1 x2 l3 k =
 (((Says C 32 [(D.val (vI x2)), (D.val (vI (1 : Int))), (D.val (vI (10 : Int)))] [(D.val (Value.bool true))]) ∧
 (k [(D.val (vI (0 : Int)))])) ∨
 ((Says C 32 [(D.val (vI x2)), (D.val (vI (1 : Int))), (D.val (vI (10 : Int)))] [(D.val (Value.bool false))]) ∧
 (k [(D.val (vI (2 : Int)))]))) := by kernel_rfl
def gLEn (C : Ct) (L : AtLoop) (x1 : Int) (k : List D → Prop) : Prop := wpFn Tryz.prog (hG C) L 0 12 #[.agg #[.slice none 0 0, .int .i64 x1]] (heapOf []) (dataK k)
theorem gLEn_text (C : Ct) (L : AtLoop) (x1 : Int) (k : List D → Prop) : gLEn C L x1 k =
 (k [(D.val (vI (10 : Int)))]) := by kernel_rfl
def gRE (C : Ct) (L : AtLoop) (s0 : ByteArray) (k : List D → Prop) : Prop := wpFn Tryz.prog (hG C) L 0 63 #[.string s0] (heapOf []) (dataK k)
theorem gRE_text (C : Ct) (L : AtLoop) (s0 : ByteArray) (k : List D → Prop) : gRE C L s0 k =
 (bcase (decide ((↑(ByteArray.size s0) : Int) ≥ (↑1 : Int)))
 (bcase (decide ((↑1 : Int) ≤ (↑(ByteArray.size s0) : Int)))
 (bcase (ByteArray.toList (ByteArray.extract s0 0 1) == ByteArray.toList { data := #[45] })
 (bcase (decide ((↑1 : Int) ≤ (↑(ByteArray.size s0) : Int)))
 (∃ n1 : Int,
 (((Says C 25 [(D.val (Go.Value.string (ByteArray.extract s0 1 (ByteArray.size s0))))] [(D.val (vI n1)), (D.val (Value.bool true))]) ∧
 (bcase (decide (n1 > 0))
 (k [(D.val (vI (IntKind.wrap .i64 (0 - n1)))), (D.val (Value.bool true))])
 (k [(D.val (vI (IntKind.wrap .i64 (0 - n1)))), (D.val (Value.bool false))]))) ∨
 ((Says C 25 [(D.val (Go.Value.string (ByteArray.extract s0 1 (ByteArray.size s0))))] [(D.val (vI n1)), (D.val (Value.bool false))]) ∧
 (k [(D.val (vI (IntKind.wrap .i64 (0 - n1)))), (D.val (Value.bool false))]))))
 False)
 (∃ n1 : Int,
 (((Says C 25 [(D.val (Go.Value.string (s0)))] [(D.val (vI n1)), (D.val (Value.bool true))]) ∧
 (k [(D.val (vI n1)), (D.val (Value.bool true))])) ∨
 ((Says C 25 [(D.val (Go.Value.string (s0)))] [(D.val (vI n1)), (D.val (Value.bool false))]) ∧
 (k [(D.val (vI n1)), (D.val (Value.bool false))])))))
 False)
 (∃ n1 : Int,
 (((Says C 25 [(D.val (Go.Value.string (s0)))] [(D.val (vI n1)), (D.val (Value.bool true))]) ∧
 (k [(D.val (vI n1)), (D.val (Value.bool true))])) ∨
 ((Says C 25 [(D.val (Go.Value.string (s0)))] [(D.val (vI n1)), (D.val (Value.bool false))]) ∧
 (k [(D.val (vI n1)), (D.val (Value.bool false))]))))) := by kernel_rfl
def gRR (C : Ct) (L : AtLoop) (s0 : ByteArray) (k : List D → Prop) : Prop := wpFn Tryz.prog (hG C) L 0 27 #[.string s0] (heapOf []) (dataK k)
theorem gRR_text (C : Ct) (L : AtLoop) (s0 : ByteArray) (k : List D → Prop) : gRR C L s0 k =
 (∃ s1 : ByteArray,
 (∃ s2 : ByteArray,
 (((Says C 24 [(D.val (Go.Value.string (s0))), (D.val (Go.Value.string ({ data := #[32] })))] [(D.val (Go.Value.string (s1))), (D.val (Go.Value.string (s2))), (D.val (Value.bool true))]) ∧
 (∃ n1 : Int,
 (((Says C 63 [(D.val (Go.Value.string (s1)))] [(D.val (vI n1)), (D.val (Value.bool true))]) ∧
 (∃ n2 : Int,
 (((Says C 63 [(D.val (Go.Value.string (s2)))] [(D.val (vI n2)), (D.val (Value.bool true))]) ∧
 (k [(D.agg [(D.val (vI n1)), (D.val (vI n2))]), (D.val (Value.bool true))])) ∨
 ((Says C 63 [(D.val (Go.Value.string (s2)))] [(D.val (vI n2)), (D.val (Value.bool false))]) ∧
 (k [(D.agg [(D.val (vI n1)), (D.val (vI n2))]), (D.val (Value.bool false))]))))) ∨
 ((Says C 63 [(D.val (Go.Value.string (s1)))] [(D.val (vI n1)), (D.val (Value.bool false))]) ∧
 (∃ n2 : Int,
 (((Says C 63 [(D.val (Go.Value.string (s2)))] [(D.val (vI n2)), (D.val (Value.bool true))]) ∧
 (k [(D.agg [(D.val (vI n1)), (D.val (vI n2))]), (D.val (Value.bool false))])) ∨
 ((Says C 63 [(D.val (Go.Value.string (s2)))] [(D.val (vI n2)), (D.val (Value.bool false))]) ∧
 (k [(D.agg [(D.val (vI n1)), (D.val (vI n2))]), (D.val (Value.bool false))])))))))) ∨
 ((Says C 24 [(D.val (Go.Value.string (s0))), (D.val (Go.Value.string ({ data := #[32] })))] [(D.val (Go.Value.string (s1))), (D.val (Go.Value.string (s2))), (D.val (Value.bool false))]) ∧
 (∃ n1 : Int,
 (((Says C 63 [(D.val (Go.Value.string (s1)))] [(D.val (vI n1)), (D.val (Value.bool true))]) ∧
 (∃ n2 : Int,
 (((Says C 63 [(D.val (Go.Value.string (s2)))] [(D.val (vI n2)), (D.val (Value.bool true))]) ∧
 (k [(D.agg [(D.val (vI n1)), (D.val (vI n2))]), (D.val (Value.bool true))])) ∨
 ((Says C 63 [(D.val (Go.Value.string (s2)))] [(D.val (vI n2)), (D.val (Value.bool false))]) ∧
 (k [(D.agg [(D.val (vI n1)), (D.val (vI n2))]), (D.val (Value.bool false))]))))) ∨
 ((Says C 63 [(D.val (Go.Value.string (s1)))] [(D.val (vI n1)), (D.val (Value.bool false))]) ∧
 (∃ n2 : Int,
 (((Says C 63 [(D.val (Go.Value.string (s2)))] [(D.val (vI n2)), (D.val (Value.bool true))]) ∧
 (k [(D.agg [(D.val (vI n1)), (D.val (vI n2))]), (D.val (Value.bool false))])) ∨
 ((Says C 63 [(D.val (Go.Value.string (s2)))] [(D.val (vI n2)), (D.val (Value.bool false))]) ∧
 (k [(D.agg [(D.val (vI n1)), (D.val (vI n2))]), (D.val (Value.bool false))]))))))))))) := by kernel_rfl
def gFL (C : Ct) (L : AtLoop) (n0 : Nat) (c0 : Nat) (l0 : List Value) (x1 : Int) (k : List D → Prop) : Prop := wpFn Tryz.prog (hG C) L 0 6 #[.agg #[.slice (some ⟨500, 0, none⟩) n0 c0, .int .i64 x1]] (heapOf [(500, .sym l0 false 2)]) (dataK k)
theorem gFL_text (C : Ct) (L : AtLoop) (n0 : Nat) (c0 : Nat) (l0 : List Go.Value) (x1 : Int) (k : List D → Prop) : gFL C L n0 c0 l0 x1 k =
 (L 0 [(Prod.mk 1 (Go.Value.pointer (Option.some (Go.Addr.mk 1000 0 Option.none)))), (Prod.mk 3 (Go.Value.slice Option.none 0 0)), (Prod.mk 7 (Go.Value.slice (Option.some (Go.Addr.mk 500 0 Option.none)) (n0) (c0))), (Prod.mk 8 (vI ((↑n0 : Int)))), (Prod.mk 9 (vI (0 : Int)))] [(Prod.mk 1000 (AObj.cells [(Go.Value.slice (Option.some (Go.Addr.mk 500 0 Option.none)) (n0) (c0)), (vI x1)] 24 false 1)), (Prod.mk 500 (AObj.sym (l0) false 2))]) := by kernel_rfl
abbrev zFL1 (n0 : Nat) (c1 : Nat) (x2 : Int) (x3 : Int) (n4 : Nat) (c5 : Nat) (x6 : Int) (l7 : List Value) : Slots × Blocks := ([(1, (Value.pointer (some ⟨1000, 0, none⟩))), (3, (Value.slice none 0 0)), (7, (Value.slice (some ⟨500, 0, none⟩) n0 c1)), (8, (Value.int .i64 x2)), (9, (Value.int .i64 x3))], [(1000, (AObj.cells [(Value.slice (some ⟨500, 0, none⟩) n4 c5), (Value.int .i64 x6)] 24 false 1)), (500, (AObj.sym l7 false 2))])
def rFL1 (C : Ct) (L : AtLoop) (n0 : Nat) (c1 : Nat) (x2 : Int) (x3 : Int) (n4 : Nat) (c5 : Nat) (x6 : Int) (l7 : List Value) (B : Bx) (X : Xx) (k : List D → Prop) : Prop := wpRound Tryz.prog (hG C) L 6 0 [(1, (Value.pointer (some ⟨1000, 0, none⟩))), (3, (Value.slice none 0 0)), (7, (Value.slice (some ⟨500, 0, none⟩) n0 c1)), (8, (Value.int .i64 x2)), (9, (Value.int .i64 x3))] [(1000, (AObj.cells [(Value.slice (some ⟨500, 0, none⟩) n4 c5), (Value.int .i64 x6)] 24 false 1)), (500, (AObj.sym l7 false 2))] B X (dataK k)
theorem rFL1_text (C : Ct) (L : AtLoop) (n0 : Nat) (c1 : Nat) (x2 : Int) (x3 : Int) (n4 : Nat) (c5 : Nat) (x6 : Int) (l7 : List Go.Value) (B : Bx) (X : Xx) (k : List D → Prop) : rFL1 C L n0 c1 x2 x3 n4 c5 x6 l7 B X k =
 (bcase (decide (x3 < x2))
 (bcase (decide (0 ≤ x3))
 (bcase (decide (x3 < (↑n0 : Int)))
 (∃ n1 : Int,
 (∃ n2 : Int,
 ((At (l7) (0 + Int.toNat x3 * 2) 2 [(vI n1), (vI n2)]) ∧
 ((((vI n2) = (vI n2)) ∧
 (((Go.Value.pointer (Option.some (Go.Addr.mk 1001 1 Option.none))) = (Go.Value.pointer (Option.some (Go.Addr.mk 1001 1 Option.none)))) ∧
 (((vI n1) = (vI n1)) ∧
 (((Go.Value.pointer (Option.some (Go.Addr.mk 1001 0 Option.none))) = (Go.Value.pointer (Option.some (Go.Addr.mk 1001 0 Option.none)))) ∧
 (((Go.Value.slice Option.none 0 0) = (Go.Value.slice Option.none 0 0)) ∧
 True))))) ∧
 (∃ s1 : ByteArray,
 ((Says C 21 [(D.val (vI n1))] [(D.val (Go.Value.string (s1)))]) ∧
 (bcase (decide (ByteArray.size s1 + 1 ≤ 9223372036854775807))
 (((bcase (decide (ByteArray.size s1 + 1 ≤ 9223372036854775807))
 ((Go.Value.string (s1 ++ { data := #[32] })) = (Go.Value.string (s1 ++ { data := #[32] })))
 False) ∧
 (((vI n2) = (vI n2)) ∧
 (((Go.Value.pointer (Option.some (Go.Addr.mk 1001 1 Option.none))) = (Go.Value.pointer (Option.some (Go.Addr.mk 1001 1 Option.none)))) ∧
 (((Go.Value.pointer (Option.some (Go.Addr.mk 1001 0 Option.none))) = (Go.Value.pointer (Option.some (Go.Addr.mk 1001 0 Option.none)))) ∧
 (((Go.Value.slice Option.none 0 0) = (Go.Value.slice Option.none 0 0)) ∧
 True))))) ∧
 (∃ s2 : ByteArray,
 ((Says C 21 [(D.val (vI n2))] [(D.val (Go.Value.string (s2)))]) ∧
 (bcase (decide (ByteArray.size (s1 ++ { data := #[32] }) + ByteArray.size s2 ≤ 9223372036854775807))
 (((((Go.Value.slice (Option.some (Go.Addr.mk 1002 0 Option.none)) 1 1) = (Go.Value.slice (Option.some (Go.Addr.mk 1002 0 Option.none)) 1 1)) ∧
 ((Option.some (AObj.cells [(Go.Value.string (s1 ++ { data := #[32] } ++ s2))] 9 false 1)) = (Option.some (AObj.cells [(Go.Value.string (s1 ++ { data := #[32] } ++ s2))] 9 false 1)))) ∧
 ((bcase (decide (ByteArray.size (s1 ++ { data := #[32] }) + ByteArray.size s2 ≤ 9223372036854775807))
 ((Go.Value.string (s1 ++ { data := #[32] } ++ s2)) = (Go.Value.string (s1 ++ { data := #[32] } ++ s2)))
 False) ∧
 ((bcase (decide (ByteArray.size s1 + 1 ≤ 9223372036854775807))
 ((Go.Value.string (s1 ++ { data := #[32] })) = (Go.Value.string (s1 ++ { data := #[32] })))
 False) ∧
 (((Go.Value.pointer (Option.some (Go.Addr.mk 1001 1 Option.none))) = (Go.Value.pointer (Option.some (Go.Addr.mk 1001 1 Option.none)))) ∧
 (((Go.Value.pointer (Option.some (Go.Addr.mk 1001 0 Option.none))) = (Go.Value.pointer (Option.some (Go.Addr.mk 1001 0 Option.none)))) ∧
 (((Go.Value.slice Option.none 0 0) = (Go.Value.slice Option.none 0 0)) ∧
 True)))))) ∧
 (((bcase (decide (ByteArray.size (s1 ++ { data := #[32] }) + ByteArray.size s2 ≤ 9223372036854775807))
 ((Go.Value.string (s1 ++ { data := #[32] } ++ s2)) = (Go.Value.string (s1 ++ { data := #[32] } ++ s2)))
 False) ∧
 ((bcase (decide (ByteArray.size s1 + 1 ≤ 9223372036854775807))
 ((Go.Value.string (s1 ++ { data := #[32] })) = (Go.Value.string (s1 ++ { data := #[32] })))
 False) ∧
 (((Go.Value.pointer (Option.some (Go.Addr.mk 1001 1 Option.none))) = (Go.Value.pointer (Option.some (Go.Addr.mk 1001 1 Option.none)))) ∧
 (((Go.Value.pointer (Option.some (Go.Addr.mk 1001 0 Option.none))) = (Go.Value.pointer (Option.some (Go.Addr.mk 1001 0 Option.none)))) ∧
 True)))) ∧
 (True ∧
 (B [(Prod.mk 1 (Go.Value.pointer (Option.some (Go.Addr.mk 1000 0 Option.none)))), (Prod.mk 3 (Go.Value.slice (Option.some (Go.Addr.mk 1001 0 Option.none)) 1 1)), (Prod.mk 7 (Go.Value.slice (Option.some (Go.Addr.mk 500 0 Option.none)) (n0) (c1))), (Prod.mk 8 (vI x2)), (Prod.mk 9 (vI (IntKind.wrap .i64 (x3 + 1))))] [(Prod.mk 1000 (AObj.cells [(Go.Value.slice (Option.some (Go.Addr.mk 500 0 Option.none)) (n4) (c5)), (vI x6)] 24 false 1)), (Prod.mk 1001 (AObj.sym [(Go.Value.string (s1 ++ { data := #[32] } ++ s2))] true 1)), (Prod.mk 500 (AObj.sym (l7) false 2))]))))
 False))))
 False)))))))
 False)
 False)
 (X 0 [(Prod.mk 1 (Go.Value.pointer (Option.some (Go.Addr.mk 1000 0 Option.none)))), (Prod.mk 3 (Go.Value.slice Option.none 0 0))] [(Prod.mk 1000 (AObj.cells [(Go.Value.slice (Option.some (Go.Addr.mk 500 0 Option.none)) (n4) (c5)), (vI x6)] 24 false 1)), (Prod.mk 500 (AObj.sym (l7) false 2))])) := by kernel_rfl
abbrev zFL2 (n0 : Nat) (n1 : Nat) (c2 : Nat) (x3 : Int) (x4 : Int) (n5 : Nat) (c6 : Nat) (x7 : Int) (l8 : List Value) (l9 : List Value) : Slots × Blocks := ([(1, (Value.pointer (some ⟨1000, 0, none⟩))), (3, (Value.slice (some ⟨1001, 0, none⟩) n0 n0)), (7, (Value.slice (some ⟨500, 0, none⟩) n1 c2)), (8, (Value.int .i64 x3)), (9, (Value.int .i64 x4))], [(1000, (AObj.cells [(Value.slice (some ⟨500, 0, none⟩) n5 c6), (Value.int .i64 x7)] 24 false 1)), (1001, (AObj.sym l8 true 1)), (500, (AObj.sym l9 false 2))])
def rFL2 (C : Ct) (L : AtLoop) (n0 : Nat) (n1 : Nat) (c2 : Nat) (x3 : Int) (x4 : Int) (n5 : Nat) (c6 : Nat) (x7 : Int) (l8 : List Value) (l9 : List Value) (B : Bx) (X : Xx) (k : List D → Prop) : Prop := wpRound Tryz.prog (hG C) L 6 0 [(1, (Value.pointer (some ⟨1000, 0, none⟩))), (3, (Value.slice (some ⟨1001, 0, none⟩) n0 n0)), (7, (Value.slice (some ⟨500, 0, none⟩) n1 c2)), (8, (Value.int .i64 x3)), (9, (Value.int .i64 x4))] [(1000, (AObj.cells [(Value.slice (some ⟨500, 0, none⟩) n5 c6), (Value.int .i64 x7)] 24 false 1)), (1001, (AObj.sym l8 true 1)), (500, (AObj.sym l9 false 2))] B X (dataK k)
theorem rFL2_text (C : Ct) (L : AtLoop) (n0 : Nat) (n1 : Nat) (c2 : Nat) (x3 : Int) (x4 : Int) (n5 : Nat) (c6 : Nat) (x7 : Int) (l8 : List Go.Value) (l9 : List Go.Value) (B : Bx) (X : Xx) (k : List D → Prop) : rFL2 C L n0 n1 c2 x3 x4 n5 c6 x7 l8 l9 B X k =
 (bcase (decide (x4 < x3))
 (bcase (decide (0 ≤ x4))
 (bcase (decide (x4 < (↑n1 : Int)))
 (∃ n2 : Int,
 (∃ n3 : Int,
 ((At (l9) (0 + Int.toNat x4 * 2) 2 [(vI n2), (vI n3)]) ∧
 ((((vI n3) = (vI n3)) ∧
 (((Go.Value.pointer (Option.some (Go.Addr.mk 1002 1 Option.none))) = (Go.Value.pointer (Option.some (Go.Addr.mk 1002 1 Option.none)))) ∧
 (((vI n2) = (vI n2)) ∧
 (((Go.Value.pointer (Option.some (Go.Addr.mk 1002 0 Option.none))) = (Go.Value.pointer (Option.some (Go.Addr.mk 1002 0 Option.none)))) ∧
 (((Go.Value.slice (Option.some (Go.Addr.mk 1001 0 Option.none)) (n0) (n0)) = (Go.Value.slice (Option.some (Go.Addr.mk 1001 0 Option.none)) (n0) (n0))) ∧
 True))))) ∧
 (∃ s1 : ByteArray,
 ((Says C 21 [(D.val (vI n2))] [(D.val (Go.Value.string (s1)))]) ∧
 (bcase (decide (ByteArray.size s1 + 1 ≤ 9223372036854775807))
 (((bcase (decide (ByteArray.size s1 + 1 ≤ 9223372036854775807))
 ((Go.Value.string (s1 ++ { data := #[32] })) = (Go.Value.string (s1 ++ { data := #[32] })))
 False) ∧
 (((vI n3) = (vI n3)) ∧
 (((Go.Value.pointer (Option.some (Go.Addr.mk 1002 1 Option.none))) = (Go.Value.pointer (Option.some (Go.Addr.mk 1002 1 Option.none)))) ∧
 (((Go.Value.pointer (Option.some (Go.Addr.mk 1002 0 Option.none))) = (Go.Value.pointer (Option.some (Go.Addr.mk 1002 0 Option.none)))) ∧
 (((Go.Value.slice (Option.some (Go.Addr.mk 1001 0 Option.none)) (n0) (n0)) = (Go.Value.slice (Option.some (Go.Addr.mk 1001 0 Option.none)) (n0) (n0))) ∧
 True))))) ∧
 (∃ s2 : ByteArray,
 ((Says C 21 [(D.val (vI n3))] [(D.val (Go.Value.string (s2)))]) ∧
 (bcase (decide (ByteArray.size (s1 ++ { data := #[32] }) + ByteArray.size s2 ≤ 9223372036854775807))
 (((((Go.Value.slice (Option.some (Go.Addr.mk 1003 0 Option.none)) 1 1) = (Go.Value.slice (Option.some (Go.Addr.mk 1003 0 Option.none)) 1 1)) ∧
 ((Option.some (AObj.cells [(Go.Value.string (s1 ++ { data := #[32] } ++ s2))] 9 false 1)) = (Option.some (AObj.cells [(Go.Value.string (s1 ++ { data := #[32] } ++ s2))] 9 false 1)))) ∧
 ((bcase (decide (ByteArray.size (s1 ++ { data := #[32] }) + ByteArray.size s2 ≤ 9223372036854775807))
 ((Go.Value.string (s1 ++ { data := #[32] } ++ s2)) = (Go.Value.string (s1 ++ { data := #[32] } ++ s2)))
 False) ∧
 ((bcase (decide (ByteArray.size s1 + 1 ≤ 9223372036854775807))
 ((Go.Value.string (s1 ++ { data := #[32] })) = (Go.Value.string (s1 ++ { data := #[32] })))
 False) ∧
 (((Go.Value.pointer (Option.some (Go.Addr.mk 1002 1 Option.none))) = (Go.Value.pointer (Option.some (Go.Addr.mk 1002 1 Option.none)))) ∧
 (((Go.Value.pointer (Option.some (Go.Addr.mk 1002 0 Option.none))) = (Go.Value.pointer (Option.some (Go.Addr.mk 1002 0 Option.none)))) ∧
 (((Go.Value.slice (Option.some (Go.Addr.mk 1001 0 Option.none)) (n0) (n0)) = (Go.Value.slice (Option.some (Go.Addr.mk 1001 0 Option.none)) (n0) (n0))) ∧
 True)))))) ∧
 (bcase (decide (n0 < n0 + 1))
 (bcase (decide ((2 * (n0 + 1) + 768) * 16 ≤ 281474976710656))
 (bcase (decide (n0 + 1 ≤ 1099511627776))
 (bcase (decide (0 + n0 * 1 ≤ List.length l8))
 (bcase (decide (0 + n0 * 1 = List.length l8))
 (((bcase (decide (ByteArray.size (s1 ++ { data := #[32] }) + ByteArray.size s2 ≤ 9223372036854775807))
 ((Go.Value.string (s1 ++ { data := #[32] } ++ s2)) = (Go.Value.string (s1 ++ { data := #[32] } ++ s2)))
 False) ∧
 ((bcase (decide (ByteArray.size s1 + 1 ≤ 9223372036854775807))
 ((Go.Value.string (s1 ++ { data := #[32] })) = (Go.Value.string (s1 ++ { data := #[32] })))
 False) ∧
 (((Go.Value.pointer (Option.some (Go.Addr.mk 1002 1 Option.none))) = (Go.Value.pointer (Option.some (Go.Addr.mk 1002 1 Option.none)))) ∧
 (((Go.Value.pointer (Option.some (Go.Addr.mk 1002 0 Option.none))) = (Go.Value.pointer (Option.some (Go.Addr.mk 1002 0 Option.none)))) ∧
 True)))) ∧
 (True ∧
 (B [(Prod.mk 1 (Go.Value.pointer (Option.some (Go.Addr.mk 1000 0 Option.none)))), (Prod.mk 3 (Go.Value.slice (Option.some (Go.Addr.mk 1001 0 Option.none)) (n0 + 1) (n0 + 1))), (Prod.mk 7 (Go.Value.slice (Option.some (Go.Addr.mk 500 0 Option.none)) (n1) (c2))), (Prod.mk 8 (vI x3)), (Prod.mk 9 (vI (IntKind.wrap .i64 (x4 + 1))))] [(Prod.mk 1000 (AObj.cells [(Go.Value.slice (Option.some (Go.Addr.mk 500 0 Option.none)) (n5) (c6)), (vI x7)] 24 false 1)), (Prod.mk 1001 (AObj.sym ((List.take (n0 * 1) (List.drop 0 l8)) ++ [(Go.Value.string (s1 ++ { data := #[32] } ++ s2))]) true 1)), (Prod.mk 500 (AObj.sym (l9) false 2))])))
 False)
 False)
 False)
 False)
 False))
 False))))
 False)))))))
 False)
 False)
 (X 0 [(Prod.mk 1 (Go.Value.pointer (Option.some (Go.Addr.mk 1000 0 Option.none)))), (Prod.mk 3 (Go.Value.slice (Option.some (Go.Addr.mk 1001 0 Option.none)) (n0) (n0)))] [(Prod.mk 1000 (AObj.cells [(Go.Value.slice (Option.some (Go.Addr.mk 500 0 Option.none)) (n5) (c6)), (vI x7)] 24 false 1)), (Prod.mk 1001 (AObj.sym (l8) true 1)), (Prod.mk 500 (AObj.sym (l9) false 2))])) := by kernel_rfl
def nFL3 (C : Ct) (L : AtLoop) (n0 : Nat) (c1 : Nat) (x2 : Int) (l3 : List Value) (k : List D → Prop) : Prop := wpNext Tryz.prog (hG C) L 6 0 .normal [(1, (Value.pointer (some ⟨1000, 0, none⟩))), (3, (Value.slice none 0 0))] [(1000, (AObj.cells [(Value.slice (some ⟨500, 0, none⟩) n0 c1), (Value.int .i64 x2)] 24 false 1)), (500, (AObj.sym l3 false 2))] (dataK k)
theorem nFL3_text (C : Ct) (L : AtLoop) (n0 : Nat) (c1 : Nat) (x2 : Int) (l3 : List Go.Value) (k : List D → Prop) : nFL3 C L n0 c1 x2 l3 k =
 (∃ s1 : ByteArray,
 ((Says C 21 [(D.val (vI x2))] [(D.val (Go.Value.string (s1)))]) ∧
 (bcase (decide (ByteArray.size s1 + 1 ≤ 9223372036854775807))
 (∃ s2 : ByteArray,
 ((Says C 22 [D.nil, (D.val (Go.Value.string ({ data := #[44] })))] [(D.val (Go.Value.string (s2)))]) ∧
 (bcase (decide (ByteArray.size (s1 ++ { data := #[59] }) + ByteArray.size s2 ≤ 9223372036854775807))
 (k [(D.val (Go.Value.string (s1 ++ { data := #[59] } ++ s2)))])
 False)))
 False))) := by kernel_rfl
def nFL4 (C : Ct) (L : AtLoop) (n0 : Nat) (n1 : Nat) (c2 : Nat) (x3 : Int) (l4 : List Value) (l5 : List Value) (k : List D → Prop) : Prop := wpNext Tryz.prog (hG C) L 6 0 .normal [(1, (Value.pointer (some ⟨1000, 0, none⟩))), (3, (Value.slice (some ⟨1001, 0, none⟩) n0 n0))] [(1000, (AObj.cells [(Value.slice (some ⟨500, 0, none⟩) n1 c2), (Value.int .i64 x3)] 24 false 1)), (1001, (AObj.sym l4 true 1)), (500, (AObj.sym l5 false 2))] (dataK k)
theorem nFL4_text (C : Ct) (L : AtLoop) (n0 : Nat) (n1 : Nat) (c2 : Nat) (x3 : Int) (l4 : List Go.Value) (l5 : List Go.Value) (k : List D → Prop) : nFL4 C L n0 n1 c2 x3 l4 l5 k =
 (∃ s1 : ByteArray,
 ((Says C 21 [(D.val (vI x3))] [(D.val (Go.Value.string (s1)))]) ∧
 (bcase (decide (ByteArray.size s1 + 1 ≤ 9223372036854775807))
 (bcase (decide (0 + n0 * 1 ≤ List.length l4))
 (∃ s2 : ByteArray,
 ((Says C 22 [(D.sl (n0) 1 (List.take (n0 * 1) (List.drop 0 l4))), (D.val (Go.Value.string ({ data := #[44] })))] [(D.val (Go.Value.string (s2)))]) ∧
 (bcase (decide (ByteArray.size (s1 ++ { data := #[59] }) + ByteArray.size s2 ≤ 9223372036854775807))
 (k [(D.val (Go.Value.string (s1 ++ { data := #[59] } ++ s2)))])
 False)))
 False)
 False))) := by kernel_rfl
def gRF (C : Ct) (L : AtLoop) (n0 : Nat) (c0 : Nat) (l0 : List Value) (x1 : Int) (k : List D → Prop) : Prop := wpFn Tryz.prog (hG C) L 0 10 #[.agg #[.slice (some ⟨500, 0, none⟩) n0 c0, .int .i64 x1]] (heapOf [(500, .sym l0 false 2)]) (dataK k)
theorem gRF_text (C : Ct) (L : AtLoop) (n0 : Nat) (c0 : Nat) (l0 : List Go.Value) (x1 : Int) (k : List D → Prop) : gRF C L n0 c0 l0 x1 k =
 (∃ s1 : ByteArray,
 ((Says C 31 [(D.val (vI x1))] [(D.val (Go.Value.string (s1)))]) ∧
 (bcase (decide (ByteArray.size s1 + 1 ≤ 9223372036854775807))
 (L 0 [(Prod.mk 1 (Go.Value.pointer (Option.some (Go.Addr.mk 1000 0 Option.none)))), (Prod.mk 3 (Go.Value.string (s1 ++ { data := #[59] }))), (Prod.mk 4 (vI (0 : Int)))] [(Prod.mk 1000 (AObj.cells [(Go.Value.slice (Option.some (Go.Addr.mk 500 0 Option.none)) (n0) (c0)), (vI x1)] 24 false 1)), (Prod.mk 500 (AObj.sym (l0) false 2))])
 False))) := by kernel_rfl
abbrev zRF1 (s0 : ByteArray) (x1 : Int) (n2 : Nat) (c3 : Nat) (x4 : Int) (l5 : List Value) : Slots × Blocks := ([(1, (Value.pointer (some ⟨1000, 0, none⟩))), (3, (Value.string s0)), (4, (Value.int .i64 x1))], [(1000, (AObj.cells [(Value.slice (some ⟨500, 0, none⟩) n2 c3), (Value.int .i64 x4)] 24 false 1)), (500, (AObj.sym l5 false 2))])
def rRF1 (C : Ct) (L : AtLoop) (s0 : ByteArray) (x1 : Int) (n2 : Nat) (c3 : Nat) (x4 : Int) (l5 : List Value) (B : Bx) (X : Xx) (k : List D → Prop) : Prop := wpRound Tryz.prog (hG C) L 10 0 [(1, (Value.pointer (some ⟨1000, 0, none⟩))), (3, (Value.string s0)), (4, (Value.int .i64 x1))] [(1000, (AObj.cells [(Value.slice (some ⟨500, 0, none⟩) n2 c3), (Value.int .i64 x4)] 24 false 1)), (500, (AObj.sym l5 false 2))] B X (dataK k)
theorem rRF1_text (C : Ct) (L : AtLoop) (s0 : ByteArray) (x1 : Int) (n2 : Nat) (c3 : Nat) (x4 : Int) (l5 : List Go.Value) (B : Bx) (X : Xx) (k : List D → Prop) : rRF1 C L s0 x1 n2 c3 x4 l5 B X k =
 (bcase (decide (x1 < (↑n2 : Int)))
 (bcase (decide (x1 > 0))
 (bcase (decide (ByteArray.size s0 + 1 ≤ 9223372036854775807))
 (bcase (decide (0 ≤ x1))
 (bcase (decide (x1 < (↑n2 : Int)))
 (∃ n1 : Int,
 ((At (l5) (0 + Int.toNat x1 * 2) 1 [(vI n1)]) ∧
 (bcase (decide (0 ≤ x1))
 (bcase (decide (x1 < (↑n2 : Int)))
 (∃ n3 : Int,
 ((At (l5) (Go.Addr.off { block := 500, off := 0 + Int.toNat x1 * 2 } + 1) 1 [(vI n3)]) ∧
 (((∃ n4 : Int,
 ((At (l5) (Go.Addr.off { block := 500, off := 0 + Int.toNat x1 * 2 } + 1) 1 [(vI n4)]) ∧
 ((vI n4) = (vI n3)))) ∧
 (((Go.Value.pointer (Option.some (Go.Addr.mk 500 (Go.Addr.off { block := 500, off := 0 + Int.toNat x1 * 2 } + 1) Option.none))) = (Go.Value.pointer (Option.some (Go.Addr.mk 500 (Go.Addr.off { block := 500, off := 0 + Int.toNat x1 * 2 } + 1) Option.none)))) ∧
 ((bcase (decide (0 ≤ x1))
 (bcase (decide (x1 < (↑n2 : Int)))
 ((Go.Value.pointer (Option.some (Go.Addr.mk 500 (0 + Int.toNat x1 * 2) Option.none))) = (Go.Value.pointer (Option.some (Go.Addr.mk 500 (0 + Int.toNat x1 * 2) Option.none))))
 False)
 False) ∧
 (((vI x1) = (vI x1)) ∧
 (((Go.Value.slice (Option.some (Go.Addr.mk 500 0 Option.none)) (n2) (c3)) = (Go.Value.slice (Option.some (Go.Addr.mk 500 0 Option.none)) (n2) (c3))) ∧
 (((Go.Value.pointer (Option.some (Go.Addr.mk 1000 0 Option.none))) = (Go.Value.pointer (Option.some (Go.Addr.mk 1000 0 Option.none)))) ∧
 ((∃ n4 : Int,
 ((At (l5) (0 + Int.toNat x1 * 2) 1 [(vI n4)]) ∧
 ((vI n4) = (vI n1)))) ∧
 (((Go.Value.pointer (Option.some (Go.Addr.mk 500 (0 + Int.toNat x1 * 2) Option.none))) = (Go.Value.pointer (Option.some (Go.Addr.mk 500 (0 + Int.toNat x1 * 2) Option.none)))) ∧
 ((bcase (decide (0 ≤ x1))
 (bcase (decide (x1 < (↑n2 : Int)))
 ((Go.Value.pointer (Option.some (Go.Addr.mk 500 (0 + Int.toNat x1 * 2) Option.none))) = (Go.Value.pointer (Option.some (Go.Addr.mk 500 (0 + Int.toNat x1 * 2) Option.none))))
 False)
 False) ∧
 (((vI x1) = (vI x1)) ∧
 (((Go.Value.slice (Option.some (Go.Addr.mk 500 0 Option.none)) (n2) (c3)) = (Go.Value.slice (Option.some (Go.Addr.mk 500 0 Option.none)) (n2) (c3))) ∧
 (((Go.Value.pointer (Option.some (Go.Addr.mk 1000 0 Option.none))) = (Go.Value.pointer (Option.some (Go.Addr.mk 1000 0 Option.none)))) ∧
 (((Go.Value.string (s0 ++ { data := #[44] })) = (Go.Value.string (s0 ++ { data := #[44] }))) ∧
 True))))))))))))) ∧
 (∃ s1 : ByteArray,
 ((Says C 31 [(D.val (vI n1))] [(D.val (Go.Value.string (s1)))]) ∧
 (bcase (decide (ByteArray.size (s0 ++ { data := #[44] }) + ByteArray.size s1 ≤ 9223372036854775807))
 (bcase (decide (ByteArray.size (s0 ++ { data := #[44] } ++ s1) + 1 ≤ 9223372036854775807))
 (((bcase (decide (ByteArray.size (s0 ++ { data := #[44] } ++ s1) + 1 ≤ 9223372036854775807))
 ((Go.Value.string (s0 ++ { data := #[44] } ++ s1 ++ { data := #[32] })) = (Go.Value.string (s0 ++ { data := #[44] } ++ s1 ++ { data := #[32] })))
 False) ∧
 ((bcase (decide (ByteArray.size (s0 ++ { data := #[44] }) + ByteArray.size s1 ≤ 9223372036854775807))
 ((Go.Value.string (s0 ++ { data := #[44] } ++ s1)) = (Go.Value.string (s0 ++ { data := #[44] } ++ s1)))
 False) ∧
 ((∃ n4 : Int,
 ((At (l5) (Go.Addr.off { block := 500, off := 0 + Int.toNat x1 * 2 } + 1) 1 [(vI n4)]) ∧
 ((vI n4) = (vI n3)))) ∧
 (((Go.Value.pointer (Option.some (Go.Addr.mk 500 (Go.Addr.off { block := 500, off := 0 + Int.toNat x1 * 2 } + 1) Option.none))) = (Go.Value.pointer (Option.some (Go.Addr.mk 500 (Go.Addr.off { block := 500, off := 0 + Int.toNat x1 * 2 } + 1) Option.none)))) ∧
 ((bcase (decide (0 ≤ x1))
 (bcase (decide (x1 < (↑n2 : Int)))
 ((Go.Value.pointer (Option.some (Go.Addr.mk 500 (0 + Int.toNat x1 * 2) Option.none))) = (Go.Value.pointer (Option.some (Go.Addr.mk 500 (0 + Int.toNat x1 * 2) Option.none))))
 False)
 False) ∧
 (((vI x1) = (vI x1)) ∧
 (((Go.Value.slice (Option.some (Go.Addr.mk 500 0 Option.none)) (n2) (c3)) = (Go.Value.slice (Option.some (Go.Addr.mk 500 0 Option.none)) (n2) (c3))) ∧
 (((Go.Value.pointer (Option.some (Go.Addr.mk 1000 0 Option.none))) = (Go.Value.pointer (Option.some (Go.Addr.mk 1000 0 Option.none)))) ∧
 (((Go.Value.pointer (Option.some (Go.Addr.mk 500 (0 + Int.toNat x1 * 2) Option.none))) = (Go.Value.pointer (Option.some (Go.Addr.mk 500 (0 + Int.toNat x1 * 2) Option.none)))) ∧
 ((bcase (decide (0 ≤ x1))
 (bcase (decide (x1 < (↑n2 : Int)))
 ((Go.Value.pointer (Option.some (Go.Addr.mk 500 (0 + Int.toNat x1 * 2) Option.none))) = (Go.Value.pointer (Option.some (Go.Addr.mk 500 (0 + Int.toNat x1 * 2) Option.none))))
 False)
 False) ∧
 (((vI x1) = (vI x1)) ∧
 (((Go.Value.slice (Option.some (Go.Addr.mk 500 0 Option.none)) (n2) (c3)) = (Go.Value.slice (Option.some (Go.Addr.mk 500 0 Option.none)) (n2) (c3))) ∧
 (((Go.Value.pointer (Option.some (Go.Addr.mk 1000 0 Option.none))) = (Go.Value.pointer (Option.some (Go.Addr.mk 1000 0 Option.none)))) ∧
 (((Go.Value.string (s0 ++ { data := #[44] })) = (Go.Value.string (s0 ++ { data := #[44] }))) ∧
 True)))))))))))))) ∧
 (∃ s2 : ByteArray,
 ((Says C 31 [(D.val (vI n3))] [(D.val (Go.Value.string (s2)))]) ∧
 (bcase (decide (ByteArray.size (s0 ++ { data := #[44] } ++ s1 ++ { data := #[32] }) + ByteArray.size s2 ≤ 9223372036854775807))
 (((bcase (decide (ByteArray.size (s0 ++ { data := #[44] } ++ s1 ++ { data := #[32] }) + ByteArray.size s2 ≤ 9223372036854775807))
 ((Go.Value.string (s0 ++ { data := #[44] } ++ s1 ++ { data := #[32] } ++ s2)) = (Go.Value.string (s0 ++ { data := #[44] } ++ s1 ++ { data := #[32] } ++ s2)))
 False) ∧
 ((bcase (decide (ByteArray.size (s0 ++ { data := #[44] } ++ s1) + 1 ≤ 9223372036854775807))
 ((Go.Value.string (s0 ++ { data := #[44] } ++ s1 ++ { data := #[32] })) = (Go.Value.string (s0 ++ { data := #[44] } ++ s1 ++ { data := #[32] })))
 False) ∧
 ((bcase (decide (ByteArray.size (s0 ++ { data := #[44] }) + ByteArray.size s1 ≤ 9223372036854775807))
 ((Go.Value.string (s0 ++ { data := #[44] } ++ s1)) = (Go.Value.string (s0 ++ { data := #[44] } ++ s1)))
 False) ∧
 (((Go.Value.pointer (Option.some (Go.Addr.mk 500 (Go.Addr.off { block := 500, off := 0 + Int.toNat x1 * 2 } + 1) Option.none))) = (Go.Value.pointer (Option.some (Go.Addr.mk 500 (Go.Addr.off { block := 500, off := 0 + Int.toNat x1 * 2 } + 1) Option.none)))) ∧
 ((bcase (decide (0 ≤ x1))
 (bcase (decide (x1 < (↑n2 : Int)))
 ((Go.Value.pointer (Option.some (Go.Addr.mk 500 (0 + Int.toNat x1 * 2) Option.none))) = (Go.Value.pointer (Option.some (Go.Addr.mk 500 (0 + Int.toNat x1 * 2) Option.none))))
 False)
 False) ∧
 (((vI x1) = (vI x1)) ∧
 (((Go.Value.slice (Option.some (Go.Addr.mk 500 0 Option.none)) (n2) (c3)) = (Go.Value.slice (Option.some (Go.Addr.mk 500 0 Option.none)) (n2) (c3))) ∧
 (((Go.Value.pointer (Option.some (Go.Addr.mk 1000 0 Option.none))) = (Go.Value.pointer (Option.some (Go.Addr.mk 1000 0 Option.none)))) ∧
 (((Go.Value.pointer (Option.some (Go.Addr.mk 500 (0 + Int.toNat x1 * 2) Option.none))) = (Go.Value.pointer (Option.some (Go.Addr.mk 500 (0 + Int.toNat x1 * 2) Option.none)))) ∧
 ((bcase (decide (0 ≤ x1))
 (bcase (decide (x1 < (↑n2 : Int)))
 ((Go.Value.pointer (Option.some (Go.Addr.mk 500 (0 + Int.toNat x1 * 2) Option.none))) = (Go.Value.pointer (Option.some (Go.Addr.mk 500 (0 + Int.toNat x1 * 2) Option.none))))
 False)
 False) ∧
 (((vI x1) = (vI x1)) ∧
 (((Go.Value.slice (Option.some (Go.Addr.mk 500 0 Option.none)) (n2) (c3)) = (Go.Value.slice (Option.some (Go.Addr.mk 500 0 Option.none)) (n2) (c3))) ∧
 (((Go.Value.pointer (Option.some (Go.Addr.mk 1000 0 Option.none))) = (Go.Value.pointer (Option.some (Go.Addr.mk 1000 0 Option.none)))) ∧
 (((Go.Value.string (s0 ++ { data := #[44] })) = (Go.Value.string (s0 ++ { data := #[44] }))) ∧
 True)))))))))))))) ∧
 (True ∧
 (B [(Prod.mk 1 (Go.Value.pointer (Option.some (Go.Addr.mk 1000 0 Option.none)))), (Prod.mk 3 (Go.Value.string (s0 ++ { data := #[44] } ++ s1 ++ { data := #[32] } ++ s2))), (Prod.mk 4 (vI (IntKind.wrap .i64 (x1 + 1))))] [(Prod.mk 1000 (AObj.cells [(Go.Value.slice (Option.some (Go.Addr.mk 500 0 Option.none)) (n2) (c3)), (vI x4)] 24 false 1)), (Prod.mk 500 (AObj.sym (l5) false 2))])))
 False))))
 False)
 False))))))
 False)
 False)))
 False)
 False)
 False)
 (bcase (decide (0 ≤ x1))
 (bcase (decide (x1 < (↑n2 : Int)))
 (∃ n1 : Int,
 ((At (l5) (0 + Int.toNat x1 * 2) 1 [(vI n1)]) ∧
 (bcase (decide (0 ≤ x1))
 (bcase (decide (x1 < (↑n2 : Int)))
 (∃ n3 : Int,
 ((At (l5) (Go.Addr.off { block := 500, off := 0 + Int.toNat x1 * 2 } + 1) 1 [(vI n3)]) ∧
 (((∃ n4 : Int,
 ((At (l5) (Go.Addr.off { block := 500, off := 0 + Int.toNat x1 * 2 } + 1) 1 [(vI n4)]) ∧
 ((vI n4) = (vI n3)))) ∧
 (((Go.Value.pointer (Option.some (Go.Addr.mk 500 (Go.Addr.off { block := 500, off := 0 + Int.toNat x1 * 2 } + 1) Option.none))) = (Go.Value.pointer (Option.some (Go.Addr.mk 500 (Go.Addr.off { block := 500, off := 0 + Int.toNat x1 * 2 } + 1) Option.none)))) ∧
 ((bcase (decide (0 ≤ x1))
 (bcase (decide (x1 < (↑n2 : Int)))
 ((Go.Value.pointer (Option.some (Go.Addr.mk 500 (0 + Int.toNat x1 * 2) Option.none))) = (Go.Value.pointer (Option.some (Go.Addr.mk 500 (0 + Int.toNat x1 * 2) Option.none))))
 False)
 False) ∧
 (((vI x1) = (vI x1)) ∧
 (((Go.Value.slice (Option.some (Go.Addr.mk 500 0 Option.none)) (n2) (c3)) = (Go.Value.slice (Option.some (Go.Addr.mk 500 0 Option.none)) (n2) (c3))) ∧
 (((Go.Value.pointer (Option.some (Go.Addr.mk 1000 0 Option.none))) = (Go.Value.pointer (Option.some (Go.Addr.mk 1000 0 Option.none)))) ∧
 ((∃ n4 : Int,
 ((At (l5) (0 + Int.toNat x1 * 2) 1 [(vI n4)]) ∧
 ((vI n4) = (vI n1)))) ∧
 (((Go.Value.pointer (Option.some (Go.Addr.mk 500 (0 + Int.toNat x1 * 2) Option.none))) = (Go.Value.pointer (Option.some (Go.Addr.mk 500 (0 + Int.toNat x1 * 2) Option.none)))) ∧
 ((bcase (decide (0 ≤ x1))
 (bcase (decide (x1 < (↑n2 : Int)))
 ((Go.Value.pointer (Option.some (Go.Addr.mk 500 (0 + Int.toNat x1 * 2) Option.none))) = (Go.Value.pointer (Option.some (Go.Addr.mk 500 (0 + Int.toNat x1 * 2) Option.none))))
 False)
 False) ∧
 (((vI x1) = (vI x1)) ∧
 (((Go.Value.slice (Option.some (Go.Addr.mk 500 0 Option.none)) (n2) (c3)) = (Go.Value.slice (Option.some (Go.Addr.mk 500 0 Option.none)) (n2) (c3))) ∧
 (((Go.Value.pointer (Option.some (Go.Addr.mk 1000 0 Option.none))) = (Go.Value.pointer (Option.some (Go.Addr.mk 1000 0 Option.none)))) ∧
 (((Go.Value.string (s0)) = (Go.Value.string (s0))) ∧
 True))))))))))))) ∧
 (∃ s1 : ByteArray,
 ((Says C 31 [(D.val (vI n1))] [(D.val (Go.Value.string (s1)))]) ∧
 (bcase (decide (ByteArray.size s0 + ByteArray.size s1 ≤ 9223372036854775807))
 (bcase (decide (ByteArray.size (s0 ++ s1) + 1 ≤ 9223372036854775807))
 (((bcase (decide (ByteArray.size (s0 ++ s1) + 1 ≤ 9223372036854775807))
 ((Go.Value.string (s0 ++ s1 ++ { data := #[32] })) = (Go.Value.string (s0 ++ s1 ++ { data := #[32] })))
 False) ∧
 ((bcase (decide (ByteArray.size s0 + ByteArray.size s1 ≤ 9223372036854775807))
 ((Go.Value.string (s0 ++ s1)) = (Go.Value.string (s0 ++ s1)))
 False) ∧
 ((∃ n4 : Int,
 ((At (l5) (Go.Addr.off { block := 500, off := 0 + Int.toNat x1 * 2 } + 1) 1 [(vI n4)]) ∧
 ((vI n4) = (vI n3)))) ∧
 (((Go.Value.pointer (Option.some (Go.Addr.mk 500 (Go.Addr.off { block := 500, off := 0 + Int.toNat x1 * 2 } + 1) Option.none))) = (Go.Value.pointer (Option.some (Go.Addr.mk 500 (Go.Addr.off { block := 500, off := 0 + Int.toNat x1 * 2 } + 1) Option.none)))) ∧
 ((bcase (decide (0 ≤ x1))
 (bcase (decide (x1 < (↑n2 : Int)))
 ((Go.Value.pointer (Option.some (Go.Addr.mk 500 (0 + Int.toNat x1 * 2) Option.none))) = (Go.Value.pointer (Option.some (Go.Addr.mk 500 (0 + Int.toNat x1 * 2) Option.none))))
 False)
 False) ∧
 (((vI x1) = (vI x1)) ∧
 (((Go.Value.slice (Option.some (Go.Addr.mk 500 0 Option.none)) (n2) (c3)) = (Go.Value.slice (Option.some (Go.Addr.mk 500 0 Option.none)) (n2) (c3))) ∧
 (((Go.Value.pointer (Option.some (Go.Addr.mk 1000 0 Option.none))) = (Go.Value.pointer (Option.some (Go.Addr.mk 1000 0 Option.none)))) ∧
 (((Go.Value.pointer (Option.some (Go.Addr.mk 500 (0 + Int.toNat x1 * 2) Option.none))) = (Go.Value.pointer (Option.some (Go.Addr.mk 500 (0 + Int.toNat x1 * 2) Option.none)))) ∧
 ((bcase (decide (0 ≤ x1))
 (bcase (decide (x1 < (↑n2 : Int)))
 ((Go.Value.pointer (Option.some (Go.Addr.mk 500 (0 + Int.toNat x1 * 2) Option.none))) = (Go.Value.pointer (Option.some (Go.Addr.mk 500 (0 + Int.toNat x1 * 2) Option.none))))
 False)
 False) ∧
 (((vI x1) = (vI x1)) ∧
 (((Go.Value.slice (Option.some (Go.Addr.mk 500 0 Option.none)) (n2) (c3)) = (Go.Value.slice (Option.some (Go.Addr.mk 500 0 Option.none)) (n2) (c3))) ∧
 (((Go.Value.pointer (Option.some (Go.Addr.mk 1000 0 Option.none))) = (Go.Value.pointer (Option.some (Go.Addr.mk 1000 0 Option.none)))) ∧
 (((Go.Value.string (s0)) = (Go.Value.string (s0))) ∧
 True)))))))))))))) ∧
 (∃ s2 : ByteArray,
 ((Says C 31 [(D.val (vI n3))] [(D.val (Go.Value.string (s2)))]) ∧
 (bcase (decide (ByteArray.size (s0 ++ s1 ++ { data := #[32] }) + ByteArray.size s2 ≤ 9223372036854775807))
 (((bcase (decide (ByteArray.size (s0 ++ s1 ++ { data := #[32] }) + ByteArray.size s2 ≤ 9223372036854775807))
 ((Go.Value.string (s0 ++ s1 ++ { data := #[32] } ++ s2)) = (Go.Value.string (s0 ++ s1 ++ { data := #[32] } ++ s2)))
 False) ∧
 ((bcase (decide (ByteArray.size (s0 ++ s1) + 1 ≤ 9223372036854775807))
 ((Go.Value.string (s0 ++ s1 ++ { data := #[32] })) = (Go.Value.string (s0 ++ s1 ++ { data := #[32] })))
 False) ∧
 ((bcase (decide (ByteArray.size s0 + ByteArray.size s1 ≤ 9223372036854775807))
 ((Go.Value.string (s0 ++ s1)) = (Go.Value.string (s0 ++ s1)))
 False) ∧
 (((Go.Value.pointer (Option.some (Go.Addr.mk 500 (Go.Addr.off { block := 500, off := 0 + Int.toNat x1 * 2 } + 1) Option.none))) = (Go.Value.pointer (Option.some (Go.Addr.mk 500 (Go.Addr.off { block := 500, off := 0 + Int.toNat x1 * 2 } + 1) Option.none)))) ∧
 ((bcase (decide (0 ≤ x1))
 (bcase (decide (x1 < (↑n2 : Int)))
 ((Go.Value.pointer (Option.some (Go.Addr.mk 500 (0 + Int.toNat x1 * 2) Option.none))) = (Go.Value.pointer (Option.some (Go.Addr.mk 500 (0 + Int.toNat x1 * 2) Option.none))))
 False)
 False) ∧
 (((vI x1) = (vI x1)) ∧
 (((Go.Value.slice (Option.some (Go.Addr.mk 500 0 Option.none)) (n2) (c3)) = (Go.Value.slice (Option.some (Go.Addr.mk 500 0 Option.none)) (n2) (c3))) ∧
 (((Go.Value.pointer (Option.some (Go.Addr.mk 1000 0 Option.none))) = (Go.Value.pointer (Option.some (Go.Addr.mk 1000 0 Option.none)))) ∧
 (((Go.Value.pointer (Option.some (Go.Addr.mk 500 (0 + Int.toNat x1 * 2) Option.none))) = (Go.Value.pointer (Option.some (Go.Addr.mk 500 (0 + Int.toNat x1 * 2) Option.none)))) ∧
 ((bcase (decide (0 ≤ x1))
 (bcase (decide (x1 < (↑n2 : Int)))
 ((Go.Value.pointer (Option.some (Go.Addr.mk 500 (0 + Int.toNat x1 * 2) Option.none))) = (Go.Value.pointer (Option.some (Go.Addr.mk 500 (0 + Int.toNat x1 * 2) Option.none))))
 False)
 False) ∧
 (((vI x1) = (vI x1)) ∧
 (((Go.Value.slice (Option.some (Go.Addr.mk 500 0 Option.none)) (n2) (c3)) = (Go.Value.slice (Option.some (Go.Addr.mk 500 0 Option.none)) (n2) (c3))) ∧
 (((Go.Value.pointer (Option.some (Go.Addr.mk 1000 0 Option.none))) = (Go.Value.pointer (Option.some (Go.Addr.mk 1000 0 Option.none)))) ∧
 (((Go.Value.string (s0)) = (Go.Value.string (s0))) ∧
 True)))))))))))))) ∧
 (True ∧
 (B [(Prod.mk 1 (Go.Value.pointer (Option.some (Go.Addr.mk 1000 0 Option.none)))), (Prod.mk 3 (Go.Value.string (s0 ++ s1 ++ { data := #[32] } ++ s2))), (Prod.mk 4 (vI (IntKind.wrap .i64 (x1 + 1))))] [(Prod.mk 1000 (AObj.cells [(Go.Value.slice (Option.some (Go.Addr.mk 500 0 Option.none)) (n2) (c3)), (vI x4)] 24 false 1)), (Prod.mk 500 (AObj.sym (l5) false 2))])))
 False))))
 False)
 False))))))
 False)
 False)))
 False)
 False))
 (X 0 [(Prod.mk 3 (Go.Value.string (s0)))] [])) := by kernel_rfl
def nRF2 (C : Ct) (L : AtLoop) (s0 : ByteArray) (k : List D → Prop) : Prop := wpNext Tryz.prog (hG C) L 10 0 .normal [(3, (Value.string s0))] [] (dataK k)
theorem nRF2_text (C : Ct) (L : AtLoop) (s0 : ByteArray) (k : List D → Prop) : nRF2 C L s0 k =
 (k [(D.val (Go.Value.string (s0)))]) := by kernel_rfl
def gRFn (C : Ct) (L : AtLoop) (x1 : Int) (k : List D → Prop) : Prop := wpFn Tryz.prog (hG C) L 0 10 #[.agg #[.slice none 0 0, .int .i64 x1]] (heapOf []) (dataK k)
theorem gRFn_text (C : Ct) (L : AtLoop) (x1 : Int) (k : List D → Prop) : gRFn C L x1 k =
 (∃ s1 : ByteArray,
 ((Says C 31 [(D.val (vI x1))] [(D.val (Go.Value.string (s1)))]) ∧
 (bcase (decide (ByteArray.size s1 + 1 ≤ 9223372036854775807))
 (L 0 [(Prod.mk 1 (Go.Value.pointer (Option.some (Go.Addr.mk 1000 0 Option.none)))), (Prod.mk 3 (Go.Value.string (s1 ++ { data := #[59] }))), (Prod.mk 4 (vI (0 : Int)))] [(Prod.mk 1000 (AObj.cells [(Go.Value.slice Option.none 0 0), (vI x1)] 24 false 1))])
 False))) := by kernel_rfl
abbrev zRFn1 (s0 : ByteArray) (x1 : Int) (x2 : Int) : Slots × Blocks := ([(1, (Value.pointer (some ⟨1000, 0, none⟩))), (3, (Value.string s0)), (4, (Value.int .i64 x1))], [(1000, (AObj.cells [(Value.slice none 0 0), (Value.int .i64 x2)] 24 false 1))])
def rRFn1 (C : Ct) (L : AtLoop) (s0 : ByteArray) (x1 : Int) (x2 : Int) (B : Bx) (X : Xx) (k : List D → Prop) : Prop := wpRound Tryz.prog (hG C) L 10 0 [(1, (Value.pointer (some ⟨1000, 0, none⟩))), (3, (Value.string s0)), (4, (Value.int .i64 x1))] [(1000, (AObj.cells [(Value.slice none 0 0), (Value.int .i64 x2)] 24 false 1))] B X (dataK k)
theorem rRFn1_text (C : Ct) (L : AtLoop) (s0 : ByteArray) (x1 : Int) (x2 : Int) (B : Bx) (X : Xx) (k : List D → Prop) : rRFn1 C L s0 x1 x2 B X k =
 (bcase (decide (x1 < (↑0 : Int)))
 (bcase (decide (x1 > 0))
 (bcase (decide (ByteArray.size s0 + 1 ≤ 9223372036854775807))
 False
 False)
 False)
 (X 0 [(Prod.mk 3 (Go.Value.string (s0)))] [])) := by kernel_rfl
def nRFn2 (C : Ct) (L : AtLoop) (s0 : ByteArray) (k : List D → Prop) : Prop := wpNext Tryz.prog (hG C) L 10 0 .normal [(3, (Value.string s0))] [] (dataK k)
theorem nRFn2_text (C : Ct) (L : AtLoop) (s0 : ByteArray) (k : List D → Prop) : nRFn2 C L s0 k =
 (k [(D.val (Go.Value.string (s0)))]) := by kernel_rfl
def gPL (C : Ct) (L : AtLoop) (s0 : ByteArray) (k : List D → Prop) : Prop := wpFn Tryz.prog (hG C) L 0 8 #[.string s0] (heapOf []) (dataK k)
theorem gPL_text (C : Ct) (L : AtLoop) (s0 : ByteArray) (k : List D → Prop) : gPL C L s0 k =
 (∃ s1 : ByteArray,
 (∃ s2 : ByteArray,
 (((Says C 24 [(D.val (Go.Value.string (s0))), (D.val (Go.Value.string ({ data := #[59] })))] [(D.val (Go.Value.string (s1))), (D.val (Go.Value.string (s2))), (D.val (Value.bool true))]) ∧
 (∃ n1 : Int,
 (((Says C 25 [(D.val (Go.Value.string (s1)))] [(D.val (vI n1)), (D.val (Value.bool true))]) ∧
 (((Says C 26 [(D.val (Go.Value.string (s2))), (D.val (Go.Value.string ({ data := #[44] })))] [D.nil]) ∧
 (L 0 [(Prod.mk 2 (Go.Value.pointer (Option.some (Go.Addr.mk 1000 0 Option.none)))), (Prod.mk 9 (Go.Value.pointer (Option.some (Go.Addr.mk 1001 0 Option.none)))), (Prod.mk 32 (Go.Value.slice Option.none 0 0)), (Prod.mk 33 (vI (0 : Int))), (Prod.mk 34 (vI (0 : Int)))] [(Prod.mk 1000 (AObj.cells [(Go.Value.slice Option.none 0 0), (vI (0 : Int))] 24 false 2)), (Prod.mk 1001 (AObj.cells [(Go.Value.slice Option.none 0 0), (vI n1)] 24 false 2))])) ∨
 (∃ n2 : Nat,
 (∃ cs1 : List Go.Value,
 ((Says C 26 [(D.val (Go.Value.string (s2))), (D.val (Go.Value.string ({ data := #[44] })))] [(D.sl (n2) 1 (cs1))]) ∧
 (L 0 [(Prod.mk 2 (Go.Value.pointer (Option.some (Go.Addr.mk 1000 0 Option.none)))), (Prod.mk 9 (Go.Value.pointer (Option.some (Go.Addr.mk 1001 0 Option.none)))), (Prod.mk 32 (Go.Value.slice (Option.some (Go.Addr.mk 1002 0 Option.none)) (n2) (n2))), (Prod.mk 33 (vI ((↑n2 : Int)))), (Prod.mk 34 (vI (0 : Int)))] [(Prod.mk 1000 (AObj.cells [(Go.Value.slice Option.none 0 0), (vI (0 : Int))] 24 false 2)), (Prod.mk 1001 (AObj.cells [(Go.Value.slice Option.none 0 0), (vI n1)] 24 false 2)), (Prod.mk 1002 (AObj.sym (cs1) true 1))])))))) ∨
 ((Says C 25 [(D.val (Go.Value.string (s1)))] [(D.val (vI n1)), (D.val (Value.bool false))]) ∧
 (k [(D.agg [D.nil, (D.val (vI (0 : Int)))]), (D.val (vI (7 : Int)))]))))) ∨
 ((Says C 24 [(D.val (Go.Value.string (s0))), (D.val (Go.Value.string ({ data := #[59] })))] [(D.val (Go.Value.string (s1))), (D.val (Go.Value.string (s2))), (D.val (Value.bool false))]) ∧
 (∃ n1 : Int,
 (((Says C 25 [(D.val (Go.Value.string (s1)))] [(D.val (vI n1)), (D.val (Value.bool true))]) ∧
 (((Says C 26 [(D.val (Go.Value.string (s2))), (D.val (Go.Value.string ({ data := #[44] })))] [D.nil]) ∧
 (L 0 [(Prod.mk 2 (Go.Value.pointer (Option.some (Go.Addr.mk 1000 0 Option.none)))), (Prod.mk 9 (Go.Value.pointer (Option.some (Go.Addr.mk 1001 0 Option.none)))), (Prod.mk 32 (Go.Value.slice Option.none 0 0)), (Prod.mk 33 (vI (0 : Int))), (Prod.mk 34 (vI (0 : Int)))] [(Prod.mk 1000 (AObj.cells [(Go.Value.slice Option.none 0 0), (vI (0 : Int))] 24 false 2)), (Prod.mk 1001 (AObj.cells [(Go.Value.slice Option.none 0 0), (vI n1)] 24 false 2))])) ∨
 (∃ n2 : Nat,
 (∃ cs1 : List Go.Value,
 ((Says C 26 [(D.val (Go.Value.string (s2))), (D.val (Go.Value.string ({ data := #[44] })))] [(D.sl (n2) 1 (cs1))]) ∧
 (L 0 [(Prod.mk 2 (Go.Value.pointer (Option.some (Go.Addr.mk 1000 0 Option.none)))), (Prod.mk 9 (Go.Value.pointer (Option.some (Go.Addr.mk 1001 0 Option.none)))), (Prod.mk 32 (Go.Value.slice (Option.some (Go.Addr.mk 1002 0 Option.none)) (n2) (n2))), (Prod.mk 33 (vI ((↑n2 : Int)))), (Prod.mk 34 (vI (0 : Int)))] [(Prod.mk 1000 (AObj.cells [(Go.Value.slice Option.none 0 0), (vI (0 : Int))] 24 false 2)), (Prod.mk 1001 (AObj.cells [(Go.Value.slice Option.none 0 0), (vI n1)] 24 false 2)), (Prod.mk 1002 (AObj.sym (cs1) true 1))])))))) ∨
 ((Says C 25 [(D.val (Go.Value.string (s1)))] [(D.val (vI n1)), (D.val (Value.bool false))]) ∧
 (k [(D.agg [D.nil, (D.val (vI (0 : Int)))]), (D.val (vI (7 : Int)))])))))))) := by kernel_rfl
abbrev zPL2 (n0 : Nat) (x1 : Int) (x2 : Int) (x3 : Int) (x4 : Int) (l5 : List Value) : Slots × Blocks := ([(2, (Value.pointer (some ⟨1000, 0, none⟩))), (9, (Value.pointer (some ⟨1001, 0, none⟩))), (32, (Value.slice (some ⟨1002, 0, none⟩) n0 n0)), (33, (Value.int .i64 x1)), (34, (Value.int .i64 x2))], [(1000, (AObj.cells [(Value.slice none 0 0), (Value.int .i64 x3)] 24 false 2)), (1001, (AObj.cells [(Value.slice none 0 0), (Value.int .i64 x4)] 24 false 2)), (1002, (AObj.sym l5 true 1))])
def rPL2 (C : Ct) (L : AtLoop) (n0 : Nat) (x1 : Int) (x2 : Int) (x3 : Int) (x4 : Int) (l5 : List Value) (B : Bx) (X : Xx) (k : List D → Prop) : Prop := wpRound Tryz.prog (hG C) L 8 0 [(2, (Value.pointer (some ⟨1000, 0, none⟩))), (9, (Value.pointer (some ⟨1001, 0, none⟩))), (32, (Value.slice (some ⟨1002, 0, none⟩) n0 n0)), (33, (Value.int .i64 x1)), (34, (Value.int .i64 x2))] [(1000, (AObj.cells [(Value.slice none 0 0), (Value.int .i64 x3)] 24 false 2)), (1001, (AObj.cells [(Value.slice none 0 0), (Value.int .i64 x4)] 24 false 2)), (1002, (AObj.sym l5 true 1))] B X (dataK k)
theorem rPL2_text (C : Ct) (L : AtLoop) (n0 : Nat) (x1 : Int) (x2 : Int) (x3 : Int) (x4 : Int) (l5 : List Go.Value) (B : Bx) (X : Xx) (k : List D → Prop) : rPL2 C L n0 x1 x2 x3 x4 l5 B X k =
 (bcase (decide (x2 < x1))
 (bcase (decide (0 ≤ x2))
 (bcase (decide (x2 < (↑n0 : Int)))
 (∃ s1 : ByteArray,
 ((At (l5) (0 + Int.toNat x2 * 1) 1 [(Go.Value.string (s1))]) ∧
 (∃ n1 : Int,
 (∃ n2 : Int,
 (((Says C 27 [(D.val (Go.Value.string (s1)))] [(D.agg [(D.val (vI n1)), (D.val (vI n2))]), (D.val (Value.bool true))]) ∧
 (B [(Prod.mk 2 (Go.Value.pointer (Option.some (Go.Addr.mk 1000 0 Option.none)))), (Prod.mk 9 (Go.Value.pointer (Option.some (Go.Addr.mk 1001 0 Option.none)))), (Prod.mk 32 (Go.Value.slice (Option.some (Go.Addr.mk 1002 0 Option.none)) (n0) (n0))), (Prod.mk 33 (vI x1)), (Prod.mk 34 (vI (IntKind.wrap .i64 (x2 + 1))))] [(Prod.mk 1000 (AObj.cells [(Go.Value.slice Option.none 0 0), (vI x3)] 24 false 2)), (Prod.mk 1001 (AObj.cells [(Go.Value.slice (Option.some (Go.Addr.mk 1003 0 Option.none)) 1 1), (vI x4)] 24 false 2)), (Prod.mk 1002 (AObj.sym (l5) true 1)), (Prod.mk 1003 (AObj.sym [(vI n1), (vI n2)] true 2))])) ∨
 ((Says C 27 [(D.val (Go.Value.string (s1)))] [(D.agg [(D.val (vI n1)), (D.val (vI n2))]), (D.val (Value.bool false))]) ∧
 (k [(D.agg [D.nil, (D.val (vI (0 : Int)))]), (D.val (vI (7 : Int)))])))))))
 False)
 False)
 (X 0 [(Prod.mk 2 (Go.Value.pointer (Option.some (Go.Addr.mk 1000 0 Option.none)))), (Prod.mk 9 (Go.Value.pointer (Option.some (Go.Addr.mk 1001 0 Option.none))))] [(Prod.mk 1000 (AObj.cells [(Go.Value.slice Option.none 0 0), (vI x3)] 24 false 2)), (Prod.mk 1001 (AObj.cells [(Go.Value.slice Option.none 0 0), (vI x4)] 24 false 2))])) := by kernel_rfl
abbrev zPL4 (n0 : Nat) (x1 : Int) (x2 : Int) (x3 : Int) (n4 : Nat) (x5 : Int) (l6 : List Value) (l7 : List Value) : Slots × Blocks := ([(2, (Value.pointer (some ⟨1000, 0, none⟩))), (9, (Value.pointer (some ⟨1001, 0, none⟩))), (32, (Value.slice (some ⟨1002, 0, none⟩) n0 n0)), (33, (Value.int .i64 x1)), (34, (Value.int .i64 x2))], [(1000, (AObj.cells [(Value.slice none 0 0), (Value.int .i64 x3)] 24 false 2)), (1001, (AObj.cells [(Value.slice (some ⟨1003, 0, none⟩) n4 n4), (Value.int .i64 x5)] 24 false 2)), (1002, (AObj.sym l6 true 1)), (1003, (AObj.sym l7 true 2))])
def rPL4 (C : Ct) (L : AtLoop) (n0 : Nat) (x1 : Int) (x2 : Int) (x3 : Int) (n4 : Nat) (x5 : Int) (l6 : List Value) (l7 : List Value) (B : Bx) (X : Xx) (k : List D → Prop) : Prop := wpRound Tryz.prog (hG C) L 8 0 [(2, (Value.pointer (some ⟨1000, 0, none⟩))), (9, (Value.pointer (some ⟨1001, 0, none⟩))), (32, (Value.slice (some ⟨1002, 0, none⟩) n0 n0)), (33, (Value.int .i64 x1)), (34, (Value.int .i64 x2))] [(1000, (AObj.cells [(Value.slice none 0 0), (Value.int .i64 x3)] 24 false 2)), (1001, (AObj.cells [(Value.slice (some ⟨1003, 0, none⟩) n4 n4), (Value.int .i64 x5)] 24 false 2)), (1002, (AObj.sym l6 true 1)), (1003, (AObj.sym l7 true 2))] B X (dataK k)
theorem rPL4_text (C : Ct) (L : AtLoop) (n0 : Nat) (x1 : Int) (x2 : Int) (x3 : Int) (n4 : Nat) (x5 : Int) (l6 : List Go.Value) (l7 : List Go.Value) (B : Bx) (X : Xx) (k : List D → Prop) : rPL4 C L n0 x1 x2 x3 n4 x5 l6 l7 B X k =
 (bcase (decide (x2 < x1))
 (bcase (decide (0 ≤ x2))
 (bcase (decide (x2 < (↑n0 : Int)))
 (∃ s1 : ByteArray,
 ((At (l6) (0 + Int.toNat x2 * 1) 1 [(Go.Value.string (s1))]) ∧
 (∃ n1 : Int,
 (∃ n2 : Int,
 (((Says C 27 [(D.val (Go.Value.string (s1)))] [(D.agg [(D.val (vI n1)), (D.val (vI n2))]), (D.val (Value.bool true))]) ∧
 (bcase (decide (n4 < n4 + 1))
 (bcase (decide ((2 * (n4 + 1) + 768) * 16 ≤ 281474976710656))
 (bcase (decide (n4 + 1 ≤ 1099511627776))
 (bcase (decide (0 + n4 * 2 ≤ List.length l7))
 (bcase (decide (0 + n4 * 2 = List.length l7))
 (B [(Prod.mk 2 (Go.Value.pointer (Option.some (Go.Addr.mk 1000 0 Option.none)))), (Prod.mk 9 (Go.Value.pointer (Option.some (Go.Addr.mk 1001 0 Option.none)))), (Prod.mk 32 (Go.Value.slice (Option.some (Go.Addr.mk 1002 0 Option.none)) (n0) (n0))), (Prod.mk 33 (vI x1)), (Prod.mk 34 (vI (IntKind.wrap .i64 (x2 + 1))))] [(Prod.mk 1000 (AObj.cells [(Go.Value.slice Option.none 0 0), (vI x3)] 24 false 2)), (Prod.mk 1001 (AObj.cells [(Go.Value.slice (Option.some (Go.Addr.mk 1003 0 Option.none)) (n4 + 1) (n4 + 1)), (vI x5)] 24 false 2)), (Prod.mk 1002 (AObj.sym (l6) true 1)), (Prod.mk 1003 (AObj.sym ((List.take (n4 * 2) (List.drop 0 l7)) ++ [(vI n1), (vI n2)]) true 2))])
 False)
 False)
 False)
 False)
 False)) ∨
 ((Says C 27 [(D.val (Go.Value.string (s1)))] [(D.agg [(D.val (vI n1)), (D.val (vI n2))]), (D.val (Value.bool false))]) ∧
 (k [(D.agg [D.nil, (D.val (vI (0 : Int)))]), (D.val (vI (7 : Int)))])))))))
 False)
 False)
 (X 0 [(Prod.mk 2 (Go.Value.pointer (Option.some (Go.Addr.mk 1000 0 Option.none)))), (Prod.mk 9 (Go.Value.pointer (Option.some (Go.Addr.mk 1001 0 Option.none))))] [(Prod.mk 1000 (AObj.cells [(Go.Value.slice Option.none 0 0), (vI x3)] 24 false 2)), (Prod.mk 1001 (AObj.cells [(Go.Value.slice (Option.some (Go.Addr.mk 1002 0 Option.none)) (n4) (n4)), (vI x5)] 24 false 2)), (Prod.mk 1002 (AObj.sym (l7) true 2))])) := by kernel_rfl
def nPL5 (C : Ct) (L : AtLoop) (x0 : Int) (n1 : Nat) (x2 : Int) (l3 : List Value) (k : List D → Prop) : Prop := wpNext Tryz.prog (hG C) L 8 0 .normal [(2, (Value.pointer (some ⟨1000, 0, none⟩))), (9, (Value.pointer (some ⟨1001, 0, none⟩)))] [(1000, (AObj.cells [(Value.slice none 0 0), (Value.int .i64 x0)] 24 false 2)), (1001, (AObj.cells [(Value.slice (some ⟨1002, 0, none⟩) n1 n1), (Value.int .i64 x2)] 24 false 2)), (1002, (AObj.sym l3 true 2))] (dataK k)
theorem nPL5_text (C : Ct) (L : AtLoop) (x0 : Int) (n1 : Nat) (x2 : Int) (l3 : List Go.Value) (k : List D → Prop) : nPL5 C L x0 n1 x2 l3 k =
 (bcase (decide (0 + n1 * 2 ≤ List.length l3))
 (∃ n2 : Int,
 ((Says C 28 [(D.agg [(D.sl (n1) 2 (List.take (n1 * 2) (List.drop 0 l3))), (D.val (vI x2))])] [(D.val (vI n2))]) ∧
 (bcase (n2 != 0)
 (k [(D.agg [D.nil, (D.val (vI (0 : Int)))]), (D.val (vI n2))])
 ((((n1) = (n1)) ∧
 ((List.length (l3)) = (n1 * 2))) ∧
 (k [(D.agg [(D.sl (n1) 2 (l3)), (D.val (vI x2))]), (D.val (vI (0 : Int)))])))))
 False) := by kernel_rfl
def gRP (C : Ct) (L : AtLoop) (s0 : ByteArray) (k : List D → Prop) : Prop := wpFn Tryz.prog (hG C) L 0 9 #[.string s0] (heapOf []) (dataK k)
theorem gRP_text (C : Ct) (L : AtLoop) (s0 : ByteArray) (k : List D → Prop) : gRP C L s0 k =
 (((Says C 29 [(D.val (Go.Value.string (s0))), (D.val (Go.Value.int Go.IntKind.u8 (59 : Int)))] [D.nil]) ∧
 (k [(D.agg [D.nil, (D.val (vI (0 : Int)))]), (D.val (vI (7 : Int)))])) ∨
 (∃ n1 : Nat,
 (∃ cs1 : List Go.Value,
 ((Says C 29 [(D.val (Go.Value.string (s0))), (D.val (Go.Value.int Go.IntKind.u8 (59 : Int)))] [(D.sl (n1) 1 (cs1))]) ∧
 (bcase ((↑n1 : Int) != 2)
 (k [(D.agg [D.nil, (D.val (vI (0 : Int)))]), (D.val (vI (7 : Int)))])
 (bcase (decide (0 < (↑n1 : Int)))
 (∃ s1 : ByteArray,
 ((At (cs1) 0 1 [(Go.Value.string (s1))]) ∧
 (∃ n2 : Int,
 (((Says C 30 [(D.val (Go.Value.string (s1))), (D.val (vI (2 : Int)))] [(D.val (vI n2)), (D.val (Value.bool true))]) ∧
 (bcase (decide (n2 < 0))
 (k [(D.agg [D.nil, (D.val (vI (0 : Int)))]), (D.val (vI (7 : Int)))])
 (bcase (decide (1 < (↑n1 : Int)))
 (∃ s2 : ByteArray,
 ((At (cs1) 1 1 [(Go.Value.string (s2))]) ∧
 (((Says C 29 [(D.val (Go.Value.string (s2))), (D.val (Go.Value.int Go.IntKind.u8 (44 : Int)))] [D.nil]) ∧
 (L 0 [(Prod.mk 2 (Go.Value.pointer (Option.some (Go.Addr.mk 1000 0 Option.none)))), (Prod.mk 4 (Go.Value.pointer (Option.some (Go.Addr.mk 1001 0 Option.none)))), (Prod.mk 8 (Go.Value.pointer (Option.some (Go.Addr.mk 1002 0 Option.none)))), (Prod.mk 9 (Go.Value.slice Option.none 0 0)), (Prod.mk 10 (vI (0 : Int)))] [(Prod.mk 1000 (AObj.cells [(Go.Value.slice Option.none 0 0), (vI (0 : Int))] 24 false 2)), (Prod.mk 1001 (AObj.cells [(Go.Value.slice Option.none 0 0), (vI (0 : Int))] 24 false 2)), (Prod.mk 1002 (AObj.cells [(Go.Value.slice Option.none 0 0), (vI n2)] 24 false 2))])) ∨
 (∃ n3 : Nat,
 (∃ cs2 : List Go.Value,
 ((Says C 29 [(D.val (Go.Value.string (s2))), (D.val (Go.Value.int Go.IntKind.u8 (44 : Int)))] [(D.sl (n3) 1 (cs2))]) ∧
 (L 0 [(Prod.mk 2 (Go.Value.pointer (Option.some (Go.Addr.mk 1000 0 Option.none)))), (Prod.mk 4 (Go.Value.pointer (Option.some (Go.Addr.mk 1001 0 Option.none)))), (Prod.mk 8 (Go.Value.pointer (Option.some (Go.Addr.mk 1002 0 Option.none)))), (Prod.mk 9 (Go.Value.slice (Option.some (Go.Addr.mk 1003 0 Option.none)) (n3) (n3))), (Prod.mk 10 (vI (0 : Int)))] [(Prod.mk 1000 (AObj.cells [(Go.Value.slice Option.none 0 0), (vI (0 : Int))] 24 false 2)), (Prod.mk 1001 (AObj.cells [(Go.Value.slice Option.none 0 0), (vI (0 : Int))] 24 false 2)), (Prod.mk 1002 (AObj.cells [(Go.Value.slice Option.none 0 0), (vI n2)] 24 false 2)), (Prod.mk 1003 (AObj.sym (cs2) true 1))])))))))
 False))) ∨
 ((Says C 30 [(D.val (Go.Value.string (s1))), (D.val (vI (2 : Int)))] [(D.val (vI n2)), (D.val (Value.bool false))]) ∧
 (k [(D.agg [D.nil, (D.val (vI (0 : Int)))]), (D.val (vI (7 : Int)))]))))))
 False)))))) := by kernel_rfl
abbrev zRP2 (n0 : Nat) (x1 : Int) (x2 : Int) (x3 : Int) (x4 : Int) (l5 : List Value) : Slots × Blocks := ([(2, (Value.pointer (some ⟨1000, 0, none⟩))), (4, (Value.pointer (some ⟨1001, 0, none⟩))), (8, (Value.pointer (some ⟨1002, 0, none⟩))), (9, (Value.slice (some ⟨1003, 0, none⟩) n0 n0)), (10, (Value.int .i64 x1))], [(1000, (AObj.cells [(Value.slice none 0 0), (Value.int .i64 x2)] 24 false 2)), (1001, (AObj.cells [(Value.slice none 0 0), (Value.int .i64 x3)] 24 false 2)), (1002, (AObj.cells [(Value.slice none 0 0), (Value.int .i64 x4)] 24 false 2)), (1003, (AObj.sym l5 true 1))])
def rRP2 (C : Ct) (L : AtLoop) (n0 : Nat) (x1 : Int) (x2 : Int) (x3 : Int) (x4 : Int) (l5 : List Value) (B : Bx) (X : Xx) (k : List D → Prop) : Prop := wpRound Tryz.prog (hG C) L 9 0 [(2, (Value.pointer (some ⟨1000, 0, none⟩))), (4, (Value.pointer (some ⟨1001, 0, none⟩))), (8, (Value.pointer (some ⟨1002, 0, none⟩))), (9, (Value.slice (some ⟨1003, 0, none⟩) n0 n0)), (10, (Value.int .i64 x1))] [(1000, (AObj.cells [(Value.slice none 0 0), (Value.int .i64 x2)] 24 false 2)), (1001, (AObj.cells [(Value.slice none 0 0), (Value.int .i64 x3)] 24 false 2)), (1002, (AObj.cells [(Value.slice none 0 0), (Value.int .i64 x4)] 24 false 2)), (1003, (AObj.sym l5 true 1))] B X (dataK k)
theorem rRP2_text (C : Ct) (L : AtLoop) (n0 : Nat) (x1 : Int) (x2 : Int) (x3 : Int) (x4 : Int) (l5 : List Go.Value) (B : Bx) (X : Xx) (k : List D → Prop) : rRP2 C L n0 x1 x2 x3 x4 l5 B X k =
 (bcase (decide (x1 < (↑n0 : Int)))
 (bcase (decide (0 ≤ x1))
 (bcase (decide (x1 < (↑n0 : Int)))
 (∃ s1 : ByteArray,
 ((At (l5) (0 + Int.toNat x1 * 1) 1 [(Go.Value.string (s1))]) ∧
 (((Says C 29 [(D.val (Go.Value.string (s1))), (D.val (Go.Value.int Go.IntKind.u8 (32 : Int)))] [D.nil]) ∧
 (k [(D.agg [D.nil, (D.val (vI x3))]), (D.val (vI (7 : Int)))])) ∨
 (∃ n1 : Nat,
 (∃ cs1 : List Go.Value,
 ((Says C 29 [(D.val (Go.Value.string (s1))), (D.val (Go.Value.int Go.IntKind.u8 (32 : Int)))] [(D.sl (n1) 1 (cs1))]) ∧
 (bcase ((↑n1 : Int) != 2)
 (k [(D.agg [D.nil, (D.val (vI x3))]), (D.val (vI (7 : Int)))])
 (bcase (decide (0 < (↑n1 : Int)))
 (∃ s2 : ByteArray,
 ((At (cs1) 0 1 [(Go.Value.string (s2))]) ∧
 (∃ n2 : Int,
 (((Says C 30 [(D.val (Go.Value.string (s2))), (D.val (vI (2 : Int)))] [(D.val (vI n2)), (D.val (Value.bool true))]) ∧
 (bcase (decide (1 < (↑n1 : Int)))
 (∃ s3 : ByteArray,
 ((At (cs1) 1 1 [(Go.Value.string (s3))]) ∧
 (∃ n3 : Int,
 (((Says C 30 [(D.val (Go.Value.string (s3))), (D.val (vI (2 : Int)))] [(D.val (vI n3)), (D.val (Value.bool true))]) ∧
 (B [(Prod.mk 2 (Go.Value.pointer (Option.some (Go.Addr.mk 1000 0 Option.none)))), (Prod.mk 4 (Go.Value.pointer (Option.some (Go.Addr.mk 1001 0 Option.none)))), (Prod.mk 8 (Go.Value.pointer (Option.some (Go.Addr.mk 1002 0 Option.none)))), (Prod.mk 9 (Go.Value.slice (Option.some (Go.Addr.mk 1003 0 Option.none)) (n0) (n0))), (Prod.mk 10 (vI (IntKind.wrap .i64 (x1 + 1))))] [(Prod.mk 1000 (AObj.cells [(Go.Value.slice Option.none 0 0), (vI x2)] 24 false 2)), (Prod.mk 1001 (AObj.cells [(Go.Value.slice Option.none 0 0), (vI x3)] 24 false 2)), (Prod.mk 1002 (AObj.cells [(Go.Value.slice (Option.some (Go.Addr.mk 1004 0 Option.none)) 1 1), (vI x4)] 24 false 2)), (Prod.mk 1003 (AObj.sym (l5) true 1)), (Prod.mk 1004 (AObj.sym [(vI n2), (vI n3)] true 2))])) ∨
 ((Says C 30 [(D.val (Go.Value.string (s3))), (D.val (vI (2 : Int)))] [(D.val (vI n3)), (D.val (Value.bool false))]) ∧
 (k [(D.agg [D.nil, (D.val (vI x3))]), (D.val (vI (7 : Int)))]))))))
 False)) ∨
 ((Says C 30 [(D.val (Go.Value.string (s2))), (D.val (vI (2 : Int)))] [(D.val (vI n2)), (D.val (Value.bool false))]) ∧
 (bcase (decide (1 < (↑n1 : Int)))
 (∃ s3 : ByteArray,
 ((At (cs1) 1 1 [(Go.Value.string (s3))]) ∧
 (∃ n3 : Int,
 (((Says C 30 [(D.val (Go.Value.string (s3))), (D.val (vI (2 : Int)))] [(D.val (vI n3)), (D.val (Value.bool true))]) ∧
 (k [(D.agg [D.nil, (D.val (vI x3))]), (D.val (vI (7 : Int)))])) ∨
 ((Says C 30 [(D.val (Go.Value.string (s3))), (D.val (vI (2 : Int)))] [(D.val (vI n3)), (D.val (Value.bool false))]) ∧
 (k [(D.agg [D.nil, (D.val (vI x3))]), (D.val (vI (7 : Int)))]))))))
 False))))))
 False))))))))
 False)
 False)
 (X 0 [(Prod.mk 2 (Go.Value.pointer (Option.some (Go.Addr.mk 1000 0 Option.none)))), (Prod.mk 4 (Go.Value.pointer (Option.some (Go.Addr.mk 1001 0 Option.none)))), (Prod.mk 8 (Go.Value.pointer (Option.some (Go.Addr.mk 1002 0 Option.none))))] [(Prod.mk 1000 (AObj.cells [(Go.Value.slice Option.none 0 0), (vI x2)] 24 false 2)), (Prod.mk 1001 (AObj.cells [(Go.Value.slice Option.none 0 0), (vI x3)] 24 false 2)), (Prod.mk 1002 (AObj.cells [(Go.Value.slice Option.none 0 0), (vI x4)] 24 false 2))])) := by kernel_rfl
abbrev zRP4 (n0 : Nat) (x1 : Int) (x2 : Int) (x3 : Int) (n4 : Nat) (x5 : Int) (l6 : List Value) (l7 : List Value) : Slots × Blocks := ([(2, (Value.pointer (some ⟨1000, 0, none⟩))), (4, (Value.pointer (some ⟨1001, 0, none⟩))), (8, (Value.pointer (some ⟨1002, 0, none⟩))), (9, (Value.slice (some ⟨1003, 0, none⟩) n0 n0)), (10, (Value.int .i64 x1))], [(1000, (AObj.cells [(Value.slice none 0 0), (Value.int .i64 x2)] 24 false 2)), (1001, (AObj.cells [(Value.slice none 0 0), (Value.int .i64 x3)] 24 false 2)), (1002, (AObj.cells [(Value.slice (some ⟨1004, 0, none⟩) n4 n4), (Value.int .i64 x5)] 24 false 2)), (1003, (AObj.sym l6 true 1)), (1004, (AObj.sym l7 true 2))])
def rRP4 (C : Ct) (L : AtLoop) (n0 : Nat) (x1 : Int) (x2 : Int) (x3 : Int) (n4 : Nat) (x5 : Int) (l6 : List Value) (l7 : List Value) (B : Bx) (X : Xx) (k : List D → Prop) : Prop := wpRound Tryz.prog (hG C) L 9 0 [(2, (Value.pointer (some ⟨1000, 0, none⟩))), (4, (Value.pointer (some ⟨1001, 0, none⟩))), (8, (Value.pointer (some ⟨1002, 0, none⟩))), (9, (Value.slice (some ⟨1003, 0, none⟩) n0 n0)), (10, (Value.int .i64 x1))] [(1000, (AObj.cells [(Value.slice none 0 0), (Value.int .i64 x2)] 24 false 2)), (1001, (AObj.cells [(Value.slice none 0 0), (Value.int .i64 x3)] 24 false 2)), (1002, (AObj.cells [(Value.slice (some ⟨1004, 0, none⟩) n4 n4), (Value.int .i64 x5)] 24 false 2)), (1003, (AObj.sym l6 true 1)), (1004, (AObj.sym l7 true 2))] B X (dataK k)
theorem rRP4_text (C : Ct) (L : AtLoop) (n0 : Nat) (x1 : Int) (x2 : Int) (x3 : Int) (n4 : Nat) (x5 : Int) (l6 : List Go.Value) (l7 : List Go.Value) (B : Bx) (X : Xx) (k : List D → Prop) : rRP4 C L n0 x1 x2 x3 n4 x5 l6 l7 B X k =
 (bcase (decide (x1 < (↑n0 : Int)))
 (bcase (decide (0 ≤ x1))
 (bcase (decide (x1 < (↑n0 : Int)))
 (∃ s1 : ByteArray,
 ((At (l6) (0 + Int.toNat x1 * 1) 1 [(Go.Value.string (s1))]) ∧
 (((Says C 29 [(D.val (Go.Value.string (s1))), (D.val (Go.Value.int Go.IntKind.u8 (32 : Int)))] [D.nil]) ∧
 (k [(D.agg [D.nil, (D.val (vI x3))]), (D.val (vI (7 : Int)))])) ∨
 (∃ n1 : Nat,
 (∃ cs1 : List Go.Value,
 ((Says C 29 [(D.val (Go.Value.string (s1))), (D.val (Go.Value.int Go.IntKind.u8 (32 : Int)))] [(D.sl (n1) 1 (cs1))]) ∧
 (bcase ((↑n1 : Int) != 2)
 (k [(D.agg [D.nil, (D.val (vI x3))]), (D.val (vI (7 : Int)))])
 (bcase (decide (0 < (↑n1 : Int)))
 (∃ s2 : ByteArray,
 ((At (cs1) 0 1 [(Go.Value.string (s2))]) ∧
 (∃ n2 : Int,
 (((Says C 30 [(D.val (Go.Value.string (s2))), (D.val (vI (2 : Int)))] [(D.val (vI n2)), (D.val (Value.bool true))]) ∧
 (bcase (decide (1 < (↑n1 : Int)))
 (∃ s3 : ByteArray,
 ((At (cs1) 1 1 [(Go.Value.string (s3))]) ∧
 (∃ n3 : Int,
 (((Says C 30 [(D.val (Go.Value.string (s3))), (D.val (vI (2 : Int)))] [(D.val (vI n3)), (D.val (Value.bool true))]) ∧
 (bcase (decide (n4 < n4 + 1))
 (bcase (decide ((2 * (n4 + 1) + 768) * 16 ≤ 281474976710656))
 (bcase (decide (n4 + 1 ≤ 1099511627776))
 (bcase (decide (0 + n4 * 2 ≤ List.length l7))
 (bcase (decide (0 + n4 * 2 = List.length l7))
 (B [(Prod.mk 2 (Go.Value.pointer (Option.some (Go.Addr.mk 1000 0 Option.none)))), (Prod.mk 4 (Go.Value.pointer (Option.some (Go.Addr.mk 1001 0 Option.none)))), (Prod.mk 8 (Go.Value.pointer (Option.some (Go.Addr.mk 1002 0 Option.none)))), (Prod.mk 9 (Go.Value.slice (Option.some (Go.Addr.mk 1003 0 Option.none)) (n0) (n0))), (Prod.mk 10 (vI (IntKind.wrap .i64 (x1 + 1))))] [(Prod.mk 1000 (AObj.cells [(Go.Value.slice Option.none 0 0), (vI x2)] 24 false 2)), (Prod.mk 1001 (AObj.cells [(Go.Value.slice Option.none 0 0), (vI x3)] 24 false 2)), (Prod.mk 1002 (AObj.cells [(Go.Value.slice (Option.some (Go.Addr.mk 1004 0 Option.none)) (n4 + 1) (n4 + 1)), (vI x5)] 24 false 2)), (Prod.mk 1003 (AObj.sym (l6) true 1)), (Prod.mk 1004 (AObj.sym ((List.take (n4 * 2) (List.drop 0 l7)) ++ [(vI n2), (vI n3)]) true 2))])
 False)
 False)
 False)
 False)
 False)) ∨
 ((Says C 30 [(D.val (Go.Value.string (s3))), (D.val (vI (2 : Int)))] [(D.val (vI n3)), (D.val (Value.bool false))]) ∧
 (k [(D.agg [D.nil, (D.val (vI x3))]), (D.val (vI (7 : Int)))]))))))
 False)) ∨
 ((Says C 30 [(D.val (Go.Value.string (s2))), (D.val (vI (2 : Int)))] [(D.val (vI n2)), (D.val (Value.bool false))]) ∧
 (bcase (decide (1 < (↑n1 : Int)))
 (∃ s3 : ByteArray,
 ((At (cs1) 1 1 [(Go.Value.string (s3))]) ∧
 (∃ n3 : Int,
 (((Says C 30 [(D.val (Go.Value.string (s3))), (D.val (vI (2 : Int)))] [(D.val (vI n3)), (D.val (Value.bool true))]) ∧
 (k [(D.agg [D.nil, (D.val (vI x3))]), (D.val (vI (7 : Int)))])) ∨
 ((Says C 30 [(D.val (Go.Value.string (s3))), (D.val (vI (2 : Int)))] [(D.val (vI n3)), (D.val (Value.bool false))]) ∧
 (k [(D.agg [D.nil, (D.val (vI x3))]), (D.val (vI (7 : Int)))]))))))
 False))))))
 False))))))))
 False)
 False)
 (X 0 [(Prod.mk 2 (Go.Value.pointer (Option.some (Go.Addr.mk 1000 0 Option.none)))), (Prod.mk 4 (Go.Value.pointer (Option.some (Go.Addr.mk 1001 0 Option.none)))), (Prod.mk 8 (Go.Value.pointer (Option.some (Go.Addr.mk 1002 0 Option.none))))] [(Prod.mk 1000 (AObj.cells [(Go.Value.slice Option.none 0 0), (vI x2)] 24 false 2)), (Prod.mk 1001 (AObj.cells [(Go.Value.slice Option.none 0 0), (vI x3)] 24 false 2)), (Prod.mk 1002 (AObj.cells [(Go.Value.slice (Option.some (Go.Addr.mk 1003 0 Option.none)) (n4) (n4)), (vI x5)] 24 false 2)), (Prod.mk 1003 (AObj.sym (l7) true 2))])) := by kernel_rfl
def nRP5 (C : Ct) (L : AtLoop) (x0 : Int) (x1 : Int) (n2 : Nat) (x3 : Int) (l4 : List Value) (k : List D → Prop) : Prop := wpNext Tryz.prog (hG C) L 9 0 .normal [(2, (Value.pointer (some ⟨1000, 0, none⟩))), (4, (Value.pointer (some ⟨1001, 0, none⟩))), (8, (Value.pointer (some ⟨1002, 0, none⟩)))] [(1000, (AObj.cells [(Value.slice none 0 0), (Value.int .i64 x0)] 24 false 2)), (1001, (AObj.cells [(Value.slice none 0 0), (Value.int .i64 x1)] 24 false 2)), (1002, (AObj.cells [(Value.slice (some ⟨1003, 0, none⟩) n2 n2), (Value.int .i64 x3)] 24 false 2)), (1003, (AObj.sym l4 true 2))] (dataK k)
theorem nRP5_text (C : Ct) (L : AtLoop) (x0 : Int) (x1 : Int) (n2 : Nat) (x3 : Int) (l4 : List Go.Value) (k : List D → Prop) : nRP5 C L x0 x1 n2 x3 l4 k =
 (bcase (decide (0 + n2 * 2 ≤ List.length l4))
 (∃ n1 : Int,
 ((Says C 12 [(D.agg [(D.sl (n2) 2 (List.take (n2 * 2) (List.drop 0 l4))), (D.val (vI x3))])] [(D.val (vI n1))]) ∧
 (bcase (n1 != 0)
 (k [(D.agg [D.nil, (D.val (vI x1))]), (D.val (vI n1))])
 ((((n2) = (n2)) ∧
 ((List.length (l4)) = (n2 * 2))) ∧
 (k [(D.agg [(D.sl (n2) 2 (l4)), (D.val (vI x3))]), (D.val (vI (0 : Int)))])))))
 False) := by kernel_rfl
def gRA (C : Ct) (L : AtLoop) (n0 : Nat) (c0 : Nat) (l0 : List Value) (n1 : Nat) (c1 : Nat) (l1 : List Value) (k : List D → Prop) : Prop := wpFn Tryz.prog (hG C) L 0 20 #[.slice (some ⟨500, 0, none⟩) n0 c0, .slice (some ⟨501, 0, none⟩) n1 c1] (heapOf [(500, .sym l0 false 2), (501, .sym l1 false 2)]) (dataK k)
theorem gRA_text (C : Ct) (L : AtLoop) (n0 : Nat) (c0 : Nat) (l0 : List Go.Value) (n1 : Nat) (c1 : Nat) (l1 : List Go.Value) (k : List D → Prop) : gRA C L n0 c0 l0 n1 c1 l1 k =
 (bcase ((↑n0 : Int) != (↑n1 : Int))
 (k [(D.val (Value.bool false))])
 (L 0 [(Prod.mk 0 (Go.Value.slice (Option.some (Go.Addr.mk 500 0 Option.none)) (n0) (c0))), (Prod.mk 1 (Go.Value.slice (Option.some (Go.Addr.mk 501 0 Option.none)) (n1) (c1))), (Prod.mk 5 (vI (0 : Int)))] [(Prod.mk 500 (AObj.sym (l0) false 2)), (Prod.mk 501 (AObj.sym (l1) false 2))])) := by kernel_rfl
abbrev zRA1 (n0 : Nat) (c1 : Nat) (n2 : Nat) (c3 : Nat) (x4 : Int) (l5 : List Value) (l6 : List Value) : Slots × Blocks := ([(0, (Value.slice (some ⟨500, 0, none⟩) n0 c1)), (1, (Value.slice (some ⟨501, 0, none⟩) n2 c3)), (5, (Value.int .i64 x4))], [(500, (AObj.sym l5 false 2)), (501, (AObj.sym l6 false 2))])
def rRA1 (C : Ct) (L : AtLoop) (n0 : Nat) (c1 : Nat) (n2 : Nat) (c3 : Nat) (x4 : Int) (l5 : List Value) (l6 : List Value) (B : Bx) (X : Xx) (k : List D → Prop) : Prop := wpRound Tryz.prog (hG C) L 20 0 [(0, (Value.slice (some ⟨500, 0, none⟩) n0 c1)), (1, (Value.slice (some ⟨501, 0, none⟩) n2 c3)), (5, (Value.int .i64 x4))] [(500, (AObj.sym l5 false 2)), (501, (AObj.sym l6 false 2))] B X (dataK k)
theorem rRA1_text (C : Ct) (L : AtLoop) (n0 : Nat) (c1 : Nat) (n2 : Nat) (c3 : Nat) (x4 : Int) (l5 : List Go.Value) (l6 : List Go.Value) (B : Bx) (X : Xx) (k : List D → Prop) : rRA1 C L n0 c1 n2 c3 x4 l5 l6 B X k =
 (bcase (decide (x4 < (↑n0 : Int)))
 (bcase (decide (0 ≤ x4))
 (bcase (decide (x4 < (↑n0 : Int)))
 (∃ n1 : Int,
 (∃ n3 : Int,
 ((At (l5) (0 + Int.toNat x4 * 2) 2 [(vI n1), (vI n3)]) ∧
 (bcase (decide (0 ≤ x4))
 (bcase (decide (x4 < (↑n2 : Int)))
 (∃ n4 : Int,
 (∃ n5 : Int,
 ((At (l6) (0 + Int.toNat x4 * 2) 2 [(vI n4), (vI n5)]) ∧
 (bcase (if Bool.true = Bool.true then !(n1 == n4 && (n3 == n5 && Bool.true)) else n1 == n4 && (n3 == n5 && Bool.true))
 (((bcase (if Bool.true = Bool.true then !(n1 == n4 && (n3 == n5 && Bool.true)) else n1 == n4 && (n3 == n5 && Bool.true))
 ((Value.bool true) = (Value.bool true))
 ((Value.bool false) = (Value.bool true))) ∧
 ((∃ n6 : Int,
 (∃ n7 : Int,
 ((At (l6) (0 + Int.toNat x4 * 2) 2 [(vI n6), (vI n7)]) ∧
 ((Go.Value.agg [(vI n6), (vI n7)].toArray) = (Go.Value.agg [(vI n4), (vI n5)].toArray))))) ∧
 ((bcase (decide (0 ≤ x4))
 (bcase (decide (x4 < (↑n2 : Int)))
 ((Go.Value.pointer (Option.some (Go.Addr.mk 501 (0 + Int.toNat x4 * 2) Option.none))) = (Go.Value.pointer (Option.some (Go.Addr.mk 501 (0 + Int.toNat x4 * 2) Option.none))))
 False)
 False) ∧
 (((vI x4) = (vI x4)) ∧
 (((Go.Value.slice (Option.some (Go.Addr.mk 501 0 Option.none)) (n2) (c3)) = (Go.Value.slice (Option.some (Go.Addr.mk 501 0 Option.none)) (n2) (c3))) ∧
 ((∃ n6 : Int,
 (∃ n7 : Int,
 ((At (l5) (0 + Int.toNat x4 * 2) 2 [(vI n6), (vI n7)]) ∧
 ((Go.Value.agg [(vI n6), (vI n7)].toArray) = (Go.Value.agg [(vI n1), (vI n3)].toArray))))) ∧
 ((bcase (decide (0 ≤ x4))
 (bcase (decide (x4 < (↑n0 : Int)))
 ((Go.Value.pointer (Option.some (Go.Addr.mk 500 (0 + Int.toNat x4 * 2) Option.none))) = (Go.Value.pointer (Option.some (Go.Addr.mk 500 (0 + Int.toNat x4 * 2) Option.none))))
 False)
 False) ∧
 (((vI x4) = (vI x4)) ∧
 (((Go.Value.slice (Option.some (Go.Addr.mk 500 0 Option.none)) (n0) (c1)) = (Go.Value.slice (Option.some (Go.Addr.mk 500 0 Option.none)) (n0) (c1))) ∧
 True))))))))) ∧
 (k [(D.val (Value.bool false))]))
 (((bcase (if Bool.true = Bool.true then !(n1 == n4 && (n3 == n5 && Bool.true)) else n1 == n4 && (n3 == n5 && Bool.true))
 ((Value.bool true) = (Value.bool false))
 ((Value.bool false) = (Value.bool false))) ∧
 ((∃ n6 : Int,
 (∃ n7 : Int,
 ((At (l6) (0 + Int.toNat x4 * 2) 2 [(vI n6), (vI n7)]) ∧
 ((Go.Value.agg [(vI n6), (vI n7)].toArray) = (Go.Value.agg [(vI n4), (vI n5)].toArray))))) ∧
 ((bcase (decide (0 ≤ x4))
 (bcase (decide (x4 < (↑n2 : Int)))
 ((Go.Value.pointer (Option.some (Go.Addr.mk 501 (0 + Int.toNat x4 * 2) Option.none))) = (Go.Value.pointer (Option.some (Go.Addr.mk 501 (0 + Int.toNat x4 * 2) Option.none))))
 False)
 False) ∧
 (((vI x4) = (vI x4)) ∧
 (((Go.Value.slice (Option.some (Go.Addr.mk 501 0 Option.none)) (n2) (c3)) = (Go.Value.slice (Option.some (Go.Addr.mk 501 0 Option.none)) (n2) (c3))) ∧
 ((∃ n6 : Int,
 (∃ n7 : Int,
 ((At (l5) (0 + Int.toNat x4 * 2) 2 [(vI n6), (vI n7)]) ∧
 ((Go.Value.agg [(vI n6), (vI n7)].toArray) = (Go.Value.agg [(vI n1), (vI n3)].toArray))))) ∧
 ((bcase (decide (0 ≤ x4))
 (bcase (decide (x4 < (↑n0 : Int)))
 ((Go.Value.pointer (Option.some (Go.Addr.mk 500 (0 + Int.toNat x4 * 2) Option.none))) = (Go.Value.pointer (Option.some (Go.Addr.mk 500 (0 + Int.toNat x4 * 2) Option.none))))
 False)
 False) ∧
 (((vI x4) = (vI x4)) ∧
 (((Go.Value.slice (Option.some (Go.Addr.mk 500 0 Option.none)) (n0) (c1)) = (Go.Value.slice (Option.some (Go.Addr.mk 500 0 Option.none)) (n0) (c1))) ∧
 True))))))))) ∧
 (B [(Prod.mk 0 (Go.Value.slice (Option.some (Go.Addr.mk 500 0 Option.none)) (n0) (c1))), (Prod.mk 1 (Go.Value.slice (Option.some (Go.Addr.mk 501 0 Option.none)) (n2) (c3))), (Prod.mk 5 (vI (IntKind.wrap .i64 (x4 + 1))))] [(Prod.mk 500 (AObj.sym (l5) false 2)), (Prod.mk 501 (AObj.sym (l6) false 2))]))))))
 False)
 False))))
 False)
 False)
 (X 0 [] [])) := by kernel_rfl
def nRA2 (C : Ct) (L : AtLoop) (k : List D → Prop) : Prop := wpNext Tryz.prog (hG C) L 20 0 .normal [] [] (dataK k)
theorem nRA2_text (C : Ct) (L : AtLoop) (k : List D → Prop) : nRA2 C L k =
 (k [(D.val (Value.bool true))]) := by kernel_rfl
def gRAo (C : Ct) (L : AtLoop) (k : List D → Prop) : Prop := wpFn Tryz.prog (hG C) L 0 20 #[.slice none 0 0, .slice none 0 0] (heapOf []) (dataK k)
theorem gRAo_text (C : Ct) (L : AtLoop) (k : List D → Prop) : gRAo C L k =
 (L 0 [(Prod.mk 0 (Go.Value.slice Option.none 0 0)), (Prod.mk 1 (Go.Value.slice Option.none 0 0)), (Prod.mk 5 (vI (0 : Int)))] []) := by kernel_rfl
abbrev zRAo1 (x0 : Int) : Slots × Blocks := ([(0, (Value.slice none 0 0)), (1, (Value.slice none 0 0)), (5, (Value.int .i64 x0))], [])
def rRAo1 (C : Ct) (L : AtLoop) (x0 : Int) (B : Bx) (X : Xx) (k : List D → Prop) : Prop := wpRound Tryz.prog (hG C) L 20 0 [(0, (Value.slice none 0 0)), (1, (Value.slice none 0 0)), (5, (Value.int .i64 x0))] [] B X (dataK k)
theorem rRAo1_text (C : Ct) (L : AtLoop) (x0 : Int) (B : Bx) (X : Xx) (k : List D → Prop) : rRAo1 C L x0 B X k =
 (bcase (decide (x0 < (↑0 : Int)))
 False
 (X 0 [] [])) := by kernel_rfl
def nRAo2 (C : Ct) (L : AtLoop) (k : List D → Prop) : Prop := wpNext Tryz.prog (hG C) L 20 0 .normal [] [] (dataK k)
theorem nRAo2_text (C : Ct) (L : AtLoop) (k : List D → Prop) : nRAo2 C L k =
 (k [(D.val (Value.bool true))]) := by kernel_rfl
def gSM (C : Ct) (L : AtLoop) (n0 : Nat) (c0 : Nat) (l0 : List Value) (x1 : Int) (n2 : Nat) (c2 : Nat) (l2 : List Value) (x3 : Int) (k : List D → Prop) : Prop := wpFn Tryz.prog (hG C) L 0 11 #[.agg #[.slice (some ⟨500, 0, none⟩) n0 c0, .int .i64 x1], .agg #[.slice (some ⟨501, 0, none⟩) n2 c2, .int .i64 x3]] (heapOf [(500, .sym l0 false 2), (501, .sym l2 false 2)]) (dataK k)
theorem gSM_text (C : Ct) (L : AtLoop) (n0 : Nat) (c0 : Nat) (l0 : List Go.Value) (x1 : Int) (n2 : Nat) (c2 : Nat) (l2 : List Go.Value) (x3 : Int) (k : List D → Prop) : gSM C L n0 c0 l0 x1 n2 c2 l2 x3 k =
 (bcase (x1 == x3)
 (bcase (decide (0 + n0 * 2 ≤ List.length l0))
 (bcase (decide (0 + n2 * 2 ≤ List.length l2))
 (((Says C 20 [(D.sl (n0) 2 (List.take (n0 * 2) (List.drop 0 l0))), (D.sl (n2) 2 (List.take (n2 * 2) (List.drop 0 l2)))] [(D.val (Value.bool true))]) ∧
 (k [(D.val (Value.bool true))])) ∨
 ((Says C 20 [(D.sl (n0) 2 (List.take (n0 * 2) (List.drop 0 l0))), (D.sl (n2) 2 (List.take (n2 * 2) (List.drop 0 l2)))] [(D.val (Value.bool false))]) ∧
 (k [(D.val (Value.bool false))])))
 False)
 False)
 (k [(D.val (Value.bool false))])) := by kernel_rfl
def gSMo (C : Ct) (L : AtLoop) (x1 : Int) (x3 : Int) (k : List D → Prop) : Prop := wpFn Tryz.prog (hG C) L 0 11 #[.agg #[.slice none 0 0, .int .i64 x1], .agg #[.slice none 0 0, .int .i64 x3]] (heapOf []) (dataK k)
theorem gSMo_text (C : Ct) (L : AtLoop) (x1 : Int) (x3 : Int) (k : List D → Prop) : gSMo C L x1 x3 k =
 (bcase (x1 == x3)
 (((Says C 20 [D.nil, D.nil] [(D.val (Value.bool true))]) ∧
 (k [(D.val (Value.bool true))])) ∨
 ((Says C 20 [D.nil, D.nil] [(D.val (Value.bool false))]) ∧
 (k [(D.val (Value.bool false))])))
 (k [(D.val (Value.bool false))])) := by kernel_rfl
def gCY (C : Ct) (L : AtLoop) (n0 : Nat) (c0 : Nat) (l0 : List Value) (x1 : Int) (k : List D → Prop) : Prop := wpFn Tryz.prog (hE C) L 0 7 #[.agg #[.slice (some ⟨500, 0, none⟩) n0 c0, .int .i64 x1]] (heapOf [(500, .sym l0 false 2)]) (dataK k)
theorem gCY_text (C : Ct) (L : AtLoop) (n0 : Nat) (c0 : Nat) (l0 : List Go.Value) (x1 : Int) (k : List D → Prop) : gCY C L n0 c0 l0 x1 k =
 ((((vI x1) = (vI x1)) ∧
 (((Go.Value.pointer (Option.some (Go.Addr.mk 1000 1 Option.none))) = (Go.Value.pointer (Option.some (Go.Addr.mk 1000 1 Option.none)))) ∧
 (((Go.Value.slice (Option.some (Go.Addr.mk 500 0 Option.none)) (n0) (c0)) = (Go.Value.slice (Option.some (Go.Addr.mk 500 0 Option.none)) (n0) (c0))) ∧
 (((Go.Value.pointer (Option.some (Go.Addr.mk 1000 0 Option.none))) = (Go.Value.pointer (Option.some (Go.Addr.mk 1000 0 Option.none)))) ∧
 True)))) ∧
 (bcase (decide (0 + n0 * 2 ≤ List.length l0))
 (bcase (n0 == 0)
 ((((Go.Value.agg [(Go.Value.slice (Option.some (Go.Addr.mk 1003 0 Option.none)) 0 0), (vI x1)].toArray) = (Go.Value.agg [(Go.Value.slice (Option.some (Go.Addr.mk 1003 0 Option.none)) 0 0), (vI x1)].toArray)) ∧
 (((vI x1) = (vI x1)) ∧
 (((Go.Value.pointer (Option.some (Go.Addr.mk 1000 1 Option.none))) = (Go.Value.pointer (Option.some (Go.Addr.mk 1000 1 Option.none)))) ∧
 (((Go.Value.pointer (Option.some (Go.Addr.mk 1000 0 Option.none))) = (Go.Value.pointer (Option.some (Go.Addr.mk 1000 0 Option.none)))) ∧
 True)))) ∧
 (True ∧
 (((0 = 0) ∧
 (0 = 0)) ∧
 (k [(D.agg [(D.sl 0 2 []), (D.val (vI x1))])]))))
 (bcase (decide (0 < 0 + n0))
 (bcase (decide ((2 * (0 + n0) + 768) * 16 ≤ 281474976710656))
 (bcase (decide (0 + n0 ≤ 1099511627776))
 ((((Go.Value.agg [(Go.Value.slice (Option.some (Go.Addr.mk 1003 0 Option.none)) (0 + n0) (0 + n0)), (vI x1)].toArray) = (Go.Value.agg [(Go.Value.slice (Option.some (Go.Addr.mk 1003 0 Option.none)) (0 + n0) (0 + n0)), (vI x1)].toArray)) ∧
 (((vI x1) = (vI x1)) ∧
 (((Go.Value.pointer (Option.some (Go.Addr.mk 1000 1 Option.none))) = (Go.Value.pointer (Option.some (Go.Addr.mk 1000 1 Option.none)))) ∧
 (((Go.Value.pointer (Option.some (Go.Addr.mk 1000 0 Option.none))) = (Go.Value.pointer (Option.some (Go.Addr.mk 1000 0 Option.none)))) ∧
 True)))) ∧
 (True ∧
 ((((0 + n0) = (0 + n0)) ∧
 ((List.length ([] ++ (List.take (n0 * 2) (List.drop 0 l0)))) = ((0 + n0) * 2))) ∧
 (k [(D.agg [(D.sl (0 + n0) 2 ([] ++ (List.take (n0 * 2) (List.drop 0 l0)))), (D.val (vI x1))])]))))
 False)
 False)
 False))
 False)) := by kernel_rfl
def gCYn (C : Ct) (L : AtLoop) (x1 : Int) (k : List D → Prop) : Prop := wpFn Tryz.prog (hE C) L 0 7 #[.agg #[.slice none 0 0, .int .i64 x1]] (heapOf []) (dataK k)
theorem gCYn_text (C : Ct) (L : AtLoop) (x1 : Int) (k : List D → Prop) : gCYn C L x1 k =
 ((((vI x1) = (vI x1)) ∧
 (((Go.Value.pointer (Option.some (Go.Addr.mk 1000 1 Option.none))) = (Go.Value.pointer (Option.some (Go.Addr.mk 1000 1 Option.none)))) ∧
 (((Go.Value.slice Option.none 0 0) = (Go.Value.slice Option.none 0 0)) ∧
 (((Go.Value.pointer (Option.some (Go.Addr.mk 1000 0 Option.none))) = (Go.Value.pointer (Option.some (Go.Addr.mk 1000 0 Option.none)))) ∧
 True)))) ∧
 ((((Go.Value.agg [(Go.Value.slice (Option.some (Go.Addr.mk 1003 0 Option.none)) 0 0), (vI x1)].toArray) = (Go.Value.agg [(Go.Value.slice (Option.some (Go.Addr.mk 1003 0 Option.none)) 0 0), (vI x1)].toArray)) ∧
 (((vI x1) = (vI x1)) ∧
 (((Go.Value.pointer (Option.some (Go.Addr.mk 1000 1 Option.none))) = (Go.Value.pointer (Option.some (Go.Addr.mk 1000 1 Option.none)))) ∧
 (((Go.Value.pointer (Option.some (Go.Addr.mk 1000 0 Option.none))) = (Go.Value.pointer (Option.some (Go.Addr.mk 1000 0 Option.none)))) ∧
 True)))) ∧
 (True ∧
 (((0 = 0) ∧
 (0 = 0)) ∧
 (k [(D.agg [(D.sl 0 2 []), (D.val (vI x1))])]))))) := by kernel_rfl
def gLw (C : Ct) (L : AtLoop) (n0 : Nat) (c0 : Nat) (l0 : List Value) (x1 : Int) (s2 : ByteArray) (k : List D → Prop) : Prop := wpFn Tryz.prog (hG C) L 0 3 #[.agg #[.slice (some ⟨500, 0, none⟩) n0 c0, .int .i64 x1], .string s2] (heapOf [(500, .sym l0 false 2)]) (dataK k)
theorem gLw_text (C : Ct) (L : AtLoop) (n0 : Nat) (c0 : Nat) (l0 : List Go.Value) (x1 : Int) (s2 : ByteArray) (k : List D → Prop) : gLw C L n0 c0 l0 x1 s2 k =
 (((Says C 4 [] [(D.val (Value.bool true))]) ∧
 (bcase (decide ((↑n0 : Int) ≤ 5))
 (bcase (decide ((↑(ByteArray.size s2) : Int) > 100))
 (k [(D.val (Value.bool true))])
 (bcase (decide (0 + n0 * 2 ≤ List.length l0))
 ((Says C 7 [(D.agg [(D.sl (n0) 2 (List.take (n0 * 2) (List.drop 0 l0))), (D.val (vI x1))])] [(D.agg [(D.sl (n0) 2 (List.take (n0 * 2) (List.drop 0 l0))), (D.val (vI x1))])]) ∧
 (bcase (decide (0 + n0 * 2 ≤ List.length (List.take (n0 * 2) (List.drop 0 l0))))
 (∃ s1 : ByteArray,
 ((Says C 6 [(D.agg [(D.sl (n0) 2 (List.take (n0 * 2) (List.drop 0 (List.take (n0 * 2) (List.drop 0 l0))))), (D.val (vI x1))])] [(D.val (Go.Value.string (s1)))]) ∧
 ((∃ n1 : Int,
 (∃ n2 : Int,
 ((Says C 8 [(D.val (Go.Value.string (s2)))] [(D.agg [D.nil, (D.val (vI n1))]), (D.val (vI n2))]) ∧
 ((∃ n3 : Int,
 (∃ n4 : Int,
 ((Says C 9 [(D.val (Go.Value.string (s2)))] [(D.agg [D.nil, (D.val (vI n3))]), (D.val (vI n4))]) ∧
 (bcase (decide (0 + n0 * 2 ≤ List.length l0))
 (∃ s3 : ByteArray,
 ((Says C 10 [(D.agg [(D.sl (n0) 2 (List.take (n0 * 2) (List.drop 0 l0))), (D.val (vI x1))])] [(D.val (Go.Value.string (s3)))]) ∧
 (bcase (!ByteArray.toList s1 == ByteArray.toList s3)
 (k [(D.val (Value.bool false))])
 (bcase (n2 != n4)
 (k [(D.val (Value.bool false))])
 (((Says C 11 [(D.agg [D.nil, (D.val (vI n1))]), (D.agg [D.nil, (D.val (vI n3))])] [(D.val (Value.bool true))]) ∧
 (bcase (decide (0 + n0 * 2 ≤ List.length l0))
 (∃ n5 : Int,
 ((Says C 12 [(D.agg [(D.sl (n0) 2 (List.take (n0 * 2) (List.drop 0 l0))), (D.val (vI x1))])] [(D.val (vI n5))]) ∧
 (bcase (n5 != 0)
 (k [(D.val (Value.bool true))])
 ((∃ n6 : Int,
 (∃ n7 : Int,
 ((Says C 8 [(D.val (Go.Value.string (s1)))] [(D.agg [D.nil, (D.val (vI n6))]), (D.val (vI n7))]) ∧
 (bcase (n7 == 0)
 (bcase (decide (0 + n0 * 2 ≤ List.length l0))
 (((Says C 11 [(D.agg [D.nil, (D.val (vI n6))]), (D.agg [(D.sl (n0) 2 (List.take (n0 * 2) (List.drop 0 l0))), (D.val (vI x1))])] [(D.val (Value.bool true))]) ∧
 (k [(D.val (Value.bool true))])) ∨
 ((Says C 11 [(D.agg [D.nil, (D.val (vI n6))]), (D.agg [(D.sl (n0) 2 (List.take (n0 * 2) (List.drop 0 l0))), (D.val (vI x1))])] [(D.val (Value.bool false))]) ∧
 (k [(D.val (Value.bool false))])))
 False)
 (k [(D.val (Value.bool false))]))))) ∨
 (∃ n6 : Nat,
 (∃ cs1 : List Go.Value,
 (∃ n7 : Int,
 (∃ n8 : Int,
 ((Says C 8 [(D.val (Go.Value.string (s1)))] [(D.agg [(D.sl (n6) 2 (cs1)), (D.val (vI n7))]), (D.val (vI n8))]) ∧
 (bcase (n8 == 0)
 (bcase (decide (0 + n6 * 2 ≤ List.length cs1))
 (bcase (decide (0 + n0 * 2 ≤ List.length l0))
 (((Says C 11 [(D.agg [(D.sl (n6) 2 (List.take (n6 * 2) (List.drop 0 cs1))), (D.val (vI n7))]), (D.agg [(D.sl (n0) 2 (List.take (n0 * 2) (List.drop 0 l0))), (D.val (vI x1))])] [(D.val (Value.bool true))]) ∧
 (k [(D.val (Value.bool true))])) ∨
 ((Says C 11 [(D.agg [(D.sl (n6) 2 (List.take (n6 * 2) (List.drop 0 cs1))), (D.val (vI n7))]), (D.agg [(D.sl (n0) 2 (List.take (n0 * 2) (List.drop 0 l0))), (D.val (vI x1))])] [(D.val (Value.bool false))]) ∧
 (k [(D.val (Value.bool false))])))
 False)
 False)
 (k [(D.val (Value.bool false))])))))))))))
 False)) ∨
 ((Says C 11 [(D.agg [D.nil, (D.val (vI n1))]), (D.agg [D.nil, (D.val (vI n3))])] [(D.val (Value.bool false))]) ∧
 (k [(D.val (Value.bool false))])))))))
 False)))) ∨
 (∃ n3 : Nat,
 (∃ cs1 : List Go.Value,
 (∃ n4 : Int,
 (∃ n5 : Int,
 ((Says C 9 [(D.val (Go.Value.string (s2)))] [(D.agg [(D.sl (n3) 2 (cs1)), (D.val (vI n4))]), (D.val (vI n5))]) ∧
 (bcase (decide (0 + n0 * 2 ≤ List.length l0))
 (∃ s3 : ByteArray,
 ((Says C 10 [(D.agg [(D.sl (n0) 2 (List.take (n0 * 2) (List.drop 0 l0))), (D.val (vI x1))])] [(D.val (Go.Value.string (s3)))]) ∧
 (bcase (!ByteArray.toList s1 == ByteArray.toList s3)
 (k [(D.val (Value.bool false))])
 (bcase (n2 != n5)
 (k [(D.val (Value.bool false))])
 (bcase (decide (0 + n3 * 2 ≤ List.length cs1))
 (((Says C 11 [(D.agg [D.nil, (D.val (vI n1))]), (D.agg [(D.sl (n3) 2 (List.take (n3 * 2) (List.drop 0 cs1))), (D.val (vI n4))])] [(D.val (Value.bool true))]) ∧
 (bcase (decide (0 + n0 * 2 ≤ List.length l0))
 (∃ n6 : Int,
 ((Says C 12 [(D.agg [(D.sl (n0) 2 (List.take (n0 * 2) (List.drop 0 l0))), (D.val (vI x1))])] [(D.val (vI n6))]) ∧
 (bcase (n6 != 0)
 (k [(D.val (Value.bool true))])
 ((∃ n7 : Int,
 (∃ n8 : Int,
 ((Says C 8 [(D.val (Go.Value.string (s1)))] [(D.agg [D.nil, (D.val (vI n7))]), (D.val (vI n8))]) ∧
 (bcase (n8 == 0)
 (bcase (decide (0 + n0 * 2 ≤ List.length l0))
 (((Says C 11 [(D.agg [D.nil, (D.val (vI n7))]), (D.agg [(D.sl (n0) 2 (List.take (n0 * 2) (List.drop 0 l0))), (D.val (vI x1))])] [(D.val (Value.bool true))]) ∧
 (k [(D.val (Value.bool true))])) ∨
 ((Says C 11 [(D.agg [D.nil, (D.val (vI n7))]), (D.agg [(D.sl (n0) 2 (List.take (n0 * 2) (List.drop 0 l0))), (D.val (vI x1))])] [(D.val (Value.bool false))]) ∧
 (k [(D.val (Value.bool false))])))
 False)
 (k [(D.val (Value.bool false))]))))) ∨
 (∃ n7 : Nat,
 (∃ cs2 : List Go.Value,
 (∃ n8 : Int,
 (∃ n9 : Int,
 ((Says C 8 [(D.val (Go.Value.string (s1)))] [(D.agg [(D.sl (n7) 2 (cs2)), (D.val (vI n8))]), (D.val (vI n9))]) ∧
 (bcase (n9 == 0)
 (bcase (decide (0 + n7 * 2 ≤ List.length cs2))
 (bcase (decide (0 + n0 * 2 ≤ List.length l0))
 (((Says C 11 [(D.agg [(D.sl (n7) 2 (List.take (n7 * 2) (List.drop 0 cs2))), (D.val (vI n8))]), (D.agg [(D.sl (n0) 2 (List.take (n0 * 2) (List.drop 0 l0))), (D.val (vI x1))])] [(D.val (Value.bool true))]) ∧
 (k [(D.val (Value.bool true))])) ∨
 ((Says C 11 [(D.agg [(D.sl (n7) 2 (List.take (n7 * 2) (List.drop 0 cs2))), (D.val (vI n8))]), (D.agg [(D.sl (n0) 2 (List.take (n0 * 2) (List.drop 0 l0))), (D.val (vI x1))])] [(D.val (Value.bool false))]) ∧
 (k [(D.val (Value.bool false))])))
 False)
 False)
 (k [(D.val (Value.bool false))])))))))))))
 False)) ∨
 ((Says C 11 [(D.agg [D.nil, (D.val (vI n1))]), (D.agg [(D.sl (n3) 2 (List.take (n3 * 2) (List.drop 0 cs1))), (D.val (vI n4))])] [(D.val (Value.bool false))]) ∧
 (k [(D.val (Value.bool false))])))
 False)))))
 False)))))))))) ∨
 (∃ n1 : Nat,
 (∃ cs1 : List Go.Value,
 (∃ n2 : Int,
 (∃ n3 : Int,
 ((Says C 8 [(D.val (Go.Value.string (s2)))] [(D.agg [(D.sl (n1) 2 (cs1)), (D.val (vI n2))]), (D.val (vI n3))]) ∧
 ((∃ n4 : Int,
 (∃ n5 : Int,
 ((Says C 9 [(D.val (Go.Value.string (s2)))] [(D.agg [D.nil, (D.val (vI n4))]), (D.val (vI n5))]) ∧
 (bcase (decide (0 + n0 * 2 ≤ List.length l0))
 (∃ s3 : ByteArray,
 ((Says C 10 [(D.agg [(D.sl (n0) 2 (List.take (n0 * 2) (List.drop 0 l0))), (D.val (vI x1))])] [(D.val (Go.Value.string (s3)))]) ∧
 (bcase (!ByteArray.toList s1 == ByteArray.toList s3)
 (k [(D.val (Value.bool false))])
 (bcase (n3 != n5)
 (k [(D.val (Value.bool false))])
 (bcase (decide (0 + n1 * 2 ≤ List.length cs1))
 (((Says C 11 [(D.agg [(D.sl (n1) 2 (List.take (n1 * 2) (List.drop 0 cs1))), (D.val (vI n2))]), (D.agg [D.nil, (D.val (vI n4))])] [(D.val (Value.bool true))]) ∧
 (bcase (decide (0 + n0 * 2 ≤ List.length l0))
 (∃ n6 : Int,
 ((Says C 12 [(D.agg [(D.sl (n0) 2 (List.take (n0 * 2) (List.drop 0 l0))), (D.val (vI x1))])] [(D.val (vI n6))]) ∧
 (bcase (n6 != 0)
 (k [(D.val (Value.bool true))])
 ((∃ n7 : Int,
 (∃ n8 : Int,
 ((Says C 8 [(D.val (Go.Value.string (s1)))] [(D.agg [D.nil, (D.val (vI n7))]), (D.val (vI n8))]) ∧
 (bcase (n8 == 0)
 (bcase (decide (0 + n0 * 2 ≤ List.length l0))
 (((Says C 11 [(D.agg [D.nil, (D.val (vI n7))]), (D.agg [(D.sl (n0) 2 (List.take (n0 * 2) (List.drop 0 l0))), (D.val (vI x1))])] [(D.val (Value.bool true))]) ∧
 (k [(D.val (Value.bool true))])) ∨
 ((Says C 11 [(D.agg [D.nil, (D.val (vI n7))]), (D.agg [(D.sl (n0) 2 (List.take (n0 * 2) (List.drop 0 l0))), (D.val (vI x1))])] [(D.val (Value.bool false))]) ∧
 (k [(D.val (Value.bool false))])))
 False)
 (k [(D.val (Value.bool false))]))))) ∨
 (∃ n7 : Nat,
 (∃ cs2 : List Go.Value,
 (∃ n8 : Int,
 (∃ n9 : Int,
 ((Says C 8 [(D.val (Go.Value.string (s1)))] [(D.agg [(D.sl (n7) 2 (cs2)), (D.val (vI n8))]), (D.val (vI n9))]) ∧
 (bcase (n9 == 0)
 (bcase (decide (0 + n7 * 2 ≤ List.length cs2))
 (bcase (decide (0 + n0 * 2 ≤ List.length l0))
 (((Says C 11 [(D.agg [(D.sl (n7) 2 (List.take (n7 * 2) (List.drop 0 cs2))), (D.val (vI n8))]), (D.agg [(D.sl (n0) 2 (List.take (n0 * 2) (List.drop 0 l0))), (D.val (vI x1))])] [(D.val (Value.bool true))]) ∧
 (k [(D.val (Value.bool true))])) ∨
 ((Says C 11 [(D.agg [(D.sl (n7) 2 (List.take (n7 * 2) (List.drop 0 cs2))), (D.val (vI n8))]), (D.agg [(D.sl (n0) 2 (List.take (n0 * 2) (List.drop 0 l0))), (D.val (vI x1))])] [(D.val (Value.bool false))]) ∧
 (k [(D.val (Value.bool false))])))
 False)
 False)
 (k [(D.val (Value.bool false))])))))))))))
 False)) ∨
 ((Says C 11 [(D.agg [(D.sl (n1) 2 (List.take (n1 * 2) (List.drop 0 cs1))), (D.val (vI n2))]), (D.agg [D.nil, (D.val (vI n4))])] [(D.val (Value.bool false))]) ∧
 (k [(D.val (Value.bool false))])))
 False)))))
 False)))) ∨
 (∃ n4 : Nat,
 (∃ cs2 : List Go.Value,
 (∃ n5 : Int,
 (∃ n6 : Int,
 ((Says C 9 [(D.val (Go.Value.string (s2)))] [(D.agg [(D.sl (n4) 2 (cs2)), (D.val (vI n5))]), (D.val (vI n6))]) ∧
 (bcase (decide (0 + n0 * 2 ≤ List.length l0))
 (∃ s3 : ByteArray,
 ((Says C 10 [(D.agg [(D.sl (n0) 2 (List.take (n0 * 2) (List.drop 0 l0))), (D.val (vI x1))])] [(D.val (Go.Value.string (s3)))]) ∧
 (bcase (!ByteArray.toList s1 == ByteArray.toList s3)
 (k [(D.val (Value.bool false))])
 (bcase (n3 != n6)
 (k [(D.val (Value.bool false))])
 (bcase (decide (0 + n1 * 2 ≤ List.length cs1))
 (bcase (decide (0 + n4 * 2 ≤ List.length cs2))
 (((Says C 11 [(D.agg [(D.sl (n1) 2 (List.take (n1 * 2) (List.drop 0 cs1))), (D.val (vI n2))]), (D.agg [(D.sl (n4) 2 (List.take (n4 * 2) (List.drop 0 cs2))), (D.val (vI n5))])] [(D.val (Value.bool true))]) ∧
 (bcase (decide (0 + n0 * 2 ≤ List.length l0))
 (∃ n7 : Int,
 ((Says C 12 [(D.agg [(D.sl (n0) 2 (List.take (n0 * 2) (List.drop 0 l0))), (D.val (vI x1))])] [(D.val (vI n7))]) ∧
 (bcase (n7 != 0)
 (k [(D.val (Value.bool true))])
 ((∃ n8 : Int,
 (∃ n9 : Int,
 ((Says C 8 [(D.val (Go.Value.string (s1)))] [(D.agg [D.nil, (D.val (vI n8))]), (D.val (vI n9))]) ∧
 (bcase (n9 == 0)
 (bcase (decide (0 + n0 * 2 ≤ List.length l0))
 (((Says C 11 [(D.agg [D.nil, (D.val (vI n8))]), (D.agg [(D.sl (n0) 2 (List.take (n0 * 2) (List.drop 0 l0))), (D.val (vI x1))])] [(D.val (Value.bool true))]) ∧
 (k [(D.val (Value.bool true))])) ∨
 ((Says C 11 [(D.agg [D.nil, (D.val (vI n8))]), (D.agg [(D.sl (n0) 2 (List.take (n0 * 2) (List.drop 0 l0))), (D.val (vI x1))])] [(D.val (Value.bool false))]) ∧
 (k [(D.val (Value.bool false))])))
 False)
 (k [(D.val (Value.bool false))]))))) ∨
 (∃ n8 : Nat,
 (∃ cs3 : List Go.Value,
 (∃ n9 : Int,
 (∃ n10 : Int,
 ((Says C 8 [(D.val (Go.Value.string (s1)))] [(D.agg [(D.sl (n8) 2 (cs3)), (D.val (vI n9))]), (D.val (vI n10))]) ∧
 (bcase (n10 == 0)
 (bcase (decide (0 + n8 * 2 ≤ List.length cs3))
 (bcase (decide (0 + n0 * 2 ≤ List.length l0))
 (((Says C 11 [(D.agg [(D.sl (n8) 2 (List.take (n8 * 2) (List.drop 0 cs3))), (D.val (vI n9))]), (D.agg [(D.sl (n0) 2 (List.take (n0 * 2) (List.drop 0 l0))), (D.val (vI x1))])] [(D.val (Value.bool true))]) ∧
 (k [(D.val (Value.bool true))])) ∨
 ((Says C 11 [(D.agg [(D.sl (n8) 2 (List.take (n8 * 2) (List.drop 0 cs3))), (D.val (vI n9))]), (D.agg [(D.sl (n0) 2 (List.take (n0 * 2) (List.drop 0 l0))), (D.val (vI x1))])] [(D.val (Value.bool false))]) ∧
 (k [(D.val (Value.bool false))])))
 False)
 False)
 (k [(D.val (Value.bool false))])))))))))))
 False)) ∨
 ((Says C 11 [(D.agg [(D.sl (n1) 2 (List.take (n1 * 2) (List.drop 0 cs1))), (D.val (vI n2))]), (D.agg [(D.sl (n4) 2 (List.take (n4 * 2) (List.drop 0 cs2))), (D.val (vI n5))])] [(D.val (Value.bool false))]) ∧
 (k [(D.val (Value.bool false))])))
 False)
 False)))))
 False)))))))))))))))
 False))
 False))
 (k [(D.val (Value.bool true))]))) ∨
 ((Says C 4 [] [(D.val (Value.bool false))]) ∧
 (k [(D.val (Value.bool false))]))) := by kernel_rfl
def gLwn (C : Ct) (L : AtLoop) (x1 : Int) (s2 : ByteArray) (k : List D → Prop) : Prop := wpFn Tryz.prog (hG C) L 0 3 #[.agg #[.slice none 0 0, .int .i64 x1], .string s2] (heapOf []) (dataK k)
theorem gLwn_text (C : Ct) (L : AtLoop) (x1 : Int) (s2 : ByteArray) (k : List D → Prop) : gLwn C L x1 s2 k =
 (((Says C 4 [] [(D.val (Value.bool true))]) ∧
 (bcase (decide ((↑(ByteArray.size s2) : Int) > 100))
 (k [(D.val (Value.bool true))])
 ((Says C 7 [(D.agg [D.nil, (D.val (vI x1))])] [(D.agg [(D.sl 0 2 []), (D.val (vI x1))])]) ∧
 (∃ s1 : ByteArray,
 ((Says C 6 [(D.agg [(D.sl 0 2 []), (D.val (vI x1))])] [(D.val (Go.Value.string (s1)))]) ∧
 ((∃ n1 : Int,
 (∃ n2 : Int,
 ((Says C 8 [(D.val (Go.Value.string (s2)))] [(D.agg [D.nil, (D.val (vI n1))]), (D.val (vI n2))]) ∧
 ((∃ n3 : Int,
 (∃ n4 : Int,
 ((Says C 9 [(D.val (Go.Value.string (s2)))] [(D.agg [D.nil, (D.val (vI n3))]), (D.val (vI n4))]) ∧
 (∃ s3 : ByteArray,
 ((Says C 10 [(D.agg [D.nil, (D.val (vI x1))])] [(D.val (Go.Value.string (s3)))]) ∧
 (bcase (!ByteArray.toList s1 == ByteArray.toList s3)
 (k [(D.val (Value.bool false))])
 (bcase (n2 != n4)
 (k [(D.val (Value.bool false))])
 (((Says C 11 [(D.agg [D.nil, (D.val (vI n1))]), (D.agg [D.nil, (D.val (vI n3))])] [(D.val (Value.bool true))]) ∧
 (∃ n5 : Int,
 ((Says C 12 [(D.agg [D.nil, (D.val (vI x1))])] [(D.val (vI n5))]) ∧
 (bcase (n5 != 0)
 (k [(D.val (Value.bool true))])
 ((∃ n6 : Int,
 (∃ n7 : Int,
 ((Says C 8 [(D.val (Go.Value.string (s1)))] [(D.agg [D.nil, (D.val (vI n6))]), (D.val (vI n7))]) ∧
 (bcase (n7 == 0)
 (((Says C 11 [(D.agg [D.nil, (D.val (vI n6))]), (D.agg [D.nil, (D.val (vI x1))])] [(D.val (Value.bool true))]) ∧
 (k [(D.val (Value.bool true))])) ∨
 ((Says C 11 [(D.agg [D.nil, (D.val (vI n6))]), (D.agg [D.nil, (D.val (vI x1))])] [(D.val (Value.bool false))]) ∧
 (k [(D.val (Value.bool false))])))
 (k [(D.val (Value.bool false))]))))) ∨
 (∃ n6 : Nat,
 (∃ cs1 : List Go.Value,
 (∃ n7 : Int,
 (∃ n8 : Int,
 ((Says C 8 [(D.val (Go.Value.string (s1)))] [(D.agg [(D.sl (n6) 2 (cs1)), (D.val (vI n7))]), (D.val (vI n8))]) ∧
 (bcase (n8 == 0)
 (bcase (decide (0 + n6 * 2 ≤ List.length cs1))
 (((Says C 11 [(D.agg [(D.sl (n6) 2 (List.take (n6 * 2) (List.drop 0 cs1))), (D.val (vI n7))]), (D.agg [D.nil, (D.val (vI x1))])] [(D.val (Value.bool true))]) ∧
 (k [(D.val (Value.bool true))])) ∨
 ((Says C 11 [(D.agg [(D.sl (n6) 2 (List.take (n6 * 2) (List.drop 0 cs1))), (D.val (vI n7))]), (D.agg [D.nil, (D.val (vI x1))])] [(D.val (Value.bool false))]) ∧
 (k [(D.val (Value.bool false))])))
 False)
 (k [(D.val (Value.bool false))])))))))))))) ∨
 ((Says C 11 [(D.agg [D.nil, (D.val (vI n1))]), (D.agg [D.nil, (D.val (vI n3))])] [(D.val (Value.bool false))]) ∧
 (k [(D.val (Value.bool false))])))))))))) ∨
 (∃ n3 : Nat,
 (∃ cs1 : List Go.Value,
 (∃ n4 : Int,
 (∃ n5 : Int,
 ((Says C 9 [(D.val (Go.Value.string (s2)))] [(D.agg [(D.sl (n3) 2 (cs1)), (D.val (vI n4))]), (D.val (vI n5))]) ∧
 (∃ s3 : ByteArray,
 ((Says C 10 [(D.agg [D.nil, (D.val (vI x1))])] [(D.val (Go.Value.string (s3)))]) ∧
 (bcase (!ByteArray.toList s1 == ByteArray.toList s3)
 (k [(D.val (Value.bool false))])
 (bcase (n2 != n5)
 (k [(D.val (Value.bool false))])
 (bcase (decide (0 + n3 * 2 ≤ List.length cs1))
 (((Says C 11 [(D.agg [D.nil, (D.val (vI n1))]), (D.agg [(D.sl (n3) 2 (List.take (n3 * 2) (List.drop 0 cs1))), (D.val (vI n4))])] [(D.val (Value.bool true))]) ∧
 (∃ n6 : Int,
 ((Says C 12 [(D.agg [D.nil, (D.val (vI x1))])] [(D.val (vI n6))]) ∧
 (bcase (n6 != 0)
 (k [(D.val (Value.bool true))])
 ((∃ n7 : Int,
 (∃ n8 : Int,
 ((Says C 8 [(D.val (Go.Value.string (s1)))] [(D.agg [D.nil, (D.val (vI n7))]), (D.val (vI n8))]) ∧
 (bcase (n8 == 0)
 (((Says C 11 [(D.agg [D.nil, (D.val (vI n7))]), (D.agg [D.nil, (D.val (vI x1))])] [(D.val (Value.bool true))]) ∧
 (k [(D.val (Value.bool true))])) ∨
 ((Says C 11 [(D.agg [D.nil, (D.val (vI n7))]), (D.agg [D.nil, (D.val (vI x1))])] [(D.val (Value.bool false))]) ∧
 (k [(D.val (Value.bool false))])))
 (k [(D.val (Value.bool false))]))))) ∨
 (∃ n7 : Nat,
 (∃ cs2 : List Go.Value,
 (∃ n8 : Int,
 (∃ n9 : Int,
 ((Says C 8 [(D.val (Go.Value.string (s1)))] [(D.agg [(D.sl (n7) 2 (cs2)), (D.val (vI n8))]), (D.val (vI n9))]) ∧
 (bcase (n9 == 0)
 (bcase (decide (0 + n7 * 2 ≤ List.length cs2))
 (((Says C 11 [(D.agg [(D.sl (n7) 2 (List.take (n7 * 2) (List.drop 0 cs2))), (D.val (vI n8))]), (D.agg [D.nil, (D.val (vI x1))])] [(D.val (Value.bool true))]) ∧
 (k [(D.val (Value.bool true))])) ∨
 ((Says C 11 [(D.agg [(D.sl (n7) 2 (List.take (n7 * 2) (List.drop 0 cs2))), (D.val (vI n8))]), (D.agg [D.nil, (D.val (vI x1))])] [(D.val (Value.bool false))]) ∧
 (k [(D.val (Value.bool false))])))
 False)
 (k [(D.val (Value.bool false))])))))))))))) ∨
 ((Says C 11 [(D.agg [D.nil, (D.val (vI n1))]), (D.agg [(D.sl (n3) 2 (List.take (n3 * 2) (List.drop 0 cs1))), (D.val (vI n4))])] [(D.val (Value.bool false))]) ∧
 (k [(D.val (Value.bool false))])))
 False)))))))))))))) ∨
 (∃ n1 : Nat,
 (∃ cs1 : List Go.Value,
 (∃ n2 : Int,
 (∃ n3 : Int,
 ((Says C 8 [(D.val (Go.Value.string (s2)))] [(D.agg [(D.sl (n1) 2 (cs1)), (D.val (vI n2))]), (D.val (vI n3))]) ∧
 ((∃ n4 : Int,
 (∃ n5 : Int,
 ((Says C 9 [(D.val (Go.Value.string (s2)))] [(D.agg [D.nil, (D.val (vI n4))]), (D.val (vI n5))]) ∧
 (∃ s3 : ByteArray,
 ((Says C 10 [(D.agg [D.nil, (D.val (vI x1))])] [(D.val (Go.Value.string (s3)))]) ∧
 (bcase (!ByteArray.toList s1 == ByteArray.toList s3)
 (k [(D.val (Value.bool false))])
 (bcase (n3 != n5)
 (k [(D.val (Value.bool false))])
 (bcase (decide (0 + n1 * 2 ≤ List.length cs1))
 (((Says C 11 [(D.agg [(D.sl (n1) 2 (List.take (n1 * 2) (List.drop 0 cs1))), (D.val (vI n2))]), (D.agg [D.nil, (D.val (vI n4))])] [(D.val (Value.bool true))]) ∧
 (∃ n6 : Int,
 ((Says C 12 [(D.agg [D.nil, (D.val (vI x1))])] [(D.val (vI n6))]) ∧
 (bcase (n6 != 0)
 (k [(D.val (Value.bool true))])
 ((∃ n7 : Int,
 (∃ n8 : Int,
 ((Says C 8 [(D.val (Go.Value.string (s1)))] [(D.agg [D.nil, (D.val (vI n7))]), (D.val (vI n8))]) ∧
 (bcase (n8 == 0)
 (((Says C 11 [(D.agg [D.nil, (D.val (vI n7))]), (D.agg [D.nil, (D.val (vI x1))])] [(D.val (Value.bool true))]) ∧
 (k [(D.val (Value.bool true))])) ∨
 ((Says C 11 [(D.agg [D.nil, (D.val (vI n7))]), (D.agg [D.nil, (D.val (vI x1))])] [(D.val (Value.bool false))]) ∧
 (k [(D.val (Value.bool false))])))
 (k [(D.val (Value.bool false))]))))) ∨
 (∃ n7 : Nat,
 (∃ cs2 : List Go.Value,
 (∃ n8 : Int,
 (∃ n9 : Int,
 ((Says C 8 [(D.val (Go.Value.string (s1)))] [(D.agg [(D.sl (n7) 2 (cs2)), (D.val (vI n8))]), (D.val (vI n9))]) ∧
 (bcase (n9 == 0)
 (bcase (decide (0 + n7 * 2 ≤ List.length cs2))
 (((Says C 11 [(D.agg [(D.sl (n7) 2 (List.take (n7 * 2) (List.drop 0 cs2))), (D.val (vI n8))]), (D.agg [D.nil, (D.val (vI x1))])] [(D.val (Value.bool true))]) ∧
 (k [(D.val (Value.bool true))])) ∨
 ((Says C 11 [(D.agg [(D.sl (n7) 2 (List.take (n7 * 2) (List.drop 0 cs2))), (D.val (vI n8))]), (D.agg [D.nil, (D.val (vI x1))])] [(D.val (Value.bool false))]) ∧
 (k [(D.val (Value.bool false))])))
 False)
 (k [(D.val (Value.bool false))])))))))))))) ∨
 ((Says C 11 [(D.agg [(D.sl (n1) 2 (List.take (n1 * 2) (List.drop 0 cs1))), (D.val (vI n2))]), (D.agg [D.nil, (D.val (vI n4))])] [(D.val (Value.bool false))]) ∧
 (k [(D.val (Value.bool false))])))
 False)))))))) ∨
 (∃ n4 : Nat,
 (∃ cs2 : List Go.Value,
 (∃ n5 : Int,
 (∃ n6 : Int,
 ((Says C 9 [(D.val (Go.Value.string (s2)))] [(D.agg [(D.sl (n4) 2 (cs2)), (D.val (vI n5))]), (D.val (vI n6))]) ∧
 (∃ s3 : ByteArray,
 ((Says C 10 [(D.agg [D.nil, (D.val (vI x1))])] [(D.val (Go.Value.string (s3)))]) ∧
 (bcase (!ByteArray.toList s1 == ByteArray.toList s3)
 (k [(D.val (Value.bool false))])
 (bcase (n3 != n6)
 (k [(D.val (Value.bool false))])
 (bcase (decide (0 + n1 * 2 ≤ List.length cs1))
 (bcase (decide (0 + n4 * 2 ≤ List.length cs2))
 (((Says C 11 [(D.agg [(D.sl (n1) 2 (List.take (n1 * 2) (List.drop 0 cs1))), (D.val (vI n2))]), (D.agg [(D.sl (n4) 2 (List.take (n4 * 2) (List.drop 0 cs2))), (D.val (vI n5))])] [(D.val (Value.bool true))]) ∧
 (∃ n7 : Int,
 ((Says C 12 [(D.agg [D.nil, (D.val (vI x1))])] [(D.val (vI n7))]) ∧
 (bcase (n7 != 0)
 (k [(D.val (Value.bool true))])
 ((∃ n8 : Int,
 (∃ n9 : Int,
 ((Says C 8 [(D.val (Go.Value.string (s1)))] [(D.agg [D.nil, (D.val (vI n8))]), (D.val (vI n9))]) ∧
 (bcase (n9 == 0)
 (((Says C 11 [(D.agg [D.nil, (D.val (vI n8))]), (D.agg [D.nil, (D.val (vI x1))])] [(D.val (Value.bool true))]) ∧
 (k [(D.val (Value.bool true))])) ∨
 ((Says C 11 [(D.agg [D.nil, (D.val (vI n8))]), (D.agg [D.nil, (D.val (vI x1))])] [(D.val (Value.bool false))]) ∧
 (k [(D.val (Value.bool false))])))
 (k [(D.val (Value.bool false))]))))) ∨
 (∃ n8 : Nat,
 (∃ cs3 : List Go.Value,
 (∃ n9 : Int,
 (∃ n10 : Int,
 ((Says C 8 [(D.val (Go.Value.string (s1)))] [(D.agg [(D.sl (n8) 2 (cs3)), (D.val (vI n9))]), (D.val (vI n10))]) ∧
 (bcase (n10 == 0)
 (bcase (decide (0 + n8 * 2 ≤ List.length cs3))
 (((Says C 11 [(D.agg [(D.sl (n8) 2 (List.take (n8 * 2) (List.drop 0 cs3))), (D.val (vI n9))]), (D.agg [D.nil, (D.val (vI x1))])] [(D.val (Value.bool true))]) ∧
 (k [(D.val (Value.bool true))])) ∨
 ((Says C 11 [(D.agg [(D.sl (n8) 2 (List.take (n8 * 2) (List.drop 0 cs3))), (D.val (vI n9))]), (D.agg [D.nil, (D.val (vI x1))])] [(D.val (Value.bool false))]) ∧
 (k [(D.val (Value.bool false))])))
 False)
 (k [(D.val (Value.bool false))])))))))))))) ∨
 ((Says C 11 [(D.agg [(D.sl (n1) 2 (List.take (n1 * 2) (List.drop 0 cs1))), (D.val (vI n2))]), (D.agg [(D.sl (n4) 2 (List.take (n4 * 2) (List.drop 0 cs2))), (D.val (vI n5))])] [(D.val (Value.bool false))]) ∧
 (k [(D.val (Value.bool false))])))
 False)
 False)))))))))))))))))))))) ∨
 ((Says C 4 [] [(D.val (Value.bool false))]) ∧
 (k [(D.val (Value.bool false))]))) := by kernel_rfl
end Go.Proofs.G5u

/- The small functions on strings of the references, in data. -/
namespace Go.Proofs.G5u
open Go Go.Abs Go.Proofs Go.Str
set_option maxRecDepth 100000
theorem hokE : HandlerOK Tryz.prog (hE C5) := handlerX_ok mixed (fun g h he => by cases he) (by decide) 6
/-- pieces between separators -/
theorem conCu (l : List UInt8) (c : UInt8) (hl : l.length < 4294967281) : C5 29 [dS l, .val (.int .u8 (c.toNat : Int))] [dSs (cutA c [] l)] := by
  let inv : Nat × Nat × List (List UInt8) → Prop := fun x => x.2.1 ≤ x.1 ∧ x.1 ≤ l.length ∧ x.2.2.length ≤ x.1 ∧ x.2.2 ++ cutA c ((l.drop x.2.1).take (x.1 - x.2.1)) (l.drop x.1) = cutA c [] l
  let st : Nat × Nat × List (List UInt8) → Slots × Blocks := fun x => match x.2.2 with
    | [] => zCu1 (bs l) c.toNat x.2.1 x.1
    | y :: r => zCu2 (bs l) c.toNat (y :: r).length x.2.1 x.1 (strs (y :: r))
  refine con_of (L := fun _ s b => ∃ x, inv x ∧ st x = (s, b)) hokE mixed Tryz.func29 rfl (by show 0 ≤ 400; omega) rfl (ids := [0]) (by kernel_rfl) rfl (fun caps => ?_) (fun id hid => ?_)
  · show gCu _ _ (bs l) c.toNat _
    rw [gCu_text]
    exact ⟨(0, 0, []), ⟨Nat.le_refl _, Nat.zero_le _, Nat.le_refl _, by simp⟩, rfl⟩
  · obtain rfl := List.mem_singleton.1 hid
    refine ⟨Nat × Nat × List (List UInt8), st, inv, fun x => l.length - x.1, ⟨fun s b h => h, by kernel_rfl, ?_⟩⟩
    rintro ⟨i, f, out⟩ ⟨h1, h2, h3, h4⟩
    simp only at h1 h2 h3 h4
    have hx : ∀ j, (bs l).extract f j = bs ((l.drop f).take (j - f)) := fun j => bs_extract l f j
    have hend : ¬ i < l.length → out ++ [(l.drop f).take (l.length - f)] = cutA c [] l := by
      intro hi
      obtain rfl : i = l.length := by omega
      rw [List.drop_length, cutA] at h4
      exact h4
    have step : ∀ hi : i < l.length, if l[i] = c then inv (i + 1, i + 1, out ++ [(l.drop f).take (i - f)]) else inv (i + 1, f, out) := by
      intro hi
      rw [List.drop_eq_getElem_cons hi, cutA] at h4
      split
      · next hc =>
        rw [if_pos hc] at h4
        exact ⟨Nat.le_refl _, hi, by simp; omega, by simpa using h4⟩
      · next hc =>
        rw [if_neg hc] at h4
        exact ⟨by show f ≤ i + 1; omega, hi, by show out.length ≤ i + 1; omega, by show out ++ cutA c ((l.drop f).take (i + 1 - f)) (l.drop (i + 1)) = _; rw [take_snoc h1 hi]; exact h4⟩
    cases out with
    | nil =>
      show rCu1 _ _ (bs l) c.toNat f i _ _ _
      rw [rCu1_text]
      simp only [bs_size]
      refine bc_dec (fun h => ?_) (fun h => ?_)
      · have hi : i < l.length := by omega
        have step := step hi
        simp only [bc_t (show (0 : Int) ≤ (i : Int) by omega), Int.toNat_natCast, byte1 (List.getElem?_eq_getElem hi), wi1 hi (by omega)]
        refine bc_beq (fun hc => ?_) (fun hc => ?_)
        · rw [if_pos (u8_eq hc)] at step
          simp only [bc_t (show (i : Int) ≤ (l.length : Int) by omega), bc_t (show (0 : Int) ≤ (f : Int) by omega), bc_t (show (f : Int) ≤ (i : Int) by omega), hx]
          exact ⟨_, step, by show l.length - (i + 1) < l.length - i; omega, rfl⟩
        · rw [if_neg (fun e => hc (by rw [e]))] at step
          exact ⟨_, step, by show l.length - (i + 1) < l.length - i; omega, rfl⟩
      · show nCu3 _ _ (bs l) f _
        rw [nCu3_text]
        simp only [bs_size, bc_t (show (0 : Int) ≤ (f : Int) by omega), bc_t (show (f : Int) ≤ (l.length : Int) by omega), Int.toNat_natCast, hx]
        refine ⟨⟨trivial, trivial⟩, ?_⟩
        rw [← hend (by omega)]
        rfl
    | cons y r =>
      show rCu2 _ _ (bs l) c.toNat (y :: r).length f i (strs (y :: r)) _ _ _
      rw [rCu2_text]
      simp only [bs_size]
      have hlen : (y :: r).length ≤ i := h3
      refine bc_dec (fun h => ?_) (fun h => ?_)
      · have hi : i < l.length := by omega
        have step := step hi
        simp only [bc_t (show (0 : Int) ≤ (i : Int) by omega), Int.toNat_natCast, byte1 (List.getElem?_eq_getElem hi), wi1 hi (by omega)]
        refine bc_beq (fun hc => ?_) (fun hc => ?_)
        · rw [if_pos (u8_eq hc)] at step
          simp only [bc_t (show (i : Int) ≤ (l.length : Int) by omega), bc_t (show (0 : Int) ≤ (f : Int) by omega), bc_t (show (f : Int) ≤ (i : Int) by omega), hx,
            bc_t (Nat.lt_succ_self (y :: r).length), bc_t (show (2 * ((y :: r).length + 1) + 768) * 16 ≤ 281474976710656 by omega), bc_t (show (y :: r).length + 1 ≤ 1099511627776 by omega), bc_t (whole_le (y :: r)), bc_t (whole_eq (y :: r)), strs_whole]
          refine ⟨_, step, by show l.length - (i + 1) < l.length - i; omega, ?_⟩
          show zCu2 _ _ ((y :: r) ++ [_]).length _ _ (strs ((y :: r) ++ [_])) = _
          rw [List.length_append]
          simp only [strs, List.map_append]
          rfl
        · rw [if_neg (fun e => hc (by rw [e]))] at step
          exact ⟨_, step, by show l.length - (i + 1) < l.length - i; omega, rfl⟩
      · show nCu4 _ _ (bs l) (y :: r).length f (strs (y :: r)) _
        rw [nCu4_text]
        simp only [bs_size, bc_t (show (0 : Int) ≤ (f : Int) by omega), bc_t (show (f : Int) ≤ (l.length : Int) by omega), Int.toNat_natCast, hx,
          bc_t (Nat.lt_succ_self (y :: r).length), bc_t (show (2 * ((y :: r).length + 1) + 768) * 16 ≤ 281474976710656 by omega), bc_t (show (y :: r).length + 1 ≤ 1099511627776 by omega), bc_t (whole_le (y :: r)), bc_t (whole_eq (y :: r)), strs_whole]
        refine ⟨⟨trivial, by simp⟩, ?_⟩
        rw [← hend (by omega)]
        show [_] = [D.sl ((y :: r) ++ [_]).length 1 (strs ((y :: r) ++ [_]))]
        rw [List.length_append]
        simp only [strs, List.map_append]
        rfl
/-! ### decimal numerals -/
theorem one_byte (b : Int) : List.foldl (fun r n => ByteArray.push r (UInt8.ofNat (Int.toNat n))) ByteArray.empty [b] = bs [UInt8.ofNat (Int.toNat b)] := rfl
theorem size_dig (k : Nat) (m : Int) (h : m = (k : Int) ∨ m = -(k : Int)) : IntKind.wrap .u8 (IntKind.wrap .i64 (48 + if IntKind.wrap .i64 (0 - Int.tmod m 10) > Int.tmod m 10 then IntKind.wrap .i64 (0 - Int.tmod m 10) else Int.tmod m 10)) = ((48 + k % 10 : Nat) : Int) := by
  have e : Int.tmod m 10 = ((k % 10 : Nat) : Int) ∨ Int.tmod m 10 = -((k % 10 : Nat) : Int) := by
    rcases h with rfl | rfl
    · left; rw [Int.tmod_eq_emod_of_nonneg (by omega)]; omega
    · right; rw [Int.neg_tmod, Int.tmod_eq_emod_of_nonneg (by omega)]; omega
  generalize Int.tmod m 10 = r at e ⊢
  have hk : k % 10 < 10 := Nat.mod_lt _ (by decide)
  rw [w64 (z := 0 - r) (by omega) (by omega)]
  have h2 : (48 + if 0 - r > r then 0 - r else r) = ((48 + k % 10 : Nat) : Int) := by split <;> omega
  rw [h2, w64 (by omega) (by omega), IntKind.wrap_u8]
  omega
theorem tdiv10 (k : Nat) (m : Int) (h : m = (k : Int) ∨ m = -(k : Int)) : (m = (k : Int) → Int.tdiv m 10 = ((k / 10 : Nat) : Int)) ∧ (m = -(k : Int) → Int.tdiv m 10 = -((k / 10 : Nat) : Int)) := by
  constructor
  · rintro rfl; rw [Int.tdiv_eq_ediv_of_nonneg (by omega)]; omega
  · rintro rfl; rw [Int.neg_tdiv, Int.tdiv_eq_ediv_of_nonneg (by omega)]; omega
theorem conDe (n : Int) (h0 : -9223372036854775808 ≤ n) (h1 : n ≤ 9223372036854775807) : C5 31 [dI n] [dS (Lib.itoa n)] := by
  let sg : List UInt8 := if n < 0 then [45] else []
  let num : Nat → Int := fun k => if n < 0 then -(k : Int) else (k : Int)
  let inv : Nat × List UInt8 → Prop := fun x => n ≠ 0 ∧ x.1 ≤ n.natAbs ∧ (if x.1 = 0 then [] else dec x.1) ++ x.2 = dec n.natAbs
  let st : Nat × List UInt8 → Slots × Blocks := fun x => zDe1 (num x.1) (bs x.2) (bs sg)
  have hit : n ≠ 0 → sg ++ dec n.natAbs = Lib.itoa n := by
    intro hn
    show (if n < 0 then [45] else []) ++ dec n.natAbs = _
    split
    · next h => rw [itoa_ng h]; rfl
    · next h => rw [itoa_nn (by omega), show n.toNat = n.natAbs by omega]; rfl
  have hdl : (dec n.natAbs).length ≤ 20 := dec_len 20 _ (by decide) (by omega)
  have hsg : sg.length ≤ 1 := by show (if n < 0 then [(45 : UInt8)] else []).length ≤ 1; split <;> simp
  refine con_of (L := fun _ s b => ∃ x, inv x ∧ st x = (s, b)) hokE mixed Tryz.func31 rfl (by show 0 ≤ 400; omega) rfl (ids := [0]) (by kernel_rfl) rfl (fun caps => ?_) (fun id hid => ?_)
  · show gDe _ _ n _
    rw [gDe_text]
    refine bc_beq (fun h => ?_) (fun h => ?_)
    · subst h
      have : Lib.itoa 0 = [48] := by rw [itoa_nn (by decide)]; exact dec_small (by decide)
      rw [this]
    · have hi : inv (n.natAbs, []) := ⟨h, Nat.le_refl _, by show (if n.natAbs = 0 then [] else _) ++ [] = _; rw [if_neg (by omega), List.append_nil]⟩
      refine bc_dec (fun hn => ?_) (fun hn => ?_)
      · refine ⟨(n.natAbs, []), hi, ?_⟩
        show zDe1 (if n < 0 then _ else _) _ (bs (if n < 0 then _ else _)) = _
        rw [if_pos hn, if_pos hn, show -(n.natAbs : Int) = n by omega]
      · refine ⟨(n.natAbs, []), hi, ?_⟩
        show zDe1 (if n < 0 then _ else _) _ (bs (if n < 0 then _ else _)) = _
        rw [if_neg hn, if_neg hn, show (n.natAbs : Int) = n by omega]
  · obtain rfl := List.mem_singleton.1 hid
    refine ⟨Nat × List UInt8, st, inv, fun x => x.1, ⟨fun s b h => h, by kernel_rfl, ?_⟩⟩
    rintro ⟨k, sfx⟩ ⟨hn, hk, he⟩
    simp only at hk he
    show rDe1 _ _ (num k) (bs sfx) (bs sg) _ _ _
    rw [rDe1_text]
    have hor : num k = (k : Int) ∨ num k = -(k : Int) := by show (if n < 0 then _ else _) = _ ∨ (if n < 0 then _ else _) = _; split <;> simp
    have hsl : sfx.length ≤ 20 := by have := congrArg List.length he; simp at this; omega
    refine bc_bne (fun h => ?_) (fun h => ?_)
    · have hk0 : k ≠ 0 := by rintro rfl; rcases hor with e | e <;> simp [e] at h
      rw [size_dig k (num k) hor, one_byte, bs_append, Int.toNat_natCast]
      simp only [bs_size]
      refine bc_yes (by simp; omega) ?_
      refine ⟨(k / 10, UInt8.ofNat (48 + k % 10) :: sfx), ⟨hn, by show k / 10 ≤ _; omega, ?_⟩, by show k / 10 < k; omega, ?_⟩
      · show (if k / 10 = 0 then [] else dec (k / 10)) ++ _ = _
        rw [if_neg hk0] at he
        rw [← he]
        by_cases hk10 : k < 10
        · rw [if_pos (by omega), dec_small hk10, show k % 10 = k by omega]; rfl
        · rw [if_neg (by omega), dec_big hk10]; simp
      · have e2 : IntKind.wrap .i64 (Int.tdiv (num k) 10) = num (k / 10) := by
          have t := tdiv10 k (num k) hor
          show IntKind.wrap .i64 (Int.tdiv (if n < 0 then -(k : Int) else (k : Int)) 10) = if n < 0 then _ else _
          have hnum : num k = if n < 0 then -(k : Int) else (k : Int) := rfl
          by_cases hneg : n < 0
          · rw [if_pos hneg] at hnum ⊢
            rw [if_pos hneg, ← hnum, t.2 hnum, w64 (by omega) (by omega)]
          · rw [if_neg hneg] at hnum ⊢
            rw [if_neg hneg, ← hnum, t.1 hnum, w64 (by omega) (by omega)]
        rw [e2]; rfl
    · have hk0 : k = 0 := by rcases hor with e | e <;> omega
      subst hk0
      show (if 0 = 0 then _ else _)
      rw [if_pos rfl]
      show nDe2 _ _ (bs sfx) (bs sg) _
      rw [nDe2_text]
      simp only [bs_size]
      refine bc_yes (by omega) ?_
      rw [if_pos rfl, List.nil_append] at he
      rw [bs_append, he, hit hn]
/-! ### numbers that are read -/
theorem pow_le {k : Nat} (h : k ≤ 17) : (10 : Int) ^ k ≤ 100000000000000000 := by
  have := pow10_le h
  rw [p17] at this; exact this
theorem isDig_no {b : UInt8} (h : ¬ (48 ≤ b.toNat ∧ b.toNat ≤ 57)) : isDig b = false := by
  unfold isDig
  rw [Bool.and_eq_false_iff, decide_eq_false_iff_not, decide_eq_false_iff_not]; omega
theorem byte48 {b : UInt8} (h1 : 48 ≤ b.toNat) (h2 : b.toNat ≤ 57) : IntKind.wrap .i64 (IntKind.wrap .u8 ((b.toNat : Int) - 48)) = (b.toNat : Int) - 48 := by
  rw [IntKind.wrap_u8]
  rw [w64 (by omega) (by omega)]; omega
theorem conNu (l : List UInt8) (d : Nat) (hd : d ≤ 18) (hl : l.length < 4294967281) : C5 30 [dS l, dI d] [dI (readNum d l).1, dB (readNum d l).2] := by
  let inv : Nat × Nat → Prop := fun x => x.1 ≤ 1 ∧ x.1 ≤ x.2 ∧ x.2 ≤ l.length ∧ l.length ≤ d + x.1 ∧ ((l.drop x.1).take (x.2 - x.1)).all isDig = true ∧ readNum d l = rdT x.1 l
  let st : Nat × Nat → Slots × Blocks := fun x => zNu1 (bs l) x.1 (numF 0 ((l.drop x.1).take (x.2 - x.1))) x.2
  refine con_of (L := fun _ s b => ∃ x, inv x ∧ st x = (s, b)) hokE mixed Tryz.func30 rfl (by show 0 ≤ 400; omega) rfl (ids := [0]) (by kernel_rfl) rfl (fun caps => ?_) (fun id hid => ?_)
  · show gNu _ _ (bs l) d _
    rw [gNu_text]
    simp only [bs_size]
    have pos : (∀ b, l[0]? = some b → b.toNat ≠ 45) → bcase ((l.length : Int) == 0) ([dI 0, dB false] = [dI (readNum d l).1, dB (readNum d l).2])
        (bcase (decide (IntKind.wrap .i64 ((l.length : Int) - 0) > (d : Int))) ([dI 0, dB false] = [dI (readNum d l).1, dB (readNum d l).2])
        (∃ b2 : UInt8, ByteAt (bs l) 0 b2 ∧ bcase ((b2.toNat : Int) == 48) (bcase (decide ((l.length : Int) > 1)) ([dI 0, dB false] = [dI (readNum d l).1, dB (readNum d l).2]) (∃ x, inv x ∧ st x = zNu1 (bs l) 0 0 0)) (∃ x, inv x ∧ st x = zNu1 (bs l) 0 0 0))) := by
      intro hno
      have hh : l.head? ≠ some 45 := by
        intro e
        cases l with
        | nil => simp at e
        | cons b r =>
          simp only [List.head?_cons, Option.some.injEq] at e
          subst e
          exact hno 45 rfl rfl
      have hr := readNum_pos (d := d) hh
      refine bc_beq (fun h => ?_) (fun h => ?_)
      · rw [hr, if_pos (by omega)]
      · rw [if_neg (by omega)] at hr
        have e1 : IntKind.wrap .i64 ((l.length : Int) - 0) = (l.length : Int) := by rw [w64 (by omega) (by omega)]; omega
        simp only [e1]
        refine bc_dec (fun h2 => ?_) (fun h2 => ?_)
        · rw [hr, if_pos (by omega)]
        · rw [if_neg (by omega)] at hr
          cases l with
          | nil => simp at h
          | cons b r =>
            rw [byte1 (l := b :: r) (i := 0) (b := b) rfl]
            have go : ¬ ((b :: r).head? = some 48 ∧ 1 < (b :: r).length) → ∃ x, inv x ∧ st x = zNu1 (bs (b :: r)) 0 0 0 := by
              intro hc
              rw [if_neg hc] at hr
              exact ⟨(0, 0), ⟨by decide, Nat.le_refl _, Nat.zero_le _, by show _ ≤ d + 0; omega, rfl, hr⟩, rfl⟩
            refine bc_beq (fun h3 => ?_) (fun h3 => ?_)
            · have hb : b = 48 := u8_eq (c := 48) h3
              refine bc_dec (fun h4 => ?_) (fun h4 => go (by omega))
              rw [hr, if_pos ⟨by rw [hb]; rfl, by omega⟩]
            · exact go (fun ⟨e, _⟩ => h3 (by simp only [List.head?_cons, Option.some.injEq] at e; rw [e]; rfl))
    refine bc_dec (fun h => ?_) (fun h => ?_)
    · cases l with
      | nil => simp at h
      | cons b r =>
        rw [byte1 (l := b :: r) (i := 0) (b := b) rfl]
        refine bc_beq (fun h45 => ?_) (fun h45 => pos ?_)
        · obtain rfl : b = 45 := u8_eq (c := 45) h45
          have hr := readNum_neg (d := d) (r := r)
          simp only [List.length_cons] at hl ⊢
          refine bc_beq (fun h1 => ?_) (fun h1 => ?_)
          · rw [hr, if_pos (by omega)]
          · rw [if_neg (by omega)] at hr
            have e1 : IntKind.wrap .i64 (((r.length + 1 : Nat) : Int) - 1) = (r.length : Int) := by rw [w64 (by omega) (by omega)]; omega
            simp only [e1]
            refine bc_dec (fun h2 => ?_) (fun h2 => ?_)
            · rw [hr, if_pos (by omega)]
            · rw [if_neg (by omega)] at hr
              cases r with
              | nil => simp at h1
              | cons c r =>
                rw [byte1 (l := 45 :: c :: r) (i := 1) (b := c) rfl]
                refine bc_beq (fun h3 => ?_) (fun h3 => ?_)
                · have hc : c = 48 := u8_eq (c := 48) h3
                  refine bc_yes (by simp only [List.length_cons]; omega) ?_
                  rw [hr, if_pos (by rw [hc]; rfl)]
                · rw [if_neg (fun e => h3 (by simp only [List.head?_cons, Option.some.injEq] at e; rw [e]; rfl))] at hr
                  refine ⟨(1, 1), ⟨by decide, Nat.le_refl _, by simp, by simp only [List.length_cons] at h2 ⊢; omega, rfl, hr⟩, rfl⟩
        · intro b' hb' e
          obtain rfl : b = b' := by simpa using hb'
          exact h45 (by omega)
    · exact pos (fun b hb => by
        have := (List.getElem?_eq_some_iff.1 hb).1
        omega)
  · obtain rfl := List.mem_singleton.1 hid
    refine ⟨Nat × Nat, st, inv, fun x => l.length - x.2, ⟨fun s b h => h, by kernel_rfl, ?_⟩⟩
    rintro ⟨a, i⟩ ⟨ha, hai, hil, hld, hall, hr⟩
    simp only at ha hai hil hld hall hr
    show rNu1 _ _ (bs l) a (numF 0 ((l.drop a).take (i - a))) i _ _ _
    rw [rNu1_text]
    simp only [bs_size]
    have hn := numF_ge _ 0 (by decide) hall
    have hlen : ((l.drop a).take (i - a)).length = i - a := by simp; omega
    rw [hlen] at hn
    refine bc_dec (fun h => ?_) (fun h => ?_)
    · have hi : i < l.length := by omega
      have fail : isDig l[i] = false → [dI 0, dB false] = [dI (readNum d l).1, dB (readNum d l).2] := by
        intro hb
        have hg : (l.drop a)[i - a]? = some l[i] := by rw [List.getElem?_drop, show a + (i - a) = i by omega, List.getElem?_eq_getElem hi]
        rw [hr]; unfold rdT; rw [not_all hg hb]; rfl
      have hp := pow_le (k := i - a) (by omega)
      simp only [bc_t (show (0 : Int) ≤ (i : Int) by omega), Int.toNat_natCast, byte1 (List.getElem?_eq_getElem hi), wi1 hi (by omega)]
      refine bc_dec (fun hb => fail (isDig_no (by omega))) (fun hb => ?_)
      refine bc_dec (fun hb2 => fail (isDig_no (by omega))) (fun hb2 => ?_)
      have hdig : isDig l[i] = true := by unfold isDig; rw [decide_eq_true (by omega), decide_eq_true (by omega)]; rfl
      refine ⟨(a, i + 1), ⟨ha, by show a ≤ i + 1; omega, hi, hld, by show ((l.drop a).take (i + 1 - a)).all isDig = true; rw [take_snoc hai hi, List.all_append, hall]; simp [hdig], hr⟩, by show l.length - (i + 1) < l.length - i; omega, ?_⟩
      show zNu1 (bs l) a (numF 0 ((l.drop a).take (i + 1 - a))) ((i + 1 : Nat) : Int) = _
      rw [take_snoc hai hi, numF_append, numF_cons, numF_nil, byte48 (by omega) (by omega), w64 (z := 10 * _) (by omega) (by omega), w64 (by omega) (by omega)]
    · have hi : i = l.length := by omega
      subst hi
      show nNu2 _ _ a _ _
      rw [nNu2_text]
      have ht : (l.drop a).take (l.length - a) = l.drop a := List.take_of_length_le (by simp)
      rw [ht] at hall hn ⊢
      have hp : (10 : Int) ^ (l.length - a) ≤ 1000000000000000000 := by
        have := pow10_le (k := l.length - a) (d := 18) (by omega)
        rw [p18] at this; exact this
      rw [hr]
      unfold rdT
      rw [if_pos hall]
      refine bc_beq (fun h1 => ?_) (fun h1 => ?_)
      · rw [if_pos (by omega), w64 (by omega) (by omega), Int.zero_sub]
      · rw [if_neg (by omega)]
theorem conWi (n lo hi : Int) : C5 32 [dI n, dI lo, dI hi] [dB (decide (lo ≤ n) && decide (n ≤ hi))] := by
  refine con_flat hokE mixed Tryz.func32 rfl (by show 0 ≤ 400; omega) rfl (by kernel_rfl) (fun caps => ?_)
  show gWi _ _ n lo hi _
  rw [gWi_text]
  refine bc_dec (fun h => bc_dec (fun h2 => ?_) (fun h2 => ?_)) (fun h => ?_)
  · rw [decide_eq_true h, decide_eq_true h2]; rfl
  · rw [decide_eq_true h, decide_eq_false h2]; rfl
  · rw [decide_eq_false h]; rfl
end Go.Proofs.G5u

/- Words that are read by a reader; pairs of numbers that may be below naught. -/
namespace Go.Str
variable {α : Type}
/-- the loop over the words: so many are read -/
def goesF (f : List UInt8 → Option α) (ws : List (List UInt8)) (x : Nat × List α) : Prop := x.1 ≤ ws.length ∧ x.2.length = x.1 ∧ words f ws = (words f (ws.drop x.1)).map (x.2 ++ ·)
theorem goesF_start (f : List UInt8 → Option α) (ws : List (List UInt8)) : goesF f ws (0, []) := ⟨Nat.zero_le _, rfl, by simp⟩
theorem goesF_step {f : List UInt8 → Option α} {ws : List (List UInt8)} {i : Nat} {out : List α} (h : goesF f ws (i, out)) (hi : i < ws.length) : (f ws[i] = none → words f ws = none) ∧ (∀ z, f ws[i] = some z → goesF f ws (i + 1, out ++ [z])) := by
  obtain ⟨h1, h2, h3⟩ := h
  rw [List.drop_eq_getElem_cons hi, words] at h3
  constructor
  · intro e
    rw [e] at h3; exact h3
  · intro z e
    rw [e] at h3
    refine ⟨hi, by show (out ++ [z]).length = i + 1; simp at h2 ⊢; omega, ?_⟩
    rw [h3]
    show Option.map _ (Option.map _ _) = Option.map _ _
    rw [Option.map_map]
    congr 1
    funext t
    simp
theorem goesF_end {f : List UInt8 → Option α} {ws : List (List UInt8)} {out : List α} (h : goesF f ws (ws.length, out)) : words f ws = some out := by
  obtain ⟨_, _, h3⟩ := h
  rw [List.drop_length, words] at h3
  simpa using h3
theorem words_none {f : List UInt8 → Option α} : ∀ {ws : List (List UInt8)} {w : List UInt8}, w ∈ ws → f w = none → words f ws = none
  | w :: r, x, hx, h => by
    rw [words]
    rcases List.mem_cons.1 hx with rfl | hx
    · rw [h]
    · split
      · rfl
      · rw [words_none hx h]; rfl
/-- every byte but the separator lies in a piece -/
theorem cutA_mem {c b : UInt8} (hb : b ≠ c) : ∀ {l acc : List UInt8}, (b ∈ acc ∨ b ∈ l) → ∃ x ∈ cutA c acc l, b ∈ x
  | [], acc, h => ⟨acc, by simp [cutA], by simpa using h⟩
  | a :: r, acc, h => by
    rw [cutA]
    split
    · next he =>
      rcases h with h | h
      · exact ⟨acc, List.mem_cons_self .., h⟩
      · rcases List.mem_cons.1 h with rfl | h
        · exact absurd he hb
        · obtain ⟨x, h1, h2⟩ := cutA_mem hb (l := r) (acc := []) (.inr h)
          exact ⟨x, List.mem_cons_of_mem _ h1, h2⟩
    · exact cutA_mem hb (by
        rcases h with h | h
        · exact .inl (List.mem_append_left _ h)
        · rcases List.mem_cons.1 h with rfl | h
          · exact .inl (by simp)
          · exact .inr h)
/-- a number that may have a sign -/
def rdN (d : Nat) (l : List UInt8) : Option Int := if (readNum d l).2 = true then some (readNum d l).1 else none
theorem rdN_nil {d : Nat} : rdN d [] = none := by
  unfold rdN readNum
  simp [okNum_nil]
theorem rdN_mem {d : Nat} {l : List UInt8} {b : UInt8} (hb : b ∈ l) (h1 : isDig b = false) (h2 : b ≠ 45) : rdN d l = none := by
  unfold rdN
  rw [if_neg]
  unfold readNum
  split
  · rename_i r
    rw [if_neg]
    · simp
    · rcases List.mem_cons.1 hb with e | hb
      · exact absurd e h2
      · intro h
        simp only [Bool.and_eq_true] at h
        have := List.all_eq_true.1 h.2 b hb
        rw [h1] at this; cases this
  · rw [if_neg]
    · simp
    · intro h
      have := List.all_eq_true.1 (okNum_inv h).2.2.2 b hb
      rw [h1] at this; cases this
theorem rdN_itoa {d : Nat} {n : Int} (hd : 1 ≤ d) (h : n.natAbs < 10 ^ d) : rdN d (Lib.itoa n) = some n := by
  unfold rdN; rw [readNum_itoa hd h]; rfl
/-- two readings with a sign between them -/
def pair (c : UInt8) (rd : List UInt8 → Option Int) (w : List UInt8) : Option (Int × Int) :=
  match rd (Lib.cut w [c]).1, rd (Lib.cut w [c]).2.1 with
  | some a, some b => some (a, b)
  | _, _ => none
theorem pair_no1 {c : UInt8} {rd : List UInt8 → Option Int} {w : List UInt8} (h : rd (Lib.cut w [c]).1 = none) : pair c rd w = none := by unfold pair; rw [h]
theorem pair_no2 {c : UInt8} {rd : List UInt8 → Option Int} {w : List UInt8} (h : rd (Lib.cut w [c]).2.1 = none) : pair c rd w = none := by
  unfold pair; rw [h]; cases rd (Lib.cut w [c]).1 <;> rfl
theorem pair_yes {c : UInt8} {rd : List UInt8 → Option Int} {w : List UInt8} {a b : Int} (h1 : rd (Lib.cut w [c]).1 = some a) (h2 : rd (Lib.cut w [c]).2.1 = some b) : pair c rd w = some (a, b) := by unfold pair; rw [h1, h2]
theorem pair_cut {c : UInt8} {rd : List UInt8 → Option Int} {w : List UInt8} (h0 : rd [] = none) (hc : ∀ l, c ∈ l → rd l = none) :
    ((cutA c [] w).length ≠ 2 ∧ pair c rd w = none) ∨ ∃ a b, cutA c [] w = [a, b] ∧ (Lib.cut w [c]).1 = a ∧ (Lib.cut w [c]).2.1 = b := by
  by_cases hw : c ∈ w
  · obtain ⟨a, r, rfl, ha⟩ := mem_split hw
    by_cases hr : c ∈ r
    · left
      refine ⟨?_, pair_no2 (by rw [cut_hit ha]; exact hc r hr)⟩
      rw [cutA_hit ha, List.length_cons, cutA_len]
      have := List.count_pos_iff.2 hr
      omega
    · right
      exact ⟨a, r, by rw [cutA_hit ha, cutA_miss hr]; simp, by rw [cut_hit ha], by rw [cut_hit ha]⟩
  · left
    exact ⟨by rw [cutA_miss hw]; simp, pair_no2 (by rw [cut_miss hw]; exact h0)⟩
theorem pair_join {c : UInt8} {rd : List UInt8 → Option Int} {a b : List UInt8} {n m : Int} (hc : ∀ l, c ∈ l → rd l = none) (h1 : rd a = some n) (h2 : rd b = some m) : pair c rd (a ++ c :: b) = some (n, m) := by
  have ha : c ∉ a := fun h => by rw [hc a h] at h1; cases h1
  exact pair_yes (by rw [cut_hit ha]; exact h1) (by rw [cut_hit ha]; exact h2)
/-- a byte that no reading has: no pair -/
theorem pair_mem {c b : UInt8} {rd : List UInt8 → Option Int} {w : List UInt8} (hb : b ≠ c) (hr : ∀ l, b ∈ l → rd l = none) (h0 : rd [] = none) (hw : b ∈ w) : pair c rd w = none := by
  by_cases hc : c ∈ w
  · obtain ⟨a, r, rfl, ha⟩ := mem_split hc
    rcases List.mem_append.1 hw with h | h
    · exact pair_no1 (by rw [cut_hit ha]; exact hr a h)
    · rcases List.mem_cons.1 h with e | h
      · exact absurd e hb
      · exact pair_no2 (by rw [cut_hit ha]; exact hr r h)
  · exact pair_no2 (by rw [cut_miss hc]; exact h0)
/-! ### readings by strconv.Atoi -/
/-- what Atoi gives for a short word -/
def rdV (d : Nat) (l : List UInt8) : Int := if d < l.length then 0 else (Lib.atoi l).getD 0
theorem rdV_ok {d : Nat} {l : List UInt8} (h : okNum d l = true) : rdV d l = numF 0 l := by
  unfold rdV
  rw [if_neg (by have := (okNum_inv h).2.1; omega), (atoi_ok h).1]; rfl
theorem atoi_num {d : Nat} {l : List UInt8} (hl : l.length ≤ d) {n : Int} (h : Lib.atoi l = some n) : (decide (0 ≤ n) && (Lib.itoa n == l)) = okNum d l := by
  cases ho : okNum d l with
  | true =>
    have := atoi_ok ho
    rw [h] at this
    obtain ⟨e, e2⟩ := this
    obtain rfl := Option.some.inj e
    rw [decide_eq_true (numF_pos ho).1, e2]; simp
  | false =>
    rw [Bool.and_eq_false_iff]
    by_cases hn : 0 ≤ n
    · right
      rw [beq_eq_false_iff_ne]
      intro e
      rw [itoa_ok hn hl e] at ho; cases ho
    · left; simpa using hn
theorem atoi_bad {d : Nat} {l : List UInt8} (h : Lib.atoi l = none) : okNum d l = false := by
  cases ho : okNum d l with
  | false => rfl
  | true => rw [(atoi_ok ho).1] at h; cases h
/-- a number that may be below naught, its sign taken off first -/
def endV (d : Nat) (l : List UInt8) : Int × Bool :=
  match l with
  | 45 :: r => (-(rdV d r), okNum d r && decide (0 < rdV d r))
  | l => (rdV d l, okNum d l)
theorem endV_rd {d : Nat} {l : List UInt8} : rdN d l = if (endV d l).2 = true then some (endV d l).1 else none := by
  unfold rdN
  cases l with
  | nil => simp [readNum, endV, okNum_nil]
  | cons b r =>
    by_cases hb : b = 45
    · subst hb
      have e : endV d (45 :: r) = (-(rdV d r), okNum d r && decide (0 < rdV d r)) := rfl
      have e2 : readNum d (45 :: r) = if (decide (1 ≤ r.length) && decide (r.length ≤ d) && !(r.head? == some 48) && r.all isDig) = true then (-(numF 0 r), true) else (0, false) := rfl
      rw [e, e2]
      cases ho : okNum d r with
      | false =>
        have hn : ¬ (decide (1 ≤ r.length) && decide (r.length ≤ d) && !(r.head? == some 48) && r.all isDig) = true := by
          intro hc
          have : okNum d r = true := by
            unfold okNum
            simp only [Bool.and_eq_true, decide_eq_true_eq, Bool.not_eq_true', beq_eq_false_iff_ne, ne_eq] at hc
            rw [decide_eq_true hc.1.1.1, decide_eq_true hc.1.1.2, hc.2, beq_eq_false_iff_ne.2 hc.1.2]; simp
          rw [this] at ho; cases ho
        rw [if_neg hn]; simp
      | true =>
        rw [rdV_ok ho]
        obtain ⟨o1, o2, o3, o4⟩ := okNum_inv ho
        by_cases hh : r.head? = some 48
        · have hl1 : r.length = 1 := by
            rcases Nat.lt_or_ge 1 r.length with h | h
            · exact absurd hh (o3 h)
            · omega
          have hr : r = [48] := by
            cases r with
            | nil => simp at hl1
            | cons a t =>
              obtain rfl : t = [] := List.length_eq_zero_iff.1 (by simpa using hl1)
              simp only [List.head?_cons, Option.some.injEq] at hh
              rw [hh]
          subst hr
          rw [if_neg (by simp)]
          simp [numF]
        · have hp := (dec_numF _ r (Nat.le_refl _) o1 o3 o4).2.1 hh
          rw [decide_eq_true o1, decide_eq_true o2, beq_eq_false_iff_ne.2 hh, o4]
          have : decide (0 < numF 0 r) = true := decide_eq_true (by omega)
          simp [this]
    · have e : endV d (b :: r) = (rdV d (b :: r), okNum d (b :: r)) := by
        unfold endV
        split
        · next h => cases h; exact absurd rfl hb
        · rfl
      have e2 : readNum d (b :: r) = if okNum d (b :: r) then (numF 0 (b :: r), true) else (0, false) := by
        unfold readNum
        split
        · next h => cases h; exact absurd rfl hb
        · rfl
      rw [e, e2]
      cases ho : okNum d (b :: r) with
      | false => simp
      | true => rw [rdV_ok ho]; simp
end Go.Str

/- Digits that are read by strconv.Atoi. -/
namespace Go.Proofs.G5u
open Go Go.Abs Go.Proofs Go.RowKit Go.Str Go.Sort
set_option maxRecDepth 100000
theorem vErr : Tryz.prog.globalNamed "strconv.ErrSyntax" = some 2 := by kernel_rfl
theorem hErr {w : World} (h : GoodW Tryz.prog w) : ∃ ev, w.cell? ⟨2, 0, none⟩ = some ev ∧ (ev = .nilIface ∨ ∃ te pe, ev = .iface te pe) := by
  obtain ⟨c, ty, fz, v, e, hc, hv⟩ := h _ (mem_vars (k := .iface) (by simp [wantedVars]) vErr)
  simp only at e
  exact ⟨v, by simp [World.cell?, e, hc], hv⟩
theorem digits_long (s : ByteArray) (w : World) (hs : 2 < s.size) : Calls Tryz.prog 25 #[.string s] w fun e w' => e = .returned (.tuple #[.int .i64 0, .bool false]) ∧ Below w.heap.size w w' := by
  go_enter Tryz.func25, Tryz.ntmps25
  go_wp2
  go_ret2
  exact ⟨rfl, Below.refl _ _⟩
theorem digits_none (s : ByteArray) (w : World) (hs : s.size ≤ 2) (h : Lib.atoi s.data.toList = none) (ev : Value) (hv : w.cell? ⟨2, 0, none⟩ = some ev) (hev : ev = .nilIface ∨ ∃ te pe, ev = .iface te pe) :
    Calls Tryz.prog 25 #[.string s] w fun e w' => e = .returned (.tuple #[.int .i64 0, .bool false]) ∧ Below w.heap.size w w' := by
  go_enter Tryz.func25, Tryz.ntmps25
  go_wp2_with (go_at_call 61; refine (Tryz.strconv_Atoi_err s (by omega) h ev _ ?_ hev).mono ?_)
  · exact hv
  rintro e W1 ⟨N, rfl, -, -, hb⟩
  go_wp2
  go_ret2
  exact ⟨rfl, hb⟩
theorem bytes_below (w : World) (t : TypeId) (s : ByteArray) : Below w.heap.size w (Lib.bytesWorld w t s) := Lib.bytesWorld_below _ _ _
theorem good_below {w w' : World} (h : GoodW Tryz.prog w) (hb : Below w.heap.size w w') : GoodW Tryz.prog w' := by
  intro q hq
  have h1 := h q hq
  have h2 := VarKind.ok_some h1
  have hlt : q.1 < w.heap.size := by
    rcases Nat.lt_or_ge q.1 w.heap.size with h | h
    · exact h
    · rw [Array.getElem?_eq_none h] at h2; cases h2
  rw [hb.block q.1 hlt]; exact h1
theorem digits_some (s : ByteArray) (w : World) (hs : s.size ≤ 2) (n : Int) (hn : -1000000000000000000 < n ∧ n < 1000000000000000000) (h : Lib.atoi s.data.toList = some n) (hg : GoodW Tryz.prog w) :
    Calls Tryz.prog 25 #[.string s] w fun e w' => e = .returned (.tuple #[.int .i64 n, .bool (decide (0 ≤ n) && (Lib.itoa n == s.data.toList))]) ∧ Below w.heap.size w w' := by
  go_enter Tryz.func25, Tryz.ntmps25
  go_wp2_with (go_at_call 61; refine (Tryz.strconv_Atoi s n (by omega) h _).mono ?_; rintro e w' ⟨rfl, t, rfl⟩)
  · have htab := good_pow10 (good_below hg (bytes_below w 5 t)) vPow
    go_wp2_with (go_at_call 21; refine (Tryz.strconv_Itoa n (by omega) (by omega) _ htab).mono ?_; rintro e w' ⟨rfl, k, os, rfl⟩)
    go_ret2
    refine ⟨?_, (bytes_below w 5 t).trans ((below_dg _ k os).mono (bytes_below w 5 t).size)⟩
    rw [decide_eq_true (by omega : 0 ≤ n), Lib.toList_data]; rfl
  · go_ret2
    refine ⟨?_, bytes_below _ _ _⟩
    rw [decide_eq_false (by omega : ¬ 0 ≤ n)]; rfl
theorem conRD (l : List UInt8) : C5 25 [dS l] [dI (rdV 2 l), dB (okNum 2 l)] := by
  intro w args hg hr
  rw [reads1 hr]
  have fin : ∀ {n : Int} {b : Bool}, n = rdV 2 l → b = okNum 2 l → Calls Tryz.prog 25 #[str l] w (fun e w' => e = .returned (.tuple #[.int .i64 n, .bool b]) ∧ Below w.heap.size w w') →
      Calls Tryz.prog 25 #[str l] w fun e w' => (∃ vs u, e = .returned (tupleOf vs) ∧ GivesL w w' [] [dI (rdV 2 l), dB (okNum 2 l)] vs u) ∧ Below w.heap.size w w' := by
    rintro n b rfl rfl h
    refine h.mono ?_
    rintro e w' ⟨rfl, hb⟩
    exact ⟨⟨[.int .i64 _, .bool _], [], rfl, .cons (.val _ _ rfl) (.cons (.val _ _ rfl) (.nil _))⟩, hb⟩
  by_cases hl : 2 < l.length
  · refine fin ?_ ?_ (digits_long (bs l) w (by rw [bs_size]; exact hl))
    · unfold rdV; rw [if_pos hl]
    · unfold okNum; rw [decide_eq_false (by omega : ¬ l.length ≤ 2)]; simp
  · have hs : (bs l).size ≤ 2 := by rw [bs_size]; omega
    cases ha : Lib.atoi l with
    | none =>
      obtain ⟨ev, hv, hev⟩ := hErr hg
      refine fin ?_ (atoi_bad ha).symm (digits_none (bs l) w hs (by rw [data_bs]; exact ha) ev hv hev)
      unfold rdV; rw [if_neg hl, ha]; rfl
    | some n =>
      have hn := Lib.atoi_bound ha (by omega)
      refine fin ?_ ?_ (digits_some (bs l) w hs n hn (by rw [data_bs]; exact ha) hg)
      · unfold rdV; rw [if_neg hl, ha]; rfl
      · rw [data_bs]; exact atoi_num (by omega) ha
end Go.Proofs.G5u

/- What is left to show of each function, written out; the kernel reckons it. -/
namespace Go.Proofs.G5u
open Go Go.Abs Go.Proofs
set_option maxRecDepth 100000
set_option linter.unusedVariables false
abbrev P1 (b o : Nat) : Value := .pointer (some ⟨b, o, none⟩)
abbrev hF : Handler := fun _ _ _ _ _ => False
abbrev wl (lo hi e : Int) : Blocks := [(901, .cells [vI lo, vI hi] 58 false 1), (902, .cells [vI e] 29 false 1)]
abbrev wm (lo hi e : Int) : Blocks := [(900, .cells [vI lo, vI hi] 58 false 1), (901, .cells [vI e] 29 false 1)]
def wt1 (cap : Nat) (lo hi e x : Int) (K : Value → Blocks → Prop) : Prop := wpFn Tryz.prog hF (fun _ _ _ => False) 6 102 #[.slice (some ⟨900, 0, none⟩) 1 cap, P1 901 0, P1 902 0] (heapOf ((900, .cells [vI x] 3 false 1) :: wl lo hi e)) (stateK K)
theorem wt1_text (cap : Nat) (lo : Int) (hi : Int) (e : Int) (x : Int) (K : Go.Value → Blocks → Prop) : wt1 cap lo hi e x K =
 (bcase (decide (x < lo))
 (K (vI e) [(Prod.mk 900 (AObj.cells [(vI x)] 3 false 1)), (Prod.mk 901 (AObj.cells [(vI lo), (vI hi)] 58 false 1)), (Prod.mk 902 (AObj.cells [(vI e)] 29 false 1))])
 (bcase (decide (x > hi))
 (K (vI e) [(Prod.mk 900 (AObj.cells [(vI x)] 3 false 1)), (Prod.mk 901 (AObj.cells [(vI lo), (vI hi)] 58 false 1)), (Prod.mk 902 (AObj.cells [(vI e)] 29 false 1))])
 (K (vI (0 : Int)) [(Prod.mk 900 (AObj.cells [(vI x)] 3 false 1)), (Prod.mk 901 (AObj.cells [(vI lo), (vI hi)] 58 false 1)), (Prod.mk 902 (AObj.cells [(vI e)] 29 false 1))]))) := by kernel_rfl
def wt2 (cap : Nat) (lo hi e x y : Int) (K : Value → Blocks → Prop) : Prop := wpFn Tryz.prog hF (fun _ _ _ => False) 6 102 #[.slice (some ⟨900, 0, none⟩) 2 cap, P1 901 0, P1 902 0] (heapOf ((900, .cells [vI x, vI y] 3 false 1) :: wl lo hi e)) (stateK K)
theorem wt2_text (cap : Nat) (lo : Int) (hi : Int) (e : Int) (x : Int) (y : Int) (K : Go.Value → Blocks → Prop) : wt2 cap lo hi e x y K =
 (bcase (decide (x < lo))
 (K (vI e) [(Prod.mk 900 (AObj.cells [(vI x), (vI y)] 3 false 1)), (Prod.mk 901 (AObj.cells [(vI lo), (vI hi)] 58 false 1)), (Prod.mk 902 (AObj.cells [(vI e)] 29 false 1))])
 (bcase (decide (x > hi))
 (K (vI e) [(Prod.mk 900 (AObj.cells [(vI x), (vI y)] 3 false 1)), (Prod.mk 901 (AObj.cells [(vI lo), (vI hi)] 58 false 1)), (Prod.mk 902 (AObj.cells [(vI e)] 29 false 1))])
 (bcase (decide (y < lo))
 (K (vI e) [(Prod.mk 900 (AObj.cells [(vI x), (vI y)] 3 false 1)), (Prod.mk 901 (AObj.cells [(vI lo), (vI hi)] 58 false 1)), (Prod.mk 902 (AObj.cells [(vI e)] 29 false 1))])
 (bcase (decide (y > hi))
 (K (vI e) [(Prod.mk 900 (AObj.cells [(vI x), (vI y)] 3 false 1)), (Prod.mk 901 (AObj.cells [(vI lo), (vI hi)] 58 false 1)), (Prod.mk 902 (AObj.cells [(vI e)] 29 false 1))])
 (K (vI (0 : Int)) [(Prod.mk 900 (AObj.cells [(vI x), (vI y)] 3 false 1)), (Prod.mk 901 (AObj.cells [(vI lo), (vI hi)] 58 false 1)), (Prod.mk 902 (AObj.cells [(vI e)] 29 false 1))]))))) := by kernel_rfl
def wt3 (cap : Nat) (lo hi e x y z : Int) (K : Value → Blocks → Prop) : Prop := wpFn Tryz.prog hF (fun _ _ _ => False) 6 102 #[.slice (some ⟨900, 0, none⟩) 3 cap, P1 901 0, P1 902 0] (heapOf ((900, .cells [vI x, vI y, vI z] 3 false 1) :: wl lo hi e)) (stateK K)
theorem wt3_text (cap : Nat) (lo : Int) (hi : Int) (e : Int) (x : Int) (y : Int) (z : Int) (K : Go.Value → Blocks → Prop) : wt3 cap lo hi e x y z K =
 (bcase (decide (x < lo))
 (K (vI e) [(Prod.mk 900 (AObj.cells [(vI x), (vI y), (vI z)] 3 false 1)), (Prod.mk 901 (AObj.cells [(vI lo), (vI hi)] 58 false 1)), (Prod.mk 902 (AObj.cells [(vI e)] 29 false 1))])
 (bcase (decide (x > hi))
 (K (vI e) [(Prod.mk 900 (AObj.cells [(vI x), (vI y), (vI z)] 3 false 1)), (Prod.mk 901 (AObj.cells [(vI lo), (vI hi)] 58 false 1)), (Prod.mk 902 (AObj.cells [(vI e)] 29 false 1))])
 (bcase (decide (y < lo))
 (K (vI e) [(Prod.mk 900 (AObj.cells [(vI x), (vI y), (vI z)] 3 false 1)), (Prod.mk 901 (AObj.cells [(vI lo), (vI hi)] 58 false 1)), (Prod.mk 902 (AObj.cells [(vI e)] 29 false 1))])
 (bcase (decide (y > hi))
 (K (vI e) [(Prod.mk 900 (AObj.cells [(vI x), (vI y), (vI z)] 3 false 1)), (Prod.mk 901 (AObj.cells [(vI lo), (vI hi)] 58 false 1)), (Prod.mk 902 (AObj.cells [(vI e)] 29 false 1))])
 (bcase (decide (z < lo))
 (K (vI e) [(Prod.mk 900 (AObj.cells [(vI x), (vI y), (vI z)] 3 false 1)), (Prod.mk 901 (AObj.cells [(vI lo), (vI hi)] 58 false 1)), (Prod.mk 902 (AObj.cells [(vI e)] 29 false 1))])
 (bcase (decide (z > hi))
 (K (vI e) [(Prod.mk 900 (AObj.cells [(vI x), (vI y), (vI z)] 3 false 1)), (Prod.mk 901 (AObj.cells [(vI lo), (vI hi)] 58 false 1)), (Prod.mk 902 (AObj.cells [(vI e)] 29 false 1))])
 (K (vI (0 : Int)) [(Prod.mk 900 (AObj.cells [(vI x), (vI y), (vI z)] 3 false 1)), (Prod.mk 901 (AObj.cells [(vI lo), (vI hi)] 58 false 1)), (Prod.mk 902 (AObj.cells [(vI e)] 29 false 1))]))))))) := by kernel_rfl
def wt4 (cap : Nat) (lo hi e x y z u : Int) (K : Value → Blocks → Prop) : Prop := wpFn Tryz.prog hF (fun _ _ _ => False) 6 102 #[.slice (some ⟨900, 0, none⟩) 4 cap, P1 901 0, P1 902 0] (heapOf ((900, .cells [vI x, vI y, vI z, vI u] 3 false 1) :: wl lo hi e)) (stateK K)
theorem wt4_text (cap : Nat) (lo : Int) (hi : Int) (e : Int) (x : Int) (y : Int) (z : Int) (u : Int) (K : Go.Value → Blocks → Prop) : wt4 cap lo hi e x y z u K =
 (bcase (decide (x < lo))
 (K (vI e) [(Prod.mk 900 (AObj.cells [(vI x), (vI y), (vI z), (vI u)] 3 false 1)), (Prod.mk 901 (AObj.cells [(vI lo), (vI hi)] 58 false 1)), (Prod.mk 902 (AObj.cells [(vI e)] 29 false 1))])
 (bcase (decide (x > hi))
 (K (vI e) [(Prod.mk 900 (AObj.cells [(vI x), (vI y), (vI z), (vI u)] 3 false 1)), (Prod.mk 901 (AObj.cells [(vI lo), (vI hi)] 58 false 1)), (Prod.mk 902 (AObj.cells [(vI e)] 29 false 1))])
 (bcase (decide (y < lo))
 (K (vI e) [(Prod.mk 900 (AObj.cells [(vI x), (vI y), (vI z), (vI u)] 3 false 1)), (Prod.mk 901 (AObj.cells [(vI lo), (vI hi)] 58 false 1)), (Prod.mk 902 (AObj.cells [(vI e)] 29 false 1))])
 (bcase (decide (y > hi))
 (K (vI e) [(Prod.mk 900 (AObj.cells [(vI x), (vI y), (vI z), (vI u)] 3 false 1)), (Prod.mk 901 (AObj.cells [(vI lo), (vI hi)] 58 false 1)), (Prod.mk 902 (AObj.cells [(vI e)] 29 false 1))])
 (bcase (decide (z < lo))
 (K (vI e) [(Prod.mk 900 (AObj.cells [(vI x), (vI y), (vI z), (vI u)] 3 false 1)), (Prod.mk 901 (AObj.cells [(vI lo), (vI hi)] 58 false 1)), (Prod.mk 902 (AObj.cells [(vI e)] 29 false 1))])
 (bcase (decide (z > hi))
 (K (vI e) [(Prod.mk 900 (AObj.cells [(vI x), (vI y), (vI z), (vI u)] 3 false 1)), (Prod.mk 901 (AObj.cells [(vI lo), (vI hi)] 58 false 1)), (Prod.mk 902 (AObj.cells [(vI e)] 29 false 1))])
 (bcase (decide (u < lo))
 (K (vI e) [(Prod.mk 900 (AObj.cells [(vI x), (vI y), (vI z), (vI u)] 3 false 1)), (Prod.mk 901 (AObj.cells [(vI lo), (vI hi)] 58 false 1)), (Prod.mk 902 (AObj.cells [(vI e)] 29 false 1))])
 (bcase (decide (u > hi))
 (K (vI e) [(Prod.mk 900 (AObj.cells [(vI x), (vI y), (vI z), (vI u)] 3 false 1)), (Prod.mk 901 (AObj.cells [(vI lo), (vI hi)] 58 false 1)), (Prod.mk 902 (AObj.cells [(vI e)] 29 false 1))])
 (K (vI (0 : Int)) [(Prod.mk 900 (AObj.cells [(vI x), (vI y), (vI z), (vI u)] 3 false 1)), (Prod.mk 901 (AObj.cells [(vI lo), (vI hi)] 58 false 1)), (Prod.mk 902 (AObj.cells [(vI e)] 29 false 1))]))))))))) := by kernel_rfl
def wt5 (cap : Nat) (lo hi e x y z u v : Int) (K : Value → Blocks → Prop) : Prop := wpFn Tryz.prog hF (fun _ _ _ => False) 6 102 #[.slice (some ⟨900, 0, none⟩) 5 cap, P1 901 0, P1 902 0] (heapOf ((900, .cells [vI x, vI y, vI z, vI u, vI v] 3 false 1) :: wl lo hi e)) (stateK K)
theorem wt5_text (cap : Nat) (lo : Int) (hi : Int) (e : Int) (x : Int) (y : Int) (z : Int) (u : Int) (v : Int) (K : Go.Value → Blocks → Prop) : wt5 cap lo hi e x y z u v K =
 (bcase (decide (x < lo))
 (K (vI e) [(Prod.mk 900 (AObj.cells [(vI x), (vI y), (vI z), (vI u), (vI v)] 3 false 1)), (Prod.mk 901 (AObj.cells [(vI lo), (vI hi)] 58 false 1)), (Prod.mk 902 (AObj.cells [(vI e)] 29 false 1))])
 (bcase (decide (x > hi))
 (K (vI e) [(Prod.mk 900 (AObj.cells [(vI x), (vI y), (vI z), (vI u), (vI v)] 3 false 1)), (Prod.mk 901 (AObj.cells [(vI lo), (vI hi)] 58 false 1)), (Prod.mk 902 (AObj.cells [(vI e)] 29 false 1))])
 (bcase (decide (y < lo))
 (K (vI e) [(Prod.mk 900 (AObj.cells [(vI x), (vI y), (vI z), (vI u), (vI v)] 3 false 1)), (Prod.mk 901 (AObj.cells [(vI lo), (vI hi)] 58 false 1)), (Prod.mk 902 (AObj.cells [(vI e)] 29 false 1))])
 (bcase (decide (y > hi))
 (K (vI e) [(Prod.mk 900 (AObj.cells [(vI x), (vI y), (vI z), (vI u), (vI v)] 3 false 1)), (Prod.mk 901 (AObj.cells [(vI lo), (vI hi)] 58 false 1)), (Prod.mk 902 (AObj.cells [(vI e)] 29 false 1))])
 (bcase (decide (z < lo))
 (K (vI e) [(Prod.mk 900 (AObj.cells [(vI x), (vI y), (vI z), (vI u), (vI v)] 3 false 1)), (Prod.mk 901 (AObj.cells [(vI lo), (vI hi)] 58 false 1)), (Prod.mk 902 (AObj.cells [(vI e)] 29 false 1))])
 (bcase (decide (z > hi))
 (K (vI e) [(Prod.mk 900 (AObj.cells [(vI x), (vI y), (vI z), (vI u), (vI v)] 3 false 1)), (Prod.mk 901 (AObj.cells [(vI lo), (vI hi)] 58 false 1)), (Prod.mk 902 (AObj.cells [(vI e)] 29 false 1))])
 (bcase (decide (u < lo))
 (K (vI e) [(Prod.mk 900 (AObj.cells [(vI x), (vI y), (vI z), (vI u), (vI v)] 3 false 1)), (Prod.mk 901 (AObj.cells [(vI lo), (vI hi)] 58 false 1)), (Prod.mk 902 (AObj.cells [(vI e)] 29 false 1))])
 (bcase (decide (u > hi))
 (K (vI e) [(Prod.mk 900 (AObj.cells [(vI x), (vI y), (vI z), (vI u), (vI v)] 3 false 1)), (Prod.mk 901 (AObj.cells [(vI lo), (vI hi)] 58 false 1)), (Prod.mk 902 (AObj.cells [(vI e)] 29 false 1))])
 (bcase (decide (v < lo))
 (K (vI e) [(Prod.mk 900 (AObj.cells [(vI x), (vI y), (vI z), (vI u), (vI v)] 3 false 1)), (Prod.mk 901 (AObj.cells [(vI lo), (vI hi)] 58 false 1)), (Prod.mk 902 (AObj.cells [(vI e)] 29 false 1))])
 (bcase (decide (v > hi))
 (K (vI e) [(Prod.mk 900 (AObj.cells [(vI x), (vI y), (vI z), (vI u), (vI v)] 3 false 1)), (Prod.mk 901 (AObj.cells [(vI lo), (vI hi)] 58 false 1)), (Prod.mk 902 (AObj.cells [(vI e)] 29 false 1))])
 (K (vI (0 : Int)) [(Prod.mk 900 (AObj.cells [(vI x), (vI y), (vI z), (vI u), (vI v)] 3 false 1)), (Prod.mk 901 (AObj.cells [(vI lo), (vI hi)] 58 false 1)), (Prod.mk 902 (AObj.cells [(vI e)] 29 false 1))]))))))))))) := by kernel_rfl
def wt0 (lo hi e : Int) (K : Value → Blocks → Prop) : Prop := wpFn Tryz.prog hF (fun _ _ _ => False) 6 102 #[.slice none 0 0, P1 900 0, P1 901 0] (heapOf (wm lo hi e)) (stateK K)
theorem wt0_text (lo : Int) (hi : Int) (e : Int) (K : Go.Value → Blocks → Prop) : wt0 lo hi e K =
 (K (vI (0 : Int)) [(Prod.mk 900 (AObj.cells [(vI lo), (vI hi)] 58 false 1)), (Prod.mk 901 (AObj.cells [(vI e)] 29 false 1))]) := by kernel_rfl
def wtH (L : AtLoop) (lo hi e : Int) (n cap : Nat) (l : List Value) (K : Value → Blocks → Prop) : Prop := wpFn Tryz.prog hF L 0 102 #[.slice (some ⟨500, 0, none⟩) n cap, P1 900 0, P1 901 0] (heapOf ((500, .sym l false 1) :: wm lo hi e)) (stateK K)
theorem wtH_text (L : AtLoop) (lo : Int) (hi : Int) (e : Int) (n : Nat) (cap : Nat) (l : List Go.Value) (K : Go.Value → Blocks → Prop) : wtH L lo hi e n cap l K =
 (L 0 [(Prod.mk 1 (Go.Value.pointer (Option.some (Go.Addr.mk 900 0 Option.none)))), (Prod.mk 2 (Go.Value.pointer (Option.some (Go.Addr.mk 901 0 Option.none)))), (Prod.mk 7 (Go.Value.slice (Option.some (Go.Addr.mk 500 0 Option.none)) (n) (cap))), (Prod.mk 8 (vI ((↑n : Int)))), (Prod.mk 9 (vI (0 : Int)))] [(Prod.mk 900 (AObj.cells [(vI lo), (vI hi)] 58 false 1)), (Prod.mk 901 (AObj.cells [(vI e)] 29 false 1)), (Prod.mk 500 (AObj.sym (l) false 1))]) := by kernel_rfl
def wtO (L : AtLoop) (lo hi e : Int) (n cap : Nat) (l : List Value) (K : Value → Blocks → Prop) : Prop := wpFn Tryz.prog hF L 0 102 #[.slice (some ⟨900, 0, none⟩) n cap, P1 901 0, P1 902 0] (heapOf ((900, .sym l true 1) :: wl lo hi e)) (stateK K)
theorem wtO_text (L : AtLoop) (lo : Int) (hi : Int) (e : Int) (n : Nat) (cap : Nat) (l : List Go.Value) (K : Go.Value → Blocks → Prop) : wtO L lo hi e n cap l K =
 (L 0 [(Prod.mk 1 (Go.Value.pointer (Option.some (Go.Addr.mk 901 0 Option.none)))), (Prod.mk 2 (Go.Value.pointer (Option.some (Go.Addr.mk 902 0 Option.none)))), (Prod.mk 7 (Go.Value.slice (Option.some (Go.Addr.mk 900 0 Option.none)) (n) (cap))), (Prod.mk 8 (vI ((↑n : Int)))), (Prod.mk 9 (vI (0 : Int)))] [(Prod.mk 901 (AObj.cells [(vI lo), (vI hi)] 58 false 1)), (Prod.mk 902 (AObj.cells [(vI e)] 29 false 1)), (Prod.mk 900 (AObj.sym (l) true 1))]) := by kernel_rfl
def sWH (n cap : Nat) (i : Int) : Slots := [(1, P1 900 0), (2, P1 901 0), (7, .slice (some ⟨500, 0, none⟩) n cap), (8, .int .i64 n), (9, vI i)]
def bWH (lo hi e : Int) (l : List Value) : Blocks := [(900, .cells [vI lo, vI hi] 58 false 1), (901, .cells [vI e] 29 false 1), (500, .sym l false 1)]
def rWH (L : AtLoop) (lo hi e : Int) (n cap : Nat) (l : List Value) (i : Int) (B : Bx) (X : Xx) (K : Value → Blocks → Prop) : Prop := wpRound Tryz.prog hF L 102 0 (sWH n cap i) (bWH lo hi e l) B X (stateK K)
theorem rWH_text (L : AtLoop) (lo : Int) (hi : Int) (e : Int) (n : Nat) (cap : Nat) (l : List Go.Value) (i : Int) (B : Bx) (X : Xx) (K : Go.Value → Blocks → Prop) : rWH L lo hi e n cap l i B X K =
 (bcase (decide (i < (↑n : Int)))
 (bcase (decide (0 ≤ i))
 (bcase (decide (i < (↑n : Int)))
 (∃ n1 : Int,
 ((At (l) (0 + Int.toNat i * 1) 1 [(vI n1)]) ∧
 (bcase (decide (n1 < lo))
 (K (vI e) [(Prod.mk 900 (AObj.cells [(vI lo), (vI hi)] 58 false 1)), (Prod.mk 901 (AObj.cells [(vI e)] 29 false 1))])
 (bcase (decide (n1 > hi))
 (K (vI e) [(Prod.mk 900 (AObj.cells [(vI lo), (vI hi)] 58 false 1)), (Prod.mk 901 (AObj.cells [(vI e)] 29 false 1))])
 (B [(Prod.mk 1 (Go.Value.pointer (Option.some (Go.Addr.mk 900 0 Option.none)))), (Prod.mk 2 (Go.Value.pointer (Option.some (Go.Addr.mk 901 0 Option.none)))), (Prod.mk 7 (Go.Value.slice (Option.some (Go.Addr.mk 500 0 Option.none)) (n) (cap))), (Prod.mk 8 (vI ((↑n : Int)))), (Prod.mk 9 (vI (IntKind.wrap .i64 (i + 1))))] [(Prod.mk 900 (AObj.cells [(vI lo), (vI hi)] 58 false 1)), (Prod.mk 901 (AObj.cells [(vI e)] 29 false 1)), (Prod.mk 500 (AObj.sym (l) false 1))])))))
 False)
 False)
 (X 0 [] [(Prod.mk 900 (AObj.cells [(vI lo), (vI hi)] 58 false 1)), (Prod.mk 901 (AObj.cells [(vI e)] 29 false 1))])) := by kernel_rfl
def nWH (L : AtLoop) (lo hi e : Int) (K : Value → Blocks → Prop) : Prop := wpNext Tryz.prog hF L 102 0 .normal [] (wm lo hi e) (stateK K)
theorem nWH_text (L : AtLoop) (lo : Int) (hi : Int) (e : Int) (K : Go.Value → Blocks → Prop) : nWH L lo hi e K =
 (K (vI (0 : Int)) [(Prod.mk 900 (AObj.cells [(vI lo), (vI hi)] 58 false 1)), (Prod.mk 901 (AObj.cells [(vI e)] 29 false 1))]) := by kernel_rfl
def sWO (n cap : Nat) (i : Int) : Slots := [(1, P1 901 0), (2, P1 902 0), (7, .slice (some ⟨900, 0, none⟩) n cap), (8, .int .i64 n), (9, vI i)]
def bWO (lo hi e : Int) (l : List Value) : Blocks := [(901, .cells [vI lo, vI hi] 58 false 1), (902, .cells [vI e] 29 false 1), (900, .sym l true 1)]
def rWO (L : AtLoop) (lo hi e : Int) (n cap : Nat) (l : List Value) (i : Int) (B : Bx) (X : Xx) (K : Value → Blocks → Prop) : Prop := wpRound Tryz.prog hF L 102 0 (sWO n cap i) (bWO lo hi e l) B X (stateK K)
theorem rWO_text (L : AtLoop) (lo : Int) (hi : Int) (e : Int) (n : Nat) (cap : Nat) (l : List Go.Value) (i : Int) (B : Bx) (X : Xx) (K : Go.Value → Blocks → Prop) : rWO L lo hi e n cap l i B X K =
 (bcase (decide (i < (↑n : Int)))
 (bcase (decide (0 ≤ i))
 (bcase (decide (i < (↑n : Int)))
 (∃ n1 : Int,
 ((At (l) (0 + Int.toNat i * 1) 1 [(vI n1)]) ∧
 (bcase (decide (n1 < lo))
 (K (vI e) [(Prod.mk 900 (AObj.sym (l) true 1)), (Prod.mk 901 (AObj.cells [(vI lo), (vI hi)] 58 false 1)), (Prod.mk 902 (AObj.cells [(vI e)] 29 false 1))])
 (bcase (decide (n1 > hi))
 (K (vI e) [(Prod.mk 900 (AObj.sym (l) true 1)), (Prod.mk 901 (AObj.cells [(vI lo), (vI hi)] 58 false 1)), (Prod.mk 902 (AObj.cells [(vI e)] 29 false 1))])
 (B [(Prod.mk 1 (Go.Value.pointer (Option.some (Go.Addr.mk 901 0 Option.none)))), (Prod.mk 2 (Go.Value.pointer (Option.some (Go.Addr.mk 902 0 Option.none)))), (Prod.mk 7 (Go.Value.slice (Option.some (Go.Addr.mk 900 0 Option.none)) (n) (cap))), (Prod.mk 8 (vI ((↑n : Int)))), (Prod.mk 9 (vI (IntKind.wrap .i64 (i + 1))))] [(Prod.mk 901 (AObj.cells [(vI lo), (vI hi)] 58 false 1)), (Prod.mk 902 (AObj.cells [(vI e)] 29 false 1)), (Prod.mk 900 (AObj.sym (l) true 1))])))))
 False)
 False)
 (X 0 [] [(Prod.mk 900 (AObj.sym (l) true 1)), (Prod.mk 901 (AObj.cells [(vI lo), (vI hi)] 58 false 1)), (Prod.mk 902 (AObj.cells [(vI e)] 29 false 1))])) := by kernel_rfl
def nWO (L : AtLoop) (lo hi e : Int) (l : List Value) (K : Value → Blocks → Prop) : Prop := wpNext Tryz.prog hF L 102 0 .normal [] ((900, .sym l true 1) :: wl lo hi e) (stateK K)
theorem nWO_text (L : AtLoop) (lo : Int) (hi : Int) (e : Int) (l : List Go.Value) (K : Go.Value → Blocks → Prop) : nWO L lo hi e l K =
 (K (vI (0 : Int)) [(Prod.mk 900 (AObj.sym (l) true 1)), (Prod.mk 901 (AObj.cells [(vI lo), (vI hi)] 58 false 1)), (Prod.mk 902 (AObj.cells [(vI e)] 29 false 1))]) := by kernel_rfl
end Go.Proofs.G5u

/- The closure of within: whatever it is handed. -/
namespace Go.Proofs.G5u
open Go Go.Abs Go.Proofs
set_option maxRecDepth 100000
theorem witC_out {g : FuncId} {lo hi e r : Int} {n es : Nat} {cs : List Value} (h : Says witC g [.val (.int .i64 lo), .val (.int .i64 hi), .val (.int .i64 e), .sl n es cs] [.val (.int .i64 r)]) : r = witE lo hi e cs := h.out
theorem witC_of {lo hi e : Int} {n : Nat} {cs : List Value} : Says witC 0 [.val (.int .i64 lo), .val (.int .i64 hi), .val (.int .i64 e), .sl n 1 cs] [.val (.int .i64 (witE lo hi e cs))] := ⟨rfl⟩
abbrev WK (lo hi e : Int) (cs : List Value) (bs : Blocks) : Value → Blocks → Prop := fun v b => v = .int .i64 (witE lo hi e cs) ∧ b = bs
theorem wit1 (cap : Nat) (lo hi e x : Int) : wt1 cap lo hi e x (WK lo hi e [vI x] ((900, .cells [vI x] 3 false 1) :: wl lo hi e)) := by
  rw [wt1_text]; unfold WK
  repeat' refine bc_dec (fun _ => ?_) (fun _ => ?_)
  all_goals refine ⟨congrArg (Value.int .i64) ?_, rfl⟩
  all_goals (simp only [witE]; repeat' split)
  all_goals first | rfl | omega
theorem wit2 (cap : Nat) (lo hi e x y : Int) : wt2 cap lo hi e x y (WK lo hi e [vI x, vI y] ((900, .cells [vI x, vI y] 3 false 1) :: wl lo hi e)) := by
  rw [wt2_text]; unfold WK
  repeat' refine bc_dec (fun _ => ?_) (fun _ => ?_)
  all_goals refine ⟨congrArg (Value.int .i64) ?_, rfl⟩
  all_goals (simp only [witE]; repeat' split)
  all_goals first | rfl | omega
theorem wit3 (cap : Nat) (lo hi e x y z : Int) : wt3 cap lo hi e x y z (WK lo hi e [vI x, vI y, vI z] ((900, .cells [vI x, vI y, vI z] 3 false 1) :: wl lo hi e)) := by
  rw [wt3_text]; unfold WK
  repeat' refine bc_dec (fun _ => ?_) (fun _ => ?_)
  all_goals refine ⟨congrArg (Value.int .i64) ?_, rfl⟩
  all_goals (simp only [witE]; repeat' split)
  all_goals first | rfl | omega
theorem wit4 (cap : Nat) (lo hi e x y z u : Int) : wt4 cap lo hi e x y z u (WK lo hi e [vI x, vI y, vI z, vI u] ((900, .cells [vI x, vI y, vI z, vI u] 3 false 1) :: wl lo hi e)) := by
  rw [wt4_text]; unfold WK
  repeat' refine bc_dec (fun _ => ?_) (fun _ => ?_)
  all_goals refine ⟨congrArg (Value.int .i64) ?_, rfl⟩
  all_goals (simp only [witE]; repeat' split)
  all_goals first | rfl | omega
theorem wit5 (cap : Nat) (lo hi e x y z u v : Int) : wt5 cap lo hi e x y z u v (WK lo hi e [vI x, vI y, vI z, vI u, vI v] ((900, .cells [vI x, vI y, vI z, vI u, vI v] 3 false 1) :: wl lo hi e)) := by
  rw [wt5_text]; unfold WK
  repeat' refine bc_dec (fun _ => ?_) (fun _ => ?_)
  all_goals refine ⟨congrArg (Value.int .i64) ?_, rfl⟩
  all_goals (simp only [witE]; repeat' split)
  all_goals first | rfl | omega
theorem wit0 (lo hi e : Int) : wt0 lo hi e (fun v b => v = .int .i64 0 ∧ b = wm lo hi e) := by
  rw [wt0_text]; exact ⟨rfl, rfl⟩
theorem witE_drop {lo hi e : Int} (l : List Int) (i : Nat) (h : i < l.length) : witE lo hi e (vi (l.drop i)) = if l[i] < lo ∨ l[i] > hi then e else witE lo hi e (vi (l.drop (i + 1))) := by
  rw [List.drop_eq_getElem_cons h]; rfl
theorem witH (cap : Nat) (lo hi e : Int) (l : List Int) (hlen : l.length < 1000000000) : CallS Tryz.prog 102 [.slice (some ⟨500, 0, none⟩) l.length cap, P1 900 0, P1 901 0] ((500, .sym (vi l) false 1) :: wm lo hi e) (WK lo hi e (vi l) (wm lo hi e)) := by
  let inv : Nat → Prop := fun i => i ≤ l.length ∧ witE lo hi e (vi l) = witE lo hi e (vi (l.drop i))
  let st : Nat → Slots × Blocks := fun i => (sWH l.length cap i, bWH lo hi e (vi l))
  refine callS_ofG (L := fun _ s b => ∃ x, inv x ∧ st x = (s, b)) falseH_ok mixed Tryz.func102 rfl rfl (ids := [0]) (by kernel_rfl) rfl ?_ (fun id hid => ?_)
  · show wtH _ lo hi e l.length cap (vi l) _
    rw [wtH_text]
    exact ⟨0, ⟨Nat.zero_le _, rfl⟩, rfl⟩
  · obtain rfl := List.mem_singleton.1 hid
    refine ⟨_, st, inv, fun i => l.length - i, ⟨fun s b h => h, by kernel_rfl, ?_⟩⟩
    rintro i ⟨hi', hm⟩
    show rWH _ lo hi e l.length cap (vi l) (i : Int) _ _ _
    rw [rWH_text]
    refine bc_dec (fun h => ?_) (fun h => ?_)
    · have hi2 : i < l.length := by omega
      rw [witE_drop l i hi2] at hm
      simp only [bc_t h, bc_t (show (0 : Int) ≤ (i : Int) by omega), Int.toNat_natCast, at1 (vi_at l i hi2)]
      refine bc_dec (fun h1 => ?_) (fun h1 => bc_dec (fun h2 => ?_) (fun h2 => ?_))
      · rw [if_pos (.inl h1)] at hm; exact ⟨by rw [hm], rfl⟩
      · rw [if_pos (.inr h2)] at hm; exact ⟨by rw [hm], rfl⟩
      · rw [if_neg (by omega)] at hm
        refine ⟨i + 1, ⟨hi2, hm⟩, by omega, ?_⟩
        rw [w64 (by omega) (by omega)]; rfl
    · show (if 0 = 0 then _ else _)
      rw [if_pos rfl]
      show nWH _ lo hi e _
      rw [nWH_text]
      have : i = l.length := by omega
      rw [this, List.drop_length] at hm
      exact ⟨by rw [hm]; rfl, rfl⟩
theorem witO (cap : Nat) (lo hi e : Int) (l : List Int) (hlen : l.length < 1000000000) : CallS Tryz.prog 102 [.slice (some ⟨900, 0, none⟩) l.length cap, P1 901 0, P1 902 0] ((900, .sym (vi l) true 1) :: wl lo hi e) (WK lo hi e (vi l) ((900, .sym (vi l) true 1) :: wl lo hi e)) := by
  let inv : Nat → Prop := fun i => i ≤ l.length ∧ witE lo hi e (vi l) = witE lo hi e (vi (l.drop i))
  let st : Nat → Slots × Blocks := fun i => (sWO l.length cap i, bWO lo hi e (vi l))
  refine callS_ofG (L := fun _ s b => ∃ x, inv x ∧ st x = (s, b)) falseH_ok mixed Tryz.func102 rfl rfl (ids := [0]) (by kernel_rfl) rfl ?_ (fun id hid => ?_)
  · show wtO _ lo hi e l.length cap (vi l) _
    rw [wtO_text]
    exact ⟨0, ⟨Nat.zero_le _, rfl⟩, rfl⟩
  · obtain rfl := List.mem_singleton.1 hid
    refine ⟨_, st, inv, fun i => l.length - i, ⟨fun s b h => h, by kernel_rfl, ?_⟩⟩
    rintro i ⟨hi', hm⟩
    show rWO _ lo hi e l.length cap (vi l) (i : Int) _ _ _
    rw [rWO_text]
    refine bc_dec (fun h => ?_) (fun h => ?_)
    · have hi2 : i < l.length := by omega
      rw [witE_drop l i hi2] at hm
      simp only [bc_t h, bc_t (show (0 : Int) ≤ (i : Int) by omega), Int.toNat_natCast, at1 (vi_at l i hi2)]
      refine bc_dec (fun h1 => ?_) (fun h1 => bc_dec (fun h2 => ?_) (fun h2 => ?_))
      · rw [if_pos (.inl h1)] at hm; exact ⟨by rw [hm], rfl⟩
      · rw [if_pos (.inr h2)] at hm; exact ⟨by rw [hm], rfl⟩
      · rw [if_neg (by omega)] at hm
        refine ⟨i + 1, ⟨hi2, hm⟩, by omega, ?_⟩
        rw [w64 (by omega) (by omega)]; rfl
    · show (if 0 = 0 then _ else _)
      rw [if_pos rfl]
      show nWO _ lo hi e (vi l) _
      rw [nWO_text]
      have : i = l.length := by omega
      rw [this, List.drop_length] at hm
      exact ⟨by rw [hm]; rfl, rfl⟩
theorem wit_run {args : List Value} {bs : Blocks} {lo hi e : Int} {n : Nat} {cs : List Value} {bs' : Blocks} {K : Value → Blocks → Prop} (h1 : CallS Tryz.prog 102 args bs (WK lo hi e cs bs')) (h2 : witOut lo hi e n cs bs' K) : CallS Tryz.prog 102 args bs K := by
  refine callS_mono h1 ?_
  rintro v b ⟨rfl, rfl⟩
  obtain ⟨r, hr, hK⟩ := h2
  rw [← witC_out hr]; exact hK
theorem wit_ok {args : List Value} {bs : Blocks} {K : Value → Blocks → Prop} (hk : witAll 3 58 29 args bs K) : CallS Tryz.prog 102 args bs K := by
  have wk : ∀ {args : List Value} {bs : Blocks} {K : Value → Blocks → Prop}, wpFn Tryz.prog hF (fun _ _ _ => False) 6 102 args.toArray (heapOf bs) (stateK K) → CallS Tryz.prog 102 args bs K := fun h => callS_walk falseH_ok mixed (by decide) Tryz.func102 rfl h
  unfold witAll at hk
  split at hk
  · split at hk
    · rename_i hc
      simp only [Bool.and_eq_true, beq_iff_eq] at hc
      obtain ⟨⟨⟨⟨⟨⟨⟨⟨rfl, rfl⟩, rfl⟩, rfl⟩, rfl⟩, rfl⟩, rfl⟩, rfl⟩, rfl⟩ := hc
      split at hk
      · split at hk
        · rename_i hd
          simp only [Bool.and_eq_true, beq_iff_eq] at hd
          obtain ⟨⟨⟨⟨⟨⟨rfl, rfl⟩, rfl⟩, rfl⟩, rfl⟩, rfl⟩, hm⟩ := hd
          split at hk
          · subst hm; exact wit_run (wk (wit1 _ _ _ _ _)) hk
          · subst hm; exact wit_run (wk (wit2 _ _ _ _ _ _)) hk
          · subst hm; exact wit_run (wk (wit3 _ _ _ _ _ _ _)) hk
          · subst hm; exact wit_run (wk (wit4 _ _ _ _ _ _ _ _)) hk
          · subst hm; exact wit_run (wk (wit5 _ _ _ _ _ _ _ _ _)) hk
          · exact hk.elim
        · exact hk.elim
      · split at hk
        · rename_i hd
          simp only [Bool.and_eq_true, beq_iff_eq] at hd
          obtain ⟨⟨⟨⟨rfl, rfl⟩, rfl⟩, rfl⟩, rfl⟩ := hd
          obtain ⟨l, rfl, rfl, hl, hk⟩ := hk
          exact wit_run (witH _ _ _ _ l hl) hk
        · split at hk
          · rename_i hd
            simp only [Bool.and_eq_true, beq_iff_eq] at hd
            obtain ⟨⟨⟨⟨rfl, rfl⟩, rfl⟩, rfl⟩, rfl⟩ := hd
            obtain ⟨l, rfl, rfl, hl, hk⟩ := hk
            exact wit_run (witO _ _ _ _ l hl) hk
          · exact hk.elim
      · exact hk.elim
    · exact hk.elim
  · split at hk
    · rename_i hc
      simp only [Bool.and_eq_true, beq_iff_eq] at hc
      obtain ⟨⟨⟨⟨⟨⟨⟨⟨⟨rfl, rfl⟩, rfl⟩, rfl⟩, rfl⟩, rfl⟩, rfl⟩, rfl⟩, rfl⟩, rfl⟩ := hc
      refine callS_mono (wk (wit0 _ _ _)) ?_
      rintro v b ⟨rfl, rfl⟩
      exact hk
    · exact hk.elim
  · exact hk.elim
end Go.Proofs.G5u

/- Chapter 5: loops and their strings: small functions, in data. -/
namespace Go.Proofs.G5u
open Go Go.Abs Go.Proofs Go.Str
set_option maxRecDepth 100000
theorem ite_so {c : Prop} [Decidable c] {α : Type} {x h : α} {r : Option α} (e : (if c then some x else r) = some h) : (c ∧ x = h) ∨ r = some h := by
  by_cases hc : c
  · rw [if_pos hc] at e; exact .inl ⟨hc, Option.some.inj e⟩
  · rw [if_neg hc] at e; exact .inr e
theorem preGOK : PreOK Tryz.prog (preG C5) := by
  intro g h he args ats H k hk
  unfold preG at he
  rcases ite_so he with ⟨e, rfl⟩ | he
  · rw [beq_iff_eq] at e
    subst e
    exact wpState_call (fun args bs K hk => wit_ok hk) hk
  rcases ite_so he with ⟨e, rfl⟩ | he
  · exact saidH_ok (fun _ _ _ h => h) _ _ _ _ _ hk
  rcases ite_so he with ⟨e, rfl⟩ | he
  · exact fixH_ok (fun _ _ _ h => h) _ _ _ _ _ hk
  · cases he
theorem hokG : HandlerOK Tryz.prog (hG C5) := handlerX_ok mixed preGOK (by decide) 6
theorem sayOr {f : FuncId} {args : List D} {b : Bool} {A B : Prop} (h : C5 f args [dB b]) (h1 : b = true → A) (h2 : b = false → B) : (Says C5 f args [.val (.bool true)] ∧ A) ∨ (Says C5 f args [.val (.bool false)] ∧ B) := by
  cases b with
  | true => exact .inl ⟨⟨h⟩, h1 rfl⟩
  | false => exact .inr ⟨⟨h⟩, h2 rfl⟩
theorem sayOr3 {f : FuncId} {args : List D} {x y : D} {b : Bool} {A B : Prop} (h : C5 f args [x, y, dB b]) (h1 : b = true → A) (h2 : b = false → B) : (Says C5 f args [x, y, .val (.bool true)] ∧ A) ∨ (Says C5 f args [x, y, .val (.bool false)] ∧ B) := by
  cases b with
  | true => exact .inl ⟨⟨h⟩, h1 rfl⟩
  | false => exact .inr ⟨⟨h⟩, h2 rfl⟩
theorem sayOr2 {f : FuncId} {args : List D} {x : D} {b : Bool} {A B : Prop} (h : C5 f args [x, dB b]) (h1 : b = true → A) (h2 : b = false → B) : (Says C5 f args [x, .val (.bool true)] ∧ A) ∨ (Says C5 f args [x, .val (.bool false)] ∧ B) := by
  cases b with
  | true => exact .inl ⟨⟨h⟩, h1 rfl⟩
  | false => exact .inr ⟨⟨h⟩, h2 rfl⟩
theorem conFE (l : List Int) (hlen : l.length < 1000000000) : C5 34 [.sl l.length 1 (vi l)] [dI (fst0 l)] := by
  let inv : Nat × Nat → Prop := fun x => x.1 ≤ l.length ∧ fst0 l = fst0 (l.drop x.1)
  let st : Nat × Nat → Slots × Blocks := fun x => zFE1 l.length x.2 l.length x.1 (vi l)
  refine con_of (L := fun _ s b => ∃ x, inv x ∧ st x = (s, b)) hokG mixed Tryz.func34 rfl (by show 1 ≤ 400; omega) rfl (ids := [0]) (by kernel_rfl) rfl (fun caps => ?_) (fun id hid => ?_)
  · show gFE _ _ l.length (caps 500) (vi l) _
    rw [gFE_text]
    exact ⟨(0, caps 500), ⟨by simp, rfl⟩, rfl⟩
  · obtain rfl := List.mem_singleton.1 hid
    refine ⟨Nat × Nat, st, inv, fun x => l.length - x.1, ⟨fun s b h => h, by kernel_rfl, ?_⟩⟩
    rintro ⟨i, cap⟩ ⟨hi, hr⟩
    simp only at hi hr
    show rFE1 _ _ l.length cap l.length i (vi l) _ _ _
    rw [rFE1_text]
    refine bc_dec (fun h => ?_) (fun h => ?_)
    · have hi' : i < l.length := by omega
      rw [List.drop_eq_getElem_cons hi', fst0] at hr
      simp only [bc_t h, bc_t (show (0 : Int) ≤ (i : Int) by omega), Int.toNat_natCast, at1 (vi_at l i hi')]
      refine bc_bne (fun hc => ?_) (fun hc => ?_)
      · rw [if_neg hc] at hr
        show [dI l[i]] = [dI (fst0 l)]
        rw [hr]
      · rw [if_pos hc] at hr
        refine ⟨(i + 1, cap), ⟨by show i + 1 ≤ l.length; omega, hr⟩, by show l.length - (i + 1) < l.length - i; omega, ?_⟩
        rw [w64 (by omega) (by omega)]; rfl
    · show (if 0 = 0 then _ else _)
      rw [if_pos rfl]
      show nFE2 _ _ _
      rw [nFE2_text]
      have : i = l.length := by omega
      rw [this, List.drop_length] at hr
      show [dI 0] = [dI (fst0 l)]
      rw [hr]; rfl
abbrev Pr := Int × Int
/-- a loop as data -/
abbrev dL (l : List Pr) (den : Int) : D := .agg [.sl l.length 2 (vp l), dI den]
theorem conKC (n most : Int) : C5 64 [dI n, dI most] [dI (if n = 0 then 10 else if n > most then 8 else 0)] := by
  refine con_flat hokG mixed Tryz.func64 rfl (by show 0 ≤ 400; omega) rfl (by kernel_rfl) (fun caps => ?_)
  show gKC _ _ n most _
  rw [gKC_text]
  refine bc_beq (fun h => by rw [if_pos h]) (fun h => ?_)
  rw [if_neg h]
  exact bc_dec (fun h2 => by rw [if_pos h2]) (fun h2 => by rw [if_neg h2])
/-- one range is in order -/
theorem conKE (a b : Int) : C5 65 [.sl 1 2 [vI a, vI b]] [dI (if a > b then 9 else 0)] := by
  let inv : Nat × Nat → Prop := fun x => x.1 = 0 ∨ (x.1 = 1 ∧ ¬ a > b)
  let st : Nat × Nat → Slots × Blocks := fun x => zKE1 1 x.2 1 x.1 [vI a, vI b]
  refine con_of (L := fun _ s b => ∃ x, inv x ∧ st x = (s, b)) hokG mixed Tryz.func65 rfl (by show 1 ≤ 400; omega) rfl (ids := [0]) (by kernel_rfl) rfl (fun caps => ?_) (fun id hid => ?_)
  · show gKE _ _ 1 (caps 500) [vI a, vI b] _
    rw [gKE_text]
    exact ⟨(0, caps 500), .inl rfl, rfl⟩
  · obtain rfl := List.mem_singleton.1 hid
    refine ⟨Nat × Nat, st, inv, fun x => 1 - x.1, ⟨fun s b h => h, by kernel_rfl, ?_⟩⟩
    rintro ⟨i, cap⟩ h
    show rKE1 _ _ 1 cap 1 i [vI a, vI b] _ _ _
    rw [rKE1_text]
    rcases h with h | ⟨h, hab⟩
    · have h : i = 0 := h
      subst h
      have hat : At [vI a, vI b] (0 + 0 * 2) 2 [vI a, vI b] := ⟨by simp, rfl⟩
      refine bc_yes (by decide) (bc_yes (by decide) (bc_yes (by decide) ?_))
      rw [show (0 + Int.toNat ((0 : Nat) : Int) * 2) = 0 + 0 * 2 from rfl, at2 hat]
      refine bc_dec (fun h => by rw [if_pos h]) (fun h => ?_)
      exact ⟨(1, cap), .inr ⟨rfl, h⟩, by show 1 - 1 < 1 - 0; decide, rfl⟩
    · have h : i = 1 := h
      subst h
      refine bc_no (by decide) ?_
      show (if 0 = 0 then _ else _)
      rw [if_pos rfl]
      show nKE2 _ _ _
      rw [nKE2_text, if_neg hab]
/-- the first error of the ranges -/
def rgOk (p : Pr) : Prop := (-10 ≤ p.1 ∧ p.1 ≤ 10) ∧ -10 ≤ p.2 ∧ p.2 ≤ 10
instance (p : Pr) : Decidable (rgOk p) := by unfold rgOk; infer_instance
def rgE (p : Pr) : Int := if rgOk p then (if p.1 > p.2 then 9 else 0) else 2
def rgsE : List Pr → Int
  | [] => 0
  | p :: r => if rgE p = 0 then rgsE r else rgE p
theorem rgsE_0 : ∀ {l : List Pr}, rgsE l = 0 ↔ ∀ p ∈ l, rgE p = 0
  | [] => by simp [rgsE]
  | p :: r => by
    unfold rgsE
    split
    · next h => rw [rgsE_0]; simp [h]
    · next h => simp [h]
def loopE (l : List Pr) (den : Int) : Int := if l.length = 0 then 10 else if 3 < l.length then 8 else if rgsE l = 0 then (if 1 ≤ den ∧ den ≤ 10 then 0 else 2) else rgsE l
theorem wit2E (a b : Int) : witE (-(9 + 1)) 10 2 [vI a, vI b] = if (-10 ≤ a ∧ a ≤ 10) ∧ -10 ≤ b ∧ b ≤ 10 then 0 else 2 := by
  simp only [witE]; repeat' split
  all_goals first | rfl | omega
theorem wit1E (a : Int) : witE 1 10 2 [vI a] = if 1 ≤ a ∧ a ≤ 10 then 0 else 2 := by
  simp only [witE]; repeat' split
  all_goals first | rfl | omega
theorem conCL (l : List Pr) (den : Int) : C5 28 [dL l den] [dI (loopE l den)] := by
  let inv : Nat × Nat → Prop := fun x => x.1 ≤ l.length ∧ (l.length ≠ 0 ∧ l.length ≤ 3) ∧ rgsE l = rgsE (l.drop x.1)
  let st : Nat × Nat → Slots × Blocks := fun x => zCL1 l.length x.2 l.length x.1 l.length x.2 den (vp l)
  refine con_of (L := fun _ s b => ∃ x, inv x ∧ st x = (s, b)) hokG mixed Tryz.func28 rfl (by show 1 ≤ 400; omega) rfl (ids := [0]) (by kernel_rfl) rfl (fun caps => ?_) (fun id hid => ?_)
  · show gCL _ _ l.length (caps 500) (vp l) den _
    rw [gCL_text]
    refine ⟨_, ⟨conKC l.length 3⟩, ?_⟩
    unfold loopE
    by_cases h0 : l.length = 0
    · rw [if_pos (by omega), if_pos h0]
      exact bc_bne (fun _ => rfl) (fun h => absurd h (by decide))
    · rw [if_neg (by omega), if_neg h0]
      by_cases h3 : 3 < l.length
      · rw [if_pos (by omega), if_pos h3]
        exact bc_bne (fun _ => rfl) (fun h => absurd h (by decide))
      · rw [if_neg (by omega)]
        exact bc_bne (fun h => absurd rfl h) (fun _ => ⟨(0, caps 500), ⟨Nat.zero_le _, ⟨h0, by omega⟩, rfl⟩, rfl⟩)
  · obtain rfl := List.mem_singleton.1 hid
    refine ⟨Nat × Nat, st, inv, fun x => l.length - x.1, ⟨fun s b h => h, by kernel_rfl, ?_⟩⟩
    rintro ⟨i, cap⟩ ⟨hi, ⟨h0, h3⟩, hr⟩
    simp only at hi hr
    have hE : loopE l den = if rgsE l = 0 then (if 1 ≤ den ∧ den ≤ 10 then 0 else 2) else rgsE l := by unfold loopE; rw [if_neg h0, if_neg (by omega)]
    show rCL1 _ _ l.length cap l.length i l.length cap den (vp l) _ _ _
    rw [rCL1_text]
    refine bc_dec (fun h => ?_) (fun h => ?_)
    · have hi' : i < l.length := by omega
      rw [List.drop_eq_getElem_cons hi', rgsE] at hr
      simp only [bc_t h, bc_t (show (0 : Int) ≤ (i : Int) by omega), Int.toNat_natCast, at2 (vp_two l i hi'), eq_self, true_and, wi1 hi' (by omega)]
      refine ⟨_, witC_of, _, ⟨conKE _ _⟩, _, ⟨conFE [_, _] (by simp)⟩, ?_⟩
      have e : fst0 [witE (-(9 + 1)) 10 2 [vI l[i].1, vI l[i].2], if l[i].1 > l[i].2 then 9 else 0] = rgE l[i] := by
        rw [fst0_two, wit2E]
        unfold rgE rgOk
        repeat' split
        all_goals first | rfl | omega
      rw [e]
      refine bc_bne (fun hc => ?_) (fun hc => ?_)
      · rw [if_neg hc] at hr
        rw [hE, hr, if_neg hc]
      · rw [if_pos hc] at hr
        exact ⟨(i + 1, cap), ⟨hi', ⟨h0, h3⟩, hr⟩, by show l.length - (i + 1) < l.length - i; omega, rfl⟩
    · show (if 0 = 0 then _ else _)
      rw [if_pos rfl]
      show nCL2 _ _ l.length cap den (vp l) _
      rw [nCL2_text]
      have : i = l.length := by omega
      rw [this, List.drop_length] at hr
      simp only [eq_self, true_and]
      refine ⟨_, witC_of, ?_⟩
      rw [hE, hr, wit1E]; rfl
theorem conLE (l : List Pr) (den : Int) : C5 12 [dL l den] [dI (loopE l den)] := by
  let inv : Nat × Nat → Prop := fun x => x.1 ≤ l.length ∧ (l.length ≠ 0 ∧ l.length ≤ 3) ∧ rgsE l = rgsE (l.drop x.1)
  let st : Nat × Nat → Slots × Blocks := fun x => zLE1 x.1 l.length x.2 den (vp l)
  refine con_of (L := fun _ s b => ∃ x, inv x ∧ st x = (s, b)) hokG mixed Tryz.func12 rfl (by show 1 ≤ 400; omega) rfl (ids := [0]) (by kernel_rfl) rfl (fun caps => ?_) (fun id hid => ?_)
  · show gLE _ _ l.length (caps 500) (vp l) den _
    rw [gLE_text]
    unfold loopE
    refine bc_beq (fun h => by rw [if_pos (by omega)]) (fun h => ?_)
    rw [if_neg (by omega)]
    refine bc_dec (fun h3 => by rw [if_pos (by omega)]) (fun h3 => ?_)
    exact ⟨(0, caps 500), ⟨Nat.zero_le _, ⟨by omega, by omega⟩, rfl⟩, rfl⟩
  · obtain rfl := List.mem_singleton.1 hid
    refine ⟨Nat × Nat, st, inv, fun x => l.length - x.1, ⟨fun s b h => h, by kernel_rfl, ?_⟩⟩
    rintro ⟨i, cap⟩ ⟨hi, ⟨h0, h3⟩, hr⟩
    simp only at hi hr
    have hE : loopE l den = if rgsE l = 0 then (if 1 ≤ den ∧ den ≤ 10 then 0 else 2) else rgsE l := by unfold loopE; rw [if_neg h0, if_neg (by omega)]
    show rLE1 _ _ i l.length cap den (vp l) _ _ _
    rw [rLE1_text]
    refine bc_dec (fun h => ?_) (fun h => ?_)
    · have hi' : i < l.length := by omega
      rw [List.drop_eq_getElem_cons hi', rgsE] at hr
      simp only [bc_t h, bc_t (show (0 : Int) ≤ (i : Int) by omega), Int.toNat_natCast, at2 (vp_two l i hi'), wi1 hi' (by omega)]
      have bad : ∀ e : Int, rgE l[i] = e → e ≠ 0 → [dI e] = [dI (loopE l den)] := fun e h1 h2 => by
        rw [h1, if_neg h2] at hr
        rw [hE, hr, if_neg h2]
      refine sayOr (conWi _ _ _) (fun ha => sayOr (conWi _ _ _) (fun hb => ?_) (fun hb => bad 2 ?_ (by decide))) (fun ha => bad 2 ?_ (by decide))
      · simp only [Bool.and_eq_true, decide_eq_true_eq] at ha hb
        have hok : rgOk l[i] := by unfold rgOk; omega
        refine bc_dec (fun hc => bad 9 ?_ (by decide)) (fun hc => ?_)
        · unfold rgE; rw [if_pos hok, if_pos hc]
        · have h9 : rgE l[i] = 0 := by unfold rgE; rw [if_pos hok, if_neg hc]
          rw [if_pos h9] at hr
          exact ⟨(i + 1, cap), ⟨hi', ⟨h0, h3⟩, hr⟩, by show l.length - (i + 1) < l.length - i; omega, rfl⟩
      · simp only [Bool.and_eq_false_iff, decide_eq_false_iff_not] at hb
        unfold rgE; rw [if_neg (by unfold rgOk; omega)]
      · simp only [Bool.and_eq_false_iff, decide_eq_false_iff_not] at ha
        unfold rgE; rw [if_neg (by unfold rgOk; omega)]
    · show (if 0 = 0 then _ else _)
      rw [if_pos rfl]
      show nLE2 _ _ l.length cap den (vp l) _
      rw [nLE2_text]
      have : i = l.length := by omega
      rw [this, List.drop_length] at hr
      have hr : rgsE l = 0 := hr
      refine sayOr (conWi _ _ _) (fun ha => ?_) (fun ha => ?_)
      · simp only [Bool.and_eq_true, decide_eq_true_eq] at ha
        rw [hE, hr, if_pos rfl, if_pos ha]
      · simp only [Bool.and_eq_false_iff, decide_eq_false_iff_not] at ha
        rw [hE, hr, if_pos rfl, if_neg (by omega)]
theorem conLEn (den : Int) : C5 12 [.agg [.nil, dI den]] [dI 10] := by
  refine con_of (L := fun _ _ _ => False) hokG mixed Tryz.func12 rfl (by show 0 ≤ 400; omega) rfl (ids := [0]) (by kernel_rfl) rfl (fun caps => ?_) (fun id hid => ?_)
  · show gLEn _ _ den _
    rw [gLEn_text]
  · obtain rfl := List.mem_singleton.1 hid
    refine ⟨Unit, fun _ => zCLn1 0 0 den, fun _ => False, fun _ => 0, ⟨?_, by kernel_rfl, ?_⟩⟩
    · rintro s b ⟨⟩
    · rintro _ ⟨⟩
end Go.Proofs.G5u
