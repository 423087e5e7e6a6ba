/- Texts of the proof, put together: GpPT, AbsTab, AbsNum, AbsLow, GStr, GStr2, GStr3, GName, AbsStr, GpP1, GpP2. -/
import Derived.Test.YteadiejdhplokaaP4
import Derived.Test.YteadiejdhplokaaP3
import Derived.Test.YteadiejdhplokaaProg
import Derived.Lib.Join
import Derived.Lib.Split
import Derived.Lib.IndexMore
import Derived.Lib.Strings
import Derived.Lib.ItoaNum
import Derived.Lib.Atoi
/- What is left to show of each function, written out; the kernel reckons it. -/
namespace Go.Proofs.G5p
open Go Go.Abs Go.Proofs
set_option maxRecDepth 100000
set_option linter.unusedVariables false
abbrev vI (n : Int) : Value := .int .i64 n
abbrev Ct := FuncId → List D → List D → Prop
abbrev Bx := Slots → Blocks → Prop
abbrev Xx := Nat → Slots → Blocks → Prop
abbrev Ex := Exit → Slots → Blocks → Prop
abbrev Kh := FuncId → List Value → Blocks → Slots → Blocks → Prop
abbrev hE (C : Ct) : Handler := handlerX Try.prog (fun _ => none) 12 6
def preP (C : Ct) : FuncId → Option Handler := fun g => if [51, 999999].contains g then some (freshH Try.prog g 2) else if g == 69 then some (freshH Try.prog g 4) else if [6, 42, 43, 44, 45, 46, 48, 60, 8, 81, 82, 47, 10, 20, 53, 105, 98, 89, 99, 63, 86, 97, 61, 64, 12, 13, 30, 29, 22, 14, 23, 15, 25, 27, 59, 17, 19, 66, 67, 68, 65, 26, 24, 28, 16, 18, 58, 41, 71, 87, 31, 32, 33].contains g then some (saidH Try.prog C) else none
abbrev hP (C : Ct) : Handler := handlerX Try.prog (preP C) 12 6
def gRO (C : Ct) (L : AtLoop) (x0 : Int) (x1 : Int) (x2 : Int) (x3 : Int) (x4 : Int) (x5 : Int) (n6 : Nat) (c6 : Nat) (l6 : List Value) (x7 : Int) (x8 : Int) (x9 : Int) (x10 : Int) (s11 : ByteArray) (n12 : Nat) (c12 : Nat) (l12 : List Value) (k : List D → Prop) : Prop := wpFn Try.prog (hP C) L 0 12 #[.agg #[.int .i64 x0, .int .i64 x1, .int .i64 x2, .int .i64 x3, .int .i64 x4, .int .i64 x5, .slice (some ⟨500, 0, none⟩) n6 c6, .int .i64 x7, .int .i64 x8, .int .i64 x9, .int .i64 x10], .agg #[.string s11, .slice (some ⟨501, 0, none⟩) n12 c12]] (heapOf [(500, .sym l6 false 5), (501, .sym l12 false 1)]) (dataK k)
theorem gRO_text (C : Ct) (L : AtLoop) (x0 : Int) (x1 : Int) (x2 : Int) (x3 : Int) (x4 : Int) (x5 : Int) (n6 : Nat) (c6 : Nat) (l6 : List Go.Value) (x7 : Int) (x8 : Int) (x9 : Int) (x10 : Int) (s11 : ByteArray) (n12 : Nat) (c12 : Nat) (l12 : List Go.Value) (k : List D → Prop) : gRO C L x0 x1 x2 x3 x4 x5 n6 c6 l6 x7 x8 x9 x10 s11 n12 c12 l12 k =
 (bcase (decide (0 + n6 * 5 ≤ List.length l6))
 (bcase (decide (0 + n12 * 1 ≤ List.length l12))
 (∃ n1 : Int,
 (∃ n2 : Int,
 ((Says C 10 [(D.agg [(D.val (vI x0)), (D.val (vI x1)), (D.val (vI x2)), (D.val (vI x3)), (D.val (vI x4)), (D.val (vI x5)), (D.sl (n6) 5 (List.take (n6 * 5) (List.drop 0 l6))), (D.val (vI x7)), (D.val (vI x8)), (D.val (vI x9)), (D.val (vI x10))]), (D.agg [(D.val (Value.string (s11))), (D.sl (n12) 1 (List.take (n12 * 1) (List.drop 0 l12)))])] [(D.val (vI n1)), (D.val (vI n2))]) ∧
 (bcase (n2 != 0)
 (bcase (n2 != 0)
 (k [D.nil, (D.val (vI n2))])
 (∃ n3 : Nat,
 (∃ out1 : List Go.Value,
 ((GoodFresh Go.Proofs.Try.prog 51 2 [(Value.agg [(vI 0), (vI 0), (vI 0), (vI 0), (vI 0), (vI 0), (Value.slice none 0 0), (vI 0), (vI 0), (vI 0), (vI 0)].toArray), (Value.agg [(Value.string (s11)), (Sl 500 (n12) (c12))].toArray), (Value.func (Go.Fn.func 52) [].toArray [].toArray)] [(Prod.mk 500 (AObj.sym (l12) false 1))] (n3) (out1)) ∧
 (((Qv (n3)) ∧
 ((List.length out1) = (n3 * 2))) ∧
 (k [(D.sl (n3) 2 (out1)), (D.val (vI 0))]))))))
 (∃ n3 : Nat,
 (∃ out1 : List Go.Value,
 ((GoodFresh Go.Proofs.Try.prog 51 2 [(Value.agg [(vI x0), (vI x1), (vI x2), (vI x3), (vI x4), (vI x5), (Sl 500 (n6) (c6)), (vI x7), (vI x8), (vI x9), (vI x10)].toArray), (Value.agg [(Value.string (s11)), (Sl 501 (n12) (c12))].toArray), (Value.func (Go.Fn.func 52) [].toArray [].toArray)] [(Prod.mk 500 (AObj.sym (l6) false 5)), (Prod.mk 501 (AObj.sym (l12) false 1))] (n3) (out1)) ∧
 (((Qv (n3)) ∧
 ((List.length out1) = (n3 * 2))) ∧
 (k [(D.sl (n3) 2 (out1)), (D.val (vI 0))])))))))))
 False)
 False) := by kernel_rfl
def gLO (C : Ct) (L : AtLoop) (x0 : Int) (x1 : Int) (x2 : Int) (x3 : Int) (x4 : Int) (x5 : Int) (n6 : Nat) (c6 : Nat) (l6 : List Value) (x7 : Int) (x8 : Int) (x9 : Int) (x10 : Int) (s11 : ByteArray) (n12 : Nat) (c12 : Nat) (l12 : List Value) (x13 : Int) (k : List D → Prop) : Prop := wpFn Try.prog (hP C) L 0 13 #[.agg #[.int .i64 x0, .int .i64 x1, .int .i64 x2, .int .i64 x3, .int .i64 x4, .int .i64 x5, .slice (some ⟨500, 0, none⟩) n6 c6, .int .i64 x7, .int .i64 x8, .int .i64 x9, .int .i64 x10], .agg #[.string s11, .slice (some ⟨501, 0, none⟩) n12 c12], .int .i64 x13] (heapOf [(500, .sym l6 false 5), (501, .sym l12 false 1)]) (dataK k)
theorem gLO_text (C : Ct) (L : AtLoop) (x0 : Int) (x1 : Int) (x2 : Int) (x3 : Int) (x4 : Int) (x5 : Int) (n6 : Nat) (c6 : Nat) (l6 : List Go.Value) (x7 : Int) (x8 : Int) (x9 : Int) (x10 : Int) (s11 : ByteArray) (n12 : Nat) (c12 : Nat) (l12 : List Go.Value) (x13 : Int) (k : List D → Prop) : gLO C L x0 x1 x2 x3 x4 x5 n6 c6 l6 x7 x8 x9 x10 s11 n12 c12 l12 x13 k =
 (bcase (decide (0 + n6 * 5 ≤ List.length l6))
 (bcase (decide (0 + n12 * 1 ≤ List.length l12))
 (∃ n1 : Int,
 (∃ n2 : Int,
 ((Says C 10 [(D.agg [(D.val (vI x0)), (D.val (vI x1)), (D.val (vI x2)), (D.val (vI x3)), (D.val (vI x4)), (D.val (vI x5)), (D.sl (n6) 5 (List.take (n6 * 5) (List.drop 0 l6))), (D.val (vI x7)), (D.val (vI x8)), (D.val (vI x9)), (D.val (vI x10))]), (D.agg [(D.val (Value.string (s11))), (D.sl (n12) 1 (List.take (n12 * 1) (List.drop 0 l12)))])] [(D.val (vI n1)), (D.val (vI n2))]) ∧
 (bcase (n2 != 0)
 (∃ n3 : Int,
 ((Says C 43 [(D.val (vI 1)), (D.val (vI 1000000)), (D.sl 1 1 [(vI x13)])] [(D.val (vI n3))]) ∧
 (∃ n4 : Int,
 ((Says C 42 [(D.sl 2 1 [(vI n2), (vI n3)])] [(D.val (vI n4))]) ∧
 (bcase (n4 != 0)
 (k [D.nil, (D.val (vI n4))])
 (∃ n5 : Nat,
 (∃ out1 : List Go.Value,
 ((GoodFresh Go.Proofs.Try.prog 51 2 [(Value.agg [(vI 0), (vI 0), (vI 0), (vI 0), (vI 0), (vI 0), (Value.slice none 0 0), (vI 0), (vI 0), (vI 0), (vI 0)].toArray), (Value.agg [(Value.string (s11)), (Sl 500 (n12) (c12))].toArray), (Value.func (Go.Fn.func 55) [].toArray [(Pt 501 0), (Pt 502 0)].toArray)] [(Prod.mk 500 (AObj.sym (l12) false 1)), (Prod.mk 501 (AObj.cells [(vI x13)] 3 false 1)), (Prod.mk 502 (AObj.cells [(vI 0), (vI 0), (vI 0), (vI 0), (vI 0), (vI 0), (Value.slice none 0 0), (vI 0), (vI 0), (vI 0), (vI 0)] 95 false 11))] (n5) (out1)) ∧
 (((Qv (n5)) ∧
 ((List.length out1) = (n5 * 2))) ∧
 (k [(D.sl (n5) 2 (out1)), (D.val (vI 0))]))))))))))
 (∃ n3 : Int,
 ((Says C 43 [(D.val (vI 1)), (D.val (vI 1000000)), (D.sl 1 1 [(vI x13)])] [(D.val (vI n3))]) ∧
 (∃ n4 : Int,
 ((Says C 42 [(D.sl 2 1 [(vI 0), (vI n3)])] [(D.val (vI n4))]) ∧
 (bcase (n4 != 0)
 (k [D.nil, (D.val (vI n4))])
 (∃ n5 : Nat,
 (∃ out1 : List Go.Value,
 ((GoodFresh Go.Proofs.Try.prog 51 2 [(Value.agg [(vI x0), (vI x1), (vI x2), (vI x3), (vI x4), (vI x5), (Sl 500 (n6) (c6)), (vI x7), (vI x8), (vI x9), (vI x10)].toArray), (Value.agg [(Value.string (s11)), (Sl 501 (n12) (c12))].toArray), (Value.func (Go.Fn.func 55) [].toArray [(Pt 502 0), (Pt 503 0)].toArray)] [(Prod.mk 500 (AObj.sym (l6) false 5)), (Prod.mk 501 (AObj.sym (l12) false 1)), (Prod.mk 502 (AObj.cells [(vI x13)] 3 false 1)), (Prod.mk 503 (AObj.cells [(vI x0), (vI x1), (vI x2), (vI x3), (vI x4), (vI x5), (Sl 500 (n6) (c6)), (vI x7), (vI x8), (vI x9), (vI x10)] 95 false 11))] (n5) (out1)) ∧
 (((Qv (n5)) ∧
 ((List.length out1) = (n5 * 2))) ∧
 (k [(D.sl (n5) 2 (out1)), (D.val (vI 0))]))))))))))))))
 False)
 False) := by kernel_rfl
def gFE (C : Ct) (L : AtLoop) (n0 : Nat) (c0 : Nat) (l0 : List Value) (k : List D → Prop) : Prop := wpFn Try.prog (hE C) L 0 42 #[.slice (some ⟨500, 0, none⟩) n0 c0] (heapOf [(500, .sym l0 false 1)]) (dataK k)
theorem gFE_text (C : Ct) (L : AtLoop) (n0 : Nat) (c0 : Nat) (l0 : List Go.Value) (k : List D → Prop) : gFE C L n0 c0 l0 k =
 (L 0 [(Prod.mk 5 (Sl 500 (n0) (c0))), (Prod.mk 6 (vI ((↑n0 : Int)))), (Prod.mk 7 (vI 0))] [(Prod.mk 500 (AObj.sym (l0) false 1))]) := by kernel_rfl
abbrev zFE1 (n0 : Nat) (c1 : Nat) (x2 : Int) (x3 : Int) (l4 : List Value) : Slots × Blocks := ([(5, (Value.slice (some ⟨500, 0, none⟩) n0 c1)), (6, (Value.int .i64 x2)), (7, (Value.int .i64 x3))], [(500, (AObj.sym l4 false 1))])
def rFE1 (C : Ct) (L : AtLoop) (n0 : Nat) (c1 : Nat) (x2 : Int) (x3 : Int) (l4 : List Value) (B : Bx) (X : Xx) (k : List D → Prop) : Prop := wpRound Try.prog (hE C) L 42 0 [(5, (Value.slice (some ⟨500, 0, none⟩) n0 c1)), (6, (Value.int .i64 x2)), (7, (Value.int .i64 x3))] [(500, (AObj.sym l4 false 1))] B X (dataK k)
theorem rFE1_text (C : Ct) (L : AtLoop) (n0 : Nat) (c1 : Nat) (x2 : Int) (x3 : Int) (l4 : List Go.Value) (B : Bx) (X : Xx) (k : List D → Prop) : rFE1 C L n0 c1 x2 x3 l4 B X k =
 (bcase (decide (x3 < x2))
 (bcase (decide (0 ≤ x3))
 (bcase (decide (x3 < (↑n0 : Int)))
 (∃ n1 : Int,
 ((At (l4) (0 + Int.toNat x3 * 1) 1 [(vI n1)]) ∧
 (bcase (n1 != 0)
 (k [(D.val (vI n1))])
 (B [(Prod.mk 5 (Sl 500 (n0) (c1))), (Prod.mk 6 (vI x2)), (Prod.mk 7 (vI (IntKind.wrap .i64 (x3 + 1))))] [(Prod.mk 500 (AObj.sym (l4) false 1))]))))
 False)
 False)
 (X 0 [] [])) := by kernel_rfl
def nFE2 (C : Ct) (L : AtLoop) (k : List D → Prop) : Prop := wpNext Try.prog (hE C) L 42 0 .normal [] [] (dataK k)
theorem nFE2_text (C : Ct) (L : AtLoop) (k : List D → Prop) : nFE2 C L k =
 (k [(D.val (vI 0))]) := by kernel_rfl
def gCW (C : Ct) (L : AtLoop) (x0 : Int) (x1 : Int) (n2 : Nat) (c2 : Nat) (l2 : List Value) (k : List D → Prop) : Prop := wpFn Try.prog (hE C) L 0 43 #[.int .i64 x0, .int .i64 x1, .slice (some ⟨500, 0, none⟩) n2 c2] (heapOf [(500, .sym l2 false 1)]) (dataK k)
theorem gCW_text (C : Ct) (L : AtLoop) (x0 : Int) (x1 : Int) (n2 : Nat) (c2 : Nat) (l2 : List Go.Value) (k : List D → Prop) : gCW C L x0 x1 n2 c2 l2 k =
 (L 0 [(Prod.mk 0 (vI x0)), (Prod.mk 1 (vI x1)), (Prod.mk 9 (Sl 500 (n2) (c2))), (Prod.mk 10 (vI ((↑n2 : Int)))), (Prod.mk 11 (vI 0))] [(Prod.mk 500 (AObj.sym (l2) false 1))]) := by kernel_rfl
abbrev zCW1 (x0 : Int) (x1 : Int) (n2 : Nat) (c3 : Nat) (x4 : Int) (x5 : Int) (l6 : List Value) : Slots × Blocks := ([(0, (Value.int .i64 x0)), (1, (Value.int .i64 x1)), (9, (Value.slice (some ⟨500, 0, none⟩) n2 c3)), (10, (Value.int .i64 x4)), (11, (Value.int .i64 x5))], [(500, (AObj.sym l6 false 1))])
def rCW1 (C : Ct) (L : AtLoop) (x0 : Int) (x1 : Int) (n2 : Nat) (c3 : Nat) (x4 : Int) (x5 : Int) (l6 : List Value) (B : Bx) (X : Xx) (k : List D → Prop) : Prop := wpRound Try.prog (hE C) L 43 0 [(0, (Value.int .i64 x0)), (1, (Value.int .i64 x1)), (9, (Value.slice (some ⟨500, 0, none⟩) n2 c3)), (10, (Value.int .i64 x4)), (11, (Value.int .i64 x5))] [(500, (AObj.sym l6 false 1))] B X (dataK k)
theorem rCW1_text (C : Ct) (L : AtLoop) (x0 : Int) (x1 : Int) (n2 : Nat) (c3 : Nat) (x4 : Int) (x5 : Int) (l6 : List Go.Value) (B : Bx) (X : Xx) (k : List D → Prop) : rCW1 C L x0 x1 n2 c3 x4 x5 l6 B X k =
 (bcase (decide (x5 < x4))
 (bcase (decide (0 ≤ x5))
 (bcase (decide (x5 < (↑n2 : Int)))
 (∃ n1 : Int,
 ((At (l6) (0 + Int.toNat x5 * 1) 1 [(vI n1)]) ∧
 (bcase (decide (n1 < x0))
 (k [(D.val (vI 2))])
 (bcase (decide (n1 > x1))
 (k [(D.val (vI 2))])
 (B [(Prod.mk 0 (vI x0)), (Prod.mk 1 (vI x1)), (Prod.mk 9 (Sl 500 (n2) (c3))), (Prod.mk 10 (vI x4)), (Prod.mk 11 (vI (IntKind.wrap .i64 (x5 + 1))))] [(Prod.mk 500 (AObj.sym (l6) false 1))])))))
 False)
 False)
 (X 0 [] [])) := by kernel_rfl
def nCW2 (C : Ct) (L : AtLoop) (k : List D → Prop) : Prop := wpNext Try.prog (hE C) L 43 0 .normal [] [] (dataK k)
theorem nCW2_text (C : Ct) (L : AtLoop) (k : List D → Prop) : nCW2 C L k =
 (k [(D.val (vI 0))]) := by kernel_rfl
def gCN (C : Ct) (L : AtLoop) (n0 : Nat) (c0 : Nat) (l0 : List Value) (k : List D → Prop) : Prop := wpFn Try.prog (hE C) L 0 44 #[.slice (some ⟨500, 0, none⟩) n0 c0] (heapOf [(500, .sym l0 false 2)]) (dataK k)
theorem gCN_text (C : Ct) (L : AtLoop) (n0 : Nat) (c0 : Nat) (l0 : List Go.Value) (k : List D → Prop) : gCN C L n0 c0 l0 k =
 (L 0 [(Prod.mk 5 (Sl 500 (n0) (c0))), (Prod.mk 6 (vI ((↑n0 : Int)))), (Prod.mk 7 (vI 0))] [(Prod.mk 500 (AObj.sym (l0) false 2))]) := by kernel_rfl
abbrev zCN1 (n0 : Nat) (c1 : Nat) (x2 : Int) (x3 : Int) (l4 : List Value) : Slots × Blocks := ([(5, (Value.slice (some ⟨500, 0, none⟩) n0 c1)), (6, (Value.int .i64 x2)), (7, (Value.int .i64 x3))], [(500, (AObj.sym l4 false 2))])
def rCN1 (C : Ct) (L : AtLoop) (n0 : Nat) (c1 : Nat) (x2 : Int) (x3 : Int) (l4 : List Value) (B : Bx) (X : Xx) (k : List D → Prop) : Prop := wpRound Try.prog (hE C) L 44 0 [(5, (Value.slice (some ⟨500, 0, none⟩) n0 c1)), (6, (Value.int .i64 x2)), (7, (Value.int .i64 x3))] [(500, (AObj.sym l4 false 2))] B X (dataK k)
theorem rCN1_text (C : Ct) (L : AtLoop) (n0 : Nat) (c1 : Nat) (x2 : Int) (x3 : Int) (l4 : List Go.Value) (B : Bx) (X : Xx) (k : List D → Prop) : rCN1 C L n0 c1 x2 x3 l4 B X k =
 (bcase (decide (x3 < x2))
 (bcase (decide (0 ≤ x3))
 (bcase (decide (x3 < (↑n0 : Int)))
 (∃ n1 : Int,
 (∃ n2 : Int,
 ((At (l4) (0 + Int.toNat x3 * 2) 2 [(vI n1), (vI n2)]) ∧
 (bcase (decide (n1 > n2))
 (k [(D.val (vI 9))])
 (B [(Prod.mk 5 (Sl 500 (n0) (c1))), (Prod.mk 6 (vI x2)), (Prod.mk 7 (vI (IntKind.wrap .i64 (x3 + 1))))] [(Prod.mk 500 (AObj.sym (l4) false 2))])))))
 False)
 False)
 (X 0 [] [])) := by kernel_rfl
def nCN2 (C : Ct) (L : AtLoop) (k : List D → Prop) : Prop := wpNext Try.prog (hE C) L 44 0 .normal [] [] (dataK k)
theorem nCN2_text (C : Ct) (L : AtLoop) (k : List D → Prop) : nCN2 C L k =
 (k [(D.val (vI 0))]) := by kernel_rfl
def gCC (C : Ct) (L : AtLoop) (n0 : Nat) (c0 : Nat) (l0 : List Value) (k : List D → Prop) : Prop := wpFn Try.prog (hE C) L 0 45 #[.slice (some ⟨500, 0, none⟩) n0 c0] (heapOf [(500, .sym l0 false 5)]) (dataK k)
theorem gCC_text (C : Ct) (L : AtLoop) (n0 : Nat) (c0 : Nat) (l0 : List Go.Value) (k : List D → Prop) : gCC C L n0 c0 l0 k =
 (bcase ((↑n0 : Int) == 0)
 (k [(D.val (vI 10))])
 (bcase (decide ((↑n0 : Int) > 6))
 (k [(D.val (vI 8))])
 (k [(D.val (vI 0))]))) := by kernel_rfl
def gCS (C : Ct) (L : AtLoop) (x0 : Int) (x1 : Int) (x2 : Int) (x3 : Int) (x4 : Int) (k : List D → Prop) : Prop := wpFn Try.prog (hP C) L 0 46 #[.agg #[.int .i64 x0, .int .i64 x1, .int .i64 x2, .int .i64 x3, .int .i64 x4]] (heapOf []) (dataK k)
theorem gCS_text (C : Ct) (L : AtLoop) (x0 : Int) (x1 : Int) (x2 : Int) (x3 : Int) (x4 : Int) (k : List D → Prop) : gCS C L x0 x1 x2 x3 x4 k =
 ((((Qv (Sl 1004 1 1)) ∧
 (Qv (some (AObj.cells [(vI x3), (vI x4)] 23 false 2)))) ∧
 ((Qv (Value.agg [(vI x3), (vI x4)].toArray)) ∧
 ((Qv (Pt 1000 3)) ∧
 (((Qv (Sl 1003 2 2)) ∧
 (Qv (some (AObj.cells [(vI x3), (vI x4)] 3 false 1)))) ∧
 ((Qv (vI x4)) ∧
 ((Qv (Pt 1000 4)) ∧
 ((Qv (Pt 1000 3)) ∧
 ((Qv (vI x3)) ∧
 ((Qv (Pt 1000 3)) ∧
 ((Qv (Pt 1000 3)) ∧
 (((Qv (Sl 1002 2 2)) ∧
 (Qv (some (AObj.cells [(vI x1), (vI x2)] 3 false 1)))) ∧
 ((Qv (vI x2)) ∧
 ((Qv (Pt 1000 2)) ∧
 ((Qv (vI x1)) ∧
 ((Qv (Pt 1000 1)) ∧
 (((Qv (Sl 1001 1 1)) ∧
 (Qv (some (AObj.cells [(vI x0)] 3 false 1)))) ∧
 ((Qv (vI x0)) ∧
 ((Qv (Pt 1000 0)) ∧
 True)))))))))))))))))) ∧
 (∃ n1 : Int,
 ((Says C 43 [(D.val (vI 1)), (D.val (vI 1000)), (D.sl 1 1 [(vI x0)])] [(D.val (vI n1))]) ∧
 ((((Qv (Sl 1004 1 1)) ∧
 (Qv (some (AObj.cells [(vI x3), (vI x4)] 23 false 2)))) ∧
 ((Qv (Value.agg [(vI x3), (vI x4)].toArray)) ∧
 ((Qv (Pt 1000 3)) ∧
 (((Qv (Sl 1003 2 2)) ∧
 (Qv (some (AObj.cells [(vI x3), (vI x4)] 3 false 1)))) ∧
 ((Qv (vI x4)) ∧
 ((Qv (Pt 1000 4)) ∧
 ((Qv (Pt 1000 3)) ∧
 ((Qv (vI x3)) ∧
 ((Qv (Pt 1000 3)) ∧
 ((Qv (Pt 1000 3)) ∧
 (((Qv (Sl 1002 2 2)) ∧
 (Qv (some (AObj.cells [(vI x1), (vI x2)] 3 false 1)))) ∧
 ((Qv (vI x2)) ∧
 ((Qv (Pt 1000 2)) ∧
 ((Qv (vI x1)) ∧
 ((Qv (Pt 1000 1)) ∧
 ((Qv (vI x0)) ∧
 ((Qv (Pt 1000 0)) ∧
 True))))))))))))))))) ∧
 (∃ n2 : Int,
 ((Says C 43 [(D.val (vI 0)), (D.val (vI 1000000000000)), (D.sl 2 1 [(vI x1), (vI x2)])] [(D.val (vI n2))]) ∧
 ((((Qv (Sl 1004 1 1)) ∧
 (Qv (some (AObj.cells [(vI x3), (vI x4)] 23 false 2)))) ∧
 ((Qv (Value.agg [(vI x3), (vI x4)].toArray)) ∧
 ((Qv (Pt 1000 3)) ∧
 (((Qv (Sl 1003 2 2)) ∧
 (Qv (some (AObj.cells [(vI x3), (vI x4)] 3 false 1)))) ∧
 ((Qv (vI x4)) ∧
 ((Qv (Pt 1000 4)) ∧
 ((Qv (Pt 1000 3)) ∧
 ((Qv (vI x3)) ∧
 ((Qv (Pt 1000 3)) ∧
 ((Qv (Pt 1000 3)) ∧
 ((Qv (vI x2)) ∧
 ((Qv (Pt 1000 2)) ∧
 ((Qv (vI x1)) ∧
 ((Qv (Pt 1000 1)) ∧
 ((Qv (vI x0)) ∧
 ((Qv (Pt 1000 0)) ∧
 True)))))))))))))))) ∧
 (∃ n3 : Int,
 ((Says C 43 [(D.val (vI 0)), (D.val (vI 1000)), (D.sl 2 1 [(vI x3), (vI x4)])] [(D.val (vI n3))]) ∧
 ((((Qv (Sl 1004 1 1)) ∧
 (Qv (some (AObj.cells [(vI x3), (vI x4)] 23 false 2)))) ∧
 ((Qv (Value.agg [(vI x3), (vI x4)].toArray)) ∧
 ((Qv (Pt 1000 3)) ∧
 ((Qv (vI x4)) ∧
 ((Qv (Pt 1000 4)) ∧
 ((Qv (Pt 1000 3)) ∧
 ((Qv (vI x3)) ∧
 ((Qv (Pt 1000 3)) ∧
 ((Qv (Pt 1000 3)) ∧
 ((Qv (vI x2)) ∧
 ((Qv (Pt 1000 2)) ∧
 ((Qv (vI x1)) ∧
 ((Qv (Pt 1000 1)) ∧
 ((Qv (vI x0)) ∧
 ((Qv (Pt 1000 0)) ∧
 True))))))))))))))) ∧
 (∃ n4 : Int,
 ((Says C 44 [(D.sl 1 2 [(vI x3), (vI x4)])] [(D.val (vI n4))]) ∧
 ((((Qv (Sl 1005 4 4)) ∧
 (Qv (some (AObj.cells [(vI n1), (vI n2), (vI n3), (vI n4)] 32 false 1)))) ∧
 ((Qv (Value.agg [(vI x3), (vI x4)].toArray)) ∧
 ((Qv (Pt 1000 3)) ∧
 ((Qv (vI x4)) ∧
 ((Qv (Pt 1000 4)) ∧
 ((Qv (Pt 1000 3)) ∧
 ((Qv (vI x3)) ∧
 ((Qv (Pt 1000 3)) ∧
 ((Qv (Pt 1000 3)) ∧
 ((Qv (vI x2)) ∧
 ((Qv (Pt 1000 2)) ∧
 ((Qv (vI x1)) ∧
 ((Qv (Pt 1000 1)) ∧
 ((Qv (vI x0)) ∧
 ((Qv (Pt 1000 0)) ∧
 True))))))))))))))) ∧
 (∃ n5 : Int,
 ((Says C 42 [(D.sl 4 1 [(vI n1), (vI n2), (vI n3), (vI n4)])] [(D.val (vI n5))]) ∧
 (((Qv (Value.agg [(vI x3), (vI x4)].toArray)) ∧
 ((Qv (Pt 1000 3)) ∧
 ((Qv (vI x4)) ∧
 ((Qv (Pt 1000 4)) ∧
 ((Qv (Pt 1000 3)) ∧
 ((Qv (vI x3)) ∧
 ((Qv (Pt 1000 3)) ∧
 ((Qv (Pt 1000 3)) ∧
 ((Qv (vI x2)) ∧
 ((Qv (Pt 1000 2)) ∧
 ((Qv (vI x1)) ∧
 ((Qv (Pt 1000 1)) ∧
 ((Qv (vI x0)) ∧
 ((Qv (Pt 1000 0)) ∧
 True)))))))))))))) ∧
 (True ∧
 (k [(D.val (vI n5))])))))))))))))))))) := by kernel_rfl
def gCT (C : Ct) (L : AtLoop) (x0 : Int) (k : List D → Prop) : Prop := wpFn Try.prog (hP C) L 0 48 #[.int .i64 x0] (heapOf []) (dataK k)
theorem gCT_text (C : Ct) (L : AtLoop) (x0 : Int) (k : List D → Prop) : gCT C L x0 k =
 (∃ n1 : Int,
 ((Says C 43 [(D.val (vI 1)), (D.val (vI 1000)), (D.sl 1 1 [(vI x0)])] [(D.val (vI n1))]) ∧
 (k [(D.val (vI n1))]))) := by kernel_rfl
def gKR (C : Ct) (L : AtLoop) (x0 : Int) (x1 : Int) (x2 : Int) (x3 : Int) (x4 : Int) (x5 : Int) (n6 : Nat) (c6 : Nat) (l6 : List Value) (x7 : Int) (x8 : Int) (x9 : Int) (x10 : Int) (k : List D → Prop) : Prop := wpFn Try.prog (hP C) L 0 8 #[.agg #[.int .i64 x0, .int .i64 x1, .int .i64 x2, .int .i64 x3, .int .i64 x4, .int .i64 x5, .slice (some ⟨500, 0, none⟩) n6 c6, .int .i64 x7, .int .i64 x8, .int .i64 x9, .int .i64 x10]] (heapOf [(500, .sym l6 false 5)]) (dataK k)
theorem gKR_text (C : Ct) (L : AtLoop) (x0 : Int) (x1 : Int) (x2 : Int) (x3 : Int) (x4 : Int) (x5 : Int) (n6 : Nat) (c6 : Nat) (l6 : List Go.Value) (x7 : Int) (x8 : Int) (x9 : Int) (x10 : Int) (k : List D → Prop) : gKR C L x0 x1 x2 x3 x4 x5 n6 c6 l6 x7 x8 x9 x10 k =
 (((Qv (Sl 500 (n6) (c6))) ∧
 ((Qv (Pt 1000 6)) ∧
 (((Qv (Sl 1006 4 4)) ∧
 (Qv (some (AObj.cells [(vI x2), (vI x1), (vI x3), (vI x4), (vI x7), (vI x8), (vI x9), (vI x10)] 23 false 2)))) ∧
 ((Qv (Value.agg [(vI x9), (vI x10)].toArray)) ∧
 ((Qv (Pt 1000 9)) ∧
 ((Qv (Value.agg [(vI x7), (vI x8)].toArray)) ∧
 ((Qv (Pt 1000 7)) ∧
 ((Qv (Value.agg [(vI x3), (vI x4)].toArray)) ∧
 ((Qv (Pt 1000 3)) ∧
 ((Qv (Value.agg [(vI x2), (vI x1)].toArray)) ∧
 ((Qv (vI x1)) ∧
 ((Qv (Pt 1000 1)) ∧
 ((Qv (vI x2)) ∧
 ((Qv (Pt 1000 2)) ∧
 (((Qv (Sl 1005 2 2)) ∧
 (Qv (some (AObj.cells [(vI x9), (vI x10)] 3 false 1)))) ∧
 ((Qv (vI x10)) ∧
 ((Qv (Pt 1000 10)) ∧
 ((Qv (Pt 1000 9)) ∧
 ((Qv (vI x9)) ∧
 ((Qv (Pt 1000 9)) ∧
 ((Qv (Pt 1000 9)) ∧
 (((Qv (Sl 1004 2 2)) ∧
 (Qv (some (AObj.cells [(vI x7), (vI x8)] 3 false 1)))) ∧
 ((Qv (vI x8)) ∧
 ((Qv (Pt 1000 8)) ∧
 ((Qv (Pt 1000 7)) ∧
 ((Qv (vI x7)) ∧
 ((Qv (Pt 1000 7)) ∧
 ((Qv (Pt 1000 7)) ∧
 (((Qv (Sl 1003 3 3)) ∧
 (Qv (some (AObj.cells [(vI x3), (vI x4), (vI x5)] 3 false 1)))) ∧
 ((Qv (vI x5)) ∧
 ((Qv (Pt 1000 5)) ∧
 ((Qv (vI x4)) ∧
 ((Qv (Pt 1000 4)) ∧
 ((Qv (Pt 1000 3)) ∧
 ((Qv (vI x3)) ∧
 ((Qv (Pt 1000 3)) ∧
 ((Qv (Pt 1000 3)) ∧
 (((Qv (Sl 1002 2 2)) ∧
 (Qv (some (AObj.cells [(vI x1), (vI x2)] 3 false 1)))) ∧
 ((Qv (vI x2)) ∧
 ((Qv (Pt 1000 2)) ∧
 ((Qv (vI x1)) ∧
 ((Qv (Pt 1000 1)) ∧
 (((Qv (Sl 1001 1 1)) ∧
 (Qv (some (AObj.cells [(vI x0)] 3 false 1)))) ∧
 ((Qv (vI x0)) ∧
 ((Qv (Pt 1000 0)) ∧
 True))))))))))))))))))))))))))))))))))))))))))))) ∧
 (∃ n1 : Int,
 ((Says C 43 [(D.val (vI 1)), (D.val (vI 2500)), (D.sl 1 1 [(vI x0)])] [(D.val (vI n1))]) ∧
 (((Qv (Sl 500 (n6) (c6))) ∧
 ((Qv (Pt 1000 6)) ∧
 (((Qv (Sl 1006 4 4)) ∧
 (Qv (some (AObj.cells [(vI x2), (vI x1), (vI x3), (vI x4), (vI x7), (vI x8), (vI x9), (vI x10)] 23 false 2)))) ∧
 ((Qv (Value.agg [(vI x9), (vI x10)].toArray)) ∧
 ((Qv (Pt 1000 9)) ∧
 ((Qv (Value.agg [(vI x7), (vI x8)].toArray)) ∧
 ((Qv (Pt 1000 7)) ∧
 ((Qv (Value.agg [(vI x3), (vI x4)].toArray)) ∧
 ((Qv (Pt 1000 3)) ∧
 ((Qv (Value.agg [(vI x2), (vI x1)].toArray)) ∧
 ((Qv (vI x1)) ∧
 ((Qv (Pt 1000 1)) ∧
 ((Qv (vI x2)) ∧
 ((Qv (Pt 1000 2)) ∧
 (((Qv (Sl 1005 2 2)) ∧
 (Qv (some (AObj.cells [(vI x9), (vI x10)] 3 false 1)))) ∧
 ((Qv (vI x10)) ∧
 ((Qv (Pt 1000 10)) ∧
 ((Qv (Pt 1000 9)) ∧
 ((Qv (vI x9)) ∧
 ((Qv (Pt 1000 9)) ∧
 ((Qv (Pt 1000 9)) ∧
 (((Qv (Sl 1004 2 2)) ∧
 (Qv (some (AObj.cells [(vI x7), (vI x8)] 3 false 1)))) ∧
 ((Qv (vI x8)) ∧
 ((Qv (Pt 1000 8)) ∧
 ((Qv (Pt 1000 7)) ∧
 ((Qv (vI x7)) ∧
 ((Qv (Pt 1000 7)) ∧
 ((Qv (Pt 1000 7)) ∧
 (((Qv (Sl 1003 3 3)) ∧
 (Qv (some (AObj.cells [(vI x3), (vI x4), (vI x5)] 3 false 1)))) ∧
 ((Qv (vI x5)) ∧
 ((Qv (Pt 1000 5)) ∧
 ((Qv (vI x4)) ∧
 ((Qv (Pt 1000 4)) ∧
 ((Qv (Pt 1000 3)) ∧
 ((Qv (vI x3)) ∧
 ((Qv (Pt 1000 3)) ∧
 ((Qv (Pt 1000 3)) ∧
 (((Qv (Sl 1002 2 2)) ∧
 (Qv (some (AObj.cells [(vI x1), (vI x2)] 3 false 1)))) ∧
 ((Qv (vI x2)) ∧
 ((Qv (Pt 1000 2)) ∧
 ((Qv (vI x1)) ∧
 ((Qv (Pt 1000 1)) ∧
 ((Qv (vI x0)) ∧
 ((Qv (Pt 1000 0)) ∧
 True)))))))))))))))))))))))))))))))))))))))))))) ∧
 (∃ n2 : Int,
 ((Says C 43 [(D.val (vI 1)), (D.val (vI 1000)), (D.sl 2 1 [(vI x1), (vI x2)])] [(D.val (vI n2))]) ∧
 (((Qv (Sl 500 (n6) (c6))) ∧
 ((Qv (Pt 1000 6)) ∧
 (((Qv (Sl 1006 4 4)) ∧
 (Qv (some (AObj.cells [(vI x2), (vI x1), (vI x3), (vI x4), (vI x7), (vI x8), (vI x9), (vI x10)] 23 false 2)))) ∧
 ((Qv (Value.agg [(vI x9), (vI x10)].toArray)) ∧
 ((Qv (Pt 1000 9)) ∧
 ((Qv (Value.agg [(vI x7), (vI x8)].toArray)) ∧
 ((Qv (Pt 1000 7)) ∧
 ((Qv (Value.agg [(vI x3), (vI x4)].toArray)) ∧
 ((Qv (Pt 1000 3)) ∧
 ((Qv (Value.agg [(vI x2), (vI x1)].toArray)) ∧
 ((Qv (vI x1)) ∧
 ((Qv (Pt 1000 1)) ∧
 ((Qv (vI x2)) ∧
 ((Qv (Pt 1000 2)) ∧
 (((Qv (Sl 1005 2 2)) ∧
 (Qv (some (AObj.cells [(vI x9), (vI x10)] 3 false 1)))) ∧
 ((Qv (vI x10)) ∧
 ((Qv (Pt 1000 10)) ∧
 ((Qv (Pt 1000 9)) ∧
 ((Qv (vI x9)) ∧
 ((Qv (Pt 1000 9)) ∧
 ((Qv (Pt 1000 9)) ∧
 (((Qv (Sl 1004 2 2)) ∧
 (Qv (some (AObj.cells [(vI x7), (vI x8)] 3 false 1)))) ∧
 ((Qv (vI x8)) ∧
 ((Qv (Pt 1000 8)) ∧
 ((Qv (Pt 1000 7)) ∧
 ((Qv (vI x7)) ∧
 ((Qv (Pt 1000 7)) ∧
 ((Qv (Pt 1000 7)) ∧
 (((Qv (Sl 1003 3 3)) ∧
 (Qv (some (AObj.cells [(vI x3), (vI x4), (vI x5)] 3 false 1)))) ∧
 ((Qv (vI x5)) ∧
 ((Qv (Pt 1000 5)) ∧
 ((Qv (vI x4)) ∧
 ((Qv (Pt 1000 4)) ∧
 ((Qv (Pt 1000 3)) ∧
 ((Qv (vI x3)) ∧
 ((Qv (Pt 1000 3)) ∧
 ((Qv (Pt 1000 3)) ∧
 ((Qv (vI x2)) ∧
 ((Qv (Pt 1000 2)) ∧
 ((Qv (vI x1)) ∧
 ((Qv (Pt 1000 1)) ∧
 ((Qv (vI x0)) ∧
 ((Qv (Pt 1000 0)) ∧
 True))))))))))))))))))))))))))))))))))))))))))) ∧
 (∃ n3 : Int,
 ((Says C 43 [(D.val (vI 0)), (D.val (vI 20000)), (D.sl 3 1 [(vI x3), (vI x4), (vI x5)])] [(D.val (vI n3))]) ∧
 (((Qv (Sl 500 (n6) (c6))) ∧
 ((Qv (Pt 1000 6)) ∧
 (((Qv (Sl 1006 4 4)) ∧
 (Qv (some (AObj.cells [(vI x2), (vI x1), (vI x3), (vI x4), (vI x7), (vI x8), (vI x9), (vI x10)] 23 false 2)))) ∧
 ((Qv (Value.agg [(vI x9), (vI x10)].toArray)) ∧
 ((Qv (Pt 1000 9)) ∧
 ((Qv (Value.agg [(vI x7), (vI x8)].toArray)) ∧
 ((Qv (Pt 1000 7)) ∧
 ((Qv (Value.agg [(vI x3), (vI x4)].toArray)) ∧
 ((Qv (Pt 1000 3)) ∧
 ((Qv (Value.agg [(vI x2), (vI x1)].toArray)) ∧
 ((Qv (vI x1)) ∧
 ((Qv (Pt 1000 1)) ∧
 ((Qv (vI x2)) ∧
 ((Qv (Pt 1000 2)) ∧
 (((Qv (Sl 1005 2 2)) ∧
 (Qv (some (AObj.cells [(vI x9), (vI x10)] 3 false 1)))) ∧
 ((Qv (vI x10)) ∧
 ((Qv (Pt 1000 10)) ∧
 ((Qv (Pt 1000 9)) ∧
 ((Qv (vI x9)) ∧
 ((Qv (Pt 1000 9)) ∧
 ((Qv (Pt 1000 9)) ∧
 (((Qv (Sl 1004 2 2)) ∧
 (Qv (some (AObj.cells [(vI x7), (vI x8)] 3 false 1)))) ∧
 ((Qv (vI x8)) ∧
 ((Qv (Pt 1000 8)) ∧
 ((Qv (Pt 1000 7)) ∧
 ((Qv (vI x7)) ∧
 ((Qv (Pt 1000 7)) ∧
 ((Qv (Pt 1000 7)) ∧
 ((Qv (vI x5)) ∧
 ((Qv (Pt 1000 5)) ∧
 ((Qv (vI x4)) ∧
 ((Qv (Pt 1000 4)) ∧
 ((Qv (Pt 1000 3)) ∧
 ((Qv (vI x3)) ∧
 ((Qv (Pt 1000 3)) ∧
 ((Qv (Pt 1000 3)) ∧
 ((Qv (vI x2)) ∧
 ((Qv (Pt 1000 2)) ∧
 ((Qv (vI x1)) ∧
 ((Qv (Pt 1000 1)) ∧
 ((Qv (vI x0)) ∧
 ((Qv (Pt 1000 0)) ∧
 True)))))))))))))))))))))))))))))))))))))))))) ∧
 (∃ n4 : Int,
 ((Says C 43 [(D.val (vI 1)), (D.val (vI 100)), (D.sl 2 1 [(vI x7), (vI x8)])] [(D.val (vI n4))]) ∧
 (((Qv (Sl 500 (n6) (c6))) ∧
 ((Qv (Pt 1000 6)) ∧
 (((Qv (Sl 1006 4 4)) ∧
 (Qv (some (AObj.cells [(vI x2), (vI x1), (vI x3), (vI x4), (vI x7), (vI x8), (vI x9), (vI x10)] 23 false 2)))) ∧
 ((Qv (Value.agg [(vI x9), (vI x10)].toArray)) ∧
 ((Qv (Pt 1000 9)) ∧
 ((Qv (Value.agg [(vI x7), (vI x8)].toArray)) ∧
 ((Qv (Pt 1000 7)) ∧
 ((Qv (Value.agg [(vI x3), (vI x4)].toArray)) ∧
 ((Qv (Pt 1000 3)) ∧
 ((Qv (Value.agg [(vI x2), (vI x1)].toArray)) ∧
 ((Qv (vI x1)) ∧
 ((Qv (Pt 1000 1)) ∧
 ((Qv (vI x2)) ∧
 ((Qv (Pt 1000 2)) ∧
 (((Qv (Sl 1005 2 2)) ∧
 (Qv (some (AObj.cells [(vI x9), (vI x10)] 3 false 1)))) ∧
 ((Qv (vI x10)) ∧
 ((Qv (Pt 1000 10)) ∧
 ((Qv (Pt 1000 9)) ∧
 ((Qv (vI x9)) ∧
 ((Qv (Pt 1000 9)) ∧
 ((Qv (Pt 1000 9)) ∧
 ((Qv (vI x8)) ∧
 ((Qv (Pt 1000 8)) ∧
 ((Qv (Pt 1000 7)) ∧
 ((Qv (vI x7)) ∧
 ((Qv (Pt 1000 7)) ∧
 ((Qv (Pt 1000 7)) ∧
 ((Qv (vI x5)) ∧
 ((Qv (Pt 1000 5)) ∧
 ((Qv (vI x4)) ∧
 ((Qv (Pt 1000 4)) ∧
 ((Qv (Pt 1000 3)) ∧
 ((Qv (vI x3)) ∧
 ((Qv (Pt 1000 3)) ∧
 ((Qv (Pt 1000 3)) ∧
 ((Qv (vI x2)) ∧
 ((Qv (Pt 1000 2)) ∧
 ((Qv (vI x1)) ∧
 ((Qv (Pt 1000 1)) ∧
 ((Qv (vI x0)) ∧
 ((Qv (Pt 1000 0)) ∧
 True))))))))))))))))))))))))))))))))))))))))) ∧
 (∃ n5 : Int,
 ((Says C 43 [(D.val (vI 0)), (D.val (vI 100)), (D.sl 2 1 [(vI x9), (vI x10)])] [(D.val (vI n5))]) ∧
 (((Qv (Sl 500 (n6) (c6))) ∧
 ((Qv (Pt 1000 6)) ∧
 (((Qv (Sl 1006 4 4)) ∧
 (Qv (some (AObj.cells [(vI x2), (vI x1), (vI x3), (vI x4), (vI x7), (vI x8), (vI x9), (vI x10)] 23 false 2)))) ∧
 ((Qv (Value.agg [(vI x9), (vI x10)].toArray)) ∧
 ((Qv (Pt 1000 9)) ∧
 ((Qv (Value.agg [(vI x7), (vI x8)].toArray)) ∧
 ((Qv (Pt 1000 7)) ∧
 ((Qv (Value.agg [(vI x3), (vI x4)].toArray)) ∧
 ((Qv (Pt 1000 3)) ∧
 ((Qv (Value.agg [(vI x2), (vI x1)].toArray)) ∧
 ((Qv (vI x1)) ∧
 ((Qv (Pt 1000 1)) ∧
 ((Qv (vI x2)) ∧
 ((Qv (Pt 1000 2)) ∧
 ((Qv (vI x10)) ∧
 ((Qv (Pt 1000 10)) ∧
 ((Qv (Pt 1000 9)) ∧
 ((Qv (vI x9)) ∧
 ((Qv (Pt 1000 9)) ∧
 ((Qv (Pt 1000 9)) ∧
 ((Qv (vI x8)) ∧
 ((Qv (Pt 1000 8)) ∧
 ((Qv (Pt 1000 7)) ∧
 ((Qv (vI x7)) ∧
 ((Qv (Pt 1000 7)) ∧
 ((Qv (Pt 1000 7)) ∧
 ((Qv (vI x5)) ∧
 ((Qv (Pt 1000 5)) ∧
 ((Qv (vI x4)) ∧
 ((Qv (Pt 1000 4)) ∧
 ((Qv (Pt 1000 3)) ∧
 ((Qv (vI x3)) ∧
 ((Qv (Pt 1000 3)) ∧
 ((Qv (Pt 1000 3)) ∧
 ((Qv (vI x2)) ∧
 ((Qv (Pt 1000 2)) ∧
 ((Qv (vI x1)) ∧
 ((Qv (Pt 1000 1)) ∧
 ((Qv (vI x0)) ∧
 ((Qv (Pt 1000 0)) ∧
 True)))))))))))))))))))))))))))))))))))))))) ∧
 (∃ n7 : Int,
 ((Says C 44 [(D.sl 4 2 [(vI x2), (vI x1), (vI x3), (vI x4), (vI x7), (vI x8), (vI x9), (vI x10)])] [(D.val (vI n7))]) ∧
 (((Qv (Sl 500 (n6) (c6))) ∧
 ((Qv (Pt 1000 6)) ∧
 ((Qv (Value.agg [(vI x9), (vI x10)].toArray)) ∧
 ((Qv (Pt 1000 9)) ∧
 ((Qv (Value.agg [(vI x7), (vI x8)].toArray)) ∧
 ((Qv (Pt 1000 7)) ∧
 ((Qv (Value.agg [(vI x3), (vI x4)].toArray)) ∧
 ((Qv (Pt 1000 3)) ∧
 ((Qv (Value.agg [(vI x2), (vI x1)].toArray)) ∧
 ((Qv (vI x1)) ∧
 ((Qv (Pt 1000 1)) ∧
 ((Qv (vI x2)) ∧
 ((Qv (Pt 1000 2)) ∧
 ((Qv (vI x10)) ∧
 ((Qv (Pt 1000 10)) ∧
 ((Qv (Pt 1000 9)) ∧
 ((Qv (vI x9)) ∧
 ((Qv (Pt 1000 9)) ∧
 ((Qv (Pt 1000 9)) ∧
 ((Qv (vI x8)) ∧
 ((Qv (Pt 1000 8)) ∧
 ((Qv (Pt 1000 7)) ∧
 ((Qv (vI x7)) ∧
 ((Qv (Pt 1000 7)) ∧
 ((Qv (Pt 1000 7)) ∧
 ((Qv (vI x5)) ∧
 ((Qv (Pt 1000 5)) ∧
 ((Qv (vI x4)) ∧
 ((Qv (Pt 1000 4)) ∧
 ((Qv (Pt 1000 3)) ∧
 ((Qv (vI x3)) ∧
 ((Qv (Pt 1000 3)) ∧
 ((Qv (Pt 1000 3)) ∧
 ((Qv (vI x2)) ∧
 ((Qv (Pt 1000 2)) ∧
 ((Qv (vI x1)) ∧
 ((Qv (Pt 1000 1)) ∧
 ((Qv (vI x0)) ∧
 ((Qv (Pt 1000 0)) ∧
 True))))))))))))))))))))))))))))))))))))))) ∧
 (bcase (decide (0 + n6 * 5 ≤ List.length l6))
 (∃ n8 : Int,
 ((Says C 45 [(D.sl (n6) 5 (List.take (n6 * 5) (List.drop 0 l6)))] [(D.val (vI n8))]) ∧
 ((((Qv (Sl 1007 7 7)) ∧
 (Qv (some (AObj.cells [(vI n1), (vI n2), (vI n3), (vI n4), (vI n5), (vI n7), (vI n8)] 32 false 1)))) ∧
 ((Qv (Pt 1000 6)) ∧
 ((Qv (Value.agg [(vI x9), (vI x10)].toArray)) ∧
 ((Qv (Pt 1000 9)) ∧
 ((Qv (Value.agg [(vI x7), (vI x8)].toArray)) ∧
 ((Qv (Pt 1000 7)) ∧
 ((Qv (Value.agg [(vI x3), (vI x4)].toArray)) ∧
 ((Qv (Pt 1000 3)) ∧
 ((Qv (Value.agg [(vI x2), (vI x1)].toArray)) ∧
 ((Qv (vI x1)) ∧
 ((Qv (Pt 1000 1)) ∧
 ((Qv (vI x2)) ∧
 ((Qv (Pt 1000 2)) ∧
 ((Qv (vI x10)) ∧
 ((Qv (Pt 1000 10)) ∧
 ((Qv (Pt 1000 9)) ∧
 ((Qv (vI x9)) ∧
 ((Qv (Pt 1000 9)) ∧
 ((Qv (Pt 1000 9)) ∧
 ((Qv (vI x8)) ∧
 ((Qv (Pt 1000 8)) ∧
 ((Qv (Pt 1000 7)) ∧
 ((Qv (vI x7)) ∧
 ((Qv (Pt 1000 7)) ∧
 ((Qv (Pt 1000 7)) ∧
 ((Qv (vI x5)) ∧
 ((Qv (Pt 1000 5)) ∧
 ((Qv (vI x4)) ∧
 ((Qv (Pt 1000 4)) ∧
 ((Qv (Pt 1000 3)) ∧
 ((Qv (vI x3)) ∧
 ((Qv (Pt 1000 3)) ∧
 ((Qv (Pt 1000 3)) ∧
 ((Qv (vI x2)) ∧
 ((Qv (Pt 1000 2)) ∧
 ((Qv (vI x1)) ∧
 ((Qv (Pt 1000 1)) ∧
 ((Qv (vI x0)) ∧
 ((Qv (Pt 1000 0)) ∧
 True))))))))))))))))))))))))))))))))))))))) ∧
 (∃ n9 : Int,
 ((Says C 42 [(D.sl 7 1 [(vI n1), (vI n2), (vI n3), (vI n4), (vI n5), (vI n7), (vI n8)])] [(D.val (vI n9))]) ∧
 (((Qv (Pt 1000 6)) ∧
 ((Qv (Value.agg [(vI x9), (vI x10)].toArray)) ∧
 ((Qv (Pt 1000 9)) ∧
 ((Qv (Value.agg [(vI x7), (vI x8)].toArray)) ∧
 ((Qv (Pt 1000 7)) ∧
 ((Qv (Value.agg [(vI x3), (vI x4)].toArray)) ∧
 ((Qv (Pt 1000 3)) ∧
 ((Qv (Value.agg [(vI x2), (vI x1)].toArray)) ∧
 ((Qv (vI x1)) ∧
 ((Qv (Pt 1000 1)) ∧
 ((Qv (vI x2)) ∧
 ((Qv (Pt 1000 2)) ∧
 ((Qv (vI x10)) ∧
 ((Qv (Pt 1000 10)) ∧
 ((Qv (Pt 1000 9)) ∧
 ((Qv (vI x9)) ∧
 ((Qv (Pt 1000 9)) ∧
 ((Qv (Pt 1000 9)) ∧
 ((Qv (vI x8)) ∧
 ((Qv (Pt 1000 8)) ∧
 ((Qv (Pt 1000 7)) ∧
 ((Qv (vI x7)) ∧
 ((Qv (Pt 1000 7)) ∧
 ((Qv (Pt 1000 7)) ∧
 ((Qv (vI x5)) ∧
 ((Qv (Pt 1000 5)) ∧
 ((Qv (vI x4)) ∧
 ((Qv (Pt 1000 4)) ∧
 ((Qv (Pt 1000 3)) ∧
 ((Qv (vI x3)) ∧
 ((Qv (Pt 1000 3)) ∧
 ((Qv (Pt 1000 3)) ∧
 ((Qv (vI x2)) ∧
 ((Qv (Pt 1000 2)) ∧
 ((Qv (vI x1)) ∧
 ((Qv (Pt 1000 1)) ∧
 ((Qv (vI x0)) ∧
 ((Qv (Pt 1000 0)) ∧
 True)))))))))))))))))))))))))))))))))))))) ∧
 (True ∧
 (bcase (n9 != 0)
 (k [(D.val (vI 0)), (D.val (vI n9))])
 (L 0 [(Prod.mk 66 (Sl 500 (n6) (c6))), (Prod.mk 67 (vI ((↑n6 : Int)))), (Prod.mk 68 (vI 0))] [(Prod.mk 500 (AObj.sym (l6) false 5))])))))))))
 False)))))))))))))))))))) := by kernel_rfl
abbrev zKR1 (n0 : Nat) (c1 : Nat) (x2 : Int) (x3 : Int) (l4 : List Value) : Slots × Blocks := ([(66, (Value.slice (some ⟨500, 0, none⟩) n0 c1)), (67, (Value.int .i64 x2)), (68, (Value.int .i64 x3))], [(500, (AObj.sym l4 false 5))])
def rKR1 (C : Ct) (L : AtLoop) (n0 : Nat) (c1 : Nat) (x2 : Int) (x3 : Int) (l4 : List Value) (B : Bx) (X : Xx) (k : List D → Prop) : Prop := wpRound Try.prog (hP C) L 8 0 [(66, (Value.slice (some ⟨500, 0, none⟩) n0 c1)), (67, (Value.int .i64 x2)), (68, (Value.int .i64 x3))] [(500, (AObj.sym l4 false 5))] B X (dataK k)
theorem rKR1_text (C : Ct) (L : AtLoop) (n0 : Nat) (c1 : Nat) (x2 : Int) (x3 : Int) (l4 : List Go.Value) (B : Bx) (X : Xx) (k : List D → Prop) : rKR1 C L n0 c1 x2 x3 l4 B X k =
 (bcase (decide (x3 < x2))
 (bcase (decide (0 ≤ x3))
 (bcase (decide (x3 < (↑n0 : Int)))
 (∃ n1 : Int,
 (∃ n2 : Int,
 (∃ n3 : Int,
 (∃ n4 : Int,
 (∃ n5 : Int,
 ((At (l4) (0 + Int.toNat x3 * 5) 5 [(vI n1), (vI n2), (vI n3), (vI n4), (vI n5)]) ∧
 (∃ n6 : Int,
 ((Says C 46 [(D.agg [(D.val (vI n1)), (D.val (vI n2)), (D.val (vI n3)), (D.val (vI n4)), (D.val (vI n5))])] [(D.val (vI n6))]) ∧
 (bcase (n6 != 0)
 (k [(D.val (vI x3)), (D.val (vI n6))])
 (B [(Prod.mk 66 (Sl 500 (n0) (c1))), (Prod.mk 67 (vI x2)), (Prod.mk 68 (vI (IntKind.wrap .i64 (x3 + 1))))] [(Prod.mk 500 (AObj.sym (l4) false 5))]))))))))))
 False)
 False)
 (X 0 [] [])) := by kernel_rfl
def nKR2 (C : Ct) (L : AtLoop) (k : List D → Prop) : Prop := wpNext Try.prog (hP C) L 8 0 .normal [] [] (dataK k)
theorem nKR2_text (C : Ct) (L : AtLoop) (k : List D → Prop) : nKR2 C L k =
 (k [(D.val (vI 0)), (D.val (vI 0))]) := by kernel_rfl
def giL (C : Ct) (L : AtLoop) (x0 : Int) (k : List D → Prop) : Prop := wpFn Try.prog (hP C) L 0 81 #[.int .u8 x0] (heapOf []) (dataK k)
theorem giL_text (C : Ct) (L : AtLoop) (x0 : Int) (k : List D → Prop) : giL C L x0 k =
 (bcase (decide (97 ≤ x0))
 (bcase (decide (x0 ≤ 122))
 (k [(D.val (Value.bool true))])
 (bcase (decide (65 ≤ x0))
 (bcase (decide (x0 ≤ 90))
 (k [(D.val (Value.bool true))])
 (k [(D.val (Value.bool false))]))
 (k [(D.val (Value.bool false))])))
 (bcase (decide (65 ≤ x0))
 (bcase (decide (x0 ≤ 90))
 (k [(D.val (Value.bool true))])
 (k [(D.val (Value.bool false))]))
 (k [(D.val (Value.bool false))]))) := by kernel_rfl
def giD (C : Ct) (L : AtLoop) (x0 : Int) (k : List D → Prop) : Prop := wpFn Try.prog (hP C) L 0 82 #[.int .u8 x0] (heapOf []) (dataK k)
theorem giD_text (C : Ct) (L : AtLoop) (x0 : Int) (k : List D → Prop) : giD C L x0 k =
 (bcase (decide (48 ≤ x0))
 (bcase (decide (x0 ≤ 57))
 (k [(D.val (Value.bool true))])
 (k [(D.val (Value.bool false))]))
 (k [(D.val (Value.bool false))])) := by kernel_rfl
def giN (C : Ct) (L : AtLoop) (s0 : ByteArray) (k : List D → Prop) : Prop := wpFn Try.prog (hP C) L 0 47 #[.string s0] (heapOf []) (dataK k)
theorem giN_text (C : Ct) (L : AtLoop) (s0 : ByteArray) (k : List D → Prop) : giN C L s0 k =
 (bcase ((↑(ByteArray.size s0) : Int) == 0)
 (k [(D.val (Value.bool false))])
 (bcase (decide ((↑(ByteArray.size s0) : Int) > 12))
 (k [(D.val (Value.bool false))])
 (∃ b1 : UInt8,
 ((ByteAt (s0) 0 (b1)) ∧
 (((Says C 81 [(D.val (Value.int IntKind.u8 ((↑(UInt8.toNat b1) : Int))))] [(D.val (Value.bool true))]) ∧
 (L 0 [(Prod.mk 0 (Value.string (s0))), (Prod.mk 19 (vI ((↑(ByteArray.size s0) : Int)))), (Prod.mk 20 (vI 0))] [])) ∨
 ((Says C 81 [(D.val (Value.int IntKind.u8 ((↑(UInt8.toNat b1) : Int))))] [(D.val (Value.bool false))]) ∧
 (k [(D.val (Value.bool false))]))))))) := by kernel_rfl
abbrev ziN1 (s0 : ByteArray) (x1 : Int) (x2 : Int) : Slots × Blocks := ([(0, (Value.string s0)), (19, (Value.int .i64 x1)), (20, (Value.int .i64 x2))], [])
def riN1 (C : Ct) (L : AtLoop) (s0 : ByteArray) (x1 : Int) (x2 : Int) (B : Bx) (X : Xx) (k : List D → Prop) : Prop := wpRound Try.prog (hP C) L 47 0 [(0, (Value.string s0)), (19, (Value.int .i64 x1)), (20, (Value.int .i64 x2))] [] B X (dataK k)
theorem riN1_text (C : Ct) (L : AtLoop) (s0 : ByteArray) (x1 : Int) (x2 : Int) (B : Bx) (X : Xx) (k : List D → Prop) : riN1 C L s0 x1 x2 B X k =
 (bcase (decide (x2 < x1))
 (bcase (decide (0 ≤ x2))
 (∃ b1 : UInt8,
 ((ByteAt (s0) (Int.toNat x2) (b1)) ∧
 (((Says C 81 [(D.val (Value.int IntKind.u8 ((↑(UInt8.toNat b1) : Int))))] [(D.val (Value.bool true))]) ∧
 (B [(Prod.mk 0 (Value.string (s0))), (Prod.mk 19 (vI x1)), (Prod.mk 20 (vI (IntKind.wrap .i64 (x2 + 1))))] [])) ∨
 ((Says C 81 [(D.val (Value.int IntKind.u8 ((↑(UInt8.toNat b1) : Int))))] [(D.val (Value.bool false))]) ∧
 (bcase (decide (0 ≤ x2))
 (∃ b2 : UInt8,
 ((ByteAt (s0) (Int.toNat x2) (b2)) ∧
 (((Says C 82 [(D.val (Value.int IntKind.u8 ((↑(UInt8.toNat b2) : Int))))] [(D.val (Value.bool true))]) ∧
 (B [(Prod.mk 0 (Value.string (s0))), (Prod.mk 19 (vI x1)), (Prod.mk 20 (vI (IntKind.wrap .i64 (x2 + 1))))] [])) ∨
 ((Says C 82 [(D.val (Value.int IntKind.u8 ((↑(UInt8.toNat b2) : Int))))] [(D.val (Value.bool false))]) ∧
 (bcase (decide (0 ≤ x2))
 (∃ b3 : UInt8,
 ((ByteAt (s0) (Int.toNat x2) (b3)) ∧
 (bcase ((↑(UInt8.toNat b3) : Int) != 45)
 (k [(D.val (Value.bool false))])
 (B [(Prod.mk 0 (Value.string (s0))), (Prod.mk 19 (vI x1)), (Prod.mk 20 (vI (IntKind.wrap .i64 (x2 + 1))))] []))))
 False)))))
 False)))))
 False)
 (X 0 [] [])) := by kernel_rfl
def niN2 (C : Ct) (L : AtLoop) (k : List D → Prop) : Prop := wpNext Try.prog (hP C) L 47 0 .normal [] [] (dataK k)
theorem niN2_text (C : Ct) (L : AtLoop) (k : List D → Prop) : niN2 C L k =
 (k [(D.val (Value.bool true))]) := by kernel_rfl
def gKS (C : Ct) (L : AtLoop) (x0 : Int) (x1 : Int) (x2 : Int) (x3 : Int) (x4 : Int) (x5 : Int) (n6 : Nat) (c6 : Nat) (l6 : List Value) (x7 : Int) (x8 : Int) (x9 : Int) (x10 : Int) (s11 : ByteArray) (n12 : Nat) (c12 : Nat) (l12 : List Value) (k : List D → Prop) : Prop := wpFn Try.prog (hP C) L 0 10 #[.agg #[.int .i64 x0, .int .i64 x1, .int .i64 x2, .int .i64 x3, .int .i64 x4, .int .i64 x5, .slice (some ⟨500, 0, none⟩) n6 c6, .int .i64 x7, .int .i64 x8, .int .i64 x9, .int .i64 x10], .agg #[.string s11, .slice (some ⟨501, 0, none⟩) n12 c12]] (heapOf [(500, .sym l6 false 5), (501, .sym l12 false 1)]) (dataK k)
theorem gKS_text (C : Ct) (L : AtLoop) (x0 : Int) (x1 : Int) (x2 : Int) (x3 : Int) (x4 : Int) (x5 : Int) (n6 : Nat) (c6 : Nat) (l6 : List Go.Value) (x7 : Int) (x8 : Int) (x9 : Int) (x10 : Int) (s11 : ByteArray) (n12 : Nat) (c12 : Nat) (l12 : List Go.Value) (k : List D → Prop) : gKS C L x0 x1 x2 x3 x4 x5 n6 c6 l6 x7 x8 x9 x10 s11 n12 c12 l12 k =
 (bcase (decide (0 + n6 * 5 ≤ List.length l6))
 (∃ n1 : Int,
 (∃ n2 : Int,
 ((Says C 8 [(D.agg [(D.val (vI x0)), (D.val (vI x1)), (D.val (vI x2)), (D.val (vI x3)), (D.val (vI x4)), (D.val (vI x5)), (D.sl (n6) 5 (List.take (n6 * 5) (List.drop 0 l6))), (D.val (vI x7)), (D.val (vI x8)), (D.val (vI x9)), (D.val (vI x10))])] [(D.val (vI n1)), (D.val (vI n2))]) ∧
 (bcase (n2 != 0)
 (k [(D.val (vI 0)), (D.val (vI n2))])
 (((Says C 47 [(D.val (Value.string (s11)))] [(D.val (Value.bool true))]) ∧
 (bcase ((↑n12 : Int) != (↑n6 : Int))
 (k [(D.val (vI 0)), (D.val (vI 10))])
 (L 1 [(Prod.mk 2 (Pt 1000 0)), (Prod.mk 8 (vI x1)), (Prod.mk 36 (Sl 501 (n12) (c12))), (Prod.mk 37 (vI ((↑n12 : Int)))), (Prod.mk 38 (vI 0))] [(Prod.mk 1000 (AObj.cells [(vI x0), (vI x1), (vI x2), (vI x3), (vI x4), (vI x5), (Sl 500 (n6) (c6)), (vI x7), (vI x8), (vI x9), (vI x10)] 26 false 1)), (Prod.mk 501 (AObj.sym (l12) false 1)), (Prod.mk 500 (AObj.sym (l6) false 5))]))) ∨
 ((Says C 47 [(D.val (Value.string (s11)))] [(D.val (Value.bool false))]) ∧
 (k [(D.val (vI 0)), (D.val (vI 4))])))))))
 False) := by kernel_rfl
abbrev zKS1 (x0 : Int) (n1 : Nat) (c2 : Nat) (x3 : Int) (x4 : Int) (x5 : Int) (x6 : Int) (x7 : Int) (x8 : Int) (x9 : Int) (x10 : Int) (n11 : Nat) (c12 : Nat) (x13 : Int) (x14 : Int) (x15 : Int) (x16 : Int) (l17 : List Value) (l18 : List Value) : Slots × Blocks := ([(2, (Value.pointer (some ⟨1000, 0, none⟩))), (8, (Value.int .i64 x0)), (36, (Value.slice (some ⟨501, 0, none⟩) n1 c2)), (37, (Value.int .i64 x3)), (38, (Value.int .i64 x4))], [(1000, (AObj.cells [(Value.int .i64 x5), (Value.int .i64 x6), (Value.int .i64 x7), (Value.int .i64 x8), (Value.int .i64 x9), (Value.int .i64 x10), (Value.slice (some ⟨500, 0, none⟩) n11 c12), (Value.int .i64 x13), (Value.int .i64 x14), (Value.int .i64 x15), (Value.int .i64 x16)] 26 false 1)), (501, (AObj.sym l17 false 1)), (500, (AObj.sym l18 false 5))])
def rKS1 (C : Ct) (L : AtLoop) (x0 : Int) (n1 : Nat) (c2 : Nat) (x3 : Int) (x4 : Int) (x5 : Int) (x6 : Int) (x7 : Int) (x8 : Int) (x9 : Int) (x10 : Int) (n11 : Nat) (c12 : Nat) (x13 : Int) (x14 : Int) (x15 : Int) (x16 : Int) (l17 : List Value) (l18 : List Value) (B : Bx) (X : Xx) (k : List D → Prop) : Prop := wpRound Try.prog (hP C) L 10 1 [(2, (Value.pointer (some ⟨1000, 0, none⟩))), (8, (Value.int .i64 x0)), (36, (Value.slice (some ⟨501, 0, none⟩) n1 c2)), (37, (Value.int .i64 x3)), (38, (Value.int .i64 x4))] [(1000, (AObj.cells [(Value.int .i64 x5), (Value.int .i64 x6), (Value.int .i64 x7), (Value.int .i64 x8), (Value.int .i64 x9), (Value.int .i64 x10), (Value.slice (some ⟨500, 0, none⟩) n11 c12), (Value.int .i64 x13), (Value.int .i64 x14), (Value.int .i64 x15), (Value.int .i64 x16)] 26 false 1)), (501, (AObj.sym l17 false 1)), (500, (AObj.sym l18 false 5))] B X (dataK k)
theorem rKS1_text (C : Ct) (L : AtLoop) (x0 : Int) (n1 : Nat) (c2 : Nat) (x3 : Int) (x4 : Int) (x5 : Int) (x6 : Int) (x7 : Int) (x8 : Int) (x9 : Int) (x10 : Int) (n11 : Nat) (c12 : Nat) (x13 : Int) (x14 : Int) (x15 : Int) (x16 : Int) (l17 : List Go.Value) (l18 : List Go.Value) (B : Bx) (X : Xx) (k : List D → Prop) : rKS1 C L x0 n1 c2 x3 x4 x5 x6 x7 x8 x9 x10 n11 c12 x13 x14 x15 x16 l17 l18 B X k =
 (bcase (decide (x4 < x3))
 (bcase (decide (0 ≤ x4))
 (bcase (decide (x4 < (↑n1 : Int)))
 (∃ n2 : Int,
 ((At (l17) (0 + Int.toNat x4 * 1) 1 [(vI n2)]) ∧
 (∃ n3 : Int,
 ((Says C 48 [(D.val (vI n2))] [(D.val (vI n3))]) ∧
 (bcase (n3 != 0)
 (k [(D.val (vI x4)), (D.val (vI n3))])
 (bcase (decide (n2 > x0))
 (k [(D.val (vI x4)), (D.val (vI 9))])
 (B [(Prod.mk 2 (Pt 1000 0)), (Prod.mk 8 (vI n2)), (Prod.mk 36 (Sl 501 (n1) (c2))), (Prod.mk 37 (vI x3)), (Prod.mk 38 (vI (IntKind.wrap .i64 (x4 + 1))))] [(Prod.mk 1000 (AObj.cells [(vI x5), (vI x6), (vI x7), (vI x8), (vI x9), (vI x10), (Sl 500 (n11) (c12)), (vI x13), (vI x14), (vI x15), (vI x16)] 26 false 1)), (Prod.mk 501 (AObj.sym (l17) false 1)), (Prod.mk 500 (AObj.sym (l18) false 5))])))))))
 False)
 False)
 (X 1 [(Prod.mk 2 (Pt 1000 0)), (Prod.mk 8 (vI x0))] [(Prod.mk 1000 (AObj.cells [(vI x5), (vI x6), (vI x7), (vI x8), (vI x9), (vI x10), (Sl 500 (n11) (c12)), (vI x13), (vI x14), (vI x15), (vI x16)] 26 false 1)), (Prod.mk 500 (AObj.sym (l18) false 5))])) := by kernel_rfl
def nKS2 (C : Ct) (L : AtLoop) (x0 : Int) (x1 : Int) (x2 : Int) (x3 : Int) (x4 : Int) (x5 : Int) (x6 : Int) (n7 : Nat) (c8 : Nat) (x9 : Int) (x10 : Int) (x11 : Int) (x12 : Int) (l13 : List Value) (k : List D → Prop) : Prop := wpNext Try.prog (hP C) L 10 1 .normal [(2, (Value.pointer (some ⟨1000, 0, none⟩))), (8, (Value.int .i64 x0))] [(1000, (AObj.cells [(Value.int .i64 x1), (Value.int .i64 x2), (Value.int .i64 x3), (Value.int .i64 x4), (Value.int .i64 x5), (Value.int .i64 x6), (Value.slice (some ⟨500, 0, none⟩) n7 c8), (Value.int .i64 x9), (Value.int .i64 x10), (Value.int .i64 x11), (Value.int .i64 x12)] 26 false 1)), (500, (AObj.sym l13 false 5))] (dataK k)
theorem nKS2_text (C : Ct) (L : AtLoop) (x0 : Int) (x1 : Int) (x2 : Int) (x3 : Int) (x4 : Int) (x5 : Int) (x6 : Int) (n7 : Nat) (c8 : Nat) (x9 : Int) (x10 : Int) (x11 : Int) (x12 : Int) (l13 : List Go.Value) (k : List D → Prop) : nKS2 C L x0 x1 x2 x3 x4 x5 x6 n7 c8 x9 x10 x11 x12 l13 k =
 (bcase (x0 != x3)
 (k [(D.val (vI (IntKind.wrap .i64 ((↑n7 : Int) - 1)))), (D.val (vI 14))])
 (k [(D.val (vI 0)), (D.val (vI 0))])) := by kernel_rfl
def glT (C : Ct) (L : AtLoop) (x0 : Int) (x1 : Int) (k : List D → Prop) : Prop := wpFn Try.prog (hP C) L 0 53 #[.int .i64 x0, .int .i64 x1] (heapOf []) (dataK k)
theorem glT_text (C : Ct) (L : AtLoop) (x0 : Int) (x1 : Int) (k : List D → Prop) : glT C L x0 x1 k =
 (L 0 [(Prod.mk 0 (vI x0)), (Prod.mk 1 (vI x1)), (Prod.mk 4 (Pt 1000 0)), (Prod.mk 5 (vI (if IntKind.wrap .i64 (0 - x0) > x0 then IntKind.wrap .i64 (0 - x0) else x0))), (Prod.mk 6 (vI x1))] [(Prod.mk 1000 (AObj.cells [(vI 0), (vI 0)] 68 false 2))]) := by kernel_rfl
abbrev zlT1 (x0 : Int) (x1 : Int) (x2 : Int) (x3 : Int) (x4 : Int) (x5 : Int) : Slots × Blocks := ([(0, (Value.int .i64 x0)), (1, (Value.int .i64 x1)), (4, (Value.pointer (some ⟨1000, 0, none⟩))), (5, (Value.int .i64 x2)), (6, (Value.int .i64 x3))], [(1000, (AObj.cells [(Value.int .i64 x4), (Value.int .i64 x5)] 68 false 2))])
def rlT1 (C : Ct) (L : AtLoop) (x0 : Int) (x1 : Int) (x2 : Int) (x3 : Int) (x4 : Int) (x5 : Int) (B : Bx) (X : Xx) (k : List D → Prop) : Prop := wpRound Try.prog (hP C) L 53 0 [(0, (Value.int .i64 x0)), (1, (Value.int .i64 x1)), (4, (Value.pointer (some ⟨1000, 0, none⟩))), (5, (Value.int .i64 x2)), (6, (Value.int .i64 x3))] [(1000, (AObj.cells [(Value.int .i64 x4), (Value.int .i64 x5)] 68 false 2))] B X (dataK k)
theorem rlT1_text (C : Ct) (L : AtLoop) (x0 : Int) (x1 : Int) (x2 : Int) (x3 : Int) (x4 : Int) (x5 : Int) (B : Bx) (X : Xx) (k : List D → Prop) : rlT1 C L x0 x1 x2 x3 x4 x5 B X k =
 (bcase (decide (x3 > 0))
 (bcase (x3 != 0)
 (((bcase (x3 != 0)
 (Qv (vI (Int.tmod x2 x3)))
 False) ∧
 ((Qv (vI x3)) ∧
 ((Qv (vI x2)) ∧
 ((Qv (vI x3)) ∧
 True)))) ∧
 (((bcase (x3 != 0)
 (Qv (vI (Int.tmod x2 x3)))
 False) ∧
 ((Qv (vI x3)) ∧
 True)) ∧
 (True ∧
 (B [(Prod.mk 0 (vI x0)), (Prod.mk 1 (vI x1)), (Prod.mk 4 (Pt 1000 0)), (Prod.mk 5 (vI x3)), (Prod.mk 6 (vI (Int.tmod x2 x3)))] [(Prod.mk 1000 (AObj.cells [(vI x4), (vI x5)] 68 false 2))]))))
 False)
 (X 0 [(Prod.mk 0 (vI x0)), (Prod.mk 1 (vI x1)), (Prod.mk 4 (Pt 1000 0)), (Prod.mk 5 (vI x2))] [(Prod.mk 1000 (AObj.cells [(vI x4), (vI x5)] 68 false 2))])) := by kernel_rfl
def nlT2 (C : Ct) (L : AtLoop) (x0 : Int) (x1 : Int) (x2 : Int) (x3 : Int) (x4 : Int) (k : List D → Prop) : Prop := wpNext Try.prog (hP C) L 53 0 .normal [(0, (Value.int .i64 x0)), (1, (Value.int .i64 x1)), (4, (Value.pointer (some ⟨1000, 0, none⟩))), (5, (Value.int .i64 x2))] [(1000, (AObj.cells [(Value.int .i64 x3), (Value.int .i64 x4)] 68 false 2))] (dataK k)
theorem nlT2_text (C : Ct) (L : AtLoop) (x0 : Int) (x1 : Int) (x2 : Int) (x3 : Int) (x4 : Int) (k : List D → Prop) : nlT2 C L x0 x1 x2 x3 x4 k =
 (bcase (x2 != 0)
 (bcase (x2 != 0)
 (((Qv (Value.agg [(vI (IntKind.wrap .i64 (Int.tdiv x0 x2))), (vI (IntKind.wrap .i64 (Int.tdiv x1 x2)))].toArray)) ∧
 ((bcase (x2 != 0)
 (Qv (vI (IntKind.wrap .i64 (Int.tdiv x1 x2))))
 False) ∧
 ((Qv (vI x2)) ∧
 ((Qv (vI x1)) ∧
 ((bcase (x2 != 0)
 (Qv (vI (IntKind.wrap .i64 (Int.tdiv x0 x2))))
 False) ∧
 ((Qv (vI x2)) ∧
 ((Qv (vI x0)) ∧
 True))))))) ∧
 (True ∧
 (k [(D.agg [(D.val (vI (IntKind.wrap .i64 (Int.tdiv x0 x2)))), (D.val (vI (IntKind.wrap .i64 (Int.tdiv x1 x2))))])])))
 False)
 False) := by kernel_rfl
def gfB (C : Ct) (L : AtLoop) (x0 : Int) (x1 : Int) (x2 : Int) (x3 : Int) (x4 : Int) (x5 : Int) (n6 : Nat) (c6 : Nat) (l6 : List Value) (x7 : Int) (x8 : Int) (x9 : Int) (x10 : Int) (x11 : Int) (x12 : Int) (x13 : Int) (x14 : Int) (x15 : Int) (k : List D → Prop) : Prop := wpFn Try.prog (hP C) L 0 105 #[.agg #[.int .i64 x0, .int .i64 x1, .int .i64 x2, .int .i64 x3, .int .i64 x4, .int .i64 x5, .slice (some ⟨500, 0, none⟩) n6 c6, .int .i64 x7, .int .i64 x8, .int .i64 x9, .int .i64 x10], .agg #[.int .i64 x11, .int .i64 x12, .int .i64 x13], .int .i64 x14, .int .i64 x15] (heapOf [(500, .sym l6 false 5)]) (dataK k)
theorem gfB_text (C : Ct) (L : AtLoop) (x0 : Int) (x1 : Int) (x2 : Int) (x3 : Int) (x4 : Int) (x5 : Int) (n6 : Nat) (c6 : Nat) (l6 : List Go.Value) (x7 : Int) (x8 : Int) (x9 : Int) (x10 : Int) (x11 : Int) (x12 : Int) (x13 : Int) (x14 : Int) (x15 : Int) (k : List D → Prop) : gfB C L x0 x1 x2 x3 x4 x5 n6 c6 l6 x7 x8 x9 x10 x11 x12 x13 x14 x15 k =
 (bcase (x12 == x13)
 (k [(D.val (vI 0))])
 (((Qv (vI (IntKind.wrap .i64 (x15 * IntKind.wrap .i64 (x12 + x13))))) ∧
 ((Qv (vI (IntKind.wrap .i64 (x12 + x13)))) ∧
 ((Qv (vI x13)) ∧
 ((Qv (Pt 1001 2)) ∧
 ((Qv (vI x12)) ∧
 ((Qv (Pt 1001 1)) ∧
 ((Qv (vI x15)) ∧
 ((Qv (Value.agg [(vI x11), (vI x12), (vI x13)].toArray)) ∧
 ((Qv (vI x14)) ∧
 ((Qv (vI x0)) ∧
 ((Qv (Pt 1000 0)) ∧
 ((Qv (Pt 1000 0)) ∧
 True)))))))))))) ∧
 (((Qv (vI (IntKind.wrap .i64 (x0 * IntKind.wrap .i64 (IntKind.wrap .i64 (x14 * IntKind.wrap .i64 (x12 - x13)) + IntKind.wrap .i64 (x15 * IntKind.wrap .i64 (x12 + x13))))))) ∧
 ((Qv (vI (IntKind.wrap .i64 (IntKind.wrap .i64 (x14 * IntKind.wrap .i64 (x12 - x13)) + IntKind.wrap .i64 (x15 * IntKind.wrap .i64 (x12 + x13)))))) ∧
 ((Qv (vI (IntKind.wrap .i64 (x14 * IntKind.wrap .i64 (x12 - x13))))) ∧
 ((Qv (vI (IntKind.wrap .i64 (x15 * IntKind.wrap .i64 (x12 + x13))))) ∧
 ((Qv (vI (IntKind.wrap .i64 (x12 + x13)))) ∧
 ((Qv (vI x13)) ∧
 ((Qv (Pt 1001 2)) ∧
 ((Qv (vI x12)) ∧
 ((Qv (Pt 1001 1)) ∧
 ((Qv (vI x15)) ∧
 ((Qv (vI x14)) ∧
 ((Qv (vI x0)) ∧
 ((Qv (Pt 1000 0)) ∧
 ((Qv (Pt 1000 0)) ∧
 True)))))))))))))) ∧
 (True ∧
 (k [(D.val (vI (IntKind.wrap .i64 (x0 * IntKind.wrap .i64 (IntKind.wrap .i64 (x14 * IntKind.wrap .i64 (x12 - x13)) + IntKind.wrap .i64 (x15 * IntKind.wrap .i64 (x12 + x13)))))))]))))) := by kernel_rfl
def gfo (C : Ct) (L : AtLoop) (x0 : Int) (x1 : Int) (x2 : Int) (x3 : Int) (x4 : Int) (x5 : Int) (n6 : Nat) (c6 : Nat) (l6 : List Value) (x7 : Int) (x8 : Int) (x9 : Int) (x10 : Int) (x11 : Int) (x12 : Int) (x13 : Int) (k : List D → Prop) : Prop := wpFn Try.prog (hP C) L 0 98 #[.agg #[.int .i64 x0, .int .i64 x1, .int .i64 x2, .int .i64 x3, .int .i64 x4, .int .i64 x5, .slice (some ⟨500, 0, none⟩) n6 c6, .int .i64 x7, .int .i64 x8, .int .i64 x9, .int .i64 x10], .agg #[.int .i64 x11, .int .i64 x12, .int .i64 x13]] (heapOf [(500, .sym l6 false 5)]) (dataK k)
theorem gfo_text (C : Ct) (L : AtLoop) (x0 : Int) (x1 : Int) (x2 : Int) (x3 : Int) (x4 : Int) (x5 : Int) (n6 : Nat) (c6 : Nat) (l6 : List Go.Value) (x7 : Int) (x8 : Int) (x9 : Int) (x10 : Int) (x11 : Int) (x12 : Int) (x13 : Int) (k : List D → Prop) : gfo C L x0 x1 x2 x3 x4 x5 n6 c6 l6 x7 x8 x9 x10 x11 x12 x13 k =
 (((Qv (vI x10)) ∧
 ((Qv (Pt 1000 10)) ∧
 ((Qv (Pt 1000 9)) ∧
 ((Qv (Pt 1000 0)) ∧
 ((Qv (vI x8)) ∧
 ((Qv (Pt 1000 8)) ∧
 ((Qv (Pt 1000 7)) ∧
 ((Qv (Pt 1000 0)) ∧
 ((Qv (Value.agg [(vI x11), (vI x12), (vI x13)].toArray)) ∧
 ((Qv (Value.agg [(vI x0), (vI x1), (vI x2), (vI x3), (vI x4), (vI x5), (Sl 500 (n6) (c6)), (vI x7), (vI x8), (vI x9), (vI x10)].toArray)) ∧
 ((Qv (vI x9)) ∧
 ((Qv (Pt 1000 9)) ∧
 ((Qv (Pt 1000 9)) ∧
 ((Qv (Pt 1000 0)) ∧
 ((Qv (vI x7)) ∧
 ((Qv (Pt 1000 7)) ∧
 ((Qv (Pt 1000 7)) ∧
 ((Qv (Pt 1000 0)) ∧
 ((Qv (Value.agg [(vI x11), (vI x12), (vI x13)].toArray)) ∧
 ((Qv (Value.agg [(vI x0), (vI x1), (vI x2), (vI x3), (vI x4), (vI x5), (Sl 500 (n6) (c6)), (vI x7), (vI x8), (vI x9), (vI x10)].toArray)) ∧
 True)))))))))))))))))))) ∧
 (bcase (decide (0 + n6 * 5 ≤ List.length l6))
 (∃ n1 : Int,
 ((Says C 105 [(D.agg [(D.val (vI x0)), (D.val (vI x1)), (D.val (vI x2)), (D.val (vI x3)), (D.val (vI x4)), (D.val (vI x5)), (D.sl (n6) 5 (List.take (n6 * 5) (List.drop 0 l6))), (D.val (vI x7)), (D.val (vI x8)), (D.val (vI x9)), (D.val (vI x10))]), (D.agg [(D.val (vI x11)), (D.val (vI x12)), (D.val (vI x13))]), (D.val (vI x7)), (D.val (vI x9))] [(D.val (vI n1))]) ∧
 (((Qv (vI x10)) ∧
 ((Qv (Pt 1000 10)) ∧
 ((Qv (Pt 1000 9)) ∧
 ((Qv (Pt 1000 0)) ∧
 ((Qv (vI x8)) ∧
 ((Qv (Pt 1000 8)) ∧
 ((Qv (Pt 1000 7)) ∧
 ((Qv (Pt 1000 0)) ∧
 ((Qv (Value.agg [(vI x11), (vI x12), (vI x13)].toArray)) ∧
 ((Qv (Value.agg [(vI x0), (vI x1), (vI x2), (vI x3), (vI x4), (vI x5), (Sl 500 (n6) (c6)), (vI x7), (vI x8), (vI x9), (vI x10)].toArray)) ∧
 ((Qv (Pt 1000 9)) ∧
 ((Qv (Pt 1000 9)) ∧
 ((Qv (Pt 1000 0)) ∧
 ((Qv (Pt 1000 7)) ∧
 ((Qv (Pt 1000 7)) ∧
 ((Qv (Pt 1000 0)) ∧
 True)))))))))))))))) ∧
 (bcase (decide (0 + n6 * 5 ≤ List.length l6))
 (∃ n2 : Int,
 ((Says C 105 [(D.agg [(D.val (vI x0)), (D.val (vI x1)), (D.val (vI x2)), (D.val (vI x3)), (D.val (vI x4)), (D.val (vI x5)), (D.sl (n6) 5 (List.take (n6 * 5) (List.drop 0 l6))), (D.val (vI x7)), (D.val (vI x8)), (D.val (vI x9)), (D.val (vI x10))]), (D.agg [(D.val (vI x11)), (D.val (vI x12)), (D.val (vI x13))]), (D.val (vI x8)), (D.val (vI x10))] [(D.val (vI n2))]) ∧
 (((Qv (Value.agg [(vI n1), (vI n2)].toArray)) ∧
 ((Qv (Pt 1000 10)) ∧
 ((Qv (Pt 1000 9)) ∧
 ((Qv (Pt 1000 0)) ∧
 ((Qv (Pt 1000 8)) ∧
 ((Qv (Pt 1000 7)) ∧
 ((Qv (Pt 1000 0)) ∧
 ((Qv (Pt 1000 9)) ∧
 ((Qv (Pt 1000 9)) ∧
 ((Qv (Pt 1000 0)) ∧
 ((Qv (Pt 1000 7)) ∧
 ((Qv (Pt 1000 7)) ∧
 ((Qv (Pt 1000 0)) ∧
 True))))))))))))) ∧
 (True ∧
 (k [(D.agg [(D.val (vI n1)), (D.val (vI n2))])])))))
 False))))
 False)) := by kernel_rfl
def gto (C : Ct) (L : AtLoop) (x0 : Int) (x1 : Int) (x2 : Int) (x3 : Int) (x4 : Int) (x5 : Int) (n6 : Nat) (c6 : Nat) (l6 : List Value) (x7 : Int) (x8 : Int) (x9 : Int) (x10 : Int) (x11 : Int) (x12 : Int) (x13 : Int) (k : List D → Prop) : Prop := wpFn Try.prog (hP C) L 0 89 #[.agg #[.int .i64 x0, .int .i64 x1, .int .i64 x2, .int .i64 x3, .int .i64 x4, .int .i64 x5, .slice (some ⟨500, 0, none⟩) n6 c6, .int .i64 x7, .int .i64 x8, .int .i64 x9, .int .i64 x10], .agg #[.int .i64 x11, .int .i64 x12, .int .i64 x13]] (heapOf [(500, .sym l6 false 5)]) (dataK k)
theorem gto_text (C : Ct) (L : AtLoop) (x0 : Int) (x1 : Int) (x2 : Int) (x3 : Int) (x4 : Int) (x5 : Int) (n6 : Nat) (c6 : Nat) (l6 : List Go.Value) (x7 : Int) (x8 : Int) (x9 : Int) (x10 : Int) (x11 : Int) (x12 : Int) (x13 : Int) (k : List D → Prop) : gto C L x0 x1 x2 x3 x4 x5 n6 c6 l6 x7 x8 x9 x10 x11 x12 x13 k =
 (bcase (decide (0 + n6 * 5 ≤ List.length l6))
 (∃ n1 : Int,
 (∃ n2 : Int,
 ((Says C 98 [(D.agg [(D.val (vI x0)), (D.val (vI x1)), (D.val (vI x2)), (D.val (vI x3)), (D.val (vI x4)), (D.val (vI x5)), (D.sl (n6) 5 (List.take (n6 * 5) (List.drop 0 l6))), (D.val (vI x7)), (D.val (vI x8)), (D.val (vI x9)), (D.val (vI x10))]), (D.agg [(D.val (vI x11)), (D.val (vI x12)), (D.val (vI x13))])] [(D.agg [(D.val (vI n1)), (D.val (vI n2))])]) ∧
 (((Qv (Value.agg [(vI x11), (vI x12), (vI x13)].toArray)) ∧
 ((Qv (vI n2)) ∧
 ((Qv (Pt 1003 1)) ∧
 ((Qv (Value.agg [(vI x11), (vI x12), (vI x13)].toArray)) ∧
 ((Qv (vI n1)) ∧
 ((Qv (Pt 1003 0)) ∧
 True)))))) ∧
 (((Qv (vI (IntKind.wrap .i64 (n1 * IntKind.wrap .i64 (x12 - x13))))) ∧
 ((Qv (Value.agg [(vI x11), (vI x12), (vI x13)].toArray)) ∧
 ((Qv (vI n2)) ∧
 ((Qv (Pt 1003 1)) ∧
 ((Qv (vI n1)) ∧
 ((Qv (Pt 1003 0)) ∧
 True)))))) ∧
 (((Qv (Value.agg [(vI (IntKind.wrap .i64 (n1 * IntKind.wrap .i64 (x12 - x13)))), (vI (IntKind.wrap .i64 (n2 * IntKind.wrap .i64 (x12 - x13))))].toArray)) ∧
 ((Qv (vI (IntKind.wrap .i64 (n2 * IntKind.wrap .i64 (x12 - x13))))) ∧
 ((Qv (vI (IntKind.wrap .i64 (n1 * IntKind.wrap .i64 (x12 - x13))))) ∧
 ((Qv (vI n2)) ∧
 ((Qv (Pt 1003 1)) ∧
 ((Qv (vI n1)) ∧
 ((Qv (Pt 1003 0)) ∧
 True))))))) ∧
 (True ∧
 (k [(D.agg [(D.val (vI (IntKind.wrap .i64 (n1 * IntKind.wrap .i64 (x12 - x13))))), (D.val (vI (IntKind.wrap .i64 (n2 * IntKind.wrap .i64 (x12 - x13)))))])]))))))))
 False) := by kernel_rfl
def gbi (C : Ct) (L : AtLoop) (x0 : Int) (x1 : Int) (x2 : Int) (x3 : Int) (x4 : Int) (x5 : Int) (n6 : Nat) (c6 : Nat) (l6 : List Value) (x7 : Int) (x8 : Int) (x9 : Int) (x10 : Int) (x11 : Int) (x12 : Int) (x13 : Int) (k : List D → Prop) : Prop := wpFn Try.prog (hP C) L 0 99 #[.agg #[.int .i64 x0, .int .i64 x1, .int .i64 x2, .int .i64 x3, .int .i64 x4, .int .i64 x5, .slice (some ⟨500, 0, none⟩) n6 c6, .int .i64 x7, .int .i64 x8, .int .i64 x9, .int .i64 x10], .agg #[.int .i64 x11, .int .i64 x12, .int .i64 x13]] (heapOf [(500, .sym l6 false 5)]) (dataK k)
theorem gbi_text (C : Ct) (L : AtLoop) (x0 : Int) (x1 : Int) (x2 : Int) (x3 : Int) (x4 : Int) (x5 : Int) (n6 : Nat) (c6 : Nat) (l6 : List Go.Value) (x7 : Int) (x8 : Int) (x9 : Int) (x10 : Int) (x11 : Int) (x12 : Int) (x13 : Int) (k : List D → Prop) : gbi C L x0 x1 x2 x3 x4 x5 n6 c6 l6 x7 x8 x9 x10 x11 x12 x13 k =
 (bcase (x12 == x13)
 (k [(D.agg [(D.val (vI 0)), (D.val (vI 0))])])
 (((Qv (vI x10)) ∧
 ((Qv (Pt 1000 10)) ∧
 ((Qv (Pt 1000 9)) ∧
 ((Qv (Pt 1000 0)) ∧
 ((Qv (Value.func (Go.Fn.func 107) [].toArray [(Pt 1000 0), (Pt 1001 0)].toArray)) ∧
 ((Qv (vI x9)) ∧
 ((Qv (Pt 1000 9)) ∧
 ((Qv (Pt 1000 9)) ∧
 ((Qv (Pt 1000 0)) ∧
 ((Qv (Value.func (Go.Fn.func 107) [].toArray [(Pt 1000 0), (Pt 1001 0)].toArray)) ∧
 True)))))))))) ∧
 (bcase (decide (0 ≤ x11))
 (bcase (decide (x11 < (↑n6 : Int)))
 (∃ n1 : Int,
 ((At (l6) (0 + Int.toNat x11 * 5) 1 [(vI n1)]) ∧
 (((Qv (Value.agg [(vI x11), (vI x12), (vI x13)].toArray)) ∧
 ((Qv (vI (IntKind.wrap .i64 (IntKind.wrap .i64 (1 * x9) * n1)))) ∧
 ((∃ n2 : Int,
 ((At (l6) (0 + Int.toNat x11 * 5) 1 [(vI n2)]) ∧
 ((vI n2) = (vI n1)))) ∧
 ((Qv (Pt 500 (0 + Int.toNat x11 * 5))) ∧
 ((bcase (decide (0 ≤ x11))
 (bcase (decide (x11 < (↑n6 : Int)))
 (Qv (Pt 500 (0 + Int.toNat x11 * 5)))
 False)
 False) ∧
 ((Qv (vI x11)) ∧
 ((Qv (Pt 1001 0)) ∧
 ((Qv (Sl 500 (n6) (c6))) ∧
 ((Qv (Pt 1000 6)) ∧
 ((Qv (Pt 1000 0)) ∧
 ((Qv (vI (IntKind.wrap .i64 (1 * x9)))) ∧
 ((Qv (vI x9)) ∧
 True)))))))))))) ∧
 (((Qv (vI (IntKind.wrap .i64 (IntKind.wrap .i64 (IntKind.wrap .i64 (1 * x9) * n1) - IntKind.wrap .i64 (100 * IntKind.wrap .i64 (x12 - x13)))))) ∧
 ((Qv (vI (IntKind.wrap .i64 (100 * IntKind.wrap .i64 (x12 - x13))))) ∧
 ((Qv (vI (IntKind.wrap .i64 (IntKind.wrap .i64 (1 * x9) * n1)))) ∧
 ((∃ n2 : Int,
 ((At (l6) (0 + Int.toNat x11 * 5) 1 [(vI n2)]) ∧
 ((vI n2) = (vI n1)))) ∧
 ((Qv (Pt 500 (0 + Int.toNat x11 * 5))) ∧
 ((bcase (decide (0 ≤ x11))
 (bcase (decide (x11 < (↑n6 : Int)))
 (Qv (Pt 500 (0 + Int.toNat x11 * 5)))
 False)
 False) ∧
 ((Qv (vI x11)) ∧
 ((Qv (Pt 1001 0)) ∧
 ((Qv (Sl 500 (n6) (c6))) ∧
 ((Qv (Pt 1000 6)) ∧
 ((Qv (Pt 1000 0)) ∧
 ((Qv (vI (IntKind.wrap .i64 (1 * x9)))) ∧
 ((Qv (vI x9)) ∧
 True))))))))))))) ∧
 (True ∧
 (((Qv (vI x10)) ∧
 ((Qv (Pt 1000 10)) ∧
 ((Qv (Pt 1000 9)) ∧
 ((Qv (Pt 1000 0)) ∧
 ((Qv (Value.func (Go.Fn.func 107) [].toArray [(Pt 1000 0), (Pt 1001 0)].toArray)) ∧
 ((Qv (Pt 1000 9)) ∧
 ((Qv (Pt 1000 9)) ∧
 ((Qv (Pt 1000 0)) ∧
 True)))))))) ∧
 (bcase (decide (0 ≤ x11))
 (bcase (decide (x11 < (↑n6 : Int)))
 (∃ n2 : Int,
 ((At (l6) (0 + Int.toNat x11 * 5) 1 [(vI n2)]) ∧
 (((Qv (Value.agg [(vI x11), (vI x12), (vI x13)].toArray)) ∧
 ((Qv (vI (IntKind.wrap .i64 (IntKind.wrap .i64 (1 * x10) * n2)))) ∧
 ((∃ n3 : Int,
 ((At (l6) (0 + Int.toNat x11 * 5) 1 [(vI n3)]) ∧
 ((vI n3) = (vI n2)))) ∧
 ((Qv (Pt 500 (0 + Int.toNat x11 * 5))) ∧
 ((bcase (decide (0 ≤ x11))
 (bcase (decide (x11 < (↑n6 : Int)))
 (Qv (Pt 500 (0 + Int.toNat x11 * 5)))
 False)
 False) ∧
 ((Qv (vI x11)) ∧
 ((Qv (Pt 1001 0)) ∧
 ((Qv (Sl 500 (n6) (c6))) ∧
 ((Qv (Pt 1000 6)) ∧
 ((Qv (Pt 1000 0)) ∧
 ((Qv (vI (IntKind.wrap .i64 (1 * x10)))) ∧
 ((Qv (vI x10)) ∧
 True)))))))))))) ∧
 (((Qv (vI (IntKind.wrap .i64 (IntKind.wrap .i64 (IntKind.wrap .i64 (1 * x10) * n2) - IntKind.wrap .i64 (100 * IntKind.wrap .i64 (x12 - x13)))))) ∧
 ((Qv (vI (IntKind.wrap .i64 (100 * IntKind.wrap .i64 (x12 - x13))))) ∧
 ((Qv (vI (IntKind.wrap .i64 (IntKind.wrap .i64 (1 * x10) * n2)))) ∧
 ((∃ n3 : Int,
 ((At (l6) (0 + Int.toNat x11 * 5) 1 [(vI n3)]) ∧
 ((vI n3) = (vI n2)))) ∧
 ((Qv (Pt 500 (0 + Int.toNat x11 * 5))) ∧
 ((bcase (decide (0 ≤ x11))
 (bcase (decide (x11 < (↑n6 : Int)))
 (Qv (Pt 500 (0 + Int.toNat x11 * 5)))
 False)
 False) ∧
 ((Qv (vI x11)) ∧
 ((Qv (Pt 1001 0)) ∧
 ((Qv (Sl 500 (n6) (c6))) ∧
 ((Qv (Pt 1000 6)) ∧
 ((Qv (Pt 1000 0)) ∧
 ((Qv (vI (IntKind.wrap .i64 (1 * x10)))) ∧
 ((Qv (vI x10)) ∧
 True))))))))))))) ∧
 (True ∧
 (((Qv (Value.agg [(vI (IntKind.wrap .i64 (IntKind.wrap .i64 (IntKind.wrap .i64 (1 * x9) * n1) - IntKind.wrap .i64 (100 * IntKind.wrap .i64 (x12 - x13))))), (vI (IntKind.wrap .i64 (IntKind.wrap .i64 (IntKind.wrap .i64 (1 * x10) * n2) - IntKind.wrap .i64 (100 * IntKind.wrap .i64 (x12 - x13)))))].toArray)) ∧
 ((Qv (Pt 1000 10)) ∧
 ((Qv (Pt 1000 9)) ∧
 ((Qv (Pt 1000 0)) ∧
 ((Qv (Pt 1000 9)) ∧
 ((Qv (Pt 1000 9)) ∧
 ((Qv (Pt 1000 0)) ∧
 True))))))) ∧
 (True ∧
 (k [(D.agg [(D.val (vI (IntKind.wrap .i64 (IntKind.wrap .i64 (IntKind.wrap .i64 (1 * x9) * n1) - IntKind.wrap .i64 (100 * IntKind.wrap .i64 (x12 - x13)))))), (D.val (vI (IntKind.wrap .i64 (IntKind.wrap .i64 (IntKind.wrap .i64 (1 * x10) * n2) - IntKind.wrap .i64 (100 * IntKind.wrap .i64 (x12 - x13))))))])]))))))))
 False)
 False)))))))
 False)
 False))) := by kernel_rfl
def ghe (C : Ct) (L : AtLoop) (x0 : Int) (x1 : Int) (x2 : Int) (x3 : Int) (x4 : Int) (x5 : Int) (n6 : Nat) (c6 : Nat) (l6 : List Value) (x7 : Int) (x8 : Int) (x9 : Int) (x10 : Int) (x11 : Int) (x12 : Int) (x13 : Int) (k : List D → Prop) : Prop := wpFn Try.prog (hP C) L 0 63 #[.agg #[.int .i64 x0, .int .i64 x1, .int .i64 x2, .int .i64 x3, .int .i64 x4, .int .i64 x5, .slice (some ⟨500, 0, none⟩) n6 c6, .int .i64 x7, .int .i64 x8, .int .i64 x9, .int .i64 x10], .agg #[.int .i64 x11, .int .i64 x12, .int .i64 x13]] (heapOf [(500, .sym l6 false 5)]) (dataK k)
theorem ghe_text (C : Ct) (L : AtLoop) (x0 : Int) (x1 : Int) (x2 : Int) (x3 : Int) (x4 : Int) (x5 : Int) (n6 : Nat) (c6 : Nat) (l6 : List Go.Value) (x7 : Int) (x8 : Int) (x9 : Int) (x10 : Int) (x11 : Int) (x12 : Int) (x13 : Int) (k : List D → Prop) : ghe C L x0 x1 x2 x3 x4 x5 n6 c6 l6 x7 x8 x9 x10 x11 x12 x13 k =
 (bcase (decide (0 ≤ IntKind.wrap .i64 (x11 + 1)))
 (bcase (decide (IntKind.wrap .i64 (x11 + 1) ≤ (↑c6 : Int)))
 (L 0 [(Prod.mk 2 (Pt 1000 0)), (Prod.mk 3 (Pt 1001 0)), (Prod.mk 4 (Pt 1002 0)), (Prod.mk 5 (Pt 1003 0)), (Prod.mk 15 (Sl 500 (Int.toNat (IntKind.wrap .i64 (x11 + 1)) - 0) (c6 - 0))), (Prod.mk 16 (vI ((↑(Int.toNat (IntKind.wrap .i64 (x11 + 1)) - 0) : Int)))), (Prod.mk 17 (vI 0))] [(Prod.mk 1000 (AObj.cells [(vI x0), (vI x1), (vI x2), (vI x3), (vI x4), (vI x5), (Sl 500 (n6) (c6)), (vI x7), (vI x8), (vI x9), (vI x10)] 95 false 1)), (Prod.mk 1001 (AObj.cells [(vI x11), (vI x12), (vI x13)] 100 false 1)), (Prod.mk 1002 (AObj.cells [(vI 0), (vI 0)] 23 false 2)), (Prod.mk 1003 (AObj.cells [(vI 0), (vI 0)] 23 false 2)), (Prod.mk 500 (AObj.sym (l6) false 5))])
 False)
 False) := by kernel_rfl
abbrev zhe1 (n0 : Nat) (c1 : Nat) (x2 : Int) (x3 : Int) (x4 : Int) (x5 : Int) (x6 : Int) (x7 : Int) (x8 : Int) (x9 : Int) (n10 : Nat) (c11 : Nat) (x12 : Int) (x13 : Int) (x14 : Int) (x15 : Int) (x16 : Int) (x17 : Int) (x18 : Int) (x19 : Int) (x20 : Int) (x21 : Int) (x22 : Int) (l23 : List Value) : Slots × Blocks := ([(2, (Value.pointer (some ⟨1000, 0, none⟩))), (3, (Value.pointer (some ⟨1001, 0, none⟩))), (4, (Value.pointer (some ⟨1002, 0, none⟩))), (5, (Value.pointer (some ⟨1003, 0, none⟩))), (15, (Value.slice (some ⟨500, 0, none⟩) n0 c1)), (16, (Value.int .i64 x2)), (17, (Value.int .i64 x3))], [(1000, (AObj.cells [(Value.int .i64 x4), (Value.int .i64 x5), (Value.int .i64 x6), (Value.int .i64 x7), (Value.int .i64 x8), (Value.int .i64 x9), (Value.slice (some ⟨500, 0, none⟩) n10 c11), (Value.int .i64 x12), (Value.int .i64 x13), (Value.int .i64 x14), (Value.int .i64 x15)] 95 false 1)), (1001, (AObj.cells [(Value.int .i64 x16), (Value.int .i64 x17), (Value.int .i64 x18)] 100 false 1)), (1002, (AObj.cells [(Value.int .i64 x19), (Value.int .i64 x20)] 23 false 2)), (1003, (AObj.cells [(Value.int .i64 x21), (Value.int .i64 x22)] 23 false 2)), (500, (AObj.sym l23 false 5))])
def rhe1 (C : Ct) (L : AtLoop) (n0 : Nat) (c1 : Nat) (x2 : Int) (x3 : Int) (x4 : Int) (x5 : Int) (x6 : Int) (x7 : Int) (x8 : Int) (x9 : Int) (n10 : Nat) (c11 : Nat) (x12 : Int) (x13 : Int) (x14 : Int) (x15 : Int) (x16 : Int) (x17 : Int) (x18 : Int) (x19 : Int) (x20 : Int) (x21 : Int) (x22 : Int) (l23 : List Value) (B : Bx) (X : Xx) (k : List D → Prop) : Prop := wpRound Try.prog (hP C) L 63 0 [(2, (Value.pointer (some ⟨1000, 0, none⟩))), (3, (Value.pointer (some ⟨1001, 0, none⟩))), (4, (Value.pointer (some ⟨1002, 0, none⟩))), (5, (Value.pointer (some ⟨1003, 0, none⟩))), (15, (Value.slice (some ⟨500, 0, none⟩) n0 c1)), (16, (Value.int .i64 x2)), (17, (Value.int .i64 x3))] [(1000, (AObj.cells [(Value.int .i64 x4), (Value.int .i64 x5), (Value.int .i64 x6), (Value.int .i64 x7), (Value.int .i64 x8), (Value.int .i64 x9), (Value.slice (some ⟨500, 0, none⟩) n10 c11), (Value.int .i64 x12), (Value.int .i64 x13), (Value.int .i64 x14), (Value.int .i64 x15)] 95 false 1)), (1001, (AObj.cells [(Value.int .i64 x16), (Value.int .i64 x17), (Value.int .i64 x18)] 100 false 1)), (1002, (AObj.cells [(Value.int .i64 x19), (Value.int .i64 x20)] 23 false 2)), (1003, (AObj.cells [(Value.int .i64 x21), (Value.int .i64 x22)] 23 false 2)), (500, (AObj.sym l23 false 5))] B X (dataK k)
theorem rhe1_text (C : Ct) (L : AtLoop) (n0 : Nat) (c1 : Nat) (x2 : Int) (x3 : Int) (x4 : Int) (x5 : Int) (x6 : Int) (x7 : Int) (x8 : Int) (x9 : Int) (n10 : Nat) (c11 : Nat) (x12 : Int) (x13 : Int) (x14 : Int) (x15 : Int) (x16 : Int) (x17 : Int) (x18 : Int) (x19 : Int) (x20 : Int) (x21 : Int) (x22 : Int) (l23 : List Go.Value) (B : Bx) (X : Xx) (k : List D → Prop) : rhe1 C L n0 c1 x2 x3 x4 x5 x6 x7 x8 x9 n10 c11 x12 x13 x14 x15 x16 x17 x18 x19 x20 x21 x22 l23 B X k =
 (bcase (decide (x3 < x2))
 (bcase (decide (0 ≤ x3))
 (bcase (decide (x3 < (↑n0 : Int)))
 (∃ n1 : Int,
 (∃ n2 : Int,
 (∃ n3 : Int,
 (∃ n4 : Int,
 (∃ n5 : Int,
 ((At (l23) (0 + Int.toNat x3 * 5) 5 [(vI n1), (vI n2), (vI n3), (vI n4), (vI n5)]) ∧
 (B [(Prod.mk 2 (Pt 1000 0)), (Prod.mk 3 (Pt 1001 0)), (Prod.mk 4 (Pt 1002 0)), (Prod.mk 5 (Pt 1003 0)), (Prod.mk 15 (Sl 500 (n0) (c1))), (Prod.mk 16 (vI x2)), (Prod.mk 17 (vI (IntKind.wrap .i64 (x3 + 1))))] [(Prod.mk 1000 (AObj.cells [(vI x4), (vI x5), (vI x6), (vI x7), (vI x8), (vI x9), (Sl 500 (n10) (c11)), (vI x12), (vI x13), (vI x14), (vI x15)] 95 false 1)), (Prod.mk 1001 (AObj.cells [(vI x16), (vI x17), (vI x18)] 100 false 1)), (Prod.mk 1002 (AObj.cells [(vI x19), (vI x20)] 23 false 2)), (Prod.mk 1003 (AObj.cells [(vI (IntKind.wrap .i64 (x21 + n4))), (vI (IntKind.wrap .i64 (x22 + n5)))] 23 false 2)), (Prod.mk 500 (AObj.sym (l23) false 5))])))))))
 False)
 False)
 (X 0 [(Prod.mk 2 (Pt 1000 0)), (Prod.mk 3 (Pt 1001 0)), (Prod.mk 4 (Pt 1002 0)), (Prod.mk 5 (Pt 1003 0))] [(Prod.mk 1000 (AObj.cells [(vI x4), (vI x5), (vI x6), (vI x7), (vI x8), (vI x9), (Sl 500 (n10) (c11)), (vI x12), (vI x13), (vI x14), (vI x15)] 95 false 1)), (Prod.mk 1001 (AObj.cells [(vI x16), (vI x17), (vI x18)] 100 false 1)), (Prod.mk 1002 (AObj.cells [(vI x19), (vI x20)] 23 false 2)), (Prod.mk 1003 (AObj.cells [(vI x21), (vI x22)] 23 false 2)), (Prod.mk 500 (AObj.sym (l23) false 5))])) := by kernel_rfl
def nhe2 (C : Ct) (L : AtLoop) (x0 : Int) (x1 : Int) (x2 : Int) (x3 : Int) (x4 : Int) (x5 : Int) (n6 : Nat) (c7 : Nat) (x8 : Int) (x9 : Int) (x10 : Int) (x11 : Int) (x12 : Int) (x13 : Int) (x14 : Int) (x15 : Int) (x16 : Int) (x17 : Int) (x18 : Int) (l19 : List Value) (k : List D → Prop) : Prop := wpNext Try.prog (hP C) L 63 0 .normal [(2, (Value.pointer (some ⟨1000, 0, none⟩))), (3, (Value.pointer (some ⟨1001, 0, none⟩))), (4, (Value.pointer (some ⟨1002, 0, none⟩))), (5, (Value.pointer (some ⟨1003, 0, none⟩)))] [(1000, (AObj.cells [(Value.int .i64 x0), (Value.int .i64 x1), (Value.int .i64 x2), (Value.int .i64 x3), (Value.int .i64 x4), (Value.int .i64 x5), (Value.slice (some ⟨500, 0, none⟩) n6 c7), (Value.int .i64 x8), (Value.int .i64 x9), (Value.int .i64 x10), (Value.int .i64 x11)] 95 false 1)), (1001, (AObj.cells [(Value.int .i64 x12), (Value.int .i64 x13), (Value.int .i64 x14)] 100 false 1)), (1002, (AObj.cells [(Value.int .i64 x15), (Value.int .i64 x16)] 23 false 2)), (1003, (AObj.cells [(Value.int .i64 x17), (Value.int .i64 x18)] 23 false 2)), (500, (AObj.sym l19 false 5))] (dataK k)
theorem nhe2_text (C : Ct) (L : AtLoop) (x0 : Int) (x1 : Int) (x2 : Int) (x3 : Int) (x4 : Int) (x5 : Int) (n6 : Nat) (c7 : Nat) (x8 : Int) (x9 : Int) (x10 : Int) (x11 : Int) (x12 : Int) (x13 : Int) (x14 : Int) (x15 : Int) (x16 : Int) (x17 : Int) (x18 : Int) (l19 : List Go.Value) (k : List D → Prop) : nhe2 C L x0 x1 x2 x3 x4 x5 n6 c7 x8 x9 x10 x11 x12 x13 x14 x15 x16 x17 x18 l19 k =
 (k [(D.agg [(D.val (vI (IntKind.wrap .i64 (IntKind.wrap .i64 (100 * IntKind.wrap .i64 (x3 - x18)) + IntKind.wrap .i64 (IntKind.wrap .i64 (1 * IntKind.wrap .i64 (x1 - x14)) * x8))))), (D.val (vI (IntKind.wrap .i64 (IntKind.wrap .i64 (100 * IntKind.wrap .i64 (x4 - x17)) + IntKind.wrap .i64 (IntKind.wrap .i64 (1 * IntKind.wrap .i64 (x1 - x14)) * x9)))))])]) := by kernel_rfl
def gmT (C : Ct) (L : AtLoop) (x0 : Int) (x1 : Int) (x2 : Int) (k : List D → Prop) : Prop := wpFn Try.prog (hP C) L 0 97 #[.int .i64 x0, .agg #[.int .i64 x1, .int .i64 x2]] (heapOf []) (dataK k)
theorem gmT_text (C : Ct) (L : AtLoop) (x0 : Int) (x1 : Int) (x2 : Int) (k : List D → Prop) : gmT C L x0 x1 x2 k =
 (k [(D.agg [(D.val (vI (IntKind.wrap .i64 (100 * IntKind.wrap .i64 (x0 - x2))))), (D.val (vI (IntKind.wrap .i64 (100 * IntKind.wrap .i64 (x0 - x1)))))])]) := by kernel_rfl
def gma (C : Ct) (L : AtLoop) (x0 : Int) (x1 : Int) (x2 : Int) (x3 : Int) (x4 : Int) (x5 : Int) (n6 : Nat) (c6 : Nat) (l6 : List Value) (x7 : Int) (x8 : Int) (x9 : Int) (x10 : Int) (x11 : Int) (x12 : Int) (x13 : Int) (k : List D → Prop) : Prop := wpFn Try.prog (hP C) L 0 86 #[.agg #[.int .i64 x0, .int .i64 x1, .int .i64 x2, .int .i64 x3, .int .i64 x4, .int .i64 x5, .slice (some ⟨500, 0, none⟩) n6 c6, .int .i64 x7, .int .i64 x8, .int .i64 x9, .int .i64 x10], .agg #[.int .i64 x11, .int .i64 x12, .int .i64 x13]] (heapOf [(500, .sym l6 false 5)]) (dataK k)
theorem gma_text (C : Ct) (L : AtLoop) (x0 : Int) (x1 : Int) (x2 : Int) (x3 : Int) (x4 : Int) (x5 : Int) (n6 : Nat) (c6 : Nat) (l6 : List Go.Value) (x7 : Int) (x8 : Int) (x9 : Int) (x10 : Int) (x11 : Int) (x12 : Int) (x13 : Int) (k : List D → Prop) : gma C L x0 x1 x2 x3 x4 x5 n6 c6 l6 x7 x8 x9 x10 x11 x12 x13 k =
 (bcase (decide (0 ≤ x11))
 (bcase (decide (x11 < (↑n6 : Int)))
 (∃ n1 : Int,
 (∃ n2 : Int,
 (∃ n3 : Int,
 (∃ n4 : Int,
 (∃ n5 : Int,
 ((At (l6) (0 + Int.toNat x11 * 5) 5 [(vI n1), (vI n2), (vI n3), (vI n4), (vI n5)]) ∧
 ((((Qv (Pt 1004 0)) ∧
 (Qv (some (AObj.cells [(vI 0), (vI 0)] 23 false 2)))) ∧
 (((Qv (Pt 1003 0)) ∧
 (Qv (some (AObj.cells [(vI 0), (vI 0), (vI 0), (vI 0), (vI 0)] 73 false 5)))) ∧
 ((Qv (Value.agg [(vI x11), (vI x12), (vI x13)].toArray)) ∧
 ((Qv (Value.agg [(vI x0), (vI x1), (vI x2), (vI x3), (vI x4), (vI x5), (Sl 500 (n6) (c6)), (vI x7), (vI x8), (vI x9), (vI x10)].toArray)) ∧
 ((∃ n7 : Int,
 (∃ n8 : Int,
 (∃ n9 : Int,
 (∃ n10 : Int,
 (∃ n11 : Int,
 ((At (l6) (0 + Int.toNat x11 * 5) 5 [(vI n7), (vI n8), (vI n9), (vI n10), (vI n11)]) ∧
 ((Value.agg [(vI n7), (vI n8), (vI n9), (vI n10), (vI n11)].toArray) = (Value.agg [(vI n1), (vI n2), (vI n3), (vI n4), (vI n5)].toArray)))))))) ∧
 ((bcase (decide (0 ≤ x11))
 (bcase (decide (x11 < (↑n6 : Int)))
 (Qv (Pt 500 (0 + Int.toNat x11 * 5)))
 False)
 False) ∧
 ((Qv (vI x11)) ∧
 ((Qv (Pt 1001 0)) ∧
 ((Qv (Sl 500 (n6) (c6))) ∧
 ((Qv (Pt 1000 6)) ∧
 ((Qv (Pt 1000 0)) ∧
 True))))))))))) ∧
 (bcase (decide (0 + n6 * 5 ≤ List.length l6))
 (∃ n7 : Int,
 (∃ n8 : Int,
 ((Says C 63 [(D.agg [(D.val (vI x0)), (D.val (vI x1)), (D.val (vI x2)), (D.val (vI x3)), (D.val (vI x4)), (D.val (vI x5)), (D.sl (n6) 5 (List.take (n6 * 5) (List.drop 0 l6))), (D.val (vI x7)), (D.val (vI x8)), (D.val (vI x9)), (D.val (vI x10))]), (D.agg [(D.val (vI x11)), (D.val (vI x12)), (D.val (vI x13))])] [(D.agg [(D.val (vI n7)), (D.val (vI n8))])]) ∧
 ((((Qv (Pt 1004 0)) ∧
 (Qv (some (AObj.cells [(vI 0), (vI 0)] 23 false 2)))) ∧
 (((Qv (Pt 1003 0)) ∧
 (Qv (some (AObj.cells [(vI 0), (vI 0), (vI 0), (vI 0), (vI 0)] 73 false 5)))) ∧
 ((∃ n9 : Int,
 (∃ n10 : Int,
 (∃ n11 : Int,
 (∃ n12 : Int,
 (∃ n13 : Int,
 ((At (l6) (0 + Int.toNat x11 * 5) 5 [(vI n9), (vI n10), (vI n11), (vI n12), (vI n13)]) ∧
 ((Value.agg [(vI n9), (vI n10), (vI n11), (vI n12), (vI n13)].toArray) = (Value.agg [(vI n1), (vI n2), (vI n3), (vI n4), (vI n5)].toArray)))))))) ∧
 ((bcase (decide (0 ≤ x11))
 (bcase (decide (x11 < (↑n6 : Int)))
 (Qv (Pt 500 (0 + Int.toNat x11 * 5)))
 False)
 False) ∧
 ((Qv (vI x11)) ∧
 ((Qv (Pt 1001 0)) ∧
 ((Qv (Sl 500 (n6) (c6))) ∧
 ((Qv (Pt 1000 6)) ∧
 ((Qv (Pt 1000 0)) ∧
 True))))))))) ∧
 (True ∧
 (True ∧
 (((Qv (Value.agg [(vI (IntKind.wrap .i64 (n7 - IntKind.wrap .i64 (100 * x5)))), (vI (IntKind.wrap .i64 (n8 - IntKind.wrap .i64 (100 * x5))))].toArray)) ∧
 ((Qv (vI (IntKind.wrap .i64 (n8 - IntKind.wrap .i64 (100 * x5))))) ∧
 ((Qv (vI (IntKind.wrap .i64 (100 * x5)))) ∧
 ((Qv (vI x5)) ∧
 ((Qv (Pt 1000 5)) ∧
 ((Qv (Pt 1000 0)) ∧
 ((Qv (vI n8)) ∧
 ((Qv (Pt 1004 1)) ∧
 ((Qv (vI (IntKind.wrap .i64 (n7 - IntKind.wrap .i64 (100 * x5))))) ∧
 ((Qv (vI (IntKind.wrap .i64 (100 * x5)))) ∧
 ((Qv (vI x5)) ∧
 ((Qv (Pt 1000 5)) ∧
 ((Qv (Pt 1000 0)) ∧
 ((Qv (vI n7)) ∧
 ((Qv (Pt 1004 0)) ∧
 ((Qv (Value.agg [(vI x11), (vI x12), (vI x13)].toArray)) ∧
 ((Qv (Value.agg [(vI x0), (vI x1), (vI x2), (vI x3), (vI x4), (vI x5), (Sl 500 (n6) (c6)), (vI x7), (vI x8), (vI x9), (vI x10)].toArray)) ∧
 ((Qv (Value.agg [(vI x11), (vI x12), (vI x13)].toArray)) ∧
 ((Qv (Value.agg [(vI x0), (vI x1), (vI x2), (vI x3), (vI x4), (vI x5), (Sl 500 (n6) (c6)), (vI x7), (vI x8), (vI x9), (vI x10)].toArray)) ∧
 ((Qv (vI n3)) ∧
 ((Qv (Pt 1003 2)) ∧
 ((Qv (Value.agg [(vI x11), (vI x12), (vI x13)].toArray)) ∧
 ((Qv (Value.agg [(vI x0), (vI x1), (vI x2), (vI x3), (vI x4), (vI x5), (Sl 500 (n6) (c6)), (vI x7), (vI x8), (vI x9), (vI x10)].toArray)) ∧
 ((Qv (vI n2)) ∧
 ((Qv (Pt 1003 1)) ∧
 True))))))))))))))))))))))))) ∧
 (bcase (decide (0 + n6 * 5 ≤ List.length l6))
 (∃ n9 : Int,
 (∃ n10 : Int,
 ((Says C 98 [(D.agg [(D.val (vI x0)), (D.val (vI x1)), (D.val (vI x2)), (D.val (vI x3)), (D.val (vI x4)), (D.val (vI x5)), (D.sl (n6) 5 (List.take (n6 * 5) (List.drop 0 l6))), (D.val (vI x7)), (D.val (vI x8)), (D.val (vI x9)), (D.val (vI x10))]), (D.agg [(D.val (vI x11)), (D.val (vI x12)), (D.val (vI x13))])] [(D.agg [(D.val (vI n9)), (D.val (vI n10))])]) ∧
 (((Qv (Value.agg [(vI (IntKind.wrap .i64 (n7 - IntKind.wrap .i64 (100 * x5)))), (vI (IntKind.wrap .i64 (n8 - IntKind.wrap .i64 (100 * x5))))].toArray)) ∧
 ((Qv (vI (IntKind.wrap .i64 (n8 - IntKind.wrap .i64 (100 * x5))))) ∧
 ((Qv (vI (IntKind.wrap .i64 (100 * x5)))) ∧
 ((Qv (vI x5)) ∧
 ((Qv (Pt 1000 5)) ∧
 ((Qv (Pt 1000 0)) ∧
 ((Qv (vI n8)) ∧
 ((Qv (Pt 1004 1)) ∧
 ((Qv (vI (IntKind.wrap .i64 (n7 - IntKind.wrap .i64 (100 * x5))))) ∧
 ((Qv (vI (IntKind.wrap .i64 (100 * x5)))) ∧
 ((Qv (vI x5)) ∧
 ((Qv (Pt 1000 5)) ∧
 ((Qv (Pt 1000 0)) ∧
 ((Qv (vI n7)) ∧
 ((Qv (Pt 1004 0)) ∧
 ((Qv (Value.agg [(vI x11), (vI x12), (vI x13)].toArray)) ∧
 ((Qv (Value.agg [(vI x0), (vI x1), (vI x2), (vI x3), (vI x4), (vI x5), (Sl 500 (n6) (c6)), (vI x7), (vI x8), (vI x9), (vI x10)].toArray)) ∧
 ((Qv (Value.agg [(vI x11), (vI x12), (vI x13)].toArray)) ∧
 ((Qv (Value.agg [(vI x0), (vI x1), (vI x2), (vI x3), (vI x4), (vI x5), (Sl 500 (n6) (c6)), (vI x7), (vI x8), (vI x9), (vI x10)].toArray)) ∧
 ((Qv (vI n3)) ∧
 ((Qv (Pt 1003 2)) ∧
 ((Qv (vI n2)) ∧
 ((Qv (Pt 1003 1)) ∧
 True))))))))))))))))))))))) ∧
 (∃ n11 : Int,
 (∃ n12 : Int,
 ((Says C 97 [(D.val (vI n2)), (D.agg [(D.val (vI n9)), (D.val (vI n10))])] [(D.agg [(D.val (vI n11)), (D.val (vI n12))])]) ∧
 (((Qv (Value.agg [(vI (IntKind.wrap .i64 (n7 - IntKind.wrap .i64 (100 * x5)))), (vI (IntKind.wrap .i64 (n8 - IntKind.wrap .i64 (100 * x5))))].toArray)) ∧
 ((Qv (vI (IntKind.wrap .i64 (n8 - IntKind.wrap .i64 (100 * x5))))) ∧
 ((Qv (vI (IntKind.wrap .i64 (100 * x5)))) ∧
 ((Qv (vI x5)) ∧
 ((Qv (Pt 1000 5)) ∧
 ((Qv (Pt 1000 0)) ∧
 ((Qv (vI n8)) ∧
 ((Qv (Pt 1004 1)) ∧
 ((Qv (vI (IntKind.wrap .i64 (n7 - IntKind.wrap .i64 (100 * x5))))) ∧
 ((Qv (vI (IntKind.wrap .i64 (100 * x5)))) ∧
 ((Qv (vI x5)) ∧
 ((Qv (Pt 1000 5)) ∧
 ((Qv (Pt 1000 0)) ∧
 ((Qv (vI n7)) ∧
 ((Qv (Pt 1004 0)) ∧
 ((Qv (Value.agg [(vI x11), (vI x12), (vI x13)].toArray)) ∧
 ((Qv (Value.agg [(vI x0), (vI x1), (vI x2), (vI x3), (vI x4), (vI x5), (Sl 500 (n6) (c6)), (vI x7), (vI x8), (vI x9), (vI x10)].toArray)) ∧
 ((Qv (Value.agg [(vI x11), (vI x12), (vI x13)].toArray)) ∧
 ((Qv (Value.agg [(vI x0), (vI x1), (vI x2), (vI x3), (vI x4), (vI x5), (Sl 500 (n6) (c6)), (vI x7), (vI x8), (vI x9), (vI x10)].toArray)) ∧
 ((Qv (vI n3)) ∧
 ((Qv (Pt 1003 2)) ∧
 ((Qv (Pt 1003 1)) ∧
 True)))))))))))))))))))))) ∧
 (bcase (decide (0 + n6 * 5 ≤ List.length l6))
 (∃ n13 : Int,
 (∃ n14 : Int,
 ((Says C 89 [(D.agg [(D.val (vI x0)), (D.val (vI x1)), (D.val (vI x2)), (D.val (vI x3)), (D.val (vI x4)), (D.val (vI x5)), (D.sl (n6) 5 (List.take (n6 * 5) (List.drop 0 l6))), (D.val (vI x7)), (D.val (vI x8)), (D.val (vI x9)), (D.val (vI x10))]), (D.agg [(D.val (vI x11)), (D.val (vI x12)), (D.val (vI x13))])] [(D.agg [(D.val (vI n13)), (D.val (vI n14))])]) ∧
 (((Qv (Value.agg [(vI (IntKind.wrap .i64 (n7 - IntKind.wrap .i64 (100 * x5)))), (vI (IntKind.wrap .i64 (n8 - IntKind.wrap .i64 (100 * x5))))].toArray)) ∧
 ((Qv (vI (IntKind.wrap .i64 (n8 - IntKind.wrap .i64 (100 * x5))))) ∧
 ((Qv (vI (IntKind.wrap .i64 (100 * x5)))) ∧
 ((Qv (vI x5)) ∧
 ((Qv (Pt 1000 5)) ∧
 ((Qv (Pt 1000 0)) ∧
 ((Qv (vI n8)) ∧
 ((Qv (Pt 1004 1)) ∧
 ((Qv (vI (IntKind.wrap .i64 (n7 - IntKind.wrap .i64 (100 * x5))))) ∧
 ((Qv (vI (IntKind.wrap .i64 (100 * x5)))) ∧
 ((Qv (vI x5)) ∧
 ((Qv (Pt 1000 5)) ∧
 ((Qv (Pt 1000 0)) ∧
 ((Qv (vI n7)) ∧
 ((Qv (Pt 1004 0)) ∧
 ((Qv (Value.agg [(vI x11), (vI x12), (vI x13)].toArray)) ∧
 ((Qv (Value.agg [(vI x0), (vI x1), (vI x2), (vI x3), (vI x4), (vI x5), (Sl 500 (n6) (c6)), (vI x7), (vI x8), (vI x9), (vI x10)].toArray)) ∧
 ((Qv (vI n3)) ∧
 ((Qv (Pt 1003 2)) ∧
 ((Qv (Pt 1003 1)) ∧
 True)))))))))))))))))))) ∧
 (∃ n15 : Int,
 (∃ n16 : Int,
 ((Says C 97 [(D.val (vI n3)), (D.agg [(D.val (vI n13)), (D.val (vI n14))])] [(D.agg [(D.val (vI n15)), (D.val (vI n16))])]) ∧
 (((Qv (Value.agg [(vI (IntKind.wrap .i64 (n7 - IntKind.wrap .i64 (100 * x5)))), (vI (IntKind.wrap .i64 (n8 - IntKind.wrap .i64 (100 * x5))))].toArray)) ∧
 ((Qv (vI (IntKind.wrap .i64 (n8 - IntKind.wrap .i64 (100 * x5))))) ∧
 ((Qv (vI (IntKind.wrap .i64 (100 * x5)))) ∧
 ((Qv (vI x5)) ∧
 ((Qv (Pt 1000 5)) ∧
 ((Qv (Pt 1000 0)) ∧
 ((Qv (vI n8)) ∧
 ((Qv (Pt 1004 1)) ∧
 ((Qv (vI (IntKind.wrap .i64 (n7 - IntKind.wrap .i64 (100 * x5))))) ∧
 ((Qv (vI (IntKind.wrap .i64 (100 * x5)))) ∧
 ((Qv (vI x5)) ∧
 ((Qv (Pt 1000 5)) ∧
 ((Qv (Pt 1000 0)) ∧
 ((Qv (vI n7)) ∧
 ((Qv (Pt 1004 0)) ∧
 ((Qv (Value.agg [(vI x11), (vI x12), (vI x13)].toArray)) ∧
 ((Qv (Value.agg [(vI x0), (vI x1), (vI x2), (vI x3), (vI x4), (vI x5), (Sl 500 (n6) (c6)), (vI x7), (vI x8), (vI x9), (vI x10)].toArray)) ∧
 ((Qv (Pt 1003 2)) ∧
 ((Qv (Pt 1003 1)) ∧
 True))))))))))))))))))) ∧
 (bcase (decide (0 + n6 * 5 ≤ List.length l6))
 (∃ n17 : Int,
 (∃ n18 : Int,
 ((Says C 99 [(D.agg [(D.val (vI x0)), (D.val (vI x1)), (D.val (vI x2)), (D.val (vI x3)), (D.val (vI x4)), (D.val (vI x5)), (D.sl (n6) 5 (List.take (n6 * 5) (List.drop 0 l6))), (D.val (vI x7)), (D.val (vI x8)), (D.val (vI x9)), (D.val (vI x10))]), (D.agg [(D.val (vI x11)), (D.val (vI x12)), (D.val (vI x13))])] [(D.agg [(D.val (vI n17)), (D.val (vI n18))])]) ∧
 (((Qv (Value.agg [(vI n11), (vI n12), (vI n15), (vI n16), (vI n17), (vI n18), (vI (IntKind.wrap .i64 (n7 - IntKind.wrap .i64 (100 * x5)))), (vI (IntKind.wrap .i64 (n8 - IntKind.wrap .i64 (100 * x5))))].toArray)) ∧
 ((Qv (Value.agg [(vI (IntKind.wrap .i64 (n7 - IntKind.wrap .i64 (100 * x5)))), (vI (IntKind.wrap .i64 (n8 - IntKind.wrap .i64 (100 * x5))))].toArray)) ∧
 ((Qv (vI (IntKind.wrap .i64 (n8 - IntKind.wrap .i64 (100 * x5))))) ∧
 ((Qv (vI (IntKind.wrap .i64 (100 * x5)))) ∧
 ((Qv (vI x5)) ∧
 ((Qv (Pt 1000 5)) ∧
 ((Qv (Pt 1000 0)) ∧
 ((Qv (vI n8)) ∧
 ((Qv (Pt 1004 1)) ∧
 ((Qv (vI (IntKind.wrap .i64 (n7 - IntKind.wrap .i64 (100 * x5))))) ∧
 ((Qv (vI (IntKind.wrap .i64 (100 * x5)))) ∧
 ((Qv (vI x5)) ∧
 ((Qv (Pt 1000 5)) ∧
 ((Qv (Pt 1000 0)) ∧
 ((Qv (vI n7)) ∧
 ((Qv (Pt 1004 0)) ∧
 ((Qv (Pt 1003 2)) ∧
 ((Qv (Pt 1003 1)) ∧
 True)))))))))))))))))) ∧
 (True ∧
 (k [(D.agg [(D.val (vI n11)), (D.val (vI n12)), (D.val (vI n15)), (D.val (vI n16)), (D.val (vI n17)), (D.val (vI n18)), (D.val (vI (IntKind.wrap .i64 (n7 - IntKind.wrap .i64 (100 * x5))))), (D.val (vI (IntKind.wrap .i64 (n8 - IntKind.wrap .i64 (100 * x5)))))])]))))))
 False)))))))))
 False)))))))))
 False))))))))
 False))))))))
 False)
 False) := by kernel_rfl
def gRK (C : Ct) (L : AtLoop) (x0 : Int) (x1 : Int) (x2 : Int) (x3 : Int) (x4 : Int) (x5 : Int) (n6 : Nat) (c6 : Nat) (l6 : List Value) (x7 : Int) (x8 : Int) (x9 : Int) (x10 : Int) (k : List D → Prop) : Prop := wpFn Try.prog (hP C) L 0 14 #[.agg #[.int .i64 x0, .int .i64 x1, .int .i64 x2, .int .i64 x3, .int .i64 x4, .int .i64 x5, .slice (some ⟨500, 0, none⟩) n6 c6, .int .i64 x7, .int .i64 x8, .int .i64 x9, .int .i64 x10]] (heapOf [(500, .sym l6 false 5)]) (dataK k)
theorem gRK_text (C : Ct) (L : AtLoop) (x0 : Int) (x1 : Int) (x2 : Int) (x3 : Int) (x4 : Int) (x5 : Int) (n6 : Nat) (c6 : Nat) (l6 : List Go.Value) (x7 : Int) (x8 : Int) (x9 : Int) (x10 : Int) (k : List D → Prop) : gRK C L x0 x1 x2 x3 x4 x5 n6 c6 l6 x7 x8 x9 x10 k =
 (((Says C 18 [(D.val (vI x0)), (D.val (vI 1)), (D.val (vI 2500))] [(D.val (Value.bool true))]) ∧
 (((Says C 18 [(D.val (vI x1)), (D.val (vI 1)), (D.val (vI 1000))] [(D.val (Value.bool true))]) ∧
 (((Says C 18 [(D.val (vI x2)), (D.val (vI 1)), (D.val (vI 1000))] [(D.val (Value.bool true))]) ∧
 (((Says C 18 [(D.val (vI x3)), (D.val (vI 0)), (D.val (vI 20000))] [(D.val (Value.bool true))]) ∧
 (((Says C 18 [(D.val (vI x4)), (D.val (vI 0)), (D.val (vI 20000))] [(D.val (Value.bool true))]) ∧
 (((Says C 18 [(D.val (vI x5)), (D.val (vI 0)), (D.val (vI 20000))] [(D.val (Value.bool true))]) ∧
 (((Says C 18 [(D.val (vI x7)), (D.val (vI 1)), (D.val (vI 100))] [(D.val (Value.bool true))]) ∧
 (((Says C 18 [(D.val (vI x8)), (D.val (vI 1)), (D.val (vI 100))] [(D.val (Value.bool true))]) ∧
 (((Says C 18 [(D.val (vI x9)), (D.val (vI 0)), (D.val (vI 100))] [(D.val (Value.bool true))]) ∧
 (((Says C 18 [(D.val (vI x10)), (D.val (vI 0)), (D.val (vI 100))] [(D.val (Value.bool true))]) ∧
 (bcase (decide (x2 > x1))
 (k [(D.val (vI 0)), (D.val (vI 9))])
 (bcase (decide (x3 > x4))
 (k [(D.val (vI 0)), (D.val (vI 9))])
 (bcase (decide (x7 > x8))
 (k [(D.val (vI 0)), (D.val (vI 9))])
 (bcase (decide (x9 > x10))
 (k [(D.val (vI 0)), (D.val (vI 9))])
 (bcase ((↑n6 : Int) == 0)
 (k [(D.val (vI 0)), (D.val (vI 10))])
 (bcase (decide ((↑n6 : Int) > 6))
 (k [(D.val (vI 0)), (D.val (vI 8))])
 (L 0 [(Prod.mk 1 (Pt 1000 0)), (Prod.mk 4 (vI 0))] [(Prod.mk 1000 (AObj.cells [(vI x0), (vI x1), (vI x2), (vI x3), (vI x4), (vI x5), (Sl 500 (n6) (c6)), (vI x7), (vI x8), (vI x9), (vI x10)] 26 false 1)), (Prod.mk 500 (AObj.sym (l6) false 5))])))))))) ∨
 ((Says C 18 [(D.val (vI x10)), (D.val (vI 0)), (D.val (vI 100))] [(D.val (Value.bool false))]) ∧
 (k [(D.val (vI 0)), (D.val (vI 2))])))) ∨
 ((Says C 18 [(D.val (vI x9)), (D.val (vI 0)), (D.val (vI 100))] [(D.val (Value.bool false))]) ∧
 (k [(D.val (vI 0)), (D.val (vI 2))])))) ∨
 ((Says C 18 [(D.val (vI x8)), (D.val (vI 1)), (D.val (vI 100))] [(D.val (Value.bool false))]) ∧
 (k [(D.val (vI 0)), (D.val (vI 2))])))) ∨
 ((Says C 18 [(D.val (vI x7)), (D.val (vI 1)), (D.val (vI 100))] [(D.val (Value.bool false))]) ∧
 (k [(D.val (vI 0)), (D.val (vI 2))])))) ∨
 ((Says C 18 [(D.val (vI x5)), (D.val (vI 0)), (D.val (vI 20000))] [(D.val (Value.bool false))]) ∧
 (k [(D.val (vI 0)), (D.val (vI 2))])))) ∨
 ((Says C 18 [(D.val (vI x4)), (D.val (vI 0)), (D.val (vI 20000))] [(D.val (Value.bool false))]) ∧
 (k [(D.val (vI 0)), (D.val (vI 2))])))) ∨
 ((Says C 18 [(D.val (vI x3)), (D.val (vI 0)), (D.val (vI 20000))] [(D.val (Value.bool false))]) ∧
 (k [(D.val (vI 0)), (D.val (vI 2))])))) ∨
 ((Says C 18 [(D.val (vI x2)), (D.val (vI 1)), (D.val (vI 1000))] [(D.val (Value.bool false))]) ∧
 (k [(D.val (vI 0)), (D.val (vI 2))])))) ∨
 ((Says C 18 [(D.val (vI x1)), (D.val (vI 1)), (D.val (vI 1000))] [(D.val (Value.bool false))]) ∧
 (k [(D.val (vI 0)), (D.val (vI 2))])))) ∨
 ((Says C 18 [(D.val (vI x0)), (D.val (vI 1)), (D.val (vI 2500))] [(D.val (Value.bool false))]) ∧
 (k [(D.val (vI 0)), (D.val (vI 2))]))) := by kernel_rfl
abbrev zRK1 (x0 : Int) (x1 : Int) (x2 : Int) (x3 : Int) (x4 : Int) (x5 : Int) (x6 : Int) (n7 : Nat) (c8 : Nat) (x9 : Int) (x10 : Int) (x11 : Int) (x12 : Int) (l13 : List Value) : Slots × Blocks := ([(1, (Value.pointer (some ⟨1000, 0, none⟩))), (4, (Value.int .i64 x0))], [(1000, (AObj.cells [(Value.int .i64 x1), (Value.int .i64 x2), (Value.int .i64 x3), (Value.int .i64 x4), (Value.int .i64 x5), (Value.int .i64 x6), (Value.slice (some ⟨500, 0, none⟩) n7 c8), (Value.int .i64 x9), (Value.int .i64 x10), (Value.int .i64 x11), (Value.int .i64 x12)] 26 false 1)), (500, (AObj.sym l13 false 5))])
def rRK1 (C : Ct) (L : AtLoop) (x0 : Int) (x1 : Int) (x2 : Int) (x3 : Int) (x4 : Int) (x5 : Int) (x6 : Int) (n7 : Nat) (c8 : Nat) (x9 : Int) (x10 : Int) (x11 : Int) (x12 : Int) (l13 : List Value) (B : Bx) (X : Xx) (k : List D → Prop) : Prop := wpRound Try.prog (hP C) L 14 0 [(1, (Value.pointer (some ⟨1000, 0, none⟩))), (4, (Value.int .i64 x0))] [(1000, (AObj.cells [(Value.int .i64 x1), (Value.int .i64 x2), (Value.int .i64 x3), (Value.int .i64 x4), (Value.int .i64 x5), (Value.int .i64 x6), (Value.slice (some ⟨500, 0, none⟩) n7 c8), (Value.int .i64 x9), (Value.int .i64 x10), (Value.int .i64 x11), (Value.int .i64 x12)] 26 false 1)), (500, (AObj.sym l13 false 5))] B X (dataK k)
theorem rRK1_text (C : Ct) (L : AtLoop) (x0 : Int) (x1 : Int) (x2 : Int) (x3 : Int) (x4 : Int) (x5 : Int) (x6 : Int) (n7 : Nat) (c8 : Nat) (x9 : Int) (x10 : Int) (x11 : Int) (x12 : Int) (l13 : List Go.Value) (B : Bx) (X : Xx) (k : List D → Prop) : rRK1 C L x0 x1 x2 x3 x4 x5 x6 n7 c8 x9 x10 x11 x12 l13 B X k =
 (bcase (decide (x0 < (↑n7 : Int)))
 (bcase (decide (0 ≤ x0))
 (bcase (decide (x0 < (↑n7 : Int)))
 (∃ n1 : Int,
 (∃ n2 : Int,
 (∃ n3 : Int,
 (∃ n4 : Int,
 (∃ n5 : Int,
 ((At (l13) (0 + Int.toNat x0 * 5) 5 [(vI n1), (vI n2), (vI n3), (vI n4), (vI n5)]) ∧
 (((Says C 18 [(D.val (vI n1)), (D.val (vI 1)), (D.val (vI 1000))] [(D.val (Value.bool true))]) ∧
 (((Says C 18 [(D.val (vI n2)), (D.val (vI 0)), (D.val (vI 1000000000000))] [(D.val (Value.bool true))]) ∧
 (((Says C 18 [(D.val (vI n3)), (D.val (vI 0)), (D.val (vI 1000000000000))] [(D.val (Value.bool true))]) ∧
 (((Says C 18 [(D.val (vI n4)), (D.val (vI 0)), (D.val (vI 1000))] [(D.val (Value.bool true))]) ∧
 (((Says C 18 [(D.val (vI n5)), (D.val (vI 0)), (D.val (vI 1000))] [(D.val (Value.bool true))]) ∧
 (bcase (decide (n4 > n5))
 (k [(D.val (vI x0)), (D.val (vI 9))])
 (B [(Prod.mk 1 (Pt 1000 0)), (Prod.mk 4 (vI (IntKind.wrap .i64 (x0 + 1))))] [(Prod.mk 1000 (AObj.cells [(vI x1), (vI x2), (vI x3), (vI x4), (vI x5), (vI x6), (Sl 500 (n7) (c8)), (vI x9), (vI x10), (vI x11), (vI x12)] 26 false 1)), (Prod.mk 500 (AObj.sym (l13) false 5))]))) ∨
 ((Says C 18 [(D.val (vI n5)), (D.val (vI 0)), (D.val (vI 1000))] [(D.val (Value.bool false))]) ∧
 (k [(D.val (vI x0)), (D.val (vI 2))])))) ∨
 ((Says C 18 [(D.val (vI n4)), (D.val (vI 0)), (D.val (vI 1000))] [(D.val (Value.bool false))]) ∧
 (k [(D.val (vI x0)), (D.val (vI 2))])))) ∨
 ((Says C 18 [(D.val (vI n3)), (D.val (vI 0)), (D.val (vI 1000000000000))] [(D.val (Value.bool false))]) ∧
 (k [(D.val (vI x0)), (D.val (vI 2))])))) ∨
 ((Says C 18 [(D.val (vI n2)), (D.val (vI 0)), (D.val (vI 1000000000000))] [(D.val (Value.bool false))]) ∧
 (k [(D.val (vI x0)), (D.val (vI 2))])))) ∨
 ((Says C 18 [(D.val (vI n1)), (D.val (vI 1)), (D.val (vI 1000))] [(D.val (Value.bool false))]) ∧
 (k [(D.val (vI x0)), (D.val (vI 2))])))))))))
 False)
 False)
 (X 0 [] [])) := by kernel_rfl
def nRK2 (C : Ct) (L : AtLoop) (k : List D → Prop) : Prop := wpNext Try.prog (hP C) L 14 0 .normal [] [] (dataK k)
theorem nRK2_text (C : Ct) (L : AtLoop) (k : List D → Prop) : nRK2 C L k =
 (k [(D.val (vI 0)), (D.val (vI 0))]) := by kernel_rfl
def gRKn (C : Ct) (L : AtLoop) (x0 : Int) (x1 : Int) (x2 : Int) (x3 : Int) (x4 : Int) (x5 : Int) (x7 : Int) (x8 : Int) (x9 : Int) (x10 : Int) (k : List D → Prop) : Prop := wpFn Try.prog (hP C) L 0 14 #[.agg #[.int .i64 x0, .int .i64 x1, .int .i64 x2, .int .i64 x3, .int .i64 x4, .int .i64 x5, .slice none 0 0, .int .i64 x7, .int .i64 x8, .int .i64 x9, .int .i64 x10]] (heapOf []) (dataK k)
theorem gRKn_text (C : Ct) (L : AtLoop) (x0 : Int) (x1 : Int) (x2 : Int) (x3 : Int) (x4 : Int) (x5 : Int) (x7 : Int) (x8 : Int) (x9 : Int) (x10 : Int) (k : List D → Prop) : gRKn C L x0 x1 x2 x3 x4 x5 x7 x8 x9 x10 k =
 (((Says C 18 [(D.val (vI x0)), (D.val (vI 1)), (D.val (vI 2500))] [(D.val (Value.bool true))]) ∧
 (((Says C 18 [(D.val (vI x1)), (D.val (vI 1)), (D.val (vI 1000))] [(D.val (Value.bool true))]) ∧
 (((Says C 18 [(D.val (vI x2)), (D.val (vI 1)), (D.val (vI 1000))] [(D.val (Value.bool true))]) ∧
 (((Says C 18 [(D.val (vI x3)), (D.val (vI 0)), (D.val (vI 20000))] [(D.val (Value.bool true))]) ∧
 (((Says C 18 [(D.val (vI x4)), (D.val (vI 0)), (D.val (vI 20000))] [(D.val (Value.bool true))]) ∧
 (((Says C 18 [(D.val (vI x5)), (D.val (vI 0)), (D.val (vI 20000))] [(D.val (Value.bool true))]) ∧
 (((Says C 18 [(D.val (vI x7)), (D.val (vI 1)), (D.val (vI 100))] [(D.val (Value.bool true))]) ∧
 (((Says C 18 [(D.val (vI x8)), (D.val (vI 1)), (D.val (vI 100))] [(D.val (Value.bool true))]) ∧
 (((Says C 18 [(D.val (vI x9)), (D.val (vI 0)), (D.val (vI 100))] [(D.val (Value.bool true))]) ∧
 (((Says C 18 [(D.val (vI x10)), (D.val (vI 0)), (D.val (vI 100))] [(D.val (Value.bool true))]) ∧
 (bcase (decide (x2 > x1))
 (k [(D.val (vI 0)), (D.val (vI 9))])
 (bcase (decide (x3 > x4))
 (k [(D.val (vI 0)), (D.val (vI 9))])
 (bcase (decide (x7 > x8))
 (k [(D.val (vI 0)), (D.val (vI 9))])
 (bcase (decide (x9 > x10))
 (k [(D.val (vI 0)), (D.val (vI 9))])
 (k [(D.val (vI 0)), (D.val (vI 10))])))))) ∨
 ((Says C 18 [(D.val (vI x10)), (D.val (vI 0)), (D.val (vI 100))] [(D.val (Value.bool false))]) ∧
 (k [(D.val (vI 0)), (D.val (vI 2))])))) ∨
 ((Says C 18 [(D.val (vI x9)), (D.val (vI 0)), (D.val (vI 100))] [(D.val (Value.bool false))]) ∧
 (k [(D.val (vI 0)), (D.val (vI 2))])))) ∨
 ((Says C 18 [(D.val (vI x8)), (D.val (vI 1)), (D.val (vI 100))] [(D.val (Value.bool false))]) ∧
 (k [(D.val (vI 0)), (D.val (vI 2))])))) ∨
 ((Says C 18 [(D.val (vI x7)), (D.val (vI 1)), (D.val (vI 100))] [(D.val (Value.bool false))]) ∧
 (k [(D.val (vI 0)), (D.val (vI 2))])))) ∨
 ((Says C 18 [(D.val (vI x5)), (D.val (vI 0)), (D.val (vI 20000))] [(D.val (Value.bool false))]) ∧
 (k [(D.val (vI 0)), (D.val (vI 2))])))) ∨
 ((Says C 18 [(D.val (vI x4)), (D.val (vI 0)), (D.val (vI 20000))] [(D.val (Value.bool false))]) ∧
 (k [(D.val (vI 0)), (D.val (vI 2))])))) ∨
 ((Says C 18 [(D.val (vI x3)), (D.val (vI 0)), (D.val (vI 20000))] [(D.val (Value.bool false))]) ∧
 (k [(D.val (vI 0)), (D.val (vI 2))])))) ∨
 ((Says C 18 [(D.val (vI x2)), (D.val (vI 1)), (D.val (vI 1000))] [(D.val (Value.bool false))]) ∧
 (k [(D.val (vI 0)), (D.val (vI 2))])))) ∨
 ((Says C 18 [(D.val (vI x1)), (D.val (vI 1)), (D.val (vI 1000))] [(D.val (Value.bool false))]) ∧
 (k [(D.val (vI 0)), (D.val (vI 2))])))) ∨
 ((Says C 18 [(D.val (vI x0)), (D.val (vI 1)), (D.val (vI 2500))] [(D.val (Value.bool false))]) ∧
 (k [(D.val (vI 0)), (D.val (vI 2))]))) := by kernel_rfl
def gRS (C : Ct) (L : AtLoop) (x0 : Int) (x1 : Int) (x2 : Int) (x3 : Int) (x4 : Int) (x5 : Int) (n6 : Nat) (c6 : Nat) (l6 : List Value) (x7 : Int) (x8 : Int) (x9 : Int) (x10 : Int) (s11 : ByteArray) (n12 : Nat) (c12 : Nat) (l12 : List Value) (k : List D → Prop) : Prop := wpFn Try.prog (hP C) L 0 15 #[.agg #[.int .i64 x0, .int .i64 x1, .int .i64 x2, .int .i64 x3, .int .i64 x4, .int .i64 x5, .slice (some ⟨500, 0, none⟩) n6 c6, .int .i64 x7, .int .i64 x8, .int .i64 x9, .int .i64 x10], .agg #[.string s11, .slice (some ⟨501, 0, none⟩) n12 c12]] (heapOf [(500, .sym l6 false 5), (501, .sym l12 false 1)]) (dataK k)
theorem gRS_text (C : Ct) (L : AtLoop) (x0 : Int) (x1 : Int) (x2 : Int) (x3 : Int) (x4 : Int) (x5 : Int) (n6 : Nat) (c6 : Nat) (l6 : List Go.Value) (x7 : Int) (x8 : Int) (x9 : Int) (x10 : Int) (s11 : ByteArray) (n12 : Nat) (c12 : Nat) (l12 : List Go.Value) (k : List D → Prop) : gRS C L x0 x1 x2 x3 x4 x5 n6 c6 l6 x7 x8 x9 x10 s11 n12 c12 l12 k =
 (((Says C 58 [(D.val (Value.string (s11)))] [(D.val (Value.bool true))]) ∧
 (bcase ((↑n12 : Int) != (↑n6 : Int))
 (k [(D.val (vI 0)), (D.val (vI 10))])
 (L 0 [(Prod.mk 2 (Pt 1000 0)), (Prod.mk 3 (Pt 1001 0)), (Prod.mk 6 (vI x1)), (Prod.mk 7 (vI 0))] [(Prod.mk 1000 (AObj.cells [(vI x0), (vI x1), (vI x2), (vI x3), (vI x4), (vI x5), (Sl 500 (n6) (c6)), (vI x7), (vI x8), (vI x9), (vI x10)] 26 false 1)), (Prod.mk 1001 (AObj.cells [(Value.string (s11)), (Sl 501 (n12) (c12))] 29 false 1)), (Prod.mk 500 (AObj.sym (l6) false 5)), (Prod.mk 501 (AObj.sym (l12) false 1))]))) ∨
 ((Says C 58 [(D.val (Value.string (s11)))] [(D.val (Value.bool false))]) ∧
 (k [(D.val (vI 0)), (D.val (vI 4))]))) := by kernel_rfl
abbrev zRS1 (x0 : Int) (x1 : Int) (x2 : Int) (x3 : Int) (x4 : Int) (x5 : Int) (x6 : Int) (x7 : Int) (n8 : Nat) (c9 : Nat) (x10 : Int) (x11 : Int) (x12 : Int) (x13 : Int) (s14 : ByteArray) (n15 : Nat) (c16 : Nat) (l17 : List Value) (l18 : List Value) : Slots × Blocks := ([(2, (Value.pointer (some ⟨1000, 0, none⟩))), (3, (Value.pointer (some ⟨1001, 0, none⟩))), (6, (Value.int .i64 x0)), (7, (Value.int .i64 x1))], [(1000, (AObj.cells [(Value.int .i64 x2), (Value.int .i64 x3), (Value.int .i64 x4), (Value.int .i64 x5), (Value.int .i64 x6), (Value.int .i64 x7), (Value.slice (some ⟨500, 0, none⟩) n8 c9), (Value.int .i64 x10), (Value.int .i64 x11), (Value.int .i64 x12), (Value.int .i64 x13)] 26 false 1)), (1001, (AObj.cells [(Value.string s14), (Value.slice (some ⟨501, 0, none⟩) n15 c16)] 29 false 1)), (500, (AObj.sym l17 false 5)), (501, (AObj.sym l18 false 1))])
def rRS1 (C : Ct) (L : AtLoop) (x0 : Int) (x1 : Int) (x2 : Int) (x3 : Int) (x4 : Int) (x5 : Int) (x6 : Int) (x7 : Int) (n8 : Nat) (c9 : Nat) (x10 : Int) (x11 : Int) (x12 : Int) (x13 : Int) (s14 : ByteArray) (n15 : Nat) (c16 : Nat) (l17 : List Value) (l18 : List Value) (B : Bx) (X : Xx) (k : List D → Prop) : Prop := wpRound Try.prog (hP C) L 15 0 [(2, (Value.pointer (some ⟨1000, 0, none⟩))), (3, (Value.pointer (some ⟨1001, 0, none⟩))), (6, (Value.int .i64 x0)), (7, (Value.int .i64 x1))] [(1000, (AObj.cells [(Value.int .i64 x2), (Value.int .i64 x3), (Value.int .i64 x4), (Value.int .i64 x5), (Value.int .i64 x6), (Value.int .i64 x7), (Value.slice (some ⟨500, 0, none⟩) n8 c9), (Value.int .i64 x10), (Value.int .i64 x11), (Value.int .i64 x12), (Value.int .i64 x13)] 26 false 1)), (1001, (AObj.cells [(Value.string s14), (Value.slice (some ⟨501, 0, none⟩) n15 c16)] 29 false 1)), (500, (AObj.sym l17 false 5)), (501, (AObj.sym l18 false 1))] B X (dataK k)
theorem rRS1_text (C : Ct) (L : AtLoop) (x0 : Int) (x1 : Int) (x2 : Int) (x3 : Int) (x4 : Int) (x5 : Int) (x6 : Int) (x7 : Int) (n8 : Nat) (c9 : Nat) (x10 : Int) (x11 : Int) (x12 : Int) (x13 : Int) (s14 : ByteArray) (n15 : Nat) (c16 : Nat) (l17 : List Go.Value) (l18 : List Go.Value) (B : Bx) (X : Xx) (k : List D → Prop) : rRS1 C L x0 x1 x2 x3 x4 x5 x6 x7 n8 c9 x10 x11 x12 x13 s14 n15 c16 l17 l18 B X k =
 (bcase (decide (x1 < (↑n15 : Int)))
 (bcase (decide (0 ≤ x1))
 (bcase (decide (x1 < (↑n15 : Int)))
 (∃ n1 : Int,
 ((At (l18) (0 + Int.toNat x1 * 1) 1 [(vI n1)]) ∧
 (((Says C 18 [(D.val (vI n1)), (D.val (vI 1)), (D.val (vI 1000))] [(D.val (Value.bool true))]) ∧
 (bcase (decide (0 ≤ x1))
 (bcase (decide (x1 < (↑n15 : Int)))
 (∃ n2 : Int,
 ((At (l18) (0 + Int.toNat x1 * 1) 1 [(vI n2)]) ∧
 (bcase (decide (n2 > x0))
 (k [(D.val (vI x1)), (D.val (vI 9))])
 (bcase (decide (0 ≤ x1))
 (bcase (decide (x1 < (↑n15 : Int)))
 (∃ n3 : Int,
 ((At (l18) (0 + Int.toNat x1 * 1) 1 [(vI n3)]) ∧
 (B [(Prod.mk 2 (Pt 1000 0)), (Prod.mk 3 (Pt 1001 0)), (Prod.mk 6 (vI n3)), (Prod.mk 7 (vI (IntKind.wrap .i64 (x1 + 1))))] [(Prod.mk 1000 (AObj.cells [(vI x2), (vI x3), (vI x4), (vI x5), (vI x6), (vI x7), (Sl 500 (n8) (c9)), (vI x10), (vI x11), (vI x12), (vI x13)] 26 false 1)), (Prod.mk 1001 (AObj.cells [(Value.string (s14)), (Sl 501 (n15) (c16))] 29 false 1)), (Prod.mk 500 (AObj.sym (l17) false 5)), (Prod.mk 501 (AObj.sym (l18) false 1))])))
 False)
 False))))
 False)
 False)) ∨
 ((Says C 18 [(D.val (vI n1)), (D.val (vI 1)), (D.val (vI 1000))] [(D.val (Value.bool false))]) ∧
 (k [(D.val (vI x1)), (D.val (vI 2))])))))
 False)
 False)
 (X 0 [(Prod.mk 2 (Pt 1000 0)), (Prod.mk 6 (vI x0))] [(Prod.mk 1000 (AObj.cells [(vI x2), (vI x3), (vI x4), (vI x5), (vI x6), (vI x7), (Sl 500 (n8) (c9)), (vI x10), (vI x11), (vI x12), (vI x13)] 26 false 1)), (Prod.mk 500 (AObj.sym (l17) false 5))])) := by kernel_rfl
def nRS2 (C : Ct) (L : AtLoop) (x0 : Int) (x1 : Int) (x2 : Int) (x3 : Int) (x4 : Int) (x5 : Int) (x6 : Int) (n7 : Nat) (c8 : Nat) (x9 : Int) (x10 : Int) (x11 : Int) (x12 : Int) (l13 : List Value) (k : List D → Prop) : Prop := wpNext Try.prog (hP C) L 15 0 .normal [(2, (Value.pointer (some ⟨1000, 0, none⟩))), (6, (Value.int .i64 x0))] [(1000, (AObj.cells [(Value.int .i64 x1), (Value.int .i64 x2), (Value.int .i64 x3), (Value.int .i64 x4), (Value.int .i64 x5), (Value.int .i64 x6), (Value.slice (some ⟨500, 0, none⟩) n7 c8), (Value.int .i64 x9), (Value.int .i64 x10), (Value.int .i64 x11), (Value.int .i64 x12)] 26 false 1)), (500, (AObj.sym l13 false 5))] (dataK k)
theorem nRS2_text (C : Ct) (L : AtLoop) (x0 : Int) (x1 : Int) (x2 : Int) (x3 : Int) (x4 : Int) (x5 : Int) (x6 : Int) (n7 : Nat) (c8 : Nat) (x9 : Int) (x10 : Int) (x11 : Int) (x12 : Int) (l13 : List Go.Value) (k : List D → Prop) : nRS2 C L x0 x1 x2 x3 x4 x5 x6 n7 c8 x9 x10 x11 x12 l13 k =
 (bcase (x0 != x3)
 (k [(D.val (vI (IntKind.wrap .i64 ((↑n7 : Int) - 1)))), (D.val (vI 14))])
 (k [(D.val (vI 0)), (D.val (vI 0))])) := by kernel_rfl
def gRSn (C : Ct) (L : AtLoop) (x0 : Int) (x1 : Int) (x2 : Int) (x3 : Int) (x4 : Int) (x5 : Int) (n6 : Nat) (c6 : Nat) (l6 : List Value) (x7 : Int) (x8 : Int) (x9 : Int) (x10 : Int) (s11 : ByteArray) (k : List D → Prop) : Prop := wpFn Try.prog (hP C) L 0 15 #[.agg #[.int .i64 x0, .int .i64 x1, .int .i64 x2, .int .i64 x3, .int .i64 x4, .int .i64 x5, .slice (some ⟨500, 0, none⟩) n6 c6, .int .i64 x7, .int .i64 x8, .int .i64 x9, .int .i64 x10], .agg #[.string s11, .slice none 0 0]] (heapOf [(500, .sym l6 false 5)]) (dataK k)
theorem gRSn_text (C : Ct) (L : AtLoop) (x0 : Int) (x1 : Int) (x2 : Int) (x3 : Int) (x4 : Int) (x5 : Int) (n6 : Nat) (c6 : Nat) (l6 : List Go.Value) (x7 : Int) (x8 : Int) (x9 : Int) (x10 : Int) (s11 : ByteArray) (k : List D → Prop) : gRSn C L x0 x1 x2 x3 x4 x5 n6 c6 l6 x7 x8 x9 x10 s11 k =
 (((Says C 58 [(D.val (Value.string (s11)))] [(D.val (Value.bool true))]) ∧
 (bcase ((↑0 : Int) != (↑n6 : Int))
 (k [(D.val (vI 0)), (D.val (vI 10))])
 (L 0 [(Prod.mk 2 (Pt 1000 0)), (Prod.mk 3 (Pt 1001 0)), (Prod.mk 6 (vI x1)), (Prod.mk 7 (vI 0))] [(Prod.mk 1000 (AObj.cells [(vI x0), (vI x1), (vI x2), (vI x3), (vI x4), (vI x5), (Sl 500 (n6) (c6)), (vI x7), (vI x8), (vI x9), (vI x10)] 26 false 1)), (Prod.mk 1001 (AObj.cells [(Value.string (s11)), (Value.slice none 0 0)] 29 false 1)), (Prod.mk 500 (AObj.sym (l6) false 5))]))) ∨
 ((Says C 58 [(D.val (Value.string (s11)))] [(D.val (Value.bool false))]) ∧
 (k [(D.val (vI 0)), (D.val (vI 4))]))) := by kernel_rfl
def gbf (C : Ct) (L : AtLoop) (x0 : Int) (x1 : Int) (x2 : Int) (x3 : Int) (x4 : Int) (x5 : Int) (n6 : Nat) (c6 : Nat) (l6 : List Value) (x7 : Int) (x8 : Int) (x9 : Int) (x10 : Int) (s11 : ByteArray) (n12 : Nat) (c12 : Nat) (l12 : List Value) (x13 : Int) (k : List D → Prop) : Prop := wpFn Try.prog (hP C) L 0 59 #[.agg #[.int .i64 x0, .int .i64 x1, .int .i64 x2, .int .i64 x3, .int .i64 x4, .int .i64 x5, .slice (some ⟨500, 0, none⟩) n6 c6, .int .i64 x7, .int .i64 x8, .int .i64 x9, .int .i64 x10], .agg #[.string s11, .slice (some ⟨501, 0, none⟩) n12 c12], .int .i64 x13] (heapOf [(500, .sym l6 false 5), (501, .sym l12 false 1)]) (dataK k)
theorem gbf_text (C : Ct) (L : AtLoop) (x0 : Int) (x1 : Int) (x2 : Int) (x3 : Int) (x4 : Int) (x5 : Int) (n6 : Nat) (c6 : Nat) (l6 : List Go.Value) (x7 : Int) (x8 : Int) (x9 : Int) (x10 : Int) (s11 : ByteArray) (n12 : Nat) (c12 : Nat) (l12 : List Go.Value) (x13 : Int) (k : List D → Prop) : gbf C L x0 x1 x2 x3 x4 x5 n6 c6 l6 x7 x8 x9 x10 s11 n12 c12 l12 x13 k =
 (bcase (x13 == 0)
 (k [(D.val (vI x1))])
 (bcase (decide (0 ≤ IntKind.wrap .i64 (x13 - 1)))
 (bcase (decide (IntKind.wrap .i64 (x13 - 1) < (↑n12 : Int)))
 (∃ n1 : Int,
 ((At (l12) (0 + Int.toNat (IntKind.wrap .i64 (x13 - 1)) * 1) 1 [(vI n1)]) ∧
 (k [(D.val (vI n1))])))
 False)
 False)) := by kernel_rfl
def gRr (C : Ct) (L : AtLoop) (x0 : Int) (x1 : Int) (x2 : Int) (x3 : Int) (x4 : Int) (x5 : Int) (n6 : Nat) (c6 : Nat) (l6 : List Value) (x7 : Int) (x8 : Int) (x9 : Int) (x10 : Int) (s11 : ByteArray) (n12 : Nat) (c12 : Nat) (l12 : List Value) (k : List D → Prop) : Prop := wpFn Try.prog (hP C) L 0 17 #[.agg #[.int .i64 x0, .int .i64 x1, .int .i64 x2, .int .i64 x3, .int .i64 x4, .int .i64 x5, .slice (some ⟨500, 0, none⟩) n6 c6, .int .i64 x7, .int .i64 x8, .int .i64 x9, .int .i64 x10], .agg #[.string s11, .slice (some ⟨501, 0, none⟩) n12 c12]] (heapOf [(500, .sym l6 false 5), (501, .sym l12 false 1)]) (dataK k)
theorem gRr_text (C : Ct) (L : AtLoop) (x0 : Int) (x1 : Int) (x2 : Int) (x3 : Int) (x4 : Int) (x5 : Int) (n6 : Nat) (c6 : Nat) (l6 : List Go.Value) (x7 : Int) (x8 : Int) (x9 : Int) (x10 : Int) (s11 : ByteArray) (n12 : Nat) (c12 : Nat) (l12 : List Go.Value) (k : List D → Prop) : gRr C L x0 x1 x2 x3 x4 x5 n6 c6 l6 x7 x8 x9 x10 s11 n12 c12 l12 k =
 (L 0 [(Prod.mk 2 (Pt 1000 0)), (Prod.mk 3 (Pt 1001 0)), (Prod.mk 5 (Value.slice none 0 0)), (Prod.mk 6 (vI 0))] [(Prod.mk 1000 (AObj.cells [(vI x0), (vI x1), (vI x2), (vI x3), (vI x4), (vI x5), (Sl 500 (n6) (c6)), (vI x7), (vI x8), (vI x9), (vI x10)] 26 false 1)), (Prod.mk 1001 (AObj.cells [(Value.string (s11)), (Sl 501 (n12) (c12))] 29 false 1)), (Prod.mk 500 (AObj.sym (l6) false 5)), (Prod.mk 501 (AObj.sym (l12) false 1))]) := by kernel_rfl
abbrev zRr1 (x0 : Int) (x1 : Int) (x2 : Int) (x3 : Int) (x4 : Int) (x5 : Int) (x6 : Int) (n7 : Nat) (c8 : Nat) (x9 : Int) (x10 : Int) (x11 : Int) (x12 : Int) (s13 : ByteArray) (n14 : Nat) (c15 : Nat) (l16 : List Value) (l17 : List Value) : Slots × Blocks := ([(2, (Value.pointer (some ⟨1000, 0, none⟩))), (3, (Value.pointer (some ⟨1001, 0, none⟩))), (5, (Value.slice none 0 0)), (6, (Value.int .i64 x0))], [(1000, (AObj.cells [(Value.int .i64 x1), (Value.int .i64 x2), (Value.int .i64 x3), (Value.int .i64 x4), (Value.int .i64 x5), (Value.int .i64 x6), (Value.slice (some ⟨500, 0, none⟩) n7 c8), (Value.int .i64 x9), (Value.int .i64 x10), (Value.int .i64 x11), (Value.int .i64 x12)] 26 false 1)), (1001, (AObj.cells [(Value.string s13), (Value.slice (some ⟨501, 0, none⟩) n14 c15)] 29 false 1)), (500, (AObj.sym l16 false 5)), (501, (AObj.sym l17 false 1))])
def rRr1 (C : Ct) (L : AtLoop) (x0 : Int) (x1 : Int) (x2 : Int) (x3 : Int) (x4 : Int) (x5 : Int) (x6 : Int) (n7 : Nat) (c8 : Nat) (x9 : Int) (x10 : Int) (x11 : Int) (x12 : Int) (s13 : ByteArray) (n14 : Nat) (c15 : Nat) (l16 : List Value) (l17 : List Value) (B : Bx) (X : Xx) (k : List D → Prop) : Prop := wpRound Try.prog (hP C) L 17 0 [(2, (Value.pointer (some ⟨1000, 0, none⟩))), (3, (Value.pointer (some ⟨1001, 0, none⟩))), (5, (Value.slice none 0 0)), (6, (Value.int .i64 x0))] [(1000, (AObj.cells [(Value.int .i64 x1), (Value.int .i64 x2), (Value.int .i64 x3), (Value.int .i64 x4), (Value.int .i64 x5), (Value.int .i64 x6), (Value.slice (some ⟨500, 0, none⟩) n7 c8), (Value.int .i64 x9), (Value.int .i64 x10), (Value.int .i64 x11), (Value.int .i64 x12)] 26 false 1)), (1001, (AObj.cells [(Value.string s13), (Value.slice (some ⟨501, 0, none⟩) n14 c15)] 29 false 1)), (500, (AObj.sym l16 false 5)), (501, (AObj.sym l17 false 1))] B X (dataK k)
theorem rRr1_text (C : Ct) (L : AtLoop) (x0 : Int) (x1 : Int) (x2 : Int) (x3 : Int) (x4 : Int) (x5 : Int) (x6 : Int) (n7 : Nat) (c8 : Nat) (x9 : Int) (x10 : Int) (x11 : Int) (x12 : Int) (s13 : ByteArray) (n14 : Nat) (c15 : Nat) (l16 : List Go.Value) (l17 : List Go.Value) (B : Bx) (X : Xx) (k : List D → Prop) : rRr1 C L x0 x1 x2 x3 x4 x5 x6 n7 c8 x9 x10 x11 x12 s13 n14 c15 l16 l17 B X k =
 (bcase (decide (x0 < (↑n7 : Int)))
 (bcase (decide (0 + n7 * 5 ≤ List.length l16))
 (bcase (decide (0 + n14 * 1 ≤ List.length l17))
 (∃ n1 : Int,
 ((Says C 59 [(D.agg [(D.val (vI x1)), (D.val (vI x2)), (D.val (vI x3)), (D.val (vI x4)), (D.val (vI x5)), (D.val (vI x6)), (D.sl (n7) 5 (List.take (n7 * 5) (List.drop 0 l16))), (D.val (vI x9)), (D.val (vI x10)), (D.val (vI x11)), (D.val (vI x12))]), (D.agg [(D.val (Value.string (s13))), (D.sl (n14) 1 (List.take (n14 * 1) (List.drop 0 l17)))]), (D.val (vI x0))] [(D.val (vI n1))]) ∧
 (bcase (decide (0 ≤ x0))
 (bcase (decide (x0 < (↑n14 : Int)))
 (∃ n2 : Int,
 ((At (l17) (0 + Int.toNat x0 * 1) 1 [(vI n2)]) ∧
 (∃ n3 : Int,
 (∃ n4 : Int,
 ((Says C 41 [(D.val (vI (IntKind.wrap .i64 (n1 - n2)))), (D.val (vI n1))] [(D.agg [(D.val (vI n3)), (D.val (vI n4))])]) ∧
 (B [(Prod.mk 2 (Pt 1000 0)), (Prod.mk 3 (Pt 1001 0)), (Prod.mk 5 (Sl 1002 1 1)), (Prod.mk 6 (vI (IntKind.wrap .i64 (x0 + 1))))] [(Prod.mk 1000 (AObj.cells [(vI x1), (vI x2), (vI x3), (vI x4), (vI x5), (vI x6), (Sl 500 (n7) (c8)), (vI x9), (vI x10), (vI x11), (vI x12)] 26 false 1)), (Prod.mk 1001 (AObj.cells [(Value.string (s13)), (Sl 501 (n14) (c15))] 29 false 1)), (Prod.mk 1002 (AObj.sym [(vI n3), (vI n4)] true 2)), (Prod.mk 500 (AObj.sym (l16) false 5)), (Prod.mk 501 (AObj.sym (l17) false 1))]))))))
 False)
 False)))
 False)
 False)
 (X 0 [(Prod.mk 5 (Value.slice none 0 0))] [])) := by kernel_rfl
abbrev zRr2 (n0 : Nat) (x1 : Int) (x2 : Int) (x3 : Int) (x4 : Int) (x5 : Int) (x6 : Int) (x7 : Int) (n8 : Nat) (c9 : Nat) (x10 : Int) (x11 : Int) (x12 : Int) (x13 : Int) (s14 : ByteArray) (n15 : Nat) (c16 : Nat) (l17 : List Value) (l18 : List Value) (l19 : List Value) : Slots × Blocks := ([(2, (Value.pointer (some ⟨1000, 0, none⟩))), (3, (Value.pointer (some ⟨1001, 0, none⟩))), (5, (Value.slice (some ⟨1002, 0, none⟩) n0 n0)), (6, (Value.int .i64 x1))], [(1000, (AObj.cells [(Value.int .i64 x2), (Value.int .i64 x3), (Value.int .i64 x4), (Value.int .i64 x5), (Value.int .i64 x6), (Value.int .i64 x7), (Value.slice (some ⟨500, 0, none⟩) n8 c9), (Value.int .i64 x10), (Value.int .i64 x11), (Value.int .i64 x12), (Value.int .i64 x13)] 26 false 1)), (1001, (AObj.cells [(Value.string s14), (Value.slice (some ⟨501, 0, none⟩) n15 c16)] 29 false 1)), (1002, (AObj.sym l17 true 2)), (500, (AObj.sym l18 false 5)), (501, (AObj.sym l19 false 1))])
def rRr2 (C : Ct) (L : AtLoop) (n0 : Nat) (x1 : Int) (x2 : Int) (x3 : Int) (x4 : Int) (x5 : Int) (x6 : Int) (x7 : Int) (n8 : Nat) (c9 : Nat) (x10 : Int) (x11 : Int) (x12 : Int) (x13 : Int) (s14 : ByteArray) (n15 : Nat) (c16 : Nat) (l17 : List Value) (l18 : List Value) (l19 : List Value) (B : Bx) (X : Xx) (k : List D → Prop) : Prop := wpRound Try.prog (hP C) L 17 0 [(2, (Value.pointer (some ⟨1000, 0, none⟩))), (3, (Value.pointer (some ⟨1001, 0, none⟩))), (5, (Value.slice (some ⟨1002, 0, none⟩) n0 n0)), (6, (Value.int .i64 x1))] [(1000, (AObj.cells [(Value.int .i64 x2), (Value.int .i64 x3), (Value.int .i64 x4), (Value.int .i64 x5), (Value.int .i64 x6), (Value.int .i64 x7), (Value.slice (some ⟨500, 0, none⟩) n8 c9), (Value.int .i64 x10), (Value.int .i64 x11), (Value.int .i64 x12), (Value.int .i64 x13)] 26 false 1)), (1001, (AObj.cells [(Value.string s14), (Value.slice (some ⟨501, 0, none⟩) n15 c16)] 29 false 1)), (1002, (AObj.sym l17 true 2)), (500, (AObj.sym l18 false 5)), (501, (AObj.sym l19 false 1))] B X (dataK k)
theorem rRr2_text (C : Ct) (L : AtLoop) (n0 : Nat) (x1 : Int) (x2 : Int) (x3 : Int) (x4 : Int) (x5 : Int) (x6 : Int) (x7 : Int) (n8 : Nat) (c9 : Nat) (x10 : Int) (x11 : Int) (x12 : Int) (x13 : Int) (s14 : ByteArray) (n15 : Nat) (c16 : Nat) (l17 : List Go.Value) (l18 : List Go.Value) (l19 : List Go.Value) (B : Bx) (X : Xx) (k : List D → Prop) : rRr2 C L n0 x1 x2 x3 x4 x5 x6 x7 n8 c9 x10 x11 x12 x13 s14 n15 c16 l17 l18 l19 B X k =
 (bcase (decide (x1 < (↑n8 : Int)))
 (bcase (decide (0 + n8 * 5 ≤ List.length l18))
 (bcase (decide (0 + n15 * 1 ≤ List.length l19))
 (∃ n1 : Int,
 ((Says C 59 [(D.agg [(D.val (vI x2)), (D.val (vI x3)), (D.val (vI x4)), (D.val (vI x5)), (D.val (vI x6)), (D.val (vI x7)), (D.sl (n8) 5 (List.take (n8 * 5) (List.drop 0 l18))), (D.val (vI x10)), (D.val (vI x11)), (D.val (vI x12)), (D.val (vI x13))]), (D.agg [(D.val (Value.string (s14))), (D.sl (n15) 1 (List.take (n15 * 1) (List.drop 0 l19)))]), (D.val (vI x1))] [(D.val (vI n1))]) ∧
 (bcase (decide (0 ≤ x1))
 (bcase (decide (x1 < (↑n15 : Int)))
 (∃ n2 : Int,
 ((At (l19) (0 + Int.toNat x1 * 1) 1 [(vI n2)]) ∧
 (∃ n3 : Int,
 (∃ n4 : Int,
 ((Says C 41 [(D.val (vI (IntKind.wrap .i64 (n1 - n2)))), (D.val (vI n1))] [(D.agg [(D.val (vI n3)), (D.val (vI n4))])]) ∧
 (bcase (decide (n0 < n0 + 1))
 (bcase (decide ((2 * (n0 + 1) + 768) * 16 ≤ 281474976710656))
 (bcase (decide (n0 + 1 ≤ 1099511627776))
 (bcase (decide (0 + n0 * 2 ≤ List.length l17))
 (bcase (decide (0 + n0 * 2 = List.length l17))
 (B [(Prod.mk 2 (Pt 1000 0)), (Prod.mk 3 (Pt 1001 0)), (Prod.mk 5 (Sl 1002 (n0 + 1) (n0 + 1))), (Prod.mk 6 (vI (IntKind.wrap .i64 (x1 + 1))))] [(Prod.mk 1000 (AObj.cells [(vI x2), (vI x3), (vI x4), (vI x5), (vI x6), (vI x7), (Sl 500 (n8) (c9)), (vI x10), (vI x11), (vI x12), (vI x13)] 26 false 1)), (Prod.mk 1001 (AObj.cells [(Value.string (s14)), (Sl 501 (n15) (c16))] 29 false 1)), (Prod.mk 1002 (AObj.sym ((List.take (n0 * 2) (List.drop 0 l17)) ++ [(vI n3), (vI n4)]) true 2)), (Prod.mk 500 (AObj.sym (l18) false 5)), (Prod.mk 501 (AObj.sym (l19) false 1))])
 False)
 False)
 False)
 False)
 False))))))
 False)
 False)))
 False)
 False)
 (X 0 [(Prod.mk 5 (Sl 1000 (n0) (n0)))] [(Prod.mk 1000 (AObj.sym (l17) true 2))])) := by kernel_rfl
def nRr4 (C : Ct) (L : AtLoop) (n0 : Nat) (l1 : List Value) (k : List D → Prop) : Prop := wpNext Try.prog (hP C) L 17 0 .normal [(5, (Value.slice (some ⟨1000, 0, none⟩) n0 n0))] [(1000, (AObj.sym l1 true 2))] (dataK k)
theorem nRr4_text (C : Ct) (L : AtLoop) (n0 : Nat) (l1 : List Go.Value) (k : List D → Prop) : nRr4 C L n0 l1 k =
 (((Qv (n0)) ∧
 ((List.length l1) = (n0 * 2))) ∧
 (k [(D.sl (n0) 2 (l1))])) := by kernel_rfl
def gRl (C : Ct) (L : AtLoop) (x0 : Int) (x1 : Int) (x2 : Int) (x3 : Int) (x4 : Int) (x5 : Int) (n6 : Nat) (c6 : Nat) (l6 : List Value) (x7 : Int) (x8 : Int) (x9 : Int) (x10 : Int) (s11 : ByteArray) (n12 : Nat) (c12 : Nat) (l12 : List Value) (x13 : Int) (k : List D → Prop) : Prop := wpFn Try.prog (hP C) L 0 19 #[.agg #[.int .i64 x0, .int .i64 x1, .int .i64 x2, .int .i64 x3, .int .i64 x4, .int .i64 x5, .slice (some ⟨500, 0, none⟩) n6 c6, .int .i64 x7, .int .i64 x8, .int .i64 x9, .int .i64 x10], .agg #[.string s11, .slice (some ⟨501, 0, none⟩) n12 c12], .int .i64 x13] (heapOf [(500, .sym l6 false 5), (501, .sym l12 false 1)]) (dataK k)
theorem gRl_text (C : Ct) (L : AtLoop) (x0 : Int) (x1 : Int) (x2 : Int) (x3 : Int) (x4 : Int) (x5 : Int) (n6 : Nat) (c6 : Nat) (l6 : List Go.Value) (x7 : Int) (x8 : Int) (x9 : Int) (x10 : Int) (s11 : ByteArray) (n12 : Nat) (c12 : Nat) (l12 : List Go.Value) (x13 : Int) (k : List D → Prop) : gRl C L x0 x1 x2 x3 x4 x5 n6 c6 l6 x7 x8 x9 x10 s11 n12 c12 l12 x13 k =
 (L 0 [(Prod.mk 2 (vI x13)), (Prod.mk 3 (Pt 1000 0)), (Prod.mk 4 (Pt 1001 0)), (Prod.mk 7 (Value.slice none 0 0)), (Prod.mk 8 (vI 0))] [(Prod.mk 1000 (AObj.cells [(vI x0), (vI x1), (vI x2), (vI x3), (vI x4), (vI x5), (Sl 500 (n6) (c6)), (vI x7), (vI x8), (vI x9), (vI x10)] 26 false 1)), (Prod.mk 1001 (AObj.cells [(Value.string (s11)), (Sl 501 (n12) (c12))] 29 false 1)), (Prod.mk 500 (AObj.sym (l6) false 5)), (Prod.mk 501 (AObj.sym (l12) false 1))]) := by kernel_rfl
abbrev zRl1 (x0 : Int) (x1 : Int) (x2 : Int) (x3 : Int) (x4 : Int) (x5 : Int) (x6 : Int) (x7 : Int) (n8 : Nat) (c9 : Nat) (x10 : Int) (x11 : Int) (x12 : Int) (x13 : Int) (s14 : ByteArray) (n15 : Nat) (c16 : Nat) (l17 : List Value) (l18 : List Value) : Slots × Blocks := ([(2, (Value.int .i64 x0)), (3, (Value.pointer (some ⟨1000, 0, none⟩))), (4, (Value.pointer (some ⟨1001, 0, none⟩))), (7, (Value.slice none 0 0)), (8, (Value.int .i64 x1))], [(1000, (AObj.cells [(Value.int .i64 x2), (Value.int .i64 x3), (Value.int .i64 x4), (Value.int .i64 x5), (Value.int .i64 x6), (Value.int .i64 x7), (Value.slice (some ⟨500, 0, none⟩) n8 c9), (Value.int .i64 x10), (Value.int .i64 x11), (Value.int .i64 x12), (Value.int .i64 x13)] 26 false 1)), (1001, (AObj.cells [(Value.string s14), (Value.slice (some ⟨501, 0, none⟩) n15 c16)] 29 false 1)), (500, (AObj.sym l17 false 5)), (501, (AObj.sym l18 false 1))])
def rRl1 (C : Ct) (L : AtLoop) (x0 : Int) (x1 : Int) (x2 : Int) (x3 : Int) (x4 : Int) (x5 : Int) (x6 : Int) (x7 : Int) (n8 : Nat) (c9 : Nat) (x10 : Int) (x11 : Int) (x12 : Int) (x13 : Int) (s14 : ByteArray) (n15 : Nat) (c16 : Nat) (l17 : List Value) (l18 : List Value) (B : Bx) (X : Xx) (k : List D → Prop) : Prop := wpRound Try.prog (hP C) L 19 0 [(2, (Value.int .i64 x0)), (3, (Value.pointer (some ⟨1000, 0, none⟩))), (4, (Value.pointer (some ⟨1001, 0, none⟩))), (7, (Value.slice none 0 0)), (8, (Value.int .i64 x1))] [(1000, (AObj.cells [(Value.int .i64 x2), (Value.int .i64 x3), (Value.int .i64 x4), (Value.int .i64 x5), (Value.int .i64 x6), (Value.int .i64 x7), (Value.slice (some ⟨500, 0, none⟩) n8 c9), (Value.int .i64 x10), (Value.int .i64 x11), (Value.int .i64 x12), (Value.int .i64 x13)] 26 false 1)), (1001, (AObj.cells [(Value.string s14), (Value.slice (some ⟨501, 0, none⟩) n15 c16)] 29 false 1)), (500, (AObj.sym l17 false 5)), (501, (AObj.sym l18 false 1))] B X (dataK k)
theorem rRl1_text (C : Ct) (L : AtLoop) (x0 : Int) (x1 : Int) (x2 : Int) (x3 : Int) (x4 : Int) (x5 : Int) (x6 : Int) (x7 : Int) (n8 : Nat) (c9 : Nat) (x10 : Int) (x11 : Int) (x12 : Int) (x13 : Int) (s14 : ByteArray) (n15 : Nat) (c16 : Nat) (l17 : List Go.Value) (l18 : List Go.Value) (B : Bx) (X : Xx) (k : List D → Prop) : rRl1 C L x0 x1 x2 x3 x4 x5 x6 x7 n8 c9 x10 x11 x12 x13 s14 n15 c16 l17 l18 B X k =
 (bcase (decide (x1 < (↑n8 : Int)))
 (bcase (decide (0 ≤ x1))
 (bcase (decide (x1 < (↑n15 : Int)))
 (∃ n1 : Int,
 ((At (l18) (0 + Int.toNat x1 * 1) 1 [(vI n1)]) ∧
 (((∃ n2 : Int,
 ((At (l18) (0 + Int.toNat x1 * 1) 1 [(vI n2)]) ∧
 ((vI n2) = (vI n1)))) ∧
 ((bcase (decide (0 ≤ x1))
 (bcase (decide (x1 < (↑n15 : Int)))
 (Qv (Pt 501 (0 + Int.toNat x1 * 1)))
 False)
 False) ∧
 ((Qv (vI x1)) ∧
 ((Qv (Sl 501 (n15) (c16))) ∧
 ((Qv (Pt 1001 1)) ∧
 ((Qv (vI (IntKind.wrap .i64 (x0 * x3)))) ∧
 ((Qv (vI x3)) ∧
 ((Qv (Pt 1000 1)) ∧
 ((Qv (vI x0)) ∧
 ((Qv (Value.slice none 0 0)) ∧
 True)))))))))) ∧
 (∃ n2 : Int,
 (∃ n3 : Int,
 ((Says C 41 [(D.val (vI (IntKind.wrap .i64 (x0 * x3)))), (D.val (vI n1))] [(D.agg [(D.val (vI n2)), (D.val (vI n3))])]) ∧
 ((((Qv (Sl 1002 1 1)) ∧
 (Qv (some (AObj.cells [(vI n2), (vI n3)] 68 false 2)))) ∧
 ((bcase (decide (0 ≤ x1))
 (bcase (decide (x1 < (↑n15 : Int)))
 (Qv (Pt 501 (0 + Int.toNat x1 * 1)))
 False)
 False) ∧
 ((Qv (vI x1)) ∧
 ((Qv (Sl 501 (n15) (c16))) ∧
 ((Qv (Pt 1001 1)) ∧
 ((Qv (vI x3)) ∧
 ((Qv (Pt 1000 1)) ∧
 ((Qv (vI x0)) ∧
 ((Qv (Value.slice none 0 0)) ∧
 True))))))))) ∧
 (((bcase (decide (0 ≤ x1))
 (bcase (decide (x1 < (↑n15 : Int)))
 (Qv (Pt 501 (0 + Int.toNat x1 * 1)))
 False)
 False) ∧
 ((Qv (vI x1)) ∧
 ((Qv (Sl 501 (n15) (c16))) ∧
 ((Qv (Pt 1001 1)) ∧
 ((Qv (vI x3)) ∧
 ((Qv (Pt 1000 1)) ∧
 ((Qv (vI x0)) ∧
 True))))))) ∧
 (True ∧
 (B [(Prod.mk 2 (vI x0)), (Prod.mk 3 (Pt 1000 0)), (Prod.mk 4 (Pt 1001 0)), (Prod.mk 7 (Sl 1002 1 1)), (Prod.mk 8 (vI (IntKind.wrap .i64 (x1 + 1))))] [(Prod.mk 1000 (AObj.cells [(vI x2), (vI x3), (vI x4), (vI x5), (vI x6), (vI x7), (Sl 500 (n8) (c9)), (vI x10), (vI x11), (vI x12), (vI x13)] 26 false 1)), (Prod.mk 1001 (AObj.cells [(Value.string (s14)), (Sl 501 (n15) (c16))] 29 false 1)), (Prod.mk 1002 (AObj.sym [(vI n2), (vI n3)] true 2)), (Prod.mk 500 (AObj.sym (l17) false 5)), (Prod.mk 501 (AObj.sym (l18) false 1))]))))))))))
 False)
 False)
 (X 0 [(Prod.mk 7 (Value.slice none 0 0))] [])) := by kernel_rfl
abbrev zRl2 (x0 : Int) (n1 : Nat) (x2 : Int) (x3 : Int) (x4 : Int) (x5 : Int) (x6 : Int) (x7 : Int) (x8 : Int) (n9 : Nat) (c10 : Nat) (x11 : Int) (x12 : Int) (x13 : Int) (x14 : Int) (s15 : ByteArray) (n16 : Nat) (c17 : Nat) (l18 : List Value) (l19 : List Value) (l20 : List Value) : Slots × Blocks := ([(2, (Value.int .i64 x0)), (3, (Value.pointer (some ⟨1000, 0, none⟩))), (4, (Value.pointer (some ⟨1001, 0, none⟩))), (7, (Value.slice (some ⟨1002, 0, none⟩) n1 n1)), (8, (Value.int .i64 x2))], [(1000, (AObj.cells [(Value.int .i64 x3), (Value.int .i64 x4), (Value.int .i64 x5), (Value.int .i64 x6), (Value.int .i64 x7), (Value.int .i64 x8), (Value.slice (some ⟨500, 0, none⟩) n9 c10), (Value.int .i64 x11), (Value.int .i64 x12), (Value.int .i64 x13), (Value.int .i64 x14)] 26 false 1)), (1001, (AObj.cells [(Value.string s15), (Value.slice (some ⟨501, 0, none⟩) n16 c17)] 29 false 1)), (1002, (AObj.sym l18 true 2)), (500, (AObj.sym l19 false 5)), (501, (AObj.sym l20 false 1))])
def rRl2 (C : Ct) (L : AtLoop) (x0 : Int) (n1 : Nat) (x2 : Int) (x3 : Int) (x4 : Int) (x5 : Int) (x6 : Int) (x7 : Int) (x8 : Int) (n9 : Nat) (c10 : Nat) (x11 : Int) (x12 : Int) (x13 : Int) (x14 : Int) (s15 : ByteArray) (n16 : Nat) (c17 : Nat) (l18 : List Value) (l19 : List Value) (l20 : List Value) (B : Bx) (X : Xx) (k : List D → Prop) : Prop := wpRound Try.prog (hP C) L 19 0 [(2, (Value.int .i64 x0)), (3, (Value.pointer (some ⟨1000, 0, none⟩))), (4, (Value.pointer (some ⟨1001, 0, none⟩))), (7, (Value.slice (some ⟨1002, 0, none⟩) n1 n1)), (8, (Value.int .i64 x2))] [(1000, (AObj.cells [(Value.int .i64 x3), (Value.int .i64 x4), (Value.int .i64 x5), (Value.int .i64 x6), (Value.int .i64 x7), (Value.int .i64 x8), (Value.slice (some ⟨500, 0, none⟩) n9 c10), (Value.int .i64 x11), (Value.int .i64 x12), (Value.int .i64 x13), (Value.int .i64 x14)] 26 false 1)), (1001, (AObj.cells [(Value.string s15), (Value.slice (some ⟨501, 0, none⟩) n16 c17)] 29 false 1)), (1002, (AObj.sym l18 true 2)), (500, (AObj.sym l19 false 5)), (501, (AObj.sym l20 false 1))] B X (dataK k)
theorem rRl2_text (C : Ct) (L : AtLoop) (x0 : Int) (n1 : Nat) (x2 : Int) (x3 : Int) (x4 : Int) (x5 : Int) (x6 : Int) (x7 : Int) (x8 : Int) (n9 : Nat) (c10 : Nat) (x11 : Int) (x12 : Int) (x13 : Int) (x14 : Int) (s15 : ByteArray) (n16 : Nat) (c17 : Nat) (l18 : List Go.Value) (l19 : List Go.Value) (l20 : List Go.Value) (B : Bx) (X : Xx) (k : List D → Prop) : rRl2 C L x0 n1 x2 x3 x4 x5 x6 x7 x8 n9 c10 x11 x12 x13 x14 s15 n16 c17 l18 l19 l20 B X k =
 (bcase (decide (x2 < (↑n9 : Int)))
 (bcase (decide (0 ≤ x2))
 (bcase (decide (x2 < (↑n16 : Int)))
 (∃ n2 : Int,
 ((At (l20) (0 + Int.toNat x2 * 1) 1 [(vI n2)]) ∧
 (((∃ n3 : Int,
 ((At (l20) (0 + Int.toNat x2 * 1) 1 [(vI n3)]) ∧
 ((vI n3) = (vI n2)))) ∧
 ((bcase (decide (0 ≤ x2))
 (bcase (decide (x2 < (↑n16 : Int)))
 (Qv (Pt 501 (0 + Int.toNat x2 * 1)))
 False)
 False) ∧
 ((Qv (vI x2)) ∧
 ((Qv (Sl 501 (n16) (c17))) ∧
 ((Qv (Pt 1001 1)) ∧
 ((Qv (vI (IntKind.wrap .i64 (x0 * x4)))) ∧
 ((Qv (vI x4)) ∧
 ((Qv (Pt 1000 1)) ∧
 ((Qv (vI x0)) ∧
 ((Qv (Sl 1002 (n1) (n1))) ∧
 True)))))))))) ∧
 (∃ n3 : Int,
 (∃ n4 : Int,
 ((Says C 41 [(D.val (vI (IntKind.wrap .i64 (x0 * x4)))), (D.val (vI n2))] [(D.agg [(D.val (vI n3)), (D.val (vI n4))])]) ∧
 ((((Qv (Sl 1003 1 1)) ∧
 (Qv (some (AObj.cells [(vI n3), (vI n4)] 68 false 2)))) ∧
 ((bcase (decide (0 ≤ x2))
 (bcase (decide (x2 < (↑n16 : Int)))
 (Qv (Pt 501 (0 + Int.toNat x2 * 1)))
 False)
 False) ∧
 ((Qv (vI x2)) ∧
 ((Qv (Sl 501 (n16) (c17))) ∧
 ((Qv (Pt 1001 1)) ∧
 ((Qv (vI x4)) ∧
 ((Qv (Pt 1000 1)) ∧
 ((Qv (vI x0)) ∧
 ((Qv (Sl 1002 (n1) (n1))) ∧
 True))))))))) ∧
 (bcase (decide (n1 < n1 + 1))
 (bcase (decide ((2 * (n1 + 1) + 768) * 16 ≤ 281474976710656))
 (bcase (decide (n1 + 1 ≤ 1099511627776))
 (bcase (decide (0 + n1 * 2 ≤ List.length l18))
 (bcase (decide (0 + n1 * 2 = List.length l18))
 (((bcase (decide (0 ≤ x2))
 (bcase (decide (x2 < (↑n16 : Int)))
 (Qv (Pt 501 (0 + Int.toNat x2 * 1)))
 False)
 False) ∧
 ((Qv (vI x2)) ∧
 ((Qv (Sl 501 (n16) (c17))) ∧
 ((Qv (Pt 1001 1)) ∧
 ((Qv (vI x4)) ∧
 ((Qv (Pt 1000 1)) ∧
 ((Qv (vI x0)) ∧
 True))))))) ∧
 (True ∧
 (B [(Prod.mk 2 (vI x0)), (Prod.mk 3 (Pt 1000 0)), (Prod.mk 4 (Pt 1001 0)), (Prod.mk 7 (Sl 1002 (n1 + 1) (n1 + 1))), (Prod.mk 8 (vI (IntKind.wrap .i64 (x2 + 1))))] [(Prod.mk 1000 (AObj.cells [(vI x3), (vI x4), (vI x5), (vI x6), (vI x7), (vI x8), (Sl 500 (n9) (c10)), (vI x11), (vI x12), (vI x13), (vI x14)] 26 false 1)), (Prod.mk 1001 (AObj.cells [(Value.string (s15)), (Sl 501 (n16) (c17))] 29 false 1)), (Prod.mk 1002 (AObj.sym ((List.take (n1 * 2) (List.drop 0 l18)) ++ [(vI n3), (vI n4)]) true 2)), (Prod.mk 500 (AObj.sym (l19) false 5)), (Prod.mk 501 (AObj.sym (l20) false 1))])))
 False)
 False)
 False)
 False)
 False))))))))
 False)
 False)
 (X 0 [(Prod.mk 7 (Sl 1000 (n1) (n1)))] [(Prod.mk 1000 (AObj.sym (l18) true 2))])) := by kernel_rfl
def nRl4 (C : Ct) (L : AtLoop) (n0 : Nat) (l1 : List Value) (k : List D → Prop) : Prop := wpNext Try.prog (hP C) L 19 0 .normal [(7, (Value.slice (some ⟨1000, 0, none⟩) n0 n0))] [(1000, (AObj.sym l1 true 2))] (dataK k)
theorem nRl4_text (C : Ct) (L : AtLoop) (n0 : Nat) (l1 : List Go.Value) (k : List D → Prop) : nRl4 C L n0 l1 k =
 (((Qv (n0)) ∧
 ((List.length l1) = (n0 * 2))) ∧
 (k [(D.sl (n0) 2 (l1))])) := by kernel_rfl
def gFr (C : Ct) (L : AtLoop) (n0 : Nat) (c0 : Nat) (l0 : List Value) (n1 : Nat) (c1 : Nat) (l1 : List Value) (k : List D → Prop) : Prop := wpFn Try.prog (hP C) L 0 16 #[.slice (some ⟨500, 0, none⟩) n0 c0, .slice (some ⟨501, 0, none⟩) n1 c1] (heapOf [(500, .sym l0 false 2), (501, .sym l1 false 2)]) (dataK k)
theorem gFr_text (C : Ct) (L : AtLoop) (n0 : Nat) (c0 : Nat) (l0 : List Go.Value) (n1 : Nat) (c1 : Nat) (l1 : List Go.Value) (k : List D → Prop) : gFr C L n0 c0 l0 n1 c1 l1 k =
 (bcase ((↑n0 : Int) != (↑n1 : Int))
 (k [(D.val (Value.bool false))])
 (L 0 [(Prod.mk 0 (Sl 500 (n0) (c0))), (Prod.mk 1 (Sl 501 (n1) (c1))), (Prod.mk 5 (vI 0))] [(Prod.mk 500 (AObj.sym (l0) false 2)), (Prod.mk 501 (AObj.sym (l1) false 2))])) := by kernel_rfl
abbrev zFr1 (n0 : Nat) (c1 : Nat) (n2 : Nat) (c3 : Nat) (x4 : Int) (l5 : List Value) (l6 : List Value) : Slots × Blocks := ([(0, (Value.slice (some ⟨500, 0, none⟩) n0 c1)), (1, (Value.slice (some ⟨501, 0, none⟩) n2 c3)), (5, (Value.int .i64 x4))], [(500, (AObj.sym l5 false 2)), (501, (AObj.sym l6 false 2))])
def rFr1 (C : Ct) (L : AtLoop) (n0 : Nat) (c1 : Nat) (n2 : Nat) (c3 : Nat) (x4 : Int) (l5 : List Value) (l6 : List Value) (B : Bx) (X : Xx) (k : List D → Prop) : Prop := wpRound Try.prog (hP C) L 16 0 [(0, (Value.slice (some ⟨500, 0, none⟩) n0 c1)), (1, (Value.slice (some ⟨501, 0, none⟩) n2 c3)), (5, (Value.int .i64 x4))] [(500, (AObj.sym l5 false 2)), (501, (AObj.sym l6 false 2))] B X (dataK k)
theorem rFr1_text (C : Ct) (L : AtLoop) (n0 : Nat) (c1 : Nat) (n2 : Nat) (c3 : Nat) (x4 : Int) (l5 : List Go.Value) (l6 : List Go.Value) (B : Bx) (X : Xx) (k : List D → Prop) : rFr1 C L n0 c1 n2 c3 x4 l5 l6 B X k =
 (bcase (decide (x4 < (↑n0 : Int)))
 (bcase (decide (0 ≤ x4))
 (bcase (decide (x4 < (↑n0 : Int)))
 (∃ n1 : Int,
 (∃ n3 : Int,
 ((At (l5) (0 + Int.toNat x4 * 2) 2 [(vI n1), (vI n3)]) ∧
 (bcase (decide (0 ≤ x4))
 (bcase (decide (x4 < (↑n2 : Int)))
 (∃ n4 : Int,
 (∃ n5 : Int,
 ((At (l6) (0 + Int.toNat x4 * 2) 2 [(vI n4), (vI n5)]) ∧
 (bcase (if Bool.true = Bool.true then !(n1 == n4 && (n3 == n5 && Bool.true)) else n1 == n4 && (n3 == n5 && Bool.true))
 (((bcase (if Bool.true = Bool.true then !(n1 == n4 && (n3 == n5 && Bool.true)) else n1 == n4 && (n3 == n5 && Bool.true))
 (Qv (Value.bool true))
 ((Value.bool false) = (Value.bool true))) ∧
 ((∃ n6 : Int,
 (∃ n7 : Int,
 ((At (l6) (0 + Int.toNat x4 * 2) 2 [(vI n6), (vI n7)]) ∧
 ((Value.agg [(vI n6), (vI n7)].toArray) = (Value.agg [(vI n4), (vI n5)].toArray))))) ∧
 ((bcase (decide (0 ≤ x4))
 (bcase (decide (x4 < (↑n2 : Int)))
 (Qv (Pt 501 (0 + Int.toNat x4 * 2)))
 False)
 False) ∧
 ((Qv (vI x4)) ∧
 ((Qv (Sl 501 (n2) (c3))) ∧
 ((∃ n6 : Int,
 (∃ n7 : Int,
 ((At (l5) (0 + Int.toNat x4 * 2) 2 [(vI n6), (vI n7)]) ∧
 ((Value.agg [(vI n6), (vI n7)].toArray) = (Value.agg [(vI n1), (vI n3)].toArray))))) ∧
 ((bcase (decide (0 ≤ x4))
 (bcase (decide (x4 < (↑n0 : Int)))
 (Qv (Pt 500 (0 + Int.toNat x4 * 2)))
 False)
 False) ∧
 ((Qv (vI x4)) ∧
 ((Qv (Sl 500 (n0) (c1))) ∧
 True))))))))) ∧
 (k [(D.val (Value.bool false))]))
 (((bcase (if Bool.true = Bool.true then !(n1 == n4 && (n3 == n5 && Bool.true)) else n1 == n4 && (n3 == n5 && Bool.true))
 ((Value.bool true) = (Value.bool false))
 (Qv (Value.bool false))) ∧
 ((∃ n6 : Int,
 (∃ n7 : Int,
 ((At (l6) (0 + Int.toNat x4 * 2) 2 [(vI n6), (vI n7)]) ∧
 ((Value.agg [(vI n6), (vI n7)].toArray) = (Value.agg [(vI n4), (vI n5)].toArray))))) ∧
 ((bcase (decide (0 ≤ x4))
 (bcase (decide (x4 < (↑n2 : Int)))
 (Qv (Pt 501 (0 + Int.toNat x4 * 2)))
 False)
 False) ∧
 ((Qv (vI x4)) ∧
 ((Qv (Sl 501 (n2) (c3))) ∧
 ((∃ n6 : Int,
 (∃ n7 : Int,
 ((At (l5) (0 + Int.toNat x4 * 2) 2 [(vI n6), (vI n7)]) ∧
 ((Value.agg [(vI n6), (vI n7)].toArray) = (Value.agg [(vI n1), (vI n3)].toArray))))) ∧
 ((bcase (decide (0 ≤ x4))
 (bcase (decide (x4 < (↑n0 : Int)))
 (Qv (Pt 500 (0 + Int.toNat x4 * 2)))
 False)
 False) ∧
 ((Qv (vI x4)) ∧
 ((Qv (Sl 500 (n0) (c1))) ∧
 True))))))))) ∧
 (B [(Prod.mk 0 (Sl 500 (n0) (c1))), (Prod.mk 1 (Sl 501 (n2) (c3))), (Prod.mk 5 (vI (IntKind.wrap .i64 (x4 + 1))))] [(Prod.mk 500 (AObj.sym (l5) false 2)), (Prod.mk 501 (AObj.sym (l6) false 2))]))))))
 False)
 False))))
 False)
 False)
 (X 0 [] [])) := by kernel_rfl
def nFr2 (C : Ct) (L : AtLoop) (k : List D → Prop) : Prop := wpNext Try.prog (hP C) L 16 0 .normal [] [] (dataK k)
theorem nFr2_text (C : Ct) (L : AtLoop) (k : List D → Prop) : nFr2 C L k =
 (k [(D.val (Value.bool true))]) := by kernel_rfl
def gWj (C : Ct) (L : AtLoop) (x0 : Int) (x1 : Int) (x2 : Int) (k : List D → Prop) : Prop := wpFn Try.prog (hE C) L 0 18 #[.int .i64 x0, .int .i64 x1, .int .i64 x2] (heapOf []) (dataK k)
theorem gWj_text (C : Ct) (L : AtLoop) (x0 : Int) (x1 : Int) (x2 : Int) (k : List D → Prop) : gWj C L x0 x1 x2 k =
 (bcase (decide (x1 ≤ x0))
 (bcase (decide (x0 ≤ x2))
 (k [(D.val (Value.bool true))])
 (k [(D.val (Value.bool false))]))
 (k [(D.val (Value.bool false))])) := by kernel_rfl
def gIN (C : Ct) (L : AtLoop) (s0 : ByteArray) (k : List D → Prop) : Prop := wpFn Try.prog (hP C) L 0 58 #[.string s0] (heapOf []) (dataK k)
theorem gIN_text (C : Ct) (L : AtLoop) (s0 : ByteArray) (k : List D → Prop) : gIN C L s0 k =
 (bcase (decide ((↑(ByteArray.size s0) : Int) < 1))
 (k [(D.val (Value.bool false))])
 (bcase (decide ((↑(ByteArray.size s0) : Int) > 12))
 (k [(D.val (Value.bool false))])
 (L 0 [(Prod.mk 0 (Value.string (s0))), (Prod.mk 3 (vI 0))] []))) := by kernel_rfl
abbrev zIN1 (s0 : ByteArray) (x1 : Int) : Slots × Blocks := ([(0, (Value.string s0)), (3, (Value.int .i64 x1))], [])
def rIN1 (C : Ct) (L : AtLoop) (s0 : ByteArray) (x1 : Int) (B : Bx) (X : Xx) (k : List D → Prop) : Prop := wpRound Try.prog (hP C) L 58 0 [(0, (Value.string s0)), (3, (Value.int .i64 x1))] [] B X (dataK k)
theorem rIN1_text (C : Ct) (L : AtLoop) (s0 : ByteArray) (x1 : Int) (B : Bx) (X : Xx) (k : List D → Prop) : rIN1 C L s0 x1 B X k =
 (bcase (decide (x1 < (↑(ByteArray.size s0) : Int)))
 (bcase (decide (0 ≤ x1))
 (∃ b1 : UInt8,
 ((ByteAt (s0) (Int.toNat x1) (b1)) ∧
 (bcase (decide ((↑(UInt8.toNat b1) : Int) ≥ 97))
 (bcase (decide ((↑(UInt8.toNat b1) : Int) ≤ 122))
 (B [(Prod.mk 0 (Value.string (s0))), (Prod.mk 3 (vI (IntKind.wrap .i64 (x1 + 1))))] [])
 (bcase (decide ((↑(UInt8.toNat b1) : Int) ≥ 65))
 (bcase (decide ((↑(UInt8.toNat b1) : Int) ≤ 90))
 (B [(Prod.mk 0 (Value.string (s0))), (Prod.mk 3 (vI (IntKind.wrap .i64 (x1 + 1))))] [])
 (bcase (x1 == 0)
 (k [(D.val (Value.bool false))])
 (bcase ((↑(UInt8.toNat b1) : Int) != 45)
 (bcase (decide ((↑(UInt8.toNat b1) : Int) < 48))
 (k [(D.val (Value.bool false))])
 (bcase (decide ((↑(UInt8.toNat b1) : Int) > 57))
 (k [(D.val (Value.bool false))])
 (B [(Prod.mk 0 (Value.string (s0))), (Prod.mk 3 (vI (IntKind.wrap .i64 (x1 + 1))))] [])))
 (B [(Prod.mk 0 (Value.string (s0))), (Prod.mk 3 (vI (IntKind.wrap .i64 (x1 + 1))))] []))))
 (bcase (x1 == 0)
 (k [(D.val (Value.bool false))])
 (bcase ((↑(UInt8.toNat b1) : Int) != 45)
 (bcase (decide ((↑(UInt8.toNat b1) : Int) < 48))
 (k [(D.val (Value.bool false))])
 (bcase (decide ((↑(UInt8.toNat b1) : Int) > 57))
 (k [(D.val (Value.bool false))])
 (B [(Prod.mk 0 (Value.string (s0))), (Prod.mk 3 (vI (IntKind.wrap .i64 (x1 + 1))))] [])))
 (B [(Prod.mk 0 (Value.string (s0))), (Prod.mk 3 (vI (IntKind.wrap .i64 (x1 + 1))))] [])))))
 (bcase (decide ((↑(UInt8.toNat b1) : Int) ≥ 65))
 (bcase (decide ((↑(UInt8.toNat b1) : Int) ≤ 90))
 (B [(Prod.mk 0 (Value.string (s0))), (Prod.mk 3 (vI (IntKind.wrap .i64 (x1 + 1))))] [])
 (bcase (x1 == 0)
 (k [(D.val (Value.bool false))])
 (bcase ((↑(UInt8.toNat b1) : Int) != 45)
 (bcase (decide ((↑(UInt8.toNat b1) : Int) < 48))
 (k [(D.val (Value.bool false))])
 (bcase (decide ((↑(UInt8.toNat b1) : Int) > 57))
 (k [(D.val (Value.bool false))])
 (B [(Prod.mk 0 (Value.string (s0))), (Prod.mk 3 (vI (IntKind.wrap .i64 (x1 + 1))))] [])))
 (B [(Prod.mk 0 (Value.string (s0))), (Prod.mk 3 (vI (IntKind.wrap .i64 (x1 + 1))))] []))))
 (bcase (x1 == 0)
 (k [(D.val (Value.bool false))])
 (bcase ((↑(UInt8.toNat b1) : Int) != 45)
 (bcase (decide ((↑(UInt8.toNat b1) : Int) < 48))
 (k [(D.val (Value.bool false))])
 (bcase (decide ((↑(UInt8.toNat b1) : Int) > 57))
 (k [(D.val (Value.bool false))])
 (B [(Prod.mk 0 (Value.string (s0))), (Prod.mk 3 (vI (IntKind.wrap .i64 (x1 + 1))))] [])))
 (B [(Prod.mk 0 (Value.string (s0))), (Prod.mk 3 (vI (IntKind.wrap .i64 (x1 + 1))))] [])))))))
 False)
 (X 0 [] [])) := by kernel_rfl
def nIN2 (C : Ct) (L : AtLoop) (k : List D → Prop) : Prop := wpNext Try.prog (hP C) L 58 0 .normal [] [] (dataK k)
theorem nIN2_text (C : Ct) (L : AtLoop) (k : List D → Prop) : nIN2 C L k =
 (k [(D.val (Value.bool true))]) := by kernel_rfl
def gLe (C : Ct) (L : AtLoop) (x0 : Int) (x1 : Int) (k : List D → Prop) : Prop := wpFn Try.prog (hP C) L 0 41 #[.int .i64 x0, .int .i64 x1] (heapOf []) (dataK k)
theorem gLe_text (C : Ct) (L : AtLoop) (x0 : Int) (x1 : Int) (k : List D → Prop) : gLe C L x0 x1 k =
 (∃ n1 : Int,
 ((Says C 71 [(D.val (vI x0)), (D.val (vI x1))] [(D.val (vI n1))]) ∧
 (bcase (decide (x1 < 0))
 (bcase (IntKind.wrap .i64 (0 - n1) != 0)
 (bcase (IntKind.wrap .i64 (0 - n1) != 0)
 (((Qv (Value.agg [(vI (IntKind.wrap .i64 (Int.tdiv x0 (IntKind.wrap .i64 (0 - n1))))), (vI (IntKind.wrap .i64 (Int.tdiv x1 (IntKind.wrap .i64 (0 - n1)))))].toArray)) ∧
 ((bcase (IntKind.wrap .i64 (0 - n1) != 0)
 (Qv (vI (IntKind.wrap .i64 (Int.tdiv x1 (IntKind.wrap .i64 (0 - n1))))))
 False) ∧
 ((Qv (vI (IntKind.wrap .i64 (0 - n1)))) ∧
 ((Qv (vI x1)) ∧
 ((bcase (IntKind.wrap .i64 (0 - n1) != 0)
 (Qv (vI (IntKind.wrap .i64 (Int.tdiv x0 (IntKind.wrap .i64 (0 - n1))))))
 False) ∧
 ((Qv (vI (IntKind.wrap .i64 (0 - n1)))) ∧
 ((Qv (vI x0)) ∧
 True))))))) ∧
 (True ∧
 (k [(D.agg [(D.val (vI (IntKind.wrap .i64 (Int.tdiv x0 (IntKind.wrap .i64 (0 - n1)))))), (D.val (vI (IntKind.wrap .i64 (Int.tdiv x1 (IntKind.wrap .i64 (0 - n1))))))])])))
 False)
 False)
 (bcase (n1 != 0)
 (bcase (n1 != 0)
 (((Qv (Value.agg [(vI (IntKind.wrap .i64 (Int.tdiv x0 n1))), (vI (IntKind.wrap .i64 (Int.tdiv x1 n1)))].toArray)) ∧
 ((bcase (n1 != 0)
 (Qv (vI (IntKind.wrap .i64 (Int.tdiv x1 n1))))
 False) ∧
 ((Qv (vI n1)) ∧
 ((Qv (vI x1)) ∧
 ((bcase (n1 != 0)
 (Qv (vI (IntKind.wrap .i64 (Int.tdiv x0 n1))))
 False) ∧
 ((Qv (vI n1)) ∧
 ((Qv (vI x0)) ∧
 True))))))) ∧
 (True ∧
 (k [(D.agg [(D.val (vI (IntKind.wrap .i64 (Int.tdiv x0 n1)))), (D.val (vI (IntKind.wrap .i64 (Int.tdiv x1 n1))))])])))
 False)
 False)))) := by kernel_rfl
def gGc (C : Ct) (L : AtLoop) (x0 : Int) (x1 : Int) (k : List D → Prop) : Prop := wpFn Try.prog (hP C) L 0 71 #[.int .i64 x0, .int .i64 x1] (heapOf []) (dataK k)
theorem gGc_text (C : Ct) (L : AtLoop) (x0 : Int) (x1 : Int) (k : List D → Prop) : gGc C L x0 x1 k =
 (L 0 [(Prod.mk 0 (vI x0)), (Prod.mk 1 (vI x1))] []) := by kernel_rfl
abbrev zGc1 (x0 : Int) (x1 : Int) : Slots × Blocks := ([(0, (Value.int .i64 x0)), (1, (Value.int .i64 x1))], [])
def rGc1 (C : Ct) (L : AtLoop) (x0 : Int) (x1 : Int) (B : Bx) (X : Xx) (k : List D → Prop) : Prop := wpRound Try.prog (hP C) L 71 0 [(0, (Value.int .i64 x0)), (1, (Value.int .i64 x1))] [] B X (dataK k)
theorem rGc1_text (C : Ct) (L : AtLoop) (x0 : Int) (x1 : Int) (B : Bx) (X : Xx) (k : List D → Prop) : rGc1 C L x0 x1 B X k =
 (bcase (x1 != 0)
 (bcase (x1 != 0)
 (((bcase (x1 != 0)
 (Qv (vI (Int.tmod x0 x1)))
 False) ∧
 ((Qv (vI x1)) ∧
 ((Qv (vI x0)) ∧
 ((Qv (vI x1)) ∧
 True)))) ∧
 (((bcase (x1 != 0)
 (Qv (vI (Int.tmod x0 x1)))
 False) ∧
 ((Qv (vI x1)) ∧
 True)) ∧
 (True ∧
 (B [(Prod.mk 0 (vI x1)), (Prod.mk 1 (vI (Int.tmod x0 x1)))] []))))
 False)
 (X 0 [(Prod.mk 0 (vI x0))] [])) := by kernel_rfl
def nGc2 (C : Ct) (L : AtLoop) (x0 : Int) (k : List D → Prop) : Prop := wpNext Try.prog (hP C) L 71 0 .normal [(0, (Value.int .i64 x0))] [] (dataK k)
theorem nGc2_text (C : Ct) (L : AtLoop) (x0 : Int) (k : List D → Prop) : nGc2 C L x0 k =
 (∃ n1 : Int,
 ((Says C 87 [(D.val (vI x0))] [(D.val (vI n1))]) ∧
 (k [(D.val (vI n1))]))) := by kernel_rfl
def gSi (C : Ct) (L : AtLoop) (x0 : Int) (k : List D → Prop) : Prop := wpFn Try.prog (hE C) L 0 87 #[.int .i64 x0] (heapOf []) (dataK k)
theorem gSi_text (C : Ct) (L : AtLoop) (x0 : Int) (k : List D → Prop) : gSi C L x0 k =
 (k [(D.val (vI (if IntKind.wrap .i64 (0 - x0) > x0 then IntKind.wrap .i64 (0 - x0) else x0)))]) := by kernel_rfl
end Go.Proofs.G5p

/- The evaluator with a table: calls whose outcome on some data is known are not entered. -/
namespace Go.Abs
open Go.RowKit
variable {P : Program} {ρ : Ren} {w0 : Start P} {w : World} {H : Heap}

/-! ### Data of values, computed -/
def readCO (H : Heap) : List Value → Option (List D)
  | [] => some []
  | v :: r =>
    match v with
    | .slice none 0 0 => (readCO H r).map (.nil :: ·)
    | .slice (some ⟨i, o, none⟩) len _ =>
      match H.get i with
      | some (.sym cs _ es) => if o + len * es ≤ cs.length then (readCO H r).map (.sl len es ((cs.drop o).take (len * es)) :: ·) else none
      | some (.cells cs _ _ es) => if o + len * es ≤ cs.length then (if ((cs.drop o).take (len * es)).all cellP then (readCO H r).map (.sl len es ((cs.drop o).take (len * es)) :: ·) else none) else none
      | _ => none
    | v => if plain 8 v then (readCO H r).map (.val v :: ·) else none
def readVO (H : Heap) : List Value → Option (List D)
  | [] => some []
  | .agg cs :: r => (readCO H cs.toList).bind fun ds => (readVO H r).map (.agg ds :: ·)
  | v :: r => (readCO H [v]).bind fun ds => (readVO H r).map (ds ++ ·)
theorem readCO_ok : ∀ {l : List Value} {ds : List D}, readCO H l = some ds → ∀ k : List D → Prop, k ds → readCells H l k
  | [], ds, h, k, hk => by
    simp only [readCO, Option.some.injEq] at h; subst h; exact hk
  | v :: r, ds, h, k, hk => by
    unfold readCO at h
    unfold readCells
    split at h
    · obtain ⟨x, hx, rfl⟩ := Option.map_eq_some_iff.1 h
      exact readCO_ok hx _ hk
    · simp only
      split at h
      · rename_i hg
        simp only [hg]
        split at h
        · rename_i hle
          obtain ⟨x, hx, rfl⟩ := Option.map_eq_some_iff.1 h
          exact bcase_intro (fun _ => readCO_ok hx _ hk) (fun hf => absurd hle (of_decide_eq_false hf))
        · cases h
      · rename_i hg
        simp only [hg]
        split at h
        · rename_i hle
          split at h
          · rename_i hall
            obtain ⟨x, hx, rfl⟩ := Option.map_eq_some_iff.1 h
            exact bcase_intro (fun _ => bcase_intro (fun _ => readCO_ok hx _ hk) (fun hf => by rw [hall] at hf; cases hf)) (fun hf => absurd hle (of_decide_eq_false hf))
          · cases h
        · cases h
      · cases h
    · rename_i h1 h2
      split
      · exact absurd rfl h1
      · exact absurd rfl (h2 _ _ _ _)
      · split at h
        · rename_i hp
          obtain ⟨x, hx, rfl⟩ := Option.map_eq_some_iff.1 h
          rw [if_pos hp]
          exact readCO_ok hx _ hk
        · cases h
theorem readVO_ok : ∀ {l : List Value} {ds : List D}, readVO H l = some ds → ∀ k : List D → Prop, k ds → readVals H l k
  | [], ds, h, k, hk => by
    simp only [readVO, Option.some.injEq] at h; subst h; exact hk
  | v :: r, ds, h, k, hk => by
    unfold readVO at h
    unfold readVals
    split at h
    · rename_i e; cases e
    · rename_i e; cases e
      obtain ⟨x, hx, h⟩ := Option.bind_eq_some_iff.1 h
      obtain ⟨y, hy, rfl⟩ := Option.map_eq_some_iff.1 h
      exact readCO_ok hx _ (readVO_ok hy _ hk)
    · rename_i h1 e; cases e
      obtain ⟨x, hx, h⟩ := Option.bind_eq_some_iff.1 h
      obtain ⟨y, hy, rfl⟩ := Option.map_eq_some_iff.1 h
      split
      · rename_i e; cases e
      · rename_i e; cases e; exact absurd rfl (h1 _)
      · rename_i e; cases e
        exact readCO_ok hx _ (readVO_ok hy _ hk)

/-! ### Data laid, computed -/
def layCO : List D → Heap → Option (List Value × Heap)
  | [], H => some ([], H)
  | .nil :: r, H => (layCO r H).map fun x => (.slice none 0 0 :: x.1, x.2)
  | .sl n es cs :: r, H => (layCO r (H.new (.sym cs true es))).map fun x => (.slice (some ⟨H.next, 0, none⟩) n n :: x.1, x.2)
  | .val v :: r, H => match v with
    | .agg _ => none
    | v => (layCO r H).map fun x => (v :: x.1, x.2)
  | .agg _ :: _, _ => none
def layVO : List D → Heap → Option (List Value × Heap)
  | [], H => some ([], H)
  | .agg ds :: r, H => (layCO ds H).bind fun x => (layVO r x.2).map fun y => (.agg x.1.toArray :: y.1, y.2)
  | d :: r, H => (layCO [d] H).bind fun x => match x.1 with
    | [v] => (layVO r x.2).map fun y => (v :: y.1, y.2)
    | _ => none
theorem layCO_ok : ∀ {ds : List D} {H : Heap} {x : List Value × Heap}, layCO ds H = some x → ∀ k : List Value → Heap → Prop, k x.1 x.2 → layC ds H k
  | [], H, x, h, k, hk => by
    simp only [layCO, Option.some.injEq] at h; subst h; exact hk
  | .nil :: r, H, x, h, k, hk => by
    obtain ⟨y, hy, rfl⟩ := Option.map_eq_some_iff.1 h
    exact layCO_ok hy _ hk
  | .sl n es cs :: r, H, x, h, k, hk => by
    obtain ⟨y, hy, rfl⟩ := Option.map_eq_some_iff.1 h
    exact layCO_ok hy _ hk
  | .val v :: r, H, x, h, k, hk => by
    unfold layCO at h
    unfold layC
    split at h
    · cases h
    · rename_i hv
      obtain ⟨y, hy, rfl⟩ := Option.map_eq_some_iff.1 h
      first
        | exact layCO_ok hy _ hk
        | (split
           · exact absurd rfl (hv _)
           · exact layCO_ok hy _ hk)
  | .agg _ :: _, H, x, h, k, hk => by cases h
theorem layVO_ok : ∀ {ds : List D} {H : Heap} {x : List Value × Heap}, layVO ds H = some x → ∀ k : List Value → Heap → Prop, k x.1 x.2 → layV ds H k
  | [], H, x, h, k, hk => by
    simp only [layVO, Option.some.injEq] at h; subst h; exact hk
  | d :: r, H, x, h, k, hk => by
    unfold layVO at h
    unfold layV
    split at h
    · rename_i e; cases e
    · rename_i e; cases e
      obtain ⟨y, hy, h⟩ := Option.bind_eq_some_iff.1 h
      obtain ⟨z, hz, rfl⟩ := Option.map_eq_some_iff.1 h
      exact layCO_ok hy _ (layVO_ok hz _ hk)
    · rename_i h1 e; cases e
      obtain ⟨y, hy, h⟩ := Option.bind_eq_some_iff.1 h
      split at h
      · rename_i he
        obtain ⟨z, hz, rfl⟩ := Option.map_eq_some_iff.1 h
        split
        · rename_i e; cases e
        · rename_i e; cases e; exact absurd rfl (h1 _)
        · rename_i e; cases e
          refine layCO_ok hy _ ?_
          simp only [he]
          exact layVO_ok hz _ hk
      · cases h

/-! ### Data given, computed -/
def giveCO (H : Heap) : List Nat → List Value → Option (List Nat × List D)
  | used, [] => some (used, [])
  | used, v :: r =>
    match v with
    | .slice none 0 0 => (giveCO H used r).map fun x => (x.1, .nil :: x.2)
    | .slice (some ⟨i, 0, none⟩) len cap =>
      if gbase ≤ i ∧ used.contains i = false then
        match H.get i with
        | some (.sym cs true es) => if len = cap ∧ cs.length = len * es then (giveCO H (i :: used) r).map fun x => (x.1, .sl len es cs :: x.2) else none
        | some (.cells cs _ _ es) => if len = cap ∧ cs.length = len * es then (if cs.all cellP then (giveCO H (i :: used) r).map fun x => (x.1, .sl len es cs :: x.2) else none) else none
        | _ => none
      else none
    | v => if plain 8 v then (giveCO H used r).map fun x => (x.1, .val v :: x.2) else none
def giveVO (H : Heap) : List Nat → List Value → Option (List D)
  | _, [] => some []
  | used, .agg cs :: r => (giveCO H used cs.toList).bind fun x => (giveVO H x.1 r).map (.agg x.2 :: ·)
  | used, v :: r => (giveCO H used [v]).bind fun x => (giveVO H x.1 r).map (x.2 ++ ·)
def giveO (v : Value) (H : Heap) : Option (List D) :=
  match v with
  | .tuple vs => if vs.size = 1 then none else giveVO H [] vs.toList
  | v => giveVO H [] [v]
theorem giveCO_ok : ∀ {l : List Value} {used : List Nat} {x : List Nat × List D}, giveCO H used l = some x → ∀ k : List Nat → List D → Prop, k x.1 x.2 → giveCells H used l k
  | [], used, x, h, k, hk => by
    simp only [giveCO, Option.some.injEq] at h; subst h; exact hk
  | v :: r, used, x, h, k, hk => by
    unfold giveCO at h
    unfold giveCells
    split at h
    · obtain ⟨y, hy, rfl⟩ := Option.map_eq_some_iff.1 h
      exact giveCO_ok hy _ hk
    · simp only
      split at h
      · rename_i hc
        rw [if_pos hc]
        split at h
        · rename_i hg
          simp only [hg]
          split at h
          · rename_i hl
            obtain ⟨y, hy, rfl⟩ := Option.map_eq_some_iff.1 h
            exact ⟨hl, giveCO_ok hy _ hk⟩
          · cases h
        · rename_i hg
          simp only [hg]
          split at h
          · rename_i hl
            split at h
            · rename_i hall
              obtain ⟨y, hy, rfl⟩ := Option.map_eq_some_iff.1 h
              exact ⟨hl, bcase_intro (fun _ => giveCO_ok hy _ hk) (fun hf => by rw [hall] at hf; cases hf)⟩
            · cases h
          · cases h
        · cases h
      · cases h
    · rename_i h1 h2
      split
      · exact absurd rfl h1
      · exact absurd rfl (h2 _ _ _)
      · split at h
        · rename_i hp
          obtain ⟨y, hy, rfl⟩ := Option.map_eq_some_iff.1 h
          rw [if_pos hp]
          exact giveCO_ok hy _ hk
        · cases h
theorem giveVO_ok : ∀ {l : List Value} {used : List Nat} {ds : List D}, giveVO H used l = some ds → ∀ k : List D → Prop, k ds → giveVals H used l k
  | [], used, ds, h, k, hk => by
    simp only [giveVO, Option.some.injEq] at h; subst h; exact hk
  | v :: r, used, ds, h, k, hk => by
    unfold giveVO at h
    unfold giveVals
    split at h
    · rename_i e; cases e
    · rename_i e; cases e
      obtain ⟨x, hx, h⟩ := Option.bind_eq_some_iff.1 h
      obtain ⟨y, hy, rfl⟩ := Option.map_eq_some_iff.1 h
      exact giveCO_ok hx _ (giveVO_ok hy _ hk)
    · rename_i h1 e; cases e
      obtain ⟨x, hx, h⟩ := Option.bind_eq_some_iff.1 h
      obtain ⟨y, hy, rfl⟩ := Option.map_eq_some_iff.1 h
      split
      · rename_i e; cases e
      · rename_i e; cases e; exact absurd rfl (h1 _)
      · rename_i e; cases e
        exact giveCO_ok hx _ (giveVO_ok hy _ hk)
theorem giveO_ok {v : Value} {ds : List D} (h : giveO v H = some ds) : dataK (· = ds) v H := by
  unfold giveO at h
  unfold dataK
  split at h
  · split at h
    · cases h
    · rename_i hs
      simp only [if_neg hs]
      exact giveVO_ok h _ rfl
  · rename_i hn
    split
    · exact absurd rfl (hn _)
    · exact giveVO_ok h _ rfl

/-! ### Data compared -/
def cEq : Value → Value → Bool
  | .int j a, .int k b => j == k && a == b
  | .bool a, .bool b => a == b
  | .string a, .string b => a.data.toList == b.data.toList
  | _, _ => false
def csEq : List Value → List Value → Bool
  | [], [] => true
  | a :: xs, b :: bs => cEq a b && csEq xs bs
  | _, _ => false
def d1Eq : D → D → Bool
  | .nil, .nil => true
  | .val a, .val b => cEq a b
  | .sl n es cs, .sl m fs bs => n == m && es == fs && csEq cs bs
  | _, _ => false
def d2Eq : List D → List D → Bool
  | [], [] => true
  | a :: xs, b :: bs => d1Eq a b && d2Eq xs bs
  | _, _ => false
def dEq : D → D → Bool
  | .agg a, .agg b => d2Eq a b
  | a, b => d1Eq a b
def dsEq : List D → List D → Bool
  | [], [] => true
  | a :: xs, b :: bs => dEq a b && dsEq xs bs
  | _, _ => false
theorem cEq_ok : ∀ {a b : Value}, cEq a b = true → a = b := by
  intro a b h
  unfold cEq at h
  split at h
  · simp only [Bool.and_eq_true, beq_iff_eq] at h; rw [h.1, h.2]
  · rw [eq_of_beq h]
  · rename_i x y
    have e := eq_of_beq h
    obtain ⟨x⟩ := x
    obtain ⟨y⟩ := y
    have : x = y := Array.ext' e
    rw [this]
  · cases h
theorem csEq_ok : ∀ {a b : List Value}, csEq a b = true → a = b
  | [], [], _ => rfl
  | a :: xs, b :: bs, h => by
    simp only [csEq, Bool.and_eq_true] at h
    rw [cEq_ok h.1, csEq_ok h.2]
  | [], _ :: _, h => by cases h
  | _ :: _, [], h => by cases h
theorem d1Eq_ok {a b : D} (h : d1Eq a b = true) : a = b := by
  unfold d1Eq at h
  split at h
  · rfl
  · rw [cEq_ok h]
  · simp only [Bool.and_eq_true, beq_iff_eq] at h
    rw [h.1.1, h.1.2, csEq_ok h.2]
  · cases h
theorem d2Eq_ok : ∀ {a b : List D}, d2Eq a b = true → a = b
  | [], [], _ => rfl
  | a :: xs, b :: bs, h => by
    simp only [d2Eq, Bool.and_eq_true] at h
    rw [d1Eq_ok h.1, d2Eq_ok h.2]
  | [], _ :: _, h => by cases h
  | _ :: _, [], h => by cases h
theorem dEq_ok {a b : D} (h : dEq a b = true) : a = b := by
  unfold dEq at h
  split at h
  · rw [d2Eq_ok h]
  · exact d1Eq_ok h
theorem dsEq_ok : ∀ {a b : List D}, dsEq a b = true → a = b
  | [], [], _ => rfl
  | a :: xs, b :: bs, h => by
    simp only [dsEq, Bool.and_eq_true] at h
    rw [dEq_ok h.1, dsEq_ok h.2]
  | [], _ :: _, h => by cases h
  | _ :: _, [], h => by cases h

/-! ### The evaluator with a table -/
abbrev Tab := FuncId → Option (List D → Option (List D))
/-- (a list of what is known) -/
def tabLook : List (List D × List D) → List D → Option (List D)
  | [], _ => none
  | p :: r, ds => if dsEq p.1 ds then some p.2 else tabLook r ds
theorem tabLook_ok : ∀ {t : List (List D × List D)} {ds rs : List D}, tabLook t ds = some rs → (ds, rs) ∈ t
  | [], _, _, h => by cases h
  | p :: r, ds, rs, h => by
    unfold tabLook at h
    split at h
    · rename_i he
      simp only [Option.some.injEq] at h
      rw [← dsEq_ok he, ← h]
      exact List.mem_cons_self ..
    · exact List.mem_cons_of_mem _ (tabLook_ok h)
def tabCall (t : List D → Option (List D)) (args : Array Value) (H : Heap) : Option (Value × Heap) :=
  (readVO H args.toList).bind fun ds => (t ds).bind fun rs => (layVO rs H).map fun x => (tupleOf x.1, x.2)
def evalT (P : Program) (tab : Tab) : Nat → Self
  | 0 => ⟨fun _ _ _ => none, fun _ _ _ _ => none⟩
  | n + 1 => ⟨fun f args H => match tab f with | none => callBody P (evalT P tab n) f args H | some t => tabCall t args H, fun round c A H => codeA P (evalT P tab n) round c A H⟩
def TabOK (P : Program) (tab : Tab) : Prop := ∀ f t, tab f = some t → ∀ ds rs, t ds = some rs → Con P f ds rs
theorem tabCall_sound {f : FuncId} {t : List D → Option (List D)} (ht : ∀ ds rs, t ds = some rs → Con P f ds rs) {args : Array Value} {v : Value} {H' : Heap} (h : tabCall t args H = some (v, H')) : CallH P f args H (fun u K => u = v ∧ K = H') := by
  obtain ⟨ds, h1, h⟩ := Option.bind_eq_some_iff.1 h
  obtain ⟨rs, h2, h⟩ := Option.bind_eq_some_iff.1 h
  obtain ⟨x, h3, h⟩ := Option.map_eq_some_iff.1 h
  simp only [Prod.mk.injEq] at h
  obtain ⟨rfl, rfl⟩ := h
  refine wpFix_call (C := fun g ds rs => g = f ∧ t ds = some rs ∨ Con P g ds rs) (fun g ds rs hc => ?_) (fix := t) ?_
  · rcases hc with ⟨rfl, hm⟩ | hc
    · exact ht _ _ hm
    · exact hc
  · unfold wpFix
    refine readVO_ok h1 _ ?_
    simp only [h2]
    exact ⟨⟨.inl ⟨rfl, h2⟩⟩, layVO_ok h3 _ ⟨rfl, rfl⟩⟩
theorem evalT_sound {tab : Tab} (htab : TabOK P tab) (hmix : P.follows .mixedOrders = true) : ∀ n, SelfS P w0 (evalT P tab n)
  | 0 => ⟨fun n _ _ h => by simp [evalT] at h, fun n _ _ _ h => by simp [evalT] at h, fun n _ _ _ h => by simp [evalT] at h⟩
  | k + 1 => ⟨fun {ρ H w f args args' v H'} n g ha h => by
      simp only [evalT] at h
      split at h
      · exact callBody_sound (evalT_sound htab hmix k) g n ha h
      · rename_i t ht
        refine (tabCall_sound (htab f t ht) h w0 ρ w args' n g ha).mono ?_
        rintro e w' ⟨u, K, ρ', v', ⟨rfl, rfl⟩, h1, h2, h3, h4⟩
        exact ⟨ρ', v', h1, h2, h3, h4⟩, fun n g rr ra h => codeA_sound (evalT_sound htab hmix k) hmix n _ g rr ra h,
      fun n g rr ra h => loopIn_once (loop_body (evalT_sound htab hmix k) n _ (fun g rr ra h => codeA_sound (evalT_sound htab hmix k) hmix n _ g rr ra h) g rr ra h)⟩
/-- A call of known data is run. -/
def runOK (P : Program) (tab : Tab) (n : Nat) (f : FuncId) (ds rs : List D) (caps : Nat → Nat) : Bool :=
  match (evalT P tab n).call f (layVals caps 500 ds).1.toArray (heapOf (layVals caps 500 ds).2) with
  | some (v, H) => (match giveO v H with | some rs' => dsEq rs' rs | none => false)
  | none => false
theorem con_run {tab : Tab} (htab : TabOK P tab) (hmix : P.follows .mixedOrders = true) {n : Nat} {f : FuncId} {ds rs : List D} (hcount : countV ds ≤ 400) (h : ∀ caps, runOK P tab n f ds rs caps = true) : Con P f ds rs := by
  intro w args hgood hr
  obtain ⟨caps, ρ, hst, g, ha⟩ := lay_gam hgood hr hcount
  have h := h caps
  unfold runOK at h
  split at h
  · rename_i v H hc
    split at h
    · rename_i rs' hg
      have e := dsEq_ok h
      subst e
      refine callsIn_wide.1 (((evalT_sound htab hmix n).call 0 g (by simpa using ha) hc).mono ?_)
      rintro e w' ⟨ρ', v', rfl, hv, g', ext'⟩
      obtain ⟨vs, ds', u, rfl, h1, rfl⟩ := dataK_out g' hst hv (giveO_ok hg)
      exact ⟨⟨vs, u, rfl, h1⟩, g'.below.below hst⟩
    · cases h
  · cases h
end Go.Abs

/- Numbers: greatest divisors, quotients rounded down, fractions in lowest terms. -/
namespace Go.Abs
theorem natAbs_tmod (a b : Int) : (a.tmod b).natAbs = a.natAbs % b.natAbs := Int.natAbs_tmod a b
/-- one step of the division of both -/
theorem gcd_step (a b : Int) : (Int.gcd b (a.tmod b) : Int) = Int.gcd a b := by
  have : Int.gcd b (a.tmod b) = Int.gcd a b := by
    show Nat.gcd b.natAbs (a.tmod b).natAbs = Nat.gcd a.natAbs b.natAbs
    rw [natAbs_tmod, Nat.gcd_comm b.natAbs, ← Nat.gcd_rec, Nat.gcd_comm]
  rw [this]
theorem gcd_step_lt {a b : Int} (h : b ≠ 0) : (a.tmod b).natAbs < b.natAbs := by
  rw [natAbs_tmod]; exact Nat.mod_lt _ (by omega)
theorem gcd_end (a : Int) : (Int.gcd a 0 : Int) = if a < 0 then -a else a := by
  have : Int.gcd a 0 = a.natAbs := Nat.gcd_zero_right _
  rw [this]; split <;> omega
theorem gcd_pos {a b : Int} (h : a ≠ 0 ∨ b ≠ 0) : 0 < (Int.gcd a b : Int) := by
  have : Int.gcd a b ≠ 0 := fun e => by
    have := Int.gcd_eq_zero_iff.1 e
    omega
  omega
end Go.Abs

/- Fractions in lowest terms: their parts, and how they compare. -/
namespace Go.Abs
/-- a fraction in lowest terms -/
def low (n d : Int) : Int × Int := if d < 0 then ((0 - n).tdiv (Int.gcd n d), (0 - d).tdiv (Int.gcd n d)) else (n.tdiv (Int.gcd n d), d.tdiv (Int.gcd n d))
theorem tdiv_small {n g : Int} (hn : -4611686018427387904 ≤ n ∧ n ≤ 4611686018427387904) (_ : 0 < g) : -4611686018427387904 ≤ n.tdiv g ∧ n.tdiv g ≤ 4611686018427387904 := by
  have h := Int.natAbs_tdiv_le_natAbs n g
  omega
theorem tdiv_neg' (n g : Int) : n.tdiv (0 - g) = (0 - n).tdiv g := by
  rw [show (0 : Int) - g = -g by omega, show (0 : Int) - n = -n by omega, Int.tdiv_neg, Int.neg_tdiv]
end Go.Abs

/- Strings as lists of bytes: pieces between separators, decimal numbers. -/
namespace Go.Str

/-- The string of a list of bytes. -/
abbrev bs (l : List UInt8) : ByteArray := ⟨l.toArray⟩
theorem bs_data (s : ByteArray) : bs s.data.toList = s := by cases s; simp [bs]
theorem bs_size (l : List UInt8) : (bs l).size = l.length := by simp [ByteArray.size]
theorem bs_get (l : List UInt8) (i : Nat) : (bs l)[i]? = l[i]? := by
  show (if h : i < (bs l).size then some ((bs l)[i]'h) else none) = _
  by_cases h : i < (bs l).size
  · rw [dif_pos h]
    have h2 : i < l.length := by rw [bs_size] at h; exact h
    rw [List.getElem?_eq_getElem h2]
    rfl
  · rw [dif_neg h]
    rw [bs_size] at h
    rw [List.getElem?_eq_none (by omega)]

/-! ### Pieces between separators -/
/-! ### Numbers -/
def isDig (b : UInt8) : Bool := decide (48 ≤ b.toNat) && decide (b.toNat ≤ 57)
/-- the number of some digits, behind others -/
def numF (n : Int) (l : List UInt8) : Int := l.foldl (fun n b => 10 * n + ((b.toNat : Int) - 48)) n
/-- so many digits at the most, no zero ahead of others -/
def okNum (d : Nat) (l : List UInt8) : Bool := decide (1 ≤ l.length) && decide (l.length ≤ d) && !(decide (1 < l.length) && l.head? == some 48) && l.all isDig
end Go.Str

/- Decimal numerals against the numbers that they spell. -/
namespace Go.Str
/-! ### strconv.Itoa, strconv.Atoi -/
/-- two numbers with a sign between them -/
def two (c : UInt8) (d : Nat) (w : List UInt8) : Option (Int × Int) :=
  if okNum d (Lib.cut w [c]).1 && okNum d (Lib.cut w [c]).2.1 then some (numF 0 (Lib.cut w [c]).1, numF 0 (Lib.cut w [c]).2.1) else none
end Go.Str

/- Words that are read by a reader; pairs of numbers that may be below naught. -/
namespace Go.Str
variable {α : Type}
/-! ### readings by strconv.Atoi -/
end Go.Str

/- Names: a letter, then letters, digits and hyphens. -/
namespace Go.Str
open Go Go.Abs
def isLet (b : UInt8) : Bool := (decide (97 ≤ b.toNat) && decide (b.toNat ≤ 122)) || (decide (65 ≤ b.toNat) && decide (b.toNat ≤ 90))
def nameC (b : UInt8) : Bool := isLet b || isDig b || b.toNat == 45
def nameOK (l : List UInt8) : Bool := decide (1 ≤ l.length) && decide (l.length ≤ 12) && l.head?.any isLet && l.all nameC
theorem let_t {b : UInt8} (h : (97 ≤ b.toNat ∧ b.toNat ≤ 122) ∨ (65 ≤ b.toNat ∧ b.toNat ≤ 90)) : isLet b = true := by
  simp [isLet]; omega
theorem let_f {b : UInt8} (h : ¬ ((97 ≤ b.toNat ∧ b.toNat ≤ 122) ∨ (65 ≤ b.toNat ∧ b.toNat ≤ 90))) : isLet b = false := by
  simp [isLet]; omega
theorem dig_t {b : UInt8} (h : 48 ≤ b.toNat ∧ b.toNat ≤ 57) : isDig b = true := by simp [isDig, h]
theorem dig_f {b : UInt8} (h : ¬ (48 ≤ b.toNat ∧ b.toNat ≤ 57)) : isDig b = false := by simp [isDig]; omega
theorem name_t {b : UInt8} (h : ((97 ≤ b.toNat ∧ b.toNat ≤ 122) ∨ (65 ≤ b.toNat ∧ b.toNat ≤ 90)) ∨ (48 ≤ b.toNat ∧ b.toNat ≤ 57) ∨ b.toNat = 45) : nameC b = true := by
  simp [nameC, isLet, isDig]; omega
theorem name_f {b : UInt8} (h : ¬ (((97 ≤ b.toNat ∧ b.toNat ≤ 122) ∨ (65 ≤ b.toNat ∧ b.toNat ≤ 90)) ∨ (48 ≤ b.toNat ∧ b.toNat ≤ 57) ∨ b.toNat = 45)) : nameC b = false := by
  simp [nameC, isLet, isDig]; omega
/-- how far a walk over a name has come: what is left decides -/
def goesN (l : List UInt8) (i : Nat) : Prop := i ≤ l.length ∧ (1 ≤ l.length ∧ l.length ≤ 12) ∧ (i = 0 ∨ l.head?.any isLet = true) ∧ l.all nameC = (l.drop i).all nameC
theorem goesN_0 {l : List UInt8} (h : 1 ≤ l.length ∧ l.length ≤ 12) : goesN l 0 := ⟨Nat.zero_le _, h, .inl rfl, rfl⟩
theorem nameOK_len {l : List UInt8} (h : ¬ (1 ≤ l.length ∧ l.length ≤ 12)) : nameOK l = false := by
  unfold nameOK
  rcases Nat.lt_or_ge l.length 1 with h1 | h1
  · rw [decide_eq_false (by omega : ¬ 1 ≤ l.length)]; rfl
  · rw [decide_eq_false (by omega : ¬ l.length ≤ 12)]; simp
theorem head_of {l : List UInt8} (h : 0 < l.length) : l.head? = some l[0] := by
  cases l with
  | nil => cases h
  | cons a r => rfl
theorem nameOK_head {l : List UInt8} (h : 0 < l.length) (hb : isLet l[0] = false) : nameOK l = false := by
  unfold nameOK
  rw [head_of h]
  simp [hb]
theorem goesN_bad {l : List UInt8} {i : Nat} (h : goesN l i) (hi : i < l.length) (hb : nameC l[i] = false) : nameOK l = false := by
  obtain ⟨_, _, _, h4⟩ := h
  unfold nameOK
  rw [h4, List.drop_eq_getElem_cons hi, List.all_cons, hb]
  simp
theorem goesN_first {l : List UInt8} {i : Nat} (hi : i < l.length) (h0 : i = 0) (hb : isLet l[i] = false) : nameOK l = false := by
  subst h0; exact nameOK_head hi hb
theorem goesN_step {l : List UInt8} {i : Nat} (h : goesN l i) (hi : i < l.length) (hb : nameC l[i] = true) (h0 : i = 0 → isLet l[i] = true) : goesN l (i + 1) := by
  obtain ⟨h1, h2, h3, h4⟩ := h
  refine ⟨hi, h2, .inr ?_, ?_⟩
  · rcases h3 with h3 | h3
    · have := h0 h3
      subst h3
      rw [head_of hi]; simpa using this
    · exact h3
  · rw [h4, List.drop_eq_getElem_cons hi, List.all_cons, hb]; simp
theorem goesN_end {l : List UInt8} {i : Nat} (h : goesN l i) (hi : ¬ i < l.length) : nameOK l = true := by
  obtain ⟨h1, h2, h3, h4⟩ := h
  have e : i = l.length := by omega
  subst e
  rw [List.drop_length] at h4
  have h5 : l.head?.any isLet = true := by
    rcases h3 with h3 | h3
    · omega
    · exact h3
  unfold nameOK
  rw [h4, h5, decide_eq_true h2.1, decide_eq_true h2.2]; rfl
end Go.Str

/- Strings and lists of strings as cells. -/
namespace Go.Abs
open Go.Str
abbrev str (l : List UInt8) : Value := .string (bs l)
abbrev dS (l : List UInt8) : D := .val (str l)
abbrev dB (b : Bool) : D := .val (.bool b)
/-- what is read of a string is what is there -/
theorem byte1 {l : List UInt8} {i : Nat} {b : UInt8} (h : l[i]? = some b) {Q : UInt8 → Prop} : (∃ x : UInt8, ByteAt (bs l) i x ∧ Q x) = Q b := by
  apply propext
  constructor
  · rintro ⟨x, hx, hq⟩
    have e := hx.out
    rw [bs_get, h] at e
    obtain rfl := Option.some.inj e
    exact hq
  · intro hq; exact ⟨b, ⟨by rw [bs_get]; exact h⟩, hq⟩
theorem wi1 {i n : Nat} (h : i < n) (hn : n < 4294967296) : IntKind.wrap .i64 ((i : Int) + 1) = ((i + 1 : Nat) : Int) := by rw [w64 (by omega) (by omega)]; rfl
end Go.Abs

/- Chapter 3: how functions are met, and small functions, in data. -/
namespace Go.Proofs.G5p
open Go Go.Abs Go.Proofs Go.Str
set_option maxRecDepth 100000
theorem mixed : Try.prog.follows .mixedOrders = true := by kernel_rfl
abbrev C5 : FuncId → List D → List D → Prop := Con Try.prog
abbrev dI (a : Int) : D := .val (.int .i64 a)
abbrev dB (b : Bool) : D := .val (.bool b)
abbrev dS (l : List UInt8) : D := .val (.string (bs l))
theorem hokE : HandlerOK Try.prog (hE C5) := handlerX_ok mixed (fun g h he => by cases he) (by decide) 6
theorem ite_so {c : Prop} [Decidable c] {α : Type} {x h : α} {r : Option α} (e : (if c then some x else r) = some h) : (c ∧ x = h) ∨ r = some h := by
  by_cases hc : c
  · rw [if_pos hc] at e; exact .inl ⟨hc, Option.some.inj e⟩
  · rw [if_neg hc] at e; exact .inr e
theorem prePOK : PreOK Try.prog (preP C5) := by
  intro g h he args ats H k hk
  unfold preP at he
  rcases ite_so he with ⟨_, rfl⟩ | he
  · exact freshH_ok hk
  rcases ite_so he with ⟨_, rfl⟩ | he
  · exact freshH_ok hk
  rcases ite_so he with ⟨_, rfl⟩ | he
  · exact saidH_ok (fun _ _ _ h => h) _ _ _ _ _ hk
  · cases he
theorem hokP : HandlerOK Try.prog (hP C5) := handlerX_ok mixed prePOK (by decide) 6
theorem v1le (l : List Int) : 0 + l.length * 1 ≤ (vi l).length := by simp
theorem bc_nf {a : Int} {x y : Prop} : bcase (a != a) x y = y := by rw [show (a != a) = false by simp]; rfl
theorem bc_qt {a : Int} {x y : Prop} : bcase (a == a) x y = x := by rw [show (a == a) = true by simp]; rfl
theorem bcF {x y : Prop} : bcase false x y = y := rfl
theorem conFE (l : List Int) (hlen : l.length < 1000000000) : C5 42 [.sl l.length 1 (vi l)] [dI (fst0 l)] := by
  let inv : Nat × Nat → Prop := fun x => x.1 ≤ l.length ∧ fst0 l = fst0 (l.drop x.1)
  let st : Nat × Nat → Slots × Blocks := fun x => zFE1 l.length x.2 l.length x.1 (vi l)
  refine con_of (L := fun _ s b => ∃ x, inv x ∧ st x = (s, b)) hokE mixed Try.func42 rfl (by show 1 ≤ 400; omega) rfl (ids := [0]) (by kernel_rfl) rfl (fun caps => ?_) (fun id hid => ?_)
  · show gFE _ _ l.length (caps 500) (vi l) _
    rw [gFE_text]
    exact ⟨(0, caps 500), ⟨by simp, rfl⟩, rfl⟩
  · obtain rfl := List.mem_singleton.1 hid
    refine ⟨Nat × Nat, st, inv, fun x => l.length - x.1, ⟨fun s b h => h, by kernel_rfl, ?_⟩⟩
    rintro ⟨i, cap⟩ ⟨hi, hr⟩
    simp only at hi hr
    show rFE1 _ _ l.length cap l.length i (vi l) _ _ _
    rw [rFE1_text]
    refine bc_dec (fun h => ?_) (fun h => ?_)
    · have hi' : i < l.length := by omega
      rw [List.drop_eq_getElem_cons hi', fst0] at hr
      simp only [bc_t h, bc_t (show (0 : Int) ≤ (i : Int) by omega), Int.toNat_natCast, at1 (vi_at l i hi')]
      refine bc_bne (fun hc => ?_) (fun hc => ?_)
      · rw [if_neg hc] at hr
        show [dI l[i]] = [dI (fst0 l)]
        rw [hr]
      · rw [if_pos hc] at hr
        refine ⟨(i + 1, cap), ⟨by show i + 1 ≤ l.length; omega, hr⟩, by show l.length - (i + 1) < l.length - i; omega, ?_⟩
        rw [w64 (by omega) (by omega)]; rfl
    · show (if 0 = 0 then _ else _)
      rw [if_pos rfl]
      show nFE2 _ _ _
      rw [nFE2_text]
      have : i = l.length := by omega
      rw [this, List.drop_length] at hr
      show [dI 0] = [dI (fst0 l)]
      rw [hr]; rfl
theorem conWj (a b c : Int) : C5 18 [dI a, dI b, dI c] [.val (.bool (decide (b ≤ a ∧ a ≤ c)))] := by
  refine con_flat hokE mixed Try.func18 rfl (by show 0 ≤ 400; omega) rfl (by kernel_rfl) (fun caps => ?_)
  show gWj _ _ a b c _
  rw [gWj_text]
  refine bc_dec (fun h => bc_dec (fun h2 => ?_) (fun h2 => ?_)) (fun h => ?_)
  · show _ = _; rw [decide_eq_true (show b ≤ a ∧ a ≤ c from ⟨h, h2⟩)]
  · show _ = _; rw [decide_eq_false (show ¬ (b ≤ a ∧ a ≤ c) by omega)]
  · show _ = _; rw [decide_eq_false (show ¬ (b ≤ a ∧ a ≤ c) by omega)]
theorem sayWt {a b c : Int} (h : b ≤ a ∧ a ≤ c) : Says C5 18 [dI a, dI b, dI c] [.val (.bool true)] := by
  have := conWj a b c
  rw [decide_eq_true h] at this
  exact ⟨this⟩
theorem sayWf {a b c : Int} (h : ¬ (b ≤ a ∧ a ≤ c)) : Says C5 18 [dI a, dI b, dI c] [.val (.bool false)] := by
  have := conWj a b c
  rw [decide_eq_false h] at this
  exact ⟨this⟩
def szI (a : Int) : Int := if -a > a then -a else a
theorem conSi (a : Int) (h : -9223372036854775807 ≤ a ∧ a ≤ 9223372036854775807) : C5 87 [dI a] [dI (szI a)] := by
  refine con_flat hokE mixed Try.func87 rfl (by show 0 ≤ 400; omega) rfl (by kernel_rfl) (fun caps => ?_)
  show gSi _ _ a _
  rw [gSi_text, w64 (by omega) (by omega)]
  show [dI _] = [dI _]
  rw [show (0 : Int) - a = -a by omega]; rfl
theorem conGc (a b : Int) (ha : -9223372036854775808 ≤ a ∧ a ≤ 9223372036854775807) (hb : -9223372036854775807 ≤ b ∧ b ≤ 9223372036854775807) (h0 : b = 0 → -9223372036854775807 ≤ a) : C5 71 [dI a, dI b] [dI (Int.gcd a b)] := by
  let inv : Int × Int → Prop := fun x => (-9223372036854775808 ≤ x.1 ∧ x.1 ≤ 9223372036854775807) ∧ (-9223372036854775807 ≤ x.2 ∧ x.2 ≤ 9223372036854775807) ∧ (x.2 = 0 → -9223372036854775807 ≤ x.1) ∧ Int.gcd x.1 x.2 = Int.gcd a b
  let st : Int × Int → Slots × Blocks := fun x => zGc1 x.1 x.2
  refine con_of (L := fun _ s b => ∃ x, inv x ∧ st x = (s, b)) hokP mixed Try.func71 rfl (by show 0 ≤ 400; omega) rfl (ids := [0]) (by kernel_rfl) rfl (fun caps => ?_) (fun id hid => ?_)
  · show gGc _ _ a b _
    rw [gGc_text]
    exact ⟨(a, b), ⟨ha, hb, h0, rfl⟩, rfl⟩
  · obtain rfl := List.mem_singleton.1 hid
    refine ⟨Int × Int, st, inv, fun x => x.2.natAbs, ⟨fun s b h => h, by kernel_rfl, ?_⟩⟩
    rintro ⟨x, y⟩ ⟨hx, hy, hxy, hg⟩
    simp only at hx hy hxy hg
    show rGc1 _ _ x y _ _ _
    rw [rGc1_text]
    refine bc_bne (fun h => ?_) (fun h => ?_)
    · simp only [bc_n h, true_and, and_true]
      have hlt := gcd_step_lt (a := x) h
      have hst := gcd_step x y
      refine ⟨(y, x.tmod y), ⟨⟨by show -9223372036854775808 ≤ y; omega, hy.2⟩, ?_, fun _ => hy.1, by show Int.gcd y (x.tmod y) = _; omega⟩, hlt, rfl⟩
      show -9223372036854775807 ≤ x.tmod y ∧ x.tmod y ≤ 9223372036854775807
      have : (x.tmod y).natAbs < y.natAbs := hlt
      omega
    · show (if 0 = 0 then _ else _)
      rw [if_pos rfl]
      show nGc2 _ _ x _
      have hxl := hxy h
      rw [nGc2_text]
      refine ⟨_, ⟨conSi x (by omega)⟩, ?_⟩
      subst h
      have := gcd_end x
      show [dI _] = [dI _]
      rw [show ((Int.gcd a b : Nat) : Int) = (Int.gcd x 0 : Nat) by rw [hg], this]
      have e : szI x = (if x < 0 then -x else x) := by unfold szI; split <;> split <;> omega
      rw [e]
theorem conLe (n d : Int) (hn : -4611686018427387904 ≤ n ∧ n ≤ 4611686018427387904) (hd : -4611686018427387904 ≤ d ∧ d ≤ 4611686018427387904) (h0 : d ≠ 0) : C5 41 [dI n, dI d] [.agg [dI (low n d).1, dI (low n d).2]] := by
  refine con_flat hokP mixed Try.func41 rfl (by show 0 ≤ 400; omega) rfl (by kernel_rfl) (fun caps => ?_)
  show gLe _ _ n d _
  rw [gLe_text]
  have hg := gcd_pos (a := n) (b := d) (.inr h0)
  have hg' : ((Int.gcd n d : Nat) : Int) ≠ 0 := by omega
  have hgl : ((Int.gcd n d : Nat) : Int) ≤ 4611686018427387904 := by
    have : Int.gcd n d ≤ d.natAbs := Nat.le_of_dvd (by omega) (Nat.gcd_dvd_right ..)
    omega
  refine ⟨_, ⟨conGc n d (by omega) (by omega) (by omega)⟩, bc_dec (fun h => ?_) (fun h => ?_)⟩
  · rw [w64 (z := 0 - ((Int.gcd n d : Nat) : Int)) (by omega) (by omega)]
    have hg2 : 0 - ((Int.gcd n d : Nat) : Int) ≠ 0 := by omega
    have b1 := tdiv_small (n := 0 - n) (g := Int.gcd n d) (by omega) hg
    have b2 := tdiv_small (n := 0 - d) (g := Int.gcd n d) (by omega) hg
    simp only [bc_n hg2, true_and, and_true, tdiv_neg']
    rw [w64 (by omega) (by omega), w64 (by omega) (by omega)]
    show _ = _
    rw [low, if_pos h]
  · have b1 := tdiv_small (n := n) (g := Int.gcd n d) hn hg
    have b2 := tdiv_small (n := d) (g := Int.gcd n d) hd hg
    simp only [bc_n hg', true_and, and_true]
    rw [w64 (by omega) (by omega), w64 (by omega) (by omega)]
    show _ = _
    rw [low, if_neg h]
theorem sayOr {f : FuncId} {args : List D} {b : Bool} {A B : Prop} (h : C5 f args [dB b]) (h1 : b = true → A) (h2 : b = false → B) : (Says C5 f args [.val (.bool true)] ∧ A) ∨ (Says C5 f args [.val (.bool false)] ∧ B) := by
  cases b with
  | true => exact .inl ⟨⟨h⟩, h1 rfl⟩
  | false => exact .inr ⟨⟨h⟩, h2 rfl⟩
theorem coniL (b : UInt8) : C5 81 [.val (.int .u8 (b.toNat : Int))] [dB (isLet b)] := by
  refine con_flat hokP mixed Try.func81 rfl (by show 0 ≤ 400; omega) rfl (by kernel_rfl) (fun caps => ?_)
  show giL _ _ (b.toNat : Int) _
  rw [giL_text]
  repeat' refine bc_dec (fun _ => ?_) (fun _ => ?_)
  all_goals first
    | (show [D.val (Value.bool true)] = [dB (isLet b)]; rw [let_t (by omega)])
    | (show [D.val (Value.bool false)] = [dB (isLet b)]; rw [let_f (by omega)])
theorem coniD (b : UInt8) : C5 82 [.val (.int .u8 (b.toNat : Int))] [dB (isDig b)] := by
  refine con_flat hokP mixed Try.func82 rfl (by show 0 ≤ 400; omega) rfl (by kernel_rfl) (fun caps => ?_)
  show giD _ _ (b.toNat : Int) _
  rw [giD_text]
  repeat' refine bc_dec (fun _ => ?_) (fun _ => ?_)
  all_goals first
    | (show [D.val (Value.bool true)] = [dB (isDig b)]; rw [dig_t (by omega)])
    | (show [D.val (Value.bool false)] = [dB (isDig b)]; rw [dig_f (by omega)])
theorem conIN (l : List UInt8) : C5 58 [dS l] [dB (nameOK l)] := by
  let inv : Nat → Prop := fun i => goesN l i
  let st : Nat → Slots × Blocks := fun i => zIN1 (bs l) i
  refine con_of (L := fun _ s b => ∃ x, inv x ∧ st x = (s, b)) hokP mixed Try.func58 rfl (by show 0 ≤ 400; omega) rfl (ids := [0]) (by kernel_rfl) rfl (fun caps => ?_) (fun id hid => ?_)
  · show gIN _ _ (bs l) _
    rw [gIN_text]
    simp only [bs_size]
    refine bc_dec (fun h => ?_) (fun h => bc_dec (fun h2 => ?_) (fun h2 => ⟨0, goesN_0 (by omega), rfl⟩))
    · show [D.val (Value.bool false)] = [dB (nameOK l)]
      rw [nameOK_len (by omega)]
    · show [D.val (Value.bool false)] = [dB (nameOK l)]
      rw [nameOK_len (by omega)]
  · obtain rfl := List.mem_singleton.1 hid
    refine ⟨Nat, st, inv, fun x => l.length - x, ⟨fun s b h => h, by kernel_rfl, ?_⟩⟩
    intro i hg
    have hb := hg.1
    have h12 := hg.2.1
    show rIN1 _ _ (bs l) i _ _ _
    rw [rIN1_text]
    simp only [bs_size]
    refine bc_dec (fun h => ?_) (fun h => ?_)
    · have hi : i < l.length := by omega
      simp only [bc_t (show (0 : Int) ≤ (i : Int) by omega), Int.toNat_natCast, byte1 (List.getElem?_eq_getElem hi), wi1 hi (by omega)]
      have good : nameC l[i] = true → (i = 0 → isLet l[i] = true) → ∃ x, inv x ∧ l.length - x < l.length - i ∧ st x = ([(0, Value.string (bs l)), (3, .int .i64 ((i + 1 : Nat) : Int))], []) := fun hc h0 =>
        ⟨i + 1, goesN_step hg hi hc h0, by omega, rfl⟩
      repeat' first
        | refine bc_dec (fun _ => ?_) (fun _ => ?_)
        | refine bc_beq (fun _ => ?_) (fun _ => ?_)
        | refine bc_bne (fun _ => ?_) (fun _ => ?_)
      all_goals first
        | exact good (name_t (by omega)) (fun _ => let_t (by omega))
        | exact good (name_t (by omega)) (fun h0 => absurd h0 (by omega))
        | (show [D.val (Value.bool false)] = [dB (nameOK l)]; rw [goesN_bad hg hi (name_f (by omega))])
        | (show [D.val (Value.bool false)] = [dB (nameOK l)]; rw [goesN_first hi (by omega) (let_f (by omega))])
    · show nIN2 _ _ _
      rw [nIN2_text]
      show [D.val (Value.bool true)] = [dB (nameOK l)]
      rw [goesN_end hg (by omega)]
def lowP (n d : Int) : Prop := 0 < d ∧ Int.gcd n d = 1
instance (n d : Int) : Decidable (lowP n d) := by unfold lowP; infer_instance
theorem v5le (l : List Fv) : 0 + l.length * 5 ≤ (vs5 l).length := by simp
theorem v5_whole (l : List Fv) : List.take (l.length * 5) (List.drop 0 (vs5 l)) = vs5 l := by simp [List.take_of_length_le]
theorem v1_whole (l : List Int) : List.take (l.length * 1) (List.drop 0 (vi l)) = vi l := by simp [List.take_of_length_le]
theorem coniN (l : List UInt8) : C5 47 [dS l] [dB (nameOK l)] := by
  let inv : Nat → Prop := fun i => goesN l i ∧ l.head?.any isLet = true
  let st : Nat → Slots × Blocks := fun i => ziN1 (bs l) l.length i
  refine con_of (L := fun _ s b => ∃ x, inv x ∧ st x = (s, b)) hokP mixed Try.func47 rfl (by show 0 ≤ 400; omega) rfl (ids := [0]) (by kernel_rfl) rfl (fun caps => ?_) (fun id hid => ?_)
  · show giN _ _ (bs l) _
    rw [giN_text]
    simp only [bs_size]
    refine bc_beq (fun h => ?_) (fun h => bc_dec (fun h2 => ?_) (fun h2 => ?_))
    · show [dB false] = [dB (nameOK l)]
      rw [nameOK_len (by omega)]
    · show [dB false] = [dB (nameOK l)]
      rw [nameOK_len (by omega)]
    · have hl : 0 < l.length := by omega
      simp only [byte1 (List.getElem?_eq_getElem hl)]
      refine sayOr (coniL _) (fun h3 => ⟨0, ⟨goesN_0 (by omega), ?_⟩, rfl⟩) (fun h3 => ?_)
      · rw [head_of hl]; simpa using h3
      · show [dB false] = [dB (nameOK l)]
        rw [nameOK_head hl h3]
  · obtain rfl := List.mem_singleton.1 hid
    refine ⟨Nat, st, inv, fun x => l.length - x, ⟨fun s b h => h, by kernel_rfl, ?_⟩⟩
    rintro i ⟨hg, hh⟩
    have hb := hg.1
    have h12 := hg.2.1
    show riN1 _ _ (bs l) l.length i _ _ _
    rw [riN1_text]
    refine bc_dec (fun h => ?_) (fun h => ?_)
    · have hi : i < l.length := by omega
      have h0 : i = 0 → isLet l[i] = true := by
        rintro rfl
        rw [head_of hi] at hh; simpa using hh
      simp only [bc_t (show (0 : Int) ≤ (i : Int) by omega), Int.toNat_natCast, byte1 (List.getElem?_eq_getElem hi), wi1 hi (by omega)]
      have good : nameC l[i] = true → ∃ x, inv x ∧ l.length - x < l.length - i ∧ st x = ([(0, Value.string (bs l)), (19, .int .i64 (l.length : Int)), (20, .int .i64 ((i + 1 : Nat) : Int))], []) := fun hc =>
        ⟨i + 1, ⟨goesN_step hg hi hc h0, hh⟩, by omega, rfl⟩
      refine sayOr (coniL _) (fun h1 => good (by unfold nameC; rw [h1]; rfl)) (fun h1 => ?_)
      refine sayOr (coniD _) (fun h2 => good (by unfold nameC; rw [h2]; simp)) (fun h2 => ?_)
      refine bc_bne (fun h3 => ?_) (fun h3 => good (by unfold nameC; rw [show l[i].toNat = 45 by omega]; simp))
      show [dB false] = [dB (nameOK l)]
      rw [goesN_bad hg hi (by unfold nameC; rw [h1, h2]; simp; omega)]
    · show (if 0 = 0 then _ else _)
      rw [if_pos rfl]
      show niN2 _ _ _
      rw [niN2_text]
      show [dB true] = [dB (nameOK l)]
      rw [goesN_end hg (by omega)]
theorem conlT (n d : Int) (hn : -4611686018427387904 ≤ n ∧ n ≤ 4611686018427387904) (hd : 0 < d ∧ d ≤ 4611686018427387904) : C5 53 [dI n, dI d] [.agg [dI (low n d).1, dI (low n d).2]] := by
  have hg := gcd_pos (a := n) (b := d) (.inr (by omega))
  let inv : Int × Int → Prop := fun x => 0 ≤ x.1 ∧ 0 ≤ x.2 ∧ Int.gcd x.1 x.2 = Int.gcd n d
  let st : Int × Int → Slots × Blocks := fun x => zlT1 n d x.1 x.2 0 0
  refine con_of (L := fun _ s b => ∃ x, inv x ∧ st x = (s, b)) hokP mixed Try.func53 rfl (by show 0 ≤ 400; omega) rfl (ids := [0]) (by kernel_rfl) rfl (fun caps => ?_) (fun id hid => ?_)
  · show glT _ _ n d _
    rw [glT_text, w64 (by omega) (by omega)]
    refine ⟨(if 0 - n > n then 0 - n else n, d), ⟨by show 0 ≤ (if 0 - n > n then 0 - n else n); split <;> omega, by show 0 ≤ d; omega, ?_⟩, rfl⟩
    show Int.gcd (if 0 - n > n then 0 - n else n) d = _
    split
    · rw [show (0 : Int) - n = -n by omega, Int.neg_gcd]
    · rfl
  · obtain rfl := List.mem_singleton.1 hid
    refine ⟨Int × Int, st, inv, fun x => x.2.natAbs, ⟨fun s b h => h, by kernel_rfl, ?_⟩⟩
    rintro ⟨x, y⟩ ⟨hx, hy, hgx⟩
    simp only at hx hy hgx
    show rlT1 _ _ n d x y 0 0 _ _ _
    rw [rlT1_text]
    refine bc_dec (fun h => ?_) (fun h => ?_)
    · have hne : y ≠ 0 := by omega
      simp only [bc_n hne, true_and, and_true]
      have hlt := gcd_step_lt (a := x) hne
      have hst := gcd_step x y
      exact ⟨(y, x.tmod y), ⟨hy, Int.tmod_nonneg _ hx, by show Int.gcd y (x.tmod y) = _; omega⟩, hlt, rfl⟩
    · show (if 0 = 0 then _ else _)
      rw [if_pos rfl]
      show nlT2 _ _ n d x 0 0 _
      obtain rfl : y = 0 := by omega
      have he := gcd_end x
      rw [if_neg (by omega)] at he
      rw [nlT2_text]
      obtain rfl : x = (Int.gcd n d : Nat) := by omega
      have hne : ((Int.gcd n d : Nat) : Int) ≠ 0 := by omega
      simp only [bc_n hne, true_and, and_true]
      have b1 := tdiv_small (n := n) (g := Int.gcd n d) (by omega) hg
      have b2 := tdiv_small (n := d) (g := Int.gcd n d) (by omega) hg
      rw [w64 (by omega) (by omega), w64 (by omega) (by omega)]
      show [D.agg _] = [D.agg _]
      rw [low, if_neg (by omega)]
end Go.Proofs.G5p

/- Chapter 3: what rules and schedules are valid, in data. -/
namespace Go.Proofs.G5p
open Go Go.Abs Go.Proofs Go.Str
set_option maxRecDepth 100000
/-- rules: the stands are radius, force, torque, and the two ends of the loss -/
structure Ru where
  w : Int
  st : Int
  fi : Int
  hlo : Int
  hhi : Int
  co : Int
  ss : List Fv
  slo : Int
  shi : Int
  flo : Int
  fhi : Int
abbrev Ru.d (r : Ru) : D := .agg [dI r.w, dI r.st, dI r.fi, dI r.hlo, dI r.hhi, dI r.co, .sl r.ss.length 5 (vs5 r.ss), dI r.slo, dI r.shi, dI r.flo, dI r.fhi]
abbrev Ru.dn (r : Ru) : D := .agg [dI r.w, dI r.st, dI r.fi, dI r.hlo, dI r.hhi, dI r.co, .nil, dI r.slo, dI r.shi, dI r.flo, dI r.fhi]
def wE (lo hi : Int) : List Int → Int
  | [] => 0
  | x :: r => if x < lo ∨ x > hi then 2 else wE lo hi r
def eE : List (Int × Int) → Int
  | [] => 0
  | p :: r => if p.1 > p.2 then 9 else eE r
def cntE (n : Nat) : Int := if n = 0 then 10 else if n > 6 then 8 else 0
def rngB (r : Ru) : Prop := (1 ≤ r.w ∧ r.w ≤ 2500) ∧ ((1 ≤ r.st ∧ r.st ≤ 1000) ∧ 1 ≤ r.fi ∧ r.fi ≤ 1000) ∧ ((0 ≤ r.hlo ∧ r.hlo ≤ 20000) ∧ (0 ≤ r.hhi ∧ r.hhi ≤ 20000) ∧ 0 ≤ r.co ∧ r.co ≤ 20000) ∧ ((1 ≤ r.slo ∧ r.slo ≤ 100) ∧ 1 ≤ r.shi ∧ r.shi ≤ 100) ∧ (0 ≤ r.flo ∧ r.flo ≤ 100) ∧ 0 ≤ r.fhi ∧ r.fhi ≤ 100
def ordB (r : Ru) : Prop := r.fi ≤ r.st ∧ r.hlo ≤ r.hhi ∧ r.slo ≤ r.shi ∧ r.flo ≤ r.fhi
instance (r : Ru) : Decidable (rngB r) := by unfold rngB; infer_instance
instance (r : Ru) : Decidable (ordB r) := by unfold ordB; infer_instance
def headE (r : Ru) : Int := if rngB r then if ordB r then cntE r.ss.length else 9 else 2
def stB (s : Fv) : Prop := (1 ≤ s.a ∧ s.a ≤ 1000) ∧ ((0 ≤ s.b ∧ s.b ≤ 1000000000000) ∧ 0 ≤ s.c ∧ s.c ≤ 1000000000000) ∧ (0 ≤ s.d ∧ s.d ≤ 1000) ∧ 0 ≤ s.e ∧ s.e ≤ 1000
instance (s : Fv) : Decidable (stB s) := by unfold stB; infer_instance
def stE (s : Fv) : Int := if stB s then if s.d ≤ s.e then 0 else 9 else 2
def stsE : Int → List Fv → Int × Int
  | _, [] => (0, 0)
  | i, s :: r => if stE s = 0 then stsE (i + 1) r else (i, stE s)
def chk (r : Ru) : Int × Int := if headE r = 0 then stsE 0 r.ss else (0, headE r)
theorem fst0_z (r : List Int) : fst0 (0 :: r) = fst0 r := by rw [fst0, if_pos rfl]
theorem fst0_n {a : Int} (h : a ≠ 0) (r : List Int) : fst0 (a :: r) = a := by rw [fst0, if_neg h]
theorem wE1 (lo hi a : Int) : wE lo hi [a] = if lo ≤ a ∧ a ≤ hi then 0 else 2 := by
  simp only [wE]; split <;> split <;> first | rfl | omega
theorem wE2 (lo hi a b : Int) : wE lo hi [a, b] = if (lo ≤ a ∧ a ≤ hi) ∧ lo ≤ b ∧ b ≤ hi then 0 else 2 := by
  simp only [wE]; repeat' split
  all_goals first | rfl | omega
theorem wE3 (lo hi a b c : Int) : wE lo hi [a, b, c] = if (lo ≤ a ∧ a ≤ hi) ∧ (lo ≤ b ∧ b ≤ hi) ∧ lo ≤ c ∧ c ≤ hi then 0 else 2 := by
  simp only [wE]; repeat' split
  all_goals first | rfl | omega
theorem eE1 (a b : Int) : eE [(a, b)] = if a ≤ b then 0 else 9 := by
  simp only [eE]; repeat' split
  all_goals first | rfl | omega
theorem eE4 (a b c d e f g h : Int) : eE [(a, b), (c, d), (e, f), (g, h)] = if a ≤ b ∧ c ≤ d ∧ e ≤ f ∧ g ≤ h then 0 else 9 := by
  simp only [eE]; repeat' split
  all_goals first | rfl | omega
theorem headE_eq (r : Ru) : fst0 [wE 1 2500 [r.w], wE 1 1000 [r.st, r.fi], wE 0 20000 [r.hlo, r.hhi, r.co], wE 1 100 [r.slo, r.shi], wE 0 100 [r.flo, r.fhi], eE [(r.fi, r.st), (r.hlo, r.hhi), (r.slo, r.shi), (r.flo, r.fhi)], cntE r.ss.length] = headE r := by
  rw [wE1, wE2, wE3, wE2, wE2, eE4]
  have two : ∀ {c : Prop} [Decidable c] (l : List Int) , ¬ c → fst0 ((if c then 0 else 2) :: l) = 2 := fun l h => by rw [if_neg h]; rfl
  have bad : ¬ rngB r → headE r = 2 := fun h => by rw [headE, if_neg h]
  by_cases h1 : 1 ≤ r.w ∧ r.w ≤ 2500
  · rw [if_pos h1, fst0_z]
    by_cases h2 : (1 ≤ r.st ∧ r.st ≤ 1000) ∧ 1 ≤ r.fi ∧ r.fi ≤ 1000
    · rw [if_pos h2, fst0_z]
      by_cases h3 : (0 ≤ r.hlo ∧ r.hlo ≤ 20000) ∧ (0 ≤ r.hhi ∧ r.hhi ≤ 20000) ∧ 0 ≤ r.co ∧ r.co ≤ 20000
      · rw [if_pos h3, fst0_z]
        by_cases h4 : (1 ≤ r.slo ∧ r.slo ≤ 100) ∧ 1 ≤ r.shi ∧ r.shi ≤ 100
        · rw [if_pos h4, fst0_z]
          by_cases h5 : (0 ≤ r.flo ∧ r.flo ≤ 100) ∧ 0 ≤ r.fhi ∧ r.fhi ≤ 100
          · rw [if_pos h5, fst0_z, headE, if_pos (show rngB r from ⟨h1, h2, h3, h4, h5⟩)]
            by_cases h6 : r.fi ≤ r.st ∧ r.hlo ≤ r.hhi ∧ r.slo ≤ r.shi ∧ r.flo ≤ r.fhi
            · rw [if_pos h6, fst0_z, if_pos (show ordB r from h6)]
              by_cases h7 : cntE r.ss.length = 0
              · rw [h7]; rfl
              · rw [fst0_n h7]
            · rw [if_neg h6, if_neg (show ¬ ordB r from h6)]; rfl
          · rw [two _ h5, bad (fun h => h5 h.2.2.2.2)]
        · rw [two _ h4, bad (fun h => h4 h.2.2.2.1)]
      · rw [two _ h3, bad (fun h => h3 h.2.2.1)]
    · rw [two _ h2, bad (fun h => h2 h.2.1)]
  · rw [two _ h1, bad (fun h => h1 h.1)]
theorem stE_eq (s : Fv) : fst0 [wE 1 1000 [s.a], wE 0 1000000000000 [s.b, s.c], wE 0 1000 [s.d, s.e], eE [(s.d, s.e)]] = stE s := by
  rw [wE1, wE2, wE2, eE1]
  have two : ∀ {c : Prop} [Decidable c] (l : List Int) , ¬ c → fst0 ((if c then 0 else 2) :: l) = 2 := fun l h => by rw [if_neg h]; rfl
  have bad : ¬ stB s → stE s = 2 := fun h => by rw [stE, if_neg h]
  by_cases h1 : 1 ≤ s.a ∧ s.a ≤ 1000
  · rw [if_pos h1, fst0_z]
    by_cases h2 : (0 ≤ s.b ∧ s.b ≤ 1000000000000) ∧ 0 ≤ s.c ∧ s.c ≤ 1000000000000
    · rw [if_pos h2, fst0_z]
      by_cases h3 : (0 ≤ s.d ∧ s.d ≤ 1000) ∧ 0 ≤ s.e ∧ s.e ≤ 1000
      · rw [if_pos h3, fst0_z, stE, if_pos (show stB s from ⟨h1, h2, h3⟩)]
        by_cases h4 : s.d ≤ s.e
        · rw [if_pos h4]; rfl
        · rw [if_neg h4]; rfl
      · rw [two _ h3, bad (fun h => h3 h.2.2)]
    · rw [two _ h2, bad (fun h => h2 h.2.1)]
  · rw [two _ h1, bad (fun h => h1 h.1)]
theorem wE_drop {lo hi : Int} (l : List Int) (i : Nat) (h : i < l.length) : wE lo hi (l.drop i) = if l[i] < lo ∨ l[i] > hi then 2 else wE lo hi (l.drop (i + 1)) := by
  rw [List.drop_eq_getElem_cons h]; rfl
theorem conCW (lo hi : Int) (l : List Int) (hlen : l.length < 1000000000) : C5 43 [dI lo, dI hi, .sl l.length 1 (vi l)] [dI (wE lo hi l)] := by
  let inv : Nat × Nat → Prop := fun x => x.1 ≤ l.length ∧ wE lo hi l = wE lo hi (l.drop x.1)
  let st : Nat × Nat → Slots × Blocks := fun x => zCW1 lo hi l.length x.2 l.length x.1 (vi l)
  refine con_of (L := fun _ s b => ∃ x, inv x ∧ st x = (s, b)) hokE mixed Try.func43 rfl (by show 1 ≤ 400; omega) rfl (ids := [0]) (by kernel_rfl) rfl (fun caps => ?_) (fun id hid => ?_)
  · show gCW _ _ lo hi l.length (caps 500) (vi l) _
    rw [gCW_text]
    exact ⟨(0, caps 500), ⟨by simp, rfl⟩, rfl⟩
  · obtain rfl := List.mem_singleton.1 hid
    refine ⟨Nat × Nat, st, inv, fun x => l.length - x.1, ⟨fun s b h => h, by kernel_rfl, ?_⟩⟩
    rintro ⟨i, cap⟩ ⟨hi', hr⟩
    simp only at hi' hr
    show rCW1 _ _ lo hi l.length cap l.length i (vi l) _ _ _
    rw [rCW1_text]
    refine bc_dec (fun h => ?_) (fun h => ?_)
    · have hi2 : i < l.length := by omega
      rw [wE_drop l i hi2] at hr
      simp only [bc_t h, bc_t (show (0 : Int) ≤ (i : Int) by omega), Int.toNat_natCast, at1 (vi_at l i hi2)]
      refine bc_dec (fun h1 => ?_) (fun h1 => bc_dec (fun h2 => ?_) (fun h2 => ?_))
      · rw [if_pos (.inl h1)] at hr; show [dI 2] = _; rw [hr]
      · rw [if_pos (.inr h2)] at hr; show [dI 2] = _; rw [hr]
      · rw [if_neg (by omega)] at hr
        refine ⟨(i + 1, cap), ⟨hi2, hr⟩, by show l.length - (i + 1) < l.length - i; omega, ?_⟩
        rw [w64 (by omega) (by omega)]; rfl
    · show (if 0 = 0 then _ else _)
      rw [if_pos rfl]
      show nCW2 _ _ _
      rw [nCW2_text]
      have : i = l.length := by omega
      rw [this, List.drop_length] at hr
      show [dI 0] = _
      rw [hr]; rfl
theorem eE_drop (l : List (Int × Int)) (i : Nat) (h : i < l.length) : eE (l.drop i) = if l[i].1 > l[i].2 then 9 else eE (l.drop (i + 1)) := by
  rw [List.drop_eq_getElem_cons h]; rfl
theorem conCN (l : List (Int × Int)) (hlen : l.length < 1000000000) : C5 44 [.sl l.length 2 (vp l)] [dI (eE l)] := by
  let inv : Nat × Nat → Prop := fun x => x.1 ≤ l.length ∧ eE l = eE (l.drop x.1)
  let st : Nat × Nat → Slots × Blocks := fun x => zCN1 l.length x.2 l.length x.1 (vp l)
  refine con_of (L := fun _ s b => ∃ x, inv x ∧ st x = (s, b)) hokE mixed Try.func44 rfl (by show 1 ≤ 400; omega) rfl (ids := [0]) (by kernel_rfl) rfl (fun caps => ?_) (fun id hid => ?_)
  · show gCN _ _ l.length (caps 500) (vp l) _
    rw [gCN_text]
    exact ⟨(0, caps 500), ⟨by simp, rfl⟩, rfl⟩
  · obtain rfl := List.mem_singleton.1 hid
    refine ⟨Nat × Nat, st, inv, fun x => l.length - x.1, ⟨fun s b h => h, by kernel_rfl, ?_⟩⟩
    rintro ⟨i, cap⟩ ⟨hi', hr⟩
    simp only at hi' hr
    show rCN1 _ _ l.length cap l.length i (vp l) _ _ _
    rw [rCN1_text]
    refine bc_dec (fun h => ?_) (fun h => ?_)
    · have hi2 : i < l.length := by omega
      rw [eE_drop l i hi2] at hr
      simp only [bc_t h, bc_t (show (0 : Int) ≤ (i : Int) by omega), Int.toNat_natCast, at2 (vp_two l i hi2)]
      refine bc_dec (fun h1 => ?_) (fun h1 => ?_)
      · rw [if_pos h1] at hr; show [dI 9] = _; rw [hr]
      · rw [if_neg h1] at hr
        refine ⟨(i + 1, cap), ⟨hi2, hr⟩, by show l.length - (i + 1) < l.length - i; omega, ?_⟩
        rw [w64 (by omega) (by omega)]; rfl
    · show (if 0 = 0 then _ else _)
      rw [if_pos rfl]
      show nCN2 _ _ _
      rw [nCN2_text]
      have : i = l.length := by omega
      rw [this, List.drop_length] at hr
      show [dI 0] = _
      rw [hr]; rfl
theorem conCC (l : List Fv) : C5 45 [.sl l.length 5 (vs5 l)] [dI (cntE l.length)] := by
  refine con_flat hokE mixed Try.func45 rfl (by show 1 ≤ 400; omega) rfl (by kernel_rfl) (fun caps => ?_)
  show gCC _ _ l.length (caps 500) (vs5 l) _
  rw [gCC_text]; unfold cntE
  refine bc_beq (fun h => ?_) (fun h => bc_dec (fun h2 => ?_) (fun h2 => ?_))
  · show _ = _; rw [if_pos (by omega)]
  · show _ = _; rw [if_neg (by omega), if_pos (by omega)]
  · show _ = _; rw [if_neg (by omega), if_neg (by omega)]
theorem conCS (s : Fv) : C5 46 [.agg [dI s.a, dI s.b, dI s.c, dI s.d, dI s.e]] [dI (stE s)] := by
  refine con_flat hokP mixed Try.func46 rfl (by show 0 ≤ 400; omega) rfl (by kernel_rfl) (fun caps => ?_)
  show gCS _ _ s.a s.b s.c s.d s.e _
  rw [gCS_text]
  simp only [Qv, eq_self, true_and, and_true]
  refine ⟨_, ⟨conCW 1 1000 [s.a] (by simp)⟩, _, ⟨conCW 0 1000000000000 [s.b, s.c] (by simp)⟩, _, ⟨conCW 0 1000 [s.d, s.e] (by simp)⟩, _, ⟨conCN [(s.d, s.e)] (by simp)⟩, _, ⟨conFE [_, _, _, _] (by simp)⟩, ?_⟩
  show [dI _] = [dI _]
  rw [stE_eq]
theorem conCT (h : Int) : C5 48 [dI h] [dI (wE 1 1000 [h])] := by
  refine con_flat hokP mixed Try.func48 rfl (by show 0 ≤ 400; omega) rfl (by kernel_rfl) (fun caps => ?_)
  show gCT _ _ h _
  rw [gCT_text]
  exact ⟨_, ⟨conCW 1 1000 [h] (by simp)⟩, rfl⟩
theorem stsE_drop (l : List Fv) (i : Nat) (h : i < l.length) : stsE i (l.drop i) = if stE l[i] = 0 then stsE ((i + 1 : Nat) : Int) (l.drop (i + 1)) else ((i : Int), stE l[i]) := by
  rw [List.drop_eq_getElem_cons h]; rfl
theorem conKR (r : Ru) (hlen : r.ss.length < 1000000000) : C5 8 [r.d] [dI (chk r).1, dI (chk r).2] := by
  let inv : Nat × Nat → Prop := fun x => x.1 ≤ r.ss.length ∧ chk r = stsE x.1 (r.ss.drop x.1)
  let st : Nat × Nat → Slots × Blocks := fun x => zKR1 r.ss.length x.2 r.ss.length x.1 (vs5 r.ss)
  refine con_of (L := fun _ s b => ∃ x, inv x ∧ st x = (s, b)) hokP mixed Try.func8 rfl (by show 1 ≤ 400; omega) rfl (ids := [0]) (by kernel_rfl) rfl (fun caps => ?_) (fun id hid => ?_)
  · show gKR _ _ r.w r.st r.fi r.hlo r.hhi r.co r.ss.length (caps 500) (vs5 r.ss) r.slo r.shi r.flo r.fhi _
    rw [gKR_text]
    simp only [Qv, eq_self, true_and, and_true]
    refine ⟨_, ⟨conCW 1 2500 [r.w] (by simp)⟩, _, ⟨conCW 1 1000 [r.st, r.fi] (by simp)⟩, _, ⟨conCW 0 20000 [r.hlo, r.hhi, r.co] (by simp)⟩, _, ⟨conCW 1 100 [r.slo, r.shi] (by simp)⟩, _, ⟨conCW 0 100 [r.flo, r.fhi] (by simp)⟩, _, ⟨conCN [(r.fi, r.st), (r.hlo, r.hhi), (r.slo, r.shi), (r.flo, r.fhi)] (by simp)⟩, ?_⟩
    rw [bc_t (v5le r.ss), v5_whole]
    refine ⟨_, ⟨conCC r.ss⟩, _, ⟨conFE [_, _, _, _, _, _, _] (by simp)⟩, ?_⟩
    rw [headE_eq]
    refine bc_bne (fun h => ?_) (fun h => ⟨(0, caps 500), ⟨Nat.zero_le _, by rw [chk, if_pos h]; rfl⟩, rfl⟩)
    show [dI 0, dI (headE r)] = _
    rw [chk, if_neg h]
  · obtain rfl := List.mem_singleton.1 hid
    refine ⟨Nat × Nat, st, inv, fun x => r.ss.length - x.1, ⟨fun s b h => h, by kernel_rfl, ?_⟩⟩
    rintro ⟨i, cap⟩ ⟨hi', hr⟩
    simp only at hi' hr
    show rKR1 _ _ r.ss.length cap r.ss.length i (vs5 r.ss) _ _ _
    rw [rKR1_text]
    refine bc_dec (fun h => ?_) (fun h => ?_)
    · have hi2 : i < r.ss.length := by omega
      rw [stsE_drop r.ss i hi2] at hr
      simp only [bc_t h, bc_t (show (0 : Int) ≤ (i : Int) by omega), Int.toNat_natCast, at5 (vs5_all r.ss i hi2)]
      refine ⟨_, ⟨conCS r.ss[i]⟩, bc_bne (fun h1 => ?_) (fun h1 => ?_)⟩
      · rw [if_neg h1] at hr; show [dI (i : Int), dI (stE _)] = _; rw [hr]
      · rw [if_pos h1] at hr
        refine ⟨(i + 1, cap), ⟨hi2, hr⟩, by show r.ss.length - (i + 1) < r.ss.length - i; omega, ?_⟩
        rw [w64 (by omega) (by omega)]; rfl
    · show (if 0 = 0 then _ else _)
      rw [if_pos rfl]
      show nKR2 _ _ _
      rw [nKR2_text]
      have : i = r.ss.length := by omega
      rw [this, List.drop_length] at hr
      show [dI 0, dI 0] = _
      rw [hr]; rfl
/-- a schedule's errors, for rules without one -/
def thE (n : Nat) (fi : Int) : Int → Int → List Int → Int × Int
  | _, before, [] => if before ≠ fi then ((n : Int) - 1, 14) else (0, 0)
  | i, before, h :: l => if ¬ (1 ≤ h ∧ h ≤ 1000) then (i, 2) else if h > before then (i, 9) else thE n fi (i + 1) h l
def schE (r : Ru) (nm : List UInt8) (th : List Int) : Int × Int := if nameOK nm = true then if th.length = r.ss.length then thE r.ss.length r.fi 0 r.st th else (0, 10) else (0, 4)
def schP (r : Ru) (nm : List UInt8) (th : List Int) : Int × Int := if (chk r).2 = 0 then schE r nm th else (0, (chk r).2)
abbrev scD (nm : List UInt8) (th : List Int) : D := .agg [dS nm, .sl th.length 1 (vi th)]
theorem thE_drop {n : Nat} {fi b : Int} (l : List Int) (i : Nat) (h : i < l.length) : thE n fi i b (l.drop i) = if ¬ (1 ≤ l[i] ∧ l[i] ≤ 1000) then ((i : Int), 2) else if l[i] > b then ((i : Int), 9) else thE n fi ((i + 1 : Nat) : Int) l[i] (l.drop (i + 1)) := by
  rw [List.drop_eq_getElem_cons h]; rfl
theorem conKS (r : Ru) (nm : List UInt8) (th : List Int) (hlen : r.ss.length < 1000000000) (hth : th.length < 1000000000) : C5 10 [r.d, scD nm th] [dI (schP r nm th).1, dI (schP r nm th).2] := by
  let inv : Nat × Nat × Nat × Int → Prop := fun x => x.1 ≤ th.length ∧ schP r nm th = thE r.ss.length r.fi x.1 x.2.2.2 (th.drop x.1)
  let st : Nat × Nat × Nat × Int → Slots × Blocks := fun x => zKS1 x.2.2.2 th.length x.2.1 th.length x.1 r.w r.st r.fi r.hlo r.hhi r.co r.ss.length x.2.2.1 r.slo r.shi r.flo r.fhi (vi th) (vs5 r.ss)
  refine con_of (L := fun _ s b => ∃ x, inv x ∧ st x = (s, b)) hokP mixed Try.func10 rfl (by show 2 ≤ 400; omega) rfl (ids := [1]) (by kernel_rfl) rfl (fun caps => ?_) (fun id hid => ?_)
  · show gKS _ _ r.w r.st r.fi r.hlo r.hhi r.co r.ss.length (caps 500) (vs5 r.ss) r.slo r.shi r.flo r.fhi (bs nm) th.length (caps 501) (vi th) _
    rw [gKS_text, bc_t (v5le r.ss), v5_whole]
    refine ⟨_, _, ⟨conKR r hlen⟩, bc_bne (fun h => ?_) (fun h => ?_)⟩
    · show [dI 0, dI _] = _
      rw [schP, if_neg h]
    · refine sayOr (coniN nm) (fun hn => bc_bne (fun h2 => ?_) (fun h2 => ?_)) (fun hn => ?_)
      · show [dI 0, dI 10] = _
        rw [schP, if_pos h, schE, if_pos hn, if_neg (by omega)]
      · exact ⟨(0, caps 501, caps 500, r.st), ⟨Nat.zero_le _, by rw [schP, if_pos h, schE, if_pos hn, if_pos (by omega)]; rfl⟩, rfl⟩
      · show [dI 0, dI 4] = _
        rw [schP, if_pos h, schE, if_neg (by rw [hn]; simp)]
  · obtain rfl := List.mem_singleton.1 hid
    refine ⟨Nat × Nat × Nat × Int, st, inv, fun x => th.length - x.1, ⟨fun s b h => h, by kernel_rfl, ?_⟩⟩
    rintro ⟨i, c1, c2, b⟩ ⟨hi', hr⟩
    simp only at hi' hr
    show rKS1 _ _ b th.length c1 th.length i r.w r.st r.fi r.hlo r.hhi r.co r.ss.length c2 r.slo r.shi r.flo r.fhi (vi th) (vs5 r.ss) _ _ _
    rw [rKS1_text]
    refine bc_dec (fun h => ?_) (fun h => ?_)
    · have hi2 : i < th.length := by omega
      rw [thE_drop th i hi2] at hr
      simp only [bc_t h, bc_t (show (0 : Int) ≤ (i : Int) by omega), Int.toNat_natCast, at1 (vi_at th i hi2)]
      refine ⟨_, ⟨conCT th[i]⟩, ?_⟩
      rw [wE1]
      by_cases h3 : 1 ≤ th[i] ∧ th[i] ≤ 1000
      · rw [if_neg (fun hh => hh h3)] at hr
        rw [if_pos h3]
        show bcase _ _ _
        refine bc_dec (fun h4 => ?_) (fun h4 => ?_)
        · rw [if_pos h4] at hr; show [dI (i : Int), dI 9] = _; rw [hr]
        · rw [if_neg h4] at hr
          refine ⟨(i + 1, c1, c2, th[i]), ⟨hi2, hr⟩, by show th.length - (i + 1) < th.length - i; omega, ?_⟩
          rw [w64 (by omega) (by omega)]; rfl
      · rw [if_pos h3] at hr
        rw [if_neg h3]
        show [dI (i : Int), dI 2] = _
        rw [hr]
    · show (if 1 = 1 then _ else _)
      rw [if_pos rfl]
      show nKS2 _ _ b r.w r.st r.fi r.hlo r.hhi r.co r.ss.length c2 r.slo r.shi r.flo r.fhi (vs5 r.ss) _
      rw [nKS2_text]
      have : i = th.length := by omega
      rw [this, List.drop_length, thE] at hr
      refine bc_bne (fun h2 => ?_) (fun h2 => ?_)
      · rw [if_pos h2] at hr; rw [hr, w64 (by omega) (by omega)]
      · rw [if_neg (by omega)] at hr; rw [hr]
end Go.Proofs.G5p
