/- What is left to show of each function, written out; the kernel reckons it. -/
import Derived.Test.YteadiejdhplokaaP4
import Derived.Test.YteadiejdhplokaaProg
namespace Go.Proofs.G5p
open Go Go.Abs Go.Proofs
set_option maxRecDepth 100000
set_option linter.unusedVariables false
abbrev vI (n : Int) : Value := .int .i64 n
abbrev Ct := FuncId → List D → List D → Prop
abbrev Bx := Slots → Blocks → Prop
abbrev Xx := Nat → Slots → Blocks → Prop
abbrev Ex := Exit → Slots → Blocks → Prop
abbrev Kh := FuncId → List Value → Blocks → Slots → Blocks → Prop
abbrev hE (C : Ct) : Handler := handlerX Try.prog (fun _ => none) 12 6
def preP (C : Ct) : FuncId → Option Handler := fun g => if [51, 999999].contains g then some (freshH Try.prog g 2) else if g == 69 then some (freshH Try.prog g 4) else if [6, 42, 43, 44, 45, 46, 48, 60, 8, 81, 82, 47, 10, 20, 53, 105, 98, 89, 99, 63, 86, 97, 61, 64, 12, 13, 30, 29, 22, 14, 23, 15, 25, 27, 59, 17, 19, 66, 67, 68, 65, 26, 24, 28, 16, 18, 58, 41, 71, 87, 31, 32, 33].contains g then some (saidH Try.prog C) else none
abbrev hP (C : Ct) : Handler := handlerX Try.prog (preP C) 12 6
def gRo (C : Ct) (L : AtLoop) (x0 : Int) (x1 : Int) (x2 : Int) (x3 : Int) (x4 : Int) (x5 : Int) (n6 : Nat) (c6 : Nat) (l6 : List Value) (x7 : Int) (x8 : Int) (x9 : Int) (x10 : Int) (s11 : ByteArray) (n12 : Nat) (c12 : Nat) (l12 : List Value) (x13 : Int) (x14 : Int) (x15 : Int) (n16 : Nat) (c16 : Nat) (l16 : List Value) (k : List D → Prop) : Prop := wpFn Try.prog (hP C) L 0 22 #[.agg #[.int .i64 x0, .int .i64 x1, .int .i64 x2, .int .i64 x3, .int .i64 x4, .int .i64 x5, .slice (some ⟨500, 0, none⟩) n6 c6, .int .i64 x7, .int .i64 x8, .int .i64 x9, .int .i64 x10], .agg #[.string s11, .slice (some ⟨501, 0, none⟩) n12 c12], .agg #[.int .i64 x13, .int .i64 x14, .int .i64 x15, .slice (some ⟨502, 0, none⟩) n16 c16]] (heapOf [(500, .sym l6 false 5), (501, .sym l12 false 1), (502, .sym l16 false 1)]) (dataK k)
theorem gRo_text (C : Ct) (L : AtLoop) (x0 : Int) (x1 : Int) (x2 : Int) (x3 : Int) (x4 : Int) (x5 : Int) (n6 : Nat) (c6 : Nat) (l6 : List Go.Value) (x7 : Int) (x8 : Int) (x9 : Int) (x10 : Int) (s11 : ByteArray) (n12 : Nat) (c12 : Nat) (l12 : List Go.Value) (x13 : Int) (x14 : Int) (x15 : Int) (n16 : Nat) (c16 : Nat) (l16 : List Go.Value) (k : List D → Prop) : gRo C L x0 x1 x2 x3 x4 x5 n6 c6 l6 x7 x8 x9 x10 s11 n12 c12 l12 x13 x14 x15 n16 c16 l16 k =
 (bcase (decide (0 + n6 * 5 ≤ List.length l6))
 (bcase (decide (0 + n12 * 1 ≤ List.length l12))
 (∃ n1 : Int,
 (∃ n2 : Int,
 ((Says C 10 [(D.agg [(D.val (vI x0)), (D.val (vI x1)), (D.val (vI x2)), (D.val (vI x3)), (D.val (vI x4)), (D.val (vI x5)), (D.sl (n6) 5 (List.take (n6 * 5) (List.drop 0 l6))), (D.val (vI x7)), (D.val (vI x8)), (D.val (vI x9)), (D.val (vI x10))]), (D.agg [(D.val (Value.string (s11))), (D.sl (n12) 1 (List.take (n12 * 1) (List.drop 0 l12)))])] [(D.val (vI n1)), (D.val (vI n2))]) ∧
 (bcase (n2 != 0)
 (bcase (decide (0 + n6 * 5 ≤ List.length l6))
 (bcase (decide (0 + n16 * 1 ≤ List.length l16))
 (∃ n3 : Int,
 (∃ n4 : Int,
 ((Says C 20 [(D.agg [(D.val (vI x0)), (D.val (vI x1)), (D.val (vI x2)), (D.val (vI x3)), (D.val (vI x4)), (D.val (vI x5)), (D.sl (n6) 5 (List.take (n6 * 5) (List.drop 0 l6))), (D.val (vI x7)), (D.val (vI x8)), (D.val (vI x9)), (D.val (vI x10))]), (D.agg [(D.val (vI x13)), (D.val (vI x14)), (D.val (vI x15)), (D.sl (n16) 1 (List.take (n16 * 1) (List.drop 0 l16)))])] [(D.val (vI n3)), (D.val (vI n4))]) ∧
 (∃ n5 : Int,
 ((Says C 42 [(D.sl 2 1 [(vI n2), (vI n4)])] [(D.val (vI n5))]) ∧
 (bcase (n5 != 0)
 (k [D.nil, (D.val (Value.bool false)), (D.val (vI n5))])
 (bcase (decide (0 + n16 * 1 ≤ List.length l16))
 (∃ n7 : Int,
 (∃ n8 : Int,
 (∃ n9 : Int,
 (∃ n10 : Int,
 (∃ n11 : Int,
 (∃ n13 : Int,
 ((∃ n14 : Int,
 (∃ n15 : Int,
 (∃ n17 : Int,
 (∃ n18 : Int,
 ((Says C 61 [(D.agg [(D.val (vI 0)), (D.val (vI 0)), (D.val (vI 0)), (D.val (vI 0)), (D.val (vI 0)), (D.val (vI 0)), D.nil, (D.val (vI 0)), (D.val (vI 0)), (D.val (vI 0)), (D.val (vI 0))]), (D.agg [(D.val (vI x13)), (D.val (vI x14)), (D.val (vI x15)), (D.sl (n16) 1 (List.take (n16 * 1) (List.drop 0 l16)))])] [(D.agg [(D.val (vI n7)), (D.val (vI n8)), (D.val (vI n9)), (D.val (vI n10)), (D.val (vI n11)), (D.val (vI n13)), D.nil, (D.val (vI n14)), (D.val (vI n15)), (D.val (vI n17)), (D.val (vI n18))])]) ∧
 (∃ n19 : Nat,
 (∃ out1 : List Go.Value,
 ((GoodFresh Go.Proofs.Try.prog 51 2 [(Value.agg [(vI n7), (vI n8), (vI n9), (vI n10), (vI n11), (vI n13), (Value.slice none 0 0), (vI n14), (vI n15), (vI n17), (vI n18)].toArray), (Value.agg [(Value.string (s11)), (Sl 500 (n12) (c12))].toArray), (Value.func (Go.Fn.func 62) [].toArray [(Pt 501 0)].toArray)] [(Prod.mk 500 (AObj.sym (l12) false 1)), (Prod.mk 501 (AObj.cells [(vI n7), (vI n8), (vI n9), (vI n10), (vI n11), (vI n13), (Value.slice none 0 0), (vI n14), (vI n15), (vI n17), (vI n18)] 95 false 11))] (n19) (out1)) ∧
 (bcase (decide (0 + n12 * 1 ≤ List.length l12))
 (∃ n20 : Int,
 ((Says C 64 [(D.agg [(D.val (vI n7)), (D.val (vI n8)), (D.val (vI n9)), (D.val (vI n10)), (D.val (vI n11)), (D.val (vI n13)), D.nil, (D.val (vI n14)), (D.val (vI n15)), (D.val (vI n17)), (D.val (vI n18))]), (D.agg [(D.val (Value.string (s11))), (D.sl (n12) 1 (List.take (n12 * 1) (List.drop 0 l12)))])] [(D.val (vI n20))]) ∧
 (bcase (n20 == 2)
 (((Qv (n19)) ∧
 ((List.length out1) = (n19 * 2))) ∧
 (k [(D.sl (n19) 2 (out1)), (D.val (Value.bool true)), (D.val (vI 0))]))
 (((Qv (n19)) ∧
 ((List.length out1) = (n19 * 2))) ∧
 (k [(D.sl (n19) 2 (out1)), (D.val (Value.bool false)), (D.val (vI 0))])))))
 False))))))))) ∨
 (∃ n14 : Nat,
 (∃ cs1 : List Go.Value,
 (∃ n15 : Int,
 (∃ n17 : Int,
 (∃ n18 : Int,
 (∃ n19 : Int,
 ((Says C 61 [(D.agg [(D.val (vI 0)), (D.val (vI 0)), (D.val (vI 0)), (D.val (vI 0)), (D.val (vI 0)), (D.val (vI 0)), D.nil, (D.val (vI 0)), (D.val (vI 0)), (D.val (vI 0)), (D.val (vI 0))]), (D.agg [(D.val (vI x13)), (D.val (vI x14)), (D.val (vI x15)), (D.sl (n16) 1 (List.take (n16 * 1) (List.drop 0 l16)))])] [(D.agg [(D.val (vI n7)), (D.val (vI n8)), (D.val (vI n9)), (D.val (vI n10)), (D.val (vI n11)), (D.val (vI n13)), (D.sl (n14) 5 (cs1)), (D.val (vI n15)), (D.val (vI n17)), (D.val (vI n18)), (D.val (vI n19))])]) ∧
 (∃ n20 : Nat,
 (∃ out1 : List Go.Value,
 ((GoodFresh Go.Proofs.Try.prog 51 2 [(Value.agg [(vI n7), (vI n8), (vI n9), (vI n10), (vI n11), (vI n13), (Sl 500 (n14) (n14)), (vI n15), (vI n17), (vI n18), (vI n19)].toArray), (Value.agg [(Value.string (s11)), (Sl 501 (n12) (c12))].toArray), (Value.func (Go.Fn.func 62) [].toArray [(Pt 502 0)].toArray)] [(Prod.mk 500 (AObj.sym (cs1) true 5)), (Prod.mk 501 (AObj.sym (l12) false 1)), (Prod.mk 502 (AObj.cells [(vI n7), (vI n8), (vI n9), (vI n10), (vI n11), (vI n13), (Sl 500 (n14) (n14)), (vI n15), (vI n17), (vI n18), (vI n19)] 95 false 11))] (n20) (out1)) ∧
 (bcase (decide (0 + n14 * 5 ≤ List.length cs1))
 (bcase (decide (0 + n12 * 1 ≤ List.length l12))
 (∃ n21 : Int,
 ((Says C 64 [(D.agg [(D.val (vI n7)), (D.val (vI n8)), (D.val (vI n9)), (D.val (vI n10)), (D.val (vI n11)), (D.val (vI n13)), (D.sl (n14) 5 (List.take (n14 * 5) (List.drop 0 cs1))), (D.val (vI n15)), (D.val (vI n17)), (D.val (vI n18)), (D.val (vI n19))]), (D.agg [(D.val (Value.string (s11))), (D.sl (n12) 1 (List.take (n12 * 1) (List.drop 0 l12)))])] [(D.val (vI n21))]) ∧
 (bcase (n21 == 2)
 (((Qv (n20)) ∧
 ((List.length out1) = (n20 * 2))) ∧
 (k [(D.sl (n20) 2 (out1)), (D.val (Value.bool true)), (D.val (vI 0))]))
 (((Qv (n20)) ∧
 ((List.length out1) = (n20 * 2))) ∧
 (k [(D.sl (n20) 2 (out1)), (D.val (Value.bool false)), (D.val (vI 0))])))))
 False)
 False))))))))))))))))))
 False)))))))
 False)
 False)
 (bcase (decide (0 + n6 * 5 ≤ List.length l6))
 (bcase (decide (0 + n16 * 1 ≤ List.length l16))
 (∃ n3 : Int,
 (∃ n4 : Int,
 ((Says C 20 [(D.agg [(D.val (vI x0)), (D.val (vI x1)), (D.val (vI x2)), (D.val (vI x3)), (D.val (vI x4)), (D.val (vI x5)), (D.sl (n6) 5 (List.take (n6 * 5) (List.drop 0 l6))), (D.val (vI x7)), (D.val (vI x8)), (D.val (vI x9)), (D.val (vI x10))]), (D.agg [(D.val (vI x13)), (D.val (vI x14)), (D.val (vI x15)), (D.sl (n16) 1 (List.take (n16 * 1) (List.drop 0 l16)))])] [(D.val (vI n3)), (D.val (vI n4))]) ∧
 (∃ n5 : Int,
 ((Says C 42 [(D.sl 2 1 [(vI 0), (vI n4)])] [(D.val (vI n5))]) ∧
 (bcase (n5 != 0)
 (k [D.nil, (D.val (Value.bool false)), (D.val (vI n5))])
 (bcase (decide (0 + n6 * 5 ≤ List.length l6))
 (bcase (decide (0 + n16 * 1 ≤ List.length l16))
 (∃ n7 : Int,
 (∃ n8 : Int,
 (∃ n9 : Int,
 (∃ n10 : Int,
 (∃ n11 : Int,
 (∃ n13 : Int,
 ((∃ n14 : Int,
 (∃ n15 : Int,
 (∃ n17 : Int,
 (∃ n18 : Int,
 ((Says C 61 [(D.agg [(D.val (vI x0)), (D.val (vI x1)), (D.val (vI x2)), (D.val (vI x3)), (D.val (vI x4)), (D.val (vI x5)), (D.sl (n6) 5 (List.take (n6 * 5) (List.drop 0 l6))), (D.val (vI x7)), (D.val (vI x8)), (D.val (vI x9)), (D.val (vI x10))]), (D.agg [(D.val (vI x13)), (D.val (vI x14)), (D.val (vI x15)), (D.sl (n16) 1 (List.take (n16 * 1) (List.drop 0 l16)))])] [(D.agg [(D.val (vI n7)), (D.val (vI n8)), (D.val (vI n9)), (D.val (vI n10)), (D.val (vI n11)), (D.val (vI n13)), D.nil, (D.val (vI n14)), (D.val (vI n15)), (D.val (vI n17)), (D.val (vI n18))])]) ∧
 (∃ n19 : Nat,
 (∃ out1 : List Go.Value,
 ((GoodFresh Go.Proofs.Try.prog 51 2 [(Value.agg [(vI n7), (vI n8), (vI n9), (vI n10), (vI n11), (vI n13), (Value.slice none 0 0), (vI n14), (vI n15), (vI n17), (vI n18)].toArray), (Value.agg [(Value.string (s11)), (Sl 500 (n12) (c12))].toArray), (Value.func (Go.Fn.func 62) [].toArray [(Pt 501 0)].toArray)] [(Prod.mk 500 (AObj.sym (l12) false 1)), (Prod.mk 501 (AObj.cells [(vI n7), (vI n8), (vI n9), (vI n10), (vI n11), (vI n13), (Value.slice none 0 0), (vI n14), (vI n15), (vI n17), (vI n18)] 95 false 11))] (n19) (out1)) ∧
 (bcase (decide (0 + n12 * 1 ≤ List.length l12))
 (∃ n20 : Int,
 ((Says C 64 [(D.agg [(D.val (vI n7)), (D.val (vI n8)), (D.val (vI n9)), (D.val (vI n10)), (D.val (vI n11)), (D.val (vI n13)), D.nil, (D.val (vI n14)), (D.val (vI n15)), (D.val (vI n17)), (D.val (vI n18))]), (D.agg [(D.val (Value.string (s11))), (D.sl (n12) 1 (List.take (n12 * 1) (List.drop 0 l12)))])] [(D.val (vI n20))]) ∧
 (bcase (n20 == 2)
 (((Qv (n19)) ∧
 ((List.length out1) = (n19 * 2))) ∧
 (k [(D.sl (n19) 2 (out1)), (D.val (Value.bool true)), (D.val (vI 0))]))
 (((Qv (n19)) ∧
 ((List.length out1) = (n19 * 2))) ∧
 (k [(D.sl (n19) 2 (out1)), (D.val (Value.bool false)), (D.val (vI 0))])))))
 False))))))))) ∨
 (∃ n14 : Nat,
 (∃ cs1 : List Go.Value,
 (∃ n15 : Int,
 (∃ n17 : Int,
 (∃ n18 : Int,
 (∃ n19 : Int,
 ((Says C 61 [(D.agg [(D.val (vI x0)), (D.val (vI x1)), (D.val (vI x2)), (D.val (vI x3)), (D.val (vI x4)), (D.val (vI x5)), (D.sl (n6) 5 (List.take (n6 * 5) (List.drop 0 l6))), (D.val (vI x7)), (D.val (vI x8)), (D.val (vI x9)), (D.val (vI x10))]), (D.agg [(D.val (vI x13)), (D.val (vI x14)), (D.val (vI x15)), (D.sl (n16) 1 (List.take (n16 * 1) (List.drop 0 l16)))])] [(D.agg [(D.val (vI n7)), (D.val (vI n8)), (D.val (vI n9)), (D.val (vI n10)), (D.val (vI n11)), (D.val (vI n13)), (D.sl (n14) 5 (cs1)), (D.val (vI n15)), (D.val (vI n17)), (D.val (vI n18)), (D.val (vI n19))])]) ∧
 (∃ n20 : Nat,
 (∃ out1 : List Go.Value,
 ((GoodFresh Go.Proofs.Try.prog 51 2 [(Value.agg [(vI n7), (vI n8), (vI n9), (vI n10), (vI n11), (vI n13), (Sl 500 (n14) (n14)), (vI n15), (vI n17), (vI n18), (vI n19)].toArray), (Value.agg [(Value.string (s11)), (Sl 501 (n12) (c12))].toArray), (Value.func (Go.Fn.func 62) [].toArray [(Pt 502 0)].toArray)] [(Prod.mk 500 (AObj.sym (cs1) true 5)), (Prod.mk 501 (AObj.sym (l12) false 1)), (Prod.mk 502 (AObj.cells [(vI n7), (vI n8), (vI n9), (vI n10), (vI n11), (vI n13), (Sl 500 (n14) (n14)), (vI n15), (vI n17), (vI n18), (vI n19)] 95 false 11))] (n20) (out1)) ∧
 (bcase (decide (0 + n14 * 5 ≤ List.length cs1))
 (bcase (decide (0 + n12 * 1 ≤ List.length l12))
 (∃ n21 : Int,
 ((Says C 64 [(D.agg [(D.val (vI n7)), (D.val (vI n8)), (D.val (vI n9)), (D.val (vI n10)), (D.val (vI n11)), (D.val (vI n13)), (D.sl (n14) 5 (List.take (n14 * 5) (List.drop 0 cs1))), (D.val (vI n15)), (D.val (vI n17)), (D.val (vI n18)), (D.val (vI n19))]), (D.agg [(D.val (Value.string (s11))), (D.sl (n12) 1 (List.take (n12 * 1) (List.drop 0 l12)))])] [(D.val (vI n21))]) ∧
 (bcase (n21 == 2)
 (((Qv (n20)) ∧
 ((List.length out1) = (n20 * 2))) ∧
 (k [(D.sl (n20) 2 (out1)), (D.val (Value.bool true)), (D.val (vI 0))]))
 (((Qv (n20)) ∧
 ((List.length out1) = (n20 * 2))) ∧
 (k [(D.sl (n20) 2 (out1)), (D.val (Value.bool false)), (D.val (vI 0))])))))
 False)
 False))))))))))))))))))
 False)
 False)))))))
 False)
 False)))))
 False)
 False) := by kernel_rfl
def gFE (C : Ct) (L : AtLoop) (n0 : Nat) (c0 : Nat) (l0 : List Value) (k : List D → Prop) : Prop := wpFn Try.prog (hE C) L 0 42 #[.slice (some ⟨500, 0, none⟩) n0 c0] (heapOf [(500, .sym l0 false 1)]) (dataK k)
theorem gFE_text (C : Ct) (L : AtLoop) (n0 : Nat) (c0 : Nat) (l0 : List Go.Value) (k : List D → Prop) : gFE C L n0 c0 l0 k =
 (L 0 [(Prod.mk 5 (Sl 500 (n0) (c0))), (Prod.mk 6 (vI ((↑n0 : Int)))), (Prod.mk 7 (vI 0))] [(Prod.mk 500 (AObj.sym (l0) false 1))]) := by kernel_rfl
abbrev zFE1 (n0 : Nat) (c1 : Nat) (x2 : Int) (x3 : Int) (l4 : List Value) : Slots × Blocks := ([(5, (Value.slice (some ⟨500, 0, none⟩) n0 c1)), (6, (Value.int .i64 x2)), (7, (Value.int .i64 x3))], [(500, (AObj.sym l4 false 1))])
def rFE1 (C : Ct) (L : AtLoop) (n0 : Nat) (c1 : Nat) (x2 : Int) (x3 : Int) (l4 : List Value) (B : Bx) (X : Xx) (k : List D → Prop) : Prop := wpRound Try.prog (hE C) L 42 0 [(5, (Value.slice (some ⟨500, 0, none⟩) n0 c1)), (6, (Value.int .i64 x2)), (7, (Value.int .i64 x3))] [(500, (AObj.sym l4 false 1))] B X (dataK k)
theorem rFE1_text (C : Ct) (L : AtLoop) (n0 : Nat) (c1 : Nat) (x2 : Int) (x3 : Int) (l4 : List Go.Value) (B : Bx) (X : Xx) (k : List D → Prop) : rFE1 C L n0 c1 x2 x3 l4 B X k =
 (bcase (decide (x3 < x2))
 (bcase (decide (0 ≤ x3))
 (bcase (decide (x3 < (↑n0 : Int)))
 (∃ n1 : Int,
 ((At (l4) (0 + Int.toNat x3 * 1) 1 [(vI n1)]) ∧
 (bcase (n1 != 0)
 (k [(D.val (vI n1))])
 (B [(Prod.mk 5 (Sl 500 (n0) (c1))), (Prod.mk 6 (vI x2)), (Prod.mk 7 (vI (IntKind.wrap .i64 (x3 + 1))))] [(Prod.mk 500 (AObj.sym (l4) false 1))]))))
 False)
 False)
 (X 0 [] [])) := by kernel_rfl
def nFE2 (C : Ct) (L : AtLoop) (k : List D → Prop) : Prop := wpNext Try.prog (hE C) L 42 0 .normal [] [] (dataK k)
theorem nFE2_text (C : Ct) (L : AtLoop) (k : List D → Prop) : nFE2 C L k =
 (k [(D.val (vI 0))]) := by kernel_rfl
def gCW (C : Ct) (L : AtLoop) (x0 : Int) (x1 : Int) (n2 : Nat) (c2 : Nat) (l2 : List Value) (k : List D → Prop) : Prop := wpFn Try.prog (hE C) L 0 43 #[.int .i64 x0, .int .i64 x1, .slice (some ⟨500, 0, none⟩) n2 c2] (heapOf [(500, .sym l2 false 1)]) (dataK k)
theorem gCW_text (C : Ct) (L : AtLoop) (x0 : Int) (x1 : Int) (n2 : Nat) (c2 : Nat) (l2 : List Go.Value) (k : List D → Prop) : gCW C L x0 x1 n2 c2 l2 k =
 (L 0 [(Prod.mk 0 (vI x0)), (Prod.mk 1 (vI x1)), (Prod.mk 9 (Sl 500 (n2) (c2))), (Prod.mk 10 (vI ((↑n2 : Int)))), (Prod.mk 11 (vI 0))] [(Prod.mk 500 (AObj.sym (l2) false 1))]) := by kernel_rfl
abbrev zCW1 (x0 : Int) (x1 : Int) (n2 : Nat) (c3 : Nat) (x4 : Int) (x5 : Int) (l6 : List Value) : Slots × Blocks := ([(0, (Value.int .i64 x0)), (1, (Value.int .i64 x1)), (9, (Value.slice (some ⟨500, 0, none⟩) n2 c3)), (10, (Value.int .i64 x4)), (11, (Value.int .i64 x5))], [(500, (AObj.sym l6 false 1))])
def rCW1 (C : Ct) (L : AtLoop) (x0 : Int) (x1 : Int) (n2 : Nat) (c3 : Nat) (x4 : Int) (x5 : Int) (l6 : List Value) (B : Bx) (X : Xx) (k : List D → Prop) : Prop := wpRound Try.prog (hE C) L 43 0 [(0, (Value.int .i64 x0)), (1, (Value.int .i64 x1)), (9, (Value.slice (some ⟨500, 0, none⟩) n2 c3)), (10, (Value.int .i64 x4)), (11, (Value.int .i64 x5))] [(500, (AObj.sym l6 false 1))] B X (dataK k)
theorem rCW1_text (C : Ct) (L : AtLoop) (x0 : Int) (x1 : Int) (n2 : Nat) (c3 : Nat) (x4 : Int) (x5 : Int) (l6 : List Go.Value) (B : Bx) (X : Xx) (k : List D → Prop) : rCW1 C L x0 x1 n2 c3 x4 x5 l6 B X k =
 (bcase (decide (x5 < x4))
 (bcase (decide (0 ≤ x5))
 (bcase (decide (x5 < (↑n2 : Int)))
 (∃ n1 : Int,
 ((At (l6) (0 + Int.toNat x5 * 1) 1 [(vI n1)]) ∧
 (bcase (decide (n1 < x0))
 (k [(D.val (vI 2))])
 (bcase (decide (n1 > x1))
 (k [(D.val (vI 2))])
 (B [(Prod.mk 0 (vI x0)), (Prod.mk 1 (vI x1)), (Prod.mk 9 (Sl 500 (n2) (c3))), (Prod.mk 10 (vI x4)), (Prod.mk 11 (vI (IntKind.wrap .i64 (x5 + 1))))] [(Prod.mk 500 (AObj.sym (l6) false 1))])))))
 False)
 False)
 (X 0 [] [])) := by kernel_rfl
def nCW2 (C : Ct) (L : AtLoop) (k : List D → Prop) : Prop := wpNext Try.prog (hE C) L 43 0 .normal [] [] (dataK k)
theorem nCW2_text (C : Ct) (L : AtLoop) (k : List D → Prop) : nCW2 C L k =
 (k [(D.val (vI 0))]) := by kernel_rfl
def gCN (C : Ct) (L : AtLoop) (n0 : Nat) (c0 : Nat) (l0 : List Value) (k : List D → Prop) : Prop := wpFn Try.prog (hE C) L 0 44 #[.slice (some ⟨500, 0, none⟩) n0 c0] (heapOf [(500, .sym l0 false 2)]) (dataK k)
theorem gCN_text (C : Ct) (L : AtLoop) (n0 : Nat) (c0 : Nat) (l0 : List Go.Value) (k : List D → Prop) : gCN C L n0 c0 l0 k =
 (L 0 [(Prod.mk 5 (Sl 500 (n0) (c0))), (Prod.mk 6 (vI ((↑n0 : Int)))), (Prod.mk 7 (vI 0))] [(Prod.mk 500 (AObj.sym (l0) false 2))]) := by kernel_rfl
abbrev zCN1 (n0 : Nat) (c1 : Nat) (x2 : Int) (x3 : Int) (l4 : List Value) : Slots × Blocks := ([(5, (Value.slice (some ⟨500, 0, none⟩) n0 c1)), (6, (Value.int .i64 x2)), (7, (Value.int .i64 x3))], [(500, (AObj.sym l4 false 2))])
def rCN1 (C : Ct) (L : AtLoop) (n0 : Nat) (c1 : Nat) (x2 : Int) (x3 : Int) (l4 : List Value) (B : Bx) (X : Xx) (k : List D → Prop) : Prop := wpRound Try.prog (hE C) L 44 0 [(5, (Value.slice (some ⟨500, 0, none⟩) n0 c1)), (6, (Value.int .i64 x2)), (7, (Value.int .i64 x3))] [(500, (AObj.sym l4 false 2))] B X (dataK k)
theorem rCN1_text (C : Ct) (L : AtLoop) (n0 : Nat) (c1 : Nat) (x2 : Int) (x3 : Int) (l4 : List Go.Value) (B : Bx) (X : Xx) (k : List D → Prop) : rCN1 C L n0 c1 x2 x3 l4 B X k =
 (bcase (decide (x3 < x2))
 (bcase (decide (0 ≤ x3))
 (bcase (decide (x3 < (↑n0 : Int)))
 (∃ n1 : Int,
 (∃ n2 : Int,
 ((At (l4) (0 + Int.toNat x3 * 2) 2 [(vI n1), (vI n2)]) ∧
 (bcase (decide (n1 > n2))
 (k [(D.val (vI 9))])
 (B [(Prod.mk 5 (Sl 500 (n0) (c1))), (Prod.mk 6 (vI x2)), (Prod.mk 7 (vI (IntKind.wrap .i64 (x3 + 1))))] [(Prod.mk 500 (AObj.sym (l4) false 2))])))))
 False)
 False)
 (X 0 [] [])) := by kernel_rfl
def nCN2 (C : Ct) (L : AtLoop) (k : List D → Prop) : Prop := wpNext Try.prog (hE C) L 44 0 .normal [] [] (dataK k)
theorem nCN2_text (C : Ct) (L : AtLoop) (k : List D → Prop) : nCN2 C L k =
 (k [(D.val (vI 0))]) := by kernel_rfl
def gCC (C : Ct) (L : AtLoop) (n0 : Nat) (c0 : Nat) (l0 : List Value) (k : List D → Prop) : Prop := wpFn Try.prog (hE C) L 0 45 #[.slice (some ⟨500, 0, none⟩) n0 c0] (heapOf [(500, .sym l0 false 5)]) (dataK k)
theorem gCC_text (C : Ct) (L : AtLoop) (n0 : Nat) (c0 : Nat) (l0 : List Go.Value) (k : List D → Prop) : gCC C L n0 c0 l0 k =
 (bcase ((↑n0 : Int) == 0)
 (k [(D.val (vI 10))])
 (bcase (decide ((↑n0 : Int) > 6))
 (k [(D.val (vI 8))])
 (k [(D.val (vI 0))]))) := by kernel_rfl
def gCS (C : Ct) (L : AtLoop) (x0 : Int) (x1 : Int) (x2 : Int) (x3 : Int) (x4 : Int) (k : List D → Prop) : Prop := wpFn Try.prog (hP C) L 0 46 #[.agg #[.int .i64 x0, .int .i64 x1, .int .i64 x2, .int .i64 x3, .int .i64 x4]] (heapOf []) (dataK k)
theorem gCS_text (C : Ct) (L : AtLoop) (x0 : Int) (x1 : Int) (x2 : Int) (x3 : Int) (x4 : Int) (k : List D → Prop) : gCS C L x0 x1 x2 x3 x4 k =
 ((((Qv (Sl 1004 1 1)) ∧
 (Qv (some (AObj.cells [(vI x3), (vI x4)] 23 false 2)))) ∧
 ((Qv (Value.agg [(vI x3), (vI x4)].toArray)) ∧
 ((Qv (Pt 1000 3)) ∧
 (((Qv (Sl 1003 2 2)) ∧
 (Qv (some (AObj.cells [(vI x3), (vI x4)] 3 false 1)))) ∧
 ((Qv (vI x4)) ∧
 ((Qv (Pt 1000 4)) ∧
 ((Qv (Pt 1000 3)) ∧
 ((Qv (vI x3)) ∧
 ((Qv (Pt 1000 3)) ∧
 ((Qv (Pt 1000 3)) ∧
 (((Qv (Sl 1002 2 2)) ∧
 (Qv (some (AObj.cells [(vI x1), (vI x2)] 3 false 1)))) ∧
 ((Qv (vI x2)) ∧
 ((Qv (Pt 1000 2)) ∧
 ((Qv (vI x1)) ∧
 ((Qv (Pt 1000 1)) ∧
 (((Qv (Sl 1001 1 1)) ∧
 (Qv (some (AObj.cells [(vI x0)] 3 false 1)))) ∧
 ((Qv (vI x0)) ∧
 ((Qv (Pt 1000 0)) ∧
 True)))))))))))))))))) ∧
 (∃ n1 : Int,
 ((Says C 43 [(D.val (vI 1)), (D.val (vI 1000)), (D.sl 1 1 [(vI x0)])] [(D.val (vI n1))]) ∧
 ((((Qv (Sl 1004 1 1)) ∧
 (Qv (some (AObj.cells [(vI x3), (vI x4)] 23 false 2)))) ∧
 ((Qv (Value.agg [(vI x3), (vI x4)].toArray)) ∧
 ((Qv (Pt 1000 3)) ∧
 (((Qv (Sl 1003 2 2)) ∧
 (Qv (some (AObj.cells [(vI x3), (vI x4)] 3 false 1)))) ∧
 ((Qv (vI x4)) ∧
 ((Qv (Pt 1000 4)) ∧
 ((Qv (Pt 1000 3)) ∧
 ((Qv (vI x3)) ∧
 ((Qv (Pt 1000 3)) ∧
 ((Qv (Pt 1000 3)) ∧
 (((Qv (Sl 1002 2 2)) ∧
 (Qv (some (AObj.cells [(vI x1), (vI x2)] 3 false 1)))) ∧
 ((Qv (vI x2)) ∧
 ((Qv (Pt 1000 2)) ∧
 ((Qv (vI x1)) ∧
 ((Qv (Pt 1000 1)) ∧
 ((Qv (vI x0)) ∧
 ((Qv (Pt 1000 0)) ∧
 True))))))))))))))))) ∧
 (∃ n2 : Int,
 ((Says C 43 [(D.val (vI 0)), (D.val (vI 1000000000000)), (D.sl 2 1 [(vI x1), (vI x2)])] [(D.val (vI n2))]) ∧
 ((((Qv (Sl 1004 1 1)) ∧
 (Qv (some (AObj.cells [(vI x3), (vI x4)] 23 false 2)))) ∧
 ((Qv (Value.agg [(vI x3), (vI x4)].toArray)) ∧
 ((Qv (Pt 1000 3)) ∧
 (((Qv (Sl 1003 2 2)) ∧
 (Qv (some (AObj.cells [(vI x3), (vI x4)] 3 false 1)))) ∧
 ((Qv (vI x4)) ∧
 ((Qv (Pt 1000 4)) ∧
 ((Qv (Pt 1000 3)) ∧
 ((Qv (vI x3)) ∧
 ((Qv (Pt 1000 3)) ∧
 ((Qv (Pt 1000 3)) ∧
 ((Qv (vI x2)) ∧
 ((Qv (Pt 1000 2)) ∧
 ((Qv (vI x1)) ∧
 ((Qv (Pt 1000 1)) ∧
 ((Qv (vI x0)) ∧
 ((Qv (Pt 1000 0)) ∧
 True)))))))))))))))) ∧
 (∃ n3 : Int,
 ((Says C 43 [(D.val (vI 0)), (D.val (vI 1000)), (D.sl 2 1 [(vI x3), (vI x4)])] [(D.val (vI n3))]) ∧
 ((((Qv (Sl 1004 1 1)) ∧
 (Qv (some (AObj.cells [(vI x3), (vI x4)] 23 false 2)))) ∧
 ((Qv (Value.agg [(vI x3), (vI x4)].toArray)) ∧
 ((Qv (Pt 1000 3)) ∧
 ((Qv (vI x4)) ∧
 ((Qv (Pt 1000 4)) ∧
 ((Qv (Pt 1000 3)) ∧
 ((Qv (vI x3)) ∧
 ((Qv (Pt 1000 3)) ∧
 ((Qv (Pt 1000 3)) ∧
 ((Qv (vI x2)) ∧
 ((Qv (Pt 1000 2)) ∧
 ((Qv (vI x1)) ∧
 ((Qv (Pt 1000 1)) ∧
 ((Qv (vI x0)) ∧
 ((Qv (Pt 1000 0)) ∧
 True))))))))))))))) ∧
 (∃ n4 : Int,
 ((Says C 44 [(D.sl 1 2 [(vI x3), (vI x4)])] [(D.val (vI n4))]) ∧
 ((((Qv (Sl 1005 4 4)) ∧
 (Qv (some (AObj.cells [(vI n1), (vI n2), (vI n3), (vI n4)] 32 false 1)))) ∧
 ((Qv (Value.agg [(vI x3), (vI x4)].toArray)) ∧
 ((Qv (Pt 1000 3)) ∧
 ((Qv (vI x4)) ∧
 ((Qv (Pt 1000 4)) ∧
 ((Qv (Pt 1000 3)) ∧
 ((Qv (vI x3)) ∧
 ((Qv (Pt 1000 3)) ∧
 ((Qv (Pt 1000 3)) ∧
 ((Qv (vI x2)) ∧
 ((Qv (Pt 1000 2)) ∧
 ((Qv (vI x1)) ∧
 ((Qv (Pt 1000 1)) ∧
 ((Qv (vI x0)) ∧
 ((Qv (Pt 1000 0)) ∧
 True))))))))))))))) ∧
 (∃ n5 : Int,
 ((Says C 42 [(D.sl 4 1 [(vI n1), (vI n2), (vI n3), (vI n4)])] [(D.val (vI n5))]) ∧
 (((Qv (Value.agg [(vI x3), (vI x4)].toArray)) ∧
 ((Qv (Pt 1000 3)) ∧
 ((Qv (vI x4)) ∧
 ((Qv (Pt 1000 4)) ∧
 ((Qv (Pt 1000 3)) ∧
 ((Qv (vI x3)) ∧
 ((Qv (Pt 1000 3)) ∧
 ((Qv (Pt 1000 3)) ∧
 ((Qv (vI x2)) ∧
 ((Qv (Pt 1000 2)) ∧
 ((Qv (vI x1)) ∧
 ((Qv (Pt 1000 1)) ∧
 ((Qv (vI x0)) ∧
 ((Qv (Pt 1000 0)) ∧
 True)))))))))))))) ∧
 (True ∧
 (k [(D.val (vI n5))])))))))))))))))))) := by kernel_rfl
def gCT (C : Ct) (L : AtLoop) (x0 : Int) (k : List D → Prop) : Prop := wpFn Try.prog (hP C) L 0 48 #[.int .i64 x0] (heapOf []) (dataK k)
theorem gCT_text (C : Ct) (L : AtLoop) (x0 : Int) (k : List D → Prop) : gCT C L x0 k =
 (∃ n1 : Int,
 ((Says C 43 [(D.val (vI 1)), (D.val (vI 1000)), (D.sl 1 1 [(vI x0)])] [(D.val (vI n1))]) ∧
 (k [(D.val (vI n1))]))) := by kernel_rfl
def gCI (C : Ct) (L : AtLoop) (x0 : Int) (x1 : Int) (x2 : Int) (k : List D → Prop) : Prop := wpFn Try.prog (hP C) L 0 60 #[.agg #[.int .i64 x0, .int .i64 x1], .int .i64 x2] (heapOf []) (dataK k)
theorem gCI_text (C : Ct) (L : AtLoop) (x0 : Int) (x1 : Int) (x2 : Int) (k : List D → Prop) : gCI C L x0 x1 x2 k =
 (∃ n1 : Int,
 ((Says C 43 [(D.val (vI x0)), (D.val (vI x1)), (D.sl 1 1 [(vI x2)])] [(D.val (vI n1))]) ∧
 (k [(D.val (vI n1))]))) := by kernel_rfl
def gKR (C : Ct) (L : AtLoop) (x0 : Int) (x1 : Int) (x2 : Int) (x3 : Int) (x4 : Int) (x5 : Int) (n6 : Nat) (c6 : Nat) (l6 : List Value) (x7 : Int) (x8 : Int) (x9 : Int) (x10 : Int) (k : List D → Prop) : Prop := wpFn Try.prog (hP C) L 0 8 #[.agg #[.int .i64 x0, .int .i64 x1, .int .i64 x2, .int .i64 x3, .int .i64 x4, .int .i64 x5, .slice (some ⟨500, 0, none⟩) n6 c6, .int .i64 x7, .int .i64 x8, .int .i64 x9, .int .i64 x10]] (heapOf [(500, .sym l6 false 5)]) (dataK k)
theorem gKR_text (C : Ct) (L : AtLoop) (x0 : Int) (x1 : Int) (x2 : Int) (x3 : Int) (x4 : Int) (x5 : Int) (n6 : Nat) (c6 : Nat) (l6 : List Go.Value) (x7 : Int) (x8 : Int) (x9 : Int) (x10 : Int) (k : List D → Prop) : gKR C L x0 x1 x2 x3 x4 x5 n6 c6 l6 x7 x8 x9 x10 k =
 (((Qv (Sl 500 (n6) (c6))) ∧
 ((Qv (Pt 1000 6)) ∧
 (((Qv (Sl 1006 4 4)) ∧
 (Qv (some (AObj.cells [(vI x2), (vI x1), (vI x3), (vI x4), (vI x7), (vI x8), (vI x9), (vI x10)] 23 false 2)))) ∧
 ((Qv (Value.agg [(vI x9), (vI x10)].toArray)) ∧
 ((Qv (Pt 1000 9)) ∧
 ((Qv (Value.agg [(vI x7), (vI x8)].toArray)) ∧
 ((Qv (Pt 1000 7)) ∧
 ((Qv (Value.agg [(vI x3), (vI x4)].toArray)) ∧
 ((Qv (Pt 1000 3)) ∧
 ((Qv (Value.agg [(vI x2), (vI x1)].toArray)) ∧
 ((Qv (vI x1)) ∧
 ((Qv (Pt 1000 1)) ∧
 ((Qv (vI x2)) ∧
 ((Qv (Pt 1000 2)) ∧
 (((Qv (Sl 1005 2 2)) ∧
 (Qv (some (AObj.cells [(vI x9), (vI x10)] 3 false 1)))) ∧
 ((Qv (vI x10)) ∧
 ((Qv (Pt 1000 10)) ∧
 ((Qv (Pt 1000 9)) ∧
 ((Qv (vI x9)) ∧
 ((Qv (Pt 1000 9)) ∧
 ((Qv (Pt 1000 9)) ∧
 (((Qv (Sl 1004 2 2)) ∧
 (Qv (some (AObj.cells [(vI x7), (vI x8)] 3 false 1)))) ∧
 ((Qv (vI x8)) ∧
 ((Qv (Pt 1000 8)) ∧
 ((Qv (Pt 1000 7)) ∧
 ((Qv (vI x7)) ∧
 ((Qv (Pt 1000 7)) ∧
 ((Qv (Pt 1000 7)) ∧
 (((Qv (Sl 1003 3 3)) ∧
 (Qv (some (AObj.cells [(vI x3), (vI x4), (vI x5)] 3 false 1)))) ∧
 ((Qv (vI x5)) ∧
 ((Qv (Pt 1000 5)) ∧
 ((Qv (vI x4)) ∧
 ((Qv (Pt 1000 4)) ∧
 ((Qv (Pt 1000 3)) ∧
 ((Qv (vI x3)) ∧
 ((Qv (Pt 1000 3)) ∧
 ((Qv (Pt 1000 3)) ∧
 (((Qv (Sl 1002 2 2)) ∧
 (Qv (some (AObj.cells [(vI x1), (vI x2)] 3 false 1)))) ∧
 ((Qv (vI x2)) ∧
 ((Qv (Pt 1000 2)) ∧
 ((Qv (vI x1)) ∧
 ((Qv (Pt 1000 1)) ∧
 (((Qv (Sl 1001 1 1)) ∧
 (Qv (some (AObj.cells [(vI x0)] 3 false 1)))) ∧
 ((Qv (vI x0)) ∧
 ((Qv (Pt 1000 0)) ∧
 True))))))))))))))))))))))))))))))))))))))))))))) ∧
 (∃ n1 : Int,
 ((Says C 43 [(D.val (vI 1)), (D.val (vI 2500)), (D.sl 1 1 [(vI x0)])] [(D.val (vI n1))]) ∧
 (((Qv (Sl 500 (n6) (c6))) ∧
 ((Qv (Pt 1000 6)) ∧
 (((Qv (Sl 1006 4 4)) ∧
 (Qv (some (AObj.cells [(vI x2), (vI x1), (vI x3), (vI x4), (vI x7), (vI x8), (vI x9), (vI x10)] 23 false 2)))) ∧
 ((Qv (Value.agg [(vI x9), (vI x10)].toArray)) ∧
 ((Qv (Pt 1000 9)) ∧
 ((Qv (Value.agg [(vI x7), (vI x8)].toArray)) ∧
 ((Qv (Pt 1000 7)) ∧
 ((Qv (Value.agg [(vI x3), (vI x4)].toArray)) ∧
 ((Qv (Pt 1000 3)) ∧
 ((Qv (Value.agg [(vI x2), (vI x1)].toArray)) ∧
 ((Qv (vI x1)) ∧
 ((Qv (Pt 1000 1)) ∧
 ((Qv (vI x2)) ∧
 ((Qv (Pt 1000 2)) ∧
 (((Qv (Sl 1005 2 2)) ∧
 (Qv (some (AObj.cells [(vI x9), (vI x10)] 3 false 1)))) ∧
 ((Qv (vI x10)) ∧
 ((Qv (Pt 1000 10)) ∧
 ((Qv (Pt 1000 9)) ∧
 ((Qv (vI x9)) ∧
 ((Qv (Pt 1000 9)) ∧
 ((Qv (Pt 1000 9)) ∧
 (((Qv (Sl 1004 2 2)) ∧
 (Qv (some (AObj.cells [(vI x7), (vI x8)] 3 false 1)))) ∧
 ((Qv (vI x8)) ∧
 ((Qv (Pt 1000 8)) ∧
 ((Qv (Pt 1000 7)) ∧
 ((Qv (vI x7)) ∧
 ((Qv (Pt 1000 7)) ∧
 ((Qv (Pt 1000 7)) ∧
 (((Qv (Sl 1003 3 3)) ∧
 (Qv (some (AObj.cells [(vI x3), (vI x4), (vI x5)] 3 false 1)))) ∧
 ((Qv (vI x5)) ∧
 ((Qv (Pt 1000 5)) ∧
 ((Qv (vI x4)) ∧
 ((Qv (Pt 1000 4)) ∧
 ((Qv (Pt 1000 3)) ∧
 ((Qv (vI x3)) ∧
 ((Qv (Pt 1000 3)) ∧
 ((Qv (Pt 1000 3)) ∧
 (((Qv (Sl 1002 2 2)) ∧
 (Qv (some (AObj.cells [(vI x1), (vI x2)] 3 false 1)))) ∧
 ((Qv (vI x2)) ∧
 ((Qv (Pt 1000 2)) ∧
 ((Qv (vI x1)) ∧
 ((Qv (Pt 1000 1)) ∧
 ((Qv (vI x0)) ∧
 ((Qv (Pt 1000 0)) ∧
 True)))))))))))))))))))))))))))))))))))))))))))) ∧
 (∃ n2 : Int,
 ((Says C 43 [(D.val (vI 1)), (D.val (vI 1000)), (D.sl 2 1 [(vI x1), (vI x2)])] [(D.val (vI n2))]) ∧
 (((Qv (Sl 500 (n6) (c6))) ∧
 ((Qv (Pt 1000 6)) ∧
 (((Qv (Sl 1006 4 4)) ∧
 (Qv (some (AObj.cells [(vI x2), (vI x1), (vI x3), (vI x4), (vI x7), (vI x8), (vI x9), (vI x10)] 23 false 2)))) ∧
 ((Qv (Value.agg [(vI x9), (vI x10)].toArray)) ∧
 ((Qv (Pt 1000 9)) ∧
 ((Qv (Value.agg [(vI x7), (vI x8)].toArray)) ∧
 ((Qv (Pt 1000 7)) ∧
 ((Qv (Value.agg [(vI x3), (vI x4)].toArray)) ∧
 ((Qv (Pt 1000 3)) ∧
 ((Qv (Value.agg [(vI x2), (vI x1)].toArray)) ∧
 ((Qv (vI x1)) ∧
 ((Qv (Pt 1000 1)) ∧
 ((Qv (vI x2)) ∧
 ((Qv (Pt 1000 2)) ∧
 (((Qv (Sl 1005 2 2)) ∧
 (Qv (some (AObj.cells [(vI x9), (vI x10)] 3 false 1)))) ∧
 ((Qv (vI x10)) ∧
 ((Qv (Pt 1000 10)) ∧
 ((Qv (Pt 1000 9)) ∧
 ((Qv (vI x9)) ∧
 ((Qv (Pt 1000 9)) ∧
 ((Qv (Pt 1000 9)) ∧
 (((Qv (Sl 1004 2 2)) ∧
 (Qv (some (AObj.cells [(vI x7), (vI x8)] 3 false 1)))) ∧
 ((Qv (vI x8)) ∧
 ((Qv (Pt 1000 8)) ∧
 ((Qv (Pt 1000 7)) ∧
 ((Qv (vI x7)) ∧
 ((Qv (Pt 1000 7)) ∧
 ((Qv (Pt 1000 7)) ∧
 (((Qv (Sl 1003 3 3)) ∧
 (Qv (some (AObj.cells [(vI x3), (vI x4), (vI x5)] 3 false 1)))) ∧
 ((Qv (vI x5)) ∧
 ((Qv (Pt 1000 5)) ∧
 ((Qv (vI x4)) ∧
 ((Qv (Pt 1000 4)) ∧
 ((Qv (Pt 1000 3)) ∧
 ((Qv (vI x3)) ∧
 ((Qv (Pt 1000 3)) ∧
 ((Qv (Pt 1000 3)) ∧
 ((Qv (vI x2)) ∧
 ((Qv (Pt 1000 2)) ∧
 ((Qv (vI x1)) ∧
 ((Qv (Pt 1000 1)) ∧
 ((Qv (vI x0)) ∧
 ((Qv (Pt 1000 0)) ∧
 True))))))))))))))))))))))))))))))))))))))))))) ∧
 (∃ n3 : Int,
 ((Says C 43 [(D.val (vI 0)), (D.val (vI 20000)), (D.sl 3 1 [(vI x3), (vI x4), (vI x5)])] [(D.val (vI n3))]) ∧
 (((Qv (Sl 500 (n6) (c6))) ∧
 ((Qv (Pt 1000 6)) ∧
 (((Qv (Sl 1006 4 4)) ∧
 (Qv (some (AObj.cells [(vI x2), (vI x1), (vI x3), (vI x4), (vI x7), (vI x8), (vI x9), (vI x10)] 23 false 2)))) ∧
 ((Qv (Value.agg [(vI x9), (vI x10)].toArray)) ∧
 ((Qv (Pt 1000 9)) ∧
 ((Qv (Value.agg [(vI x7), (vI x8)].toArray)) ∧
 ((Qv (Pt 1000 7)) ∧
 ((Qv (Value.agg [(vI x3), (vI x4)].toArray)) ∧
 ((Qv (Pt 1000 3)) ∧
 ((Qv (Value.agg [(vI x2), (vI x1)].toArray)) ∧
 ((Qv (vI x1)) ∧
 ((Qv (Pt 1000 1)) ∧
 ((Qv (vI x2)) ∧
 ((Qv (Pt 1000 2)) ∧
 (((Qv (Sl 1005 2 2)) ∧
 (Qv (some (AObj.cells [(vI x9), (vI x10)] 3 false 1)))) ∧
 ((Qv (vI x10)) ∧
 ((Qv (Pt 1000 10)) ∧
 ((Qv (Pt 1000 9)) ∧
 ((Qv (vI x9)) ∧
 ((Qv (Pt 1000 9)) ∧
 ((Qv (Pt 1000 9)) ∧
 (((Qv (Sl 1004 2 2)) ∧
 (Qv (some (AObj.cells [(vI x7), (vI x8)] 3 false 1)))) ∧
 ((Qv (vI x8)) ∧
 ((Qv (Pt 1000 8)) ∧
 ((Qv (Pt 1000 7)) ∧
 ((Qv (vI x7)) ∧
 ((Qv (Pt 1000 7)) ∧
 ((Qv (Pt 1000 7)) ∧
 ((Qv (vI x5)) ∧
 ((Qv (Pt 1000 5)) ∧
 ((Qv (vI x4)) ∧
 ((Qv (Pt 1000 4)) ∧
 ((Qv (Pt 1000 3)) ∧
 ((Qv (vI x3)) ∧
 ((Qv (Pt 1000 3)) ∧
 ((Qv (Pt 1000 3)) ∧
 ((Qv (vI x2)) ∧
 ((Qv (Pt 1000 2)) ∧
 ((Qv (vI x1)) ∧
 ((Qv (Pt 1000 1)) ∧
 ((Qv (vI x0)) ∧
 ((Qv (Pt 1000 0)) ∧
 True)))))))))))))))))))))))))))))))))))))))))) ∧
 (∃ n4 : Int,
 ((Says C 43 [(D.val (vI 1)), (D.val (vI 100)), (D.sl 2 1 [(vI x7), (vI x8)])] [(D.val (vI n4))]) ∧
 (((Qv (Sl 500 (n6) (c6))) ∧
 ((Qv (Pt 1000 6)) ∧
 (((Qv (Sl 1006 4 4)) ∧
 (Qv (some (AObj.cells [(vI x2), (vI x1), (vI x3), (vI x4), (vI x7), (vI x8), (vI x9), (vI x10)] 23 false 2)))) ∧
 ((Qv (Value.agg [(vI x9), (vI x10)].toArray)) ∧
 ((Qv (Pt 1000 9)) ∧
 ((Qv (Value.agg [(vI x7), (vI x8)].toArray)) ∧
 ((Qv (Pt 1000 7)) ∧
 ((Qv (Value.agg [(vI x3), (vI x4)].toArray)) ∧
 ((Qv (Pt 1000 3)) ∧
 ((Qv (Value.agg [(vI x2), (vI x1)].toArray)) ∧
 ((Qv (vI x1)) ∧
 ((Qv (Pt 1000 1)) ∧
 ((Qv (vI x2)) ∧
 ((Qv (Pt 1000 2)) ∧
 (((Qv (Sl 1005 2 2)) ∧
 (Qv (some (AObj.cells [(vI x9), (vI x10)] 3 false 1)))) ∧
 ((Qv (vI x10)) ∧
 ((Qv (Pt 1000 10)) ∧
 ((Qv (Pt 1000 9)) ∧
 ((Qv (vI x9)) ∧
 ((Qv (Pt 1000 9)) ∧
 ((Qv (Pt 1000 9)) ∧
 ((Qv (vI x8)) ∧
 ((Qv (Pt 1000 8)) ∧
 ((Qv (Pt 1000 7)) ∧
 ((Qv (vI x7)) ∧
 ((Qv (Pt 1000 7)) ∧
 ((Qv (Pt 1000 7)) ∧
 ((Qv (vI x5)) ∧
 ((Qv (Pt 1000 5)) ∧
 ((Qv (vI x4)) ∧
 ((Qv (Pt 1000 4)) ∧
 ((Qv (Pt 1000 3)) ∧
 ((Qv (vI x3)) ∧
 ((Qv (Pt 1000 3)) ∧
 ((Qv (Pt 1000 3)) ∧
 ((Qv (vI x2)) ∧
 ((Qv (Pt 1000 2)) ∧
 ((Qv (vI x1)) ∧
 ((Qv (Pt 1000 1)) ∧
 ((Qv (vI x0)) ∧
 ((Qv (Pt 1000 0)) ∧
 True))))))))))))))))))))))))))))))))))))))))) ∧
 (∃ n5 : Int,
 ((Says C 43 [(D.val (vI 0)), (D.val (vI 100)), (D.sl 2 1 [(vI x9), (vI x10)])] [(D.val (vI n5))]) ∧
 (((Qv (Sl 500 (n6) (c6))) ∧
 ((Qv (Pt 1000 6)) ∧
 (((Qv (Sl 1006 4 4)) ∧
 (Qv (some (AObj.cells [(vI x2), (vI x1), (vI x3), (vI x4), (vI x7), (vI x8), (vI x9), (vI x10)] 23 false 2)))) ∧
 ((Qv (Value.agg [(vI x9), (vI x10)].toArray)) ∧
 ((Qv (Pt 1000 9)) ∧
 ((Qv (Value.agg [(vI x7), (vI x8)].toArray)) ∧
 ((Qv (Pt 1000 7)) ∧
 ((Qv (Value.agg [(vI x3), (vI x4)].toArray)) ∧
 ((Qv (Pt 1000 3)) ∧
 ((Qv (Value.agg [(vI x2), (vI x1)].toArray)) ∧
 ((Qv (vI x1)) ∧
 ((Qv (Pt 1000 1)) ∧
 ((Qv (vI x2)) ∧
 ((Qv (Pt 1000 2)) ∧
 ((Qv (vI x10)) ∧
 ((Qv (Pt 1000 10)) ∧
 ((Qv (Pt 1000 9)) ∧
 ((Qv (vI x9)) ∧
 ((Qv (Pt 1000 9)) ∧
 ((Qv (Pt 1000 9)) ∧
 ((Qv (vI x8)) ∧
 ((Qv (Pt 1000 8)) ∧
 ((Qv (Pt 1000 7)) ∧
 ((Qv (vI x7)) ∧
 ((Qv (Pt 1000 7)) ∧
 ((Qv (Pt 1000 7)) ∧
 ((Qv (vI x5)) ∧
 ((Qv (Pt 1000 5)) ∧
 ((Qv (vI x4)) ∧
 ((Qv (Pt 1000 4)) ∧
 ((Qv (Pt 1000 3)) ∧
 ((Qv (vI x3)) ∧
 ((Qv (Pt 1000 3)) ∧
 ((Qv (Pt 1000 3)) ∧
 ((Qv (vI x2)) ∧
 ((Qv (Pt 1000 2)) ∧
 ((Qv (vI x1)) ∧
 ((Qv (Pt 1000 1)) ∧
 ((Qv (vI x0)) ∧
 ((Qv (Pt 1000 0)) ∧
 True)))))))))))))))))))))))))))))))))))))))) ∧
 (∃ n7 : Int,
 ((Says C 44 [(D.sl 4 2 [(vI x2), (vI x1), (vI x3), (vI x4), (vI x7), (vI x8), (vI x9), (vI x10)])] [(D.val (vI n7))]) ∧
 (((Qv (Sl 500 (n6) (c6))) ∧
 ((Qv (Pt 1000 6)) ∧
 ((Qv (Value.agg [(vI x9), (vI x10)].toArray)) ∧
 ((Qv (Pt 1000 9)) ∧
 ((Qv (Value.agg [(vI x7), (vI x8)].toArray)) ∧
 ((Qv (Pt 1000 7)) ∧
 ((Qv (Value.agg [(vI x3), (vI x4)].toArray)) ∧
 ((Qv (Pt 1000 3)) ∧
 ((Qv (Value.agg [(vI x2), (vI x1)].toArray)) ∧
 ((Qv (vI x1)) ∧
 ((Qv (Pt 1000 1)) ∧
 ((Qv (vI x2)) ∧
 ((Qv (Pt 1000 2)) ∧
 ((Qv (vI x10)) ∧
 ((Qv (Pt 1000 10)) ∧
 ((Qv (Pt 1000 9)) ∧
 ((Qv (vI x9)) ∧
 ((Qv (Pt 1000 9)) ∧
 ((Qv (Pt 1000 9)) ∧
 ((Qv (vI x8)) ∧
 ((Qv (Pt 1000 8)) ∧
 ((Qv (Pt 1000 7)) ∧
 ((Qv (vI x7)) ∧
 ((Qv (Pt 1000 7)) ∧
 ((Qv (Pt 1000 7)) ∧
 ((Qv (vI x5)) ∧
 ((Qv (Pt 1000 5)) ∧
 ((Qv (vI x4)) ∧
 ((Qv (Pt 1000 4)) ∧
 ((Qv (Pt 1000 3)) ∧
 ((Qv (vI x3)) ∧
 ((Qv (Pt 1000 3)) ∧
 ((Qv (Pt 1000 3)) ∧
 ((Qv (vI x2)) ∧
 ((Qv (Pt 1000 2)) ∧
 ((Qv (vI x1)) ∧
 ((Qv (Pt 1000 1)) ∧
 ((Qv (vI x0)) ∧
 ((Qv (Pt 1000 0)) ∧
 True))))))))))))))))))))))))))))))))))))))) ∧
 (bcase (decide (0 + n6 * 5 ≤ List.length l6))
 (∃ n8 : Int,
 ((Says C 45 [(D.sl (n6) 5 (List.take (n6 * 5) (List.drop 0 l6)))] [(D.val (vI n8))]) ∧
 ((((Qv (Sl 1007 7 7)) ∧
 (Qv (some (AObj.cells [(vI n1), (vI n2), (vI n3), (vI n4), (vI n5), (vI n7), (vI n8)] 32 false 1)))) ∧
 ((Qv (Pt 1000 6)) ∧
 ((Qv (Value.agg [(vI x9), (vI x10)].toArray)) ∧
 ((Qv (Pt 1000 9)) ∧
 ((Qv (Value.agg [(vI x7), (vI x8)].toArray)) ∧
 ((Qv (Pt 1000 7)) ∧
 ((Qv (Value.agg [(vI x3), (vI x4)].toArray)) ∧
 ((Qv (Pt 1000 3)) ∧
 ((Qv (Value.agg [(vI x2), (vI x1)].toArray)) ∧
 ((Qv (vI x1)) ∧
 ((Qv (Pt 1000 1)) ∧
 ((Qv (vI x2)) ∧
 ((Qv (Pt 1000 2)) ∧
 ((Qv (vI x10)) ∧
 ((Qv (Pt 1000 10)) ∧
 ((Qv (Pt 1000 9)) ∧
 ((Qv (vI x9)) ∧
 ((Qv (Pt 1000 9)) ∧
 ((Qv (Pt 1000 9)) ∧
 ((Qv (vI x8)) ∧
 ((Qv (Pt 1000 8)) ∧
 ((Qv (Pt 1000 7)) ∧
 ((Qv (vI x7)) ∧
 ((Qv (Pt 1000 7)) ∧
 ((Qv (Pt 1000 7)) ∧
 ((Qv (vI x5)) ∧
 ((Qv (Pt 1000 5)) ∧
 ((Qv (vI x4)) ∧
 ((Qv (Pt 1000 4)) ∧
 ((Qv (Pt 1000 3)) ∧
 ((Qv (vI x3)) ∧
 ((Qv (Pt 1000 3)) ∧
 ((Qv (Pt 1000 3)) ∧
 ((Qv (vI x2)) ∧
 ((Qv (Pt 1000 2)) ∧
 ((Qv (vI x1)) ∧
 ((Qv (Pt 1000 1)) ∧
 ((Qv (vI x0)) ∧
 ((Qv (Pt 1000 0)) ∧
 True))))))))))))))))))))))))))))))))))))))) ∧
 (∃ n9 : Int,
 ((Says C 42 [(D.sl 7 1 [(vI n1), (vI n2), (vI n3), (vI n4), (vI n5), (vI n7), (vI n8)])] [(D.val (vI n9))]) ∧
 (((Qv (Pt 1000 6)) ∧
 ((Qv (Value.agg [(vI x9), (vI x10)].toArray)) ∧
 ((Qv (Pt 1000 9)) ∧
 ((Qv (Value.agg [(vI x7), (vI x8)].toArray)) ∧
 ((Qv (Pt 1000 7)) ∧
 ((Qv (Value.agg [(vI x3), (vI x4)].toArray)) ∧
 ((Qv (Pt 1000 3)) ∧
 ((Qv (Value.agg [(vI x2), (vI x1)].toArray)) ∧
 ((Qv (vI x1)) ∧
 ((Qv (Pt 1000 1)) ∧
 ((Qv (vI x2)) ∧
 ((Qv (Pt 1000 2)) ∧
 ((Qv (vI x10)) ∧
 ((Qv (Pt 1000 10)) ∧
 ((Qv (Pt 1000 9)) ∧
 ((Qv (vI x9)) ∧
 ((Qv (Pt 1000 9)) ∧
 ((Qv (Pt 1000 9)) ∧
 ((Qv (vI x8)) ∧
 ((Qv (Pt 1000 8)) ∧
 ((Qv (Pt 1000 7)) ∧
 ((Qv (vI x7)) ∧
 ((Qv (Pt 1000 7)) ∧
 ((Qv (Pt 1000 7)) ∧
 ((Qv (vI x5)) ∧
 ((Qv (Pt 1000 5)) ∧
 ((Qv (vI x4)) ∧
 ((Qv (Pt 1000 4)) ∧
 ((Qv (Pt 1000 3)) ∧
 ((Qv (vI x3)) ∧
 ((Qv (Pt 1000 3)) ∧
 ((Qv (Pt 1000 3)) ∧
 ((Qv (vI x2)) ∧
 ((Qv (Pt 1000 2)) ∧
 ((Qv (vI x1)) ∧
 ((Qv (Pt 1000 1)) ∧
 ((Qv (vI x0)) ∧
 ((Qv (Pt 1000 0)) ∧
 True)))))))))))))))))))))))))))))))))))))) ∧
 (True ∧
 (bcase (n9 != 0)
 (k [(D.val (vI 0)), (D.val (vI n9))])
 (L 0 [(Prod.mk 66 (Sl 500 (n6) (c6))), (Prod.mk 67 (vI ((↑n6 : Int)))), (Prod.mk 68 (vI 0))] [(Prod.mk 500 (AObj.sym (l6) false 5))])))))))))
 False)))))))))))))))))))) := by kernel_rfl
abbrev zKR1 (n0 : Nat) (c1 : Nat) (x2 : Int) (x3 : Int) (l4 : List Value) : Slots × Blocks := ([(66, (Value.slice (some ⟨500, 0, none⟩) n0 c1)), (67, (Value.int .i64 x2)), (68, (Value.int .i64 x3))], [(500, (AObj.sym l4 false 5))])
def rKR1 (C : Ct) (L : AtLoop) (n0 : Nat) (c1 : Nat) (x2 : Int) (x3 : Int) (l4 : List Value) (B : Bx) (X : Xx) (k : List D → Prop) : Prop := wpRound Try.prog (hP C) L 8 0 [(66, (Value.slice (some ⟨500, 0, none⟩) n0 c1)), (67, (Value.int .i64 x2)), (68, (Value.int .i64 x3))] [(500, (AObj.sym l4 false 5))] B X (dataK k)
theorem rKR1_text (C : Ct) (L : AtLoop) (n0 : Nat) (c1 : Nat) (x2 : Int) (x3 : Int) (l4 : List Go.Value) (B : Bx) (X : Xx) (k : List D → Prop) : rKR1 C L n0 c1 x2 x3 l4 B X k =
 (bcase (decide (x3 < x2))
 (bcase (decide (0 ≤ x3))
 (bcase (decide (x3 < (↑n0 : Int)))
 (∃ n1 : Int,
 (∃ n2 : Int,
 (∃ n3 : Int,
 (∃ n4 : Int,
 (∃ n5 : Int,
 ((At (l4) (0 + Int.toNat x3 * 5) 5 [(vI n1), (vI n2), (vI n3), (vI n4), (vI n5)]) ∧
 (∃ n6 : Int,
 ((Says C 46 [(D.agg [(D.val (vI n1)), (D.val (vI n2)), (D.val (vI n3)), (D.val (vI n4)), (D.val (vI n5))])] [(D.val (vI n6))]) ∧
 (bcase (n6 != 0)
 (k [(D.val (vI x3)), (D.val (vI n6))])
 (B [(Prod.mk 66 (Sl 500 (n0) (c1))), (Prod.mk 67 (vI x2)), (Prod.mk 68 (vI (IntKind.wrap .i64 (x3 + 1))))] [(Prod.mk 500 (AObj.sym (l4) false 5))]))))))))))
 False)
 False)
 (X 0 [] [])) := by kernel_rfl
def nKR2 (C : Ct) (L : AtLoop) (k : List D → Prop) : Prop := wpNext Try.prog (hP C) L 8 0 .normal [] [] (dataK k)
theorem nKR2_text (C : Ct) (L : AtLoop) (k : List D → Prop) : nKR2 C L k =
 (k [(D.val (vI 0)), (D.val (vI 0))]) := by kernel_rfl
def giL (C : Ct) (L : AtLoop) (x0 : Int) (k : List D → Prop) : Prop := wpFn Try.prog (hP C) L 0 81 #[.int .u8 x0] (heapOf []) (dataK k)
theorem giL_text (C : Ct) (L : AtLoop) (x0 : Int) (k : List D → Prop) : giL C L x0 k =
 (bcase (decide (97 ≤ x0))
 (bcase (decide (x0 ≤ 122))
 (k [(D.val (Value.bool true))])
 (bcase (decide (65 ≤ x0))
 (bcase (decide (x0 ≤ 90))
 (k [(D.val (Value.bool true))])
 (k [(D.val (Value.bool false))]))
 (k [(D.val (Value.bool false))])))
 (bcase (decide (65 ≤ x0))
 (bcase (decide (x0 ≤ 90))
 (k [(D.val (Value.bool true))])
 (k [(D.val (Value.bool false))]))
 (k [(D.val (Value.bool false))]))) := by kernel_rfl
def giD (C : Ct) (L : AtLoop) (x0 : Int) (k : List D → Prop) : Prop := wpFn Try.prog (hP C) L 0 82 #[.int .u8 x0] (heapOf []) (dataK k)
theorem giD_text (C : Ct) (L : AtLoop) (x0 : Int) (k : List D → Prop) : giD C L x0 k =
 (bcase (decide (48 ≤ x0))
 (bcase (decide (x0 ≤ 57))
 (k [(D.val (Value.bool true))])
 (k [(D.val (Value.bool false))]))
 (k [(D.val (Value.bool false))])) := by kernel_rfl
def giN (C : Ct) (L : AtLoop) (s0 : ByteArray) (k : List D → Prop) : Prop := wpFn Try.prog (hP C) L 0 47 #[.string s0] (heapOf []) (dataK k)
theorem giN_text (C : Ct) (L : AtLoop) (s0 : ByteArray) (k : List D → Prop) : giN C L s0 k =
 (bcase ((↑(ByteArray.size s0) : Int) == 0)
 (k [(D.val (Value.bool false))])
 (bcase (decide ((↑(ByteArray.size s0) : Int) > 12))
 (k [(D.val (Value.bool false))])
 (∃ b1 : UInt8,
 ((ByteAt (s0) 0 (b1)) ∧
 (((Says C 81 [(D.val (Value.int IntKind.u8 ((↑(UInt8.toNat b1) : Int))))] [(D.val (Value.bool true))]) ∧
 (L 0 [(Prod.mk 0 (Value.string (s0))), (Prod.mk 19 (vI ((↑(ByteArray.size s0) : Int)))), (Prod.mk 20 (vI 0))] [])) ∨
 ((Says C 81 [(D.val (Value.int IntKind.u8 ((↑(UInt8.toNat b1) : Int))))] [(D.val (Value.bool false))]) ∧
 (k [(D.val (Value.bool false))]))))))) := by kernel_rfl
abbrev ziN1 (s0 : ByteArray) (x1 : Int) (x2 : Int) : Slots × Blocks := ([(0, (Value.string s0)), (19, (Value.int .i64 x1)), (20, (Value.int .i64 x2))], [])
def riN1 (C : Ct) (L : AtLoop) (s0 : ByteArray) (x1 : Int) (x2 : Int) (B : Bx) (X : Xx) (k : List D → Prop) : Prop := wpRound Try.prog (hP C) L 47 0 [(0, (Value.string s0)), (19, (Value.int .i64 x1)), (20, (Value.int .i64 x2))] [] B X (dataK k)
theorem riN1_text (C : Ct) (L : AtLoop) (s0 : ByteArray) (x1 : Int) (x2 : Int) (B : Bx) (X : Xx) (k : List D → Prop) : riN1 C L s0 x1 x2 B X k =
 (bcase (decide (x2 < x1))
 (bcase (decide (0 ≤ x2))
 (∃ b1 : UInt8,
 ((ByteAt (s0) (Int.toNat x2) (b1)) ∧
 (((Says C 81 [(D.val (Value.int IntKind.u8 ((↑(UInt8.toNat b1) : Int))))] [(D.val (Value.bool true))]) ∧
 (B [(Prod.mk 0 (Value.string (s0))), (Prod.mk 19 (vI x1)), (Prod.mk 20 (vI (IntKind.wrap .i64 (x2 + 1))))] [])) ∨
 ((Says C 81 [(D.val (Value.int IntKind.u8 ((↑(UInt8.toNat b1) : Int))))] [(D.val (Value.bool false))]) ∧
 (bcase (decide (0 ≤ x2))
 (∃ b2 : UInt8,
 ((ByteAt (s0) (Int.toNat x2) (b2)) ∧
 (((Says C 82 [(D.val (Value.int IntKind.u8 ((↑(UInt8.toNat b2) : Int))))] [(D.val (Value.bool true))]) ∧
 (B [(Prod.mk 0 (Value.string (s0))), (Prod.mk 19 (vI x1)), (Prod.mk 20 (vI (IntKind.wrap .i64 (x2 + 1))))] [])) ∨
 ((Says C 82 [(D.val (Value.int IntKind.u8 ((↑(UInt8.toNat b2) : Int))))] [(D.val (Value.bool false))]) ∧
 (bcase (decide (0 ≤ x2))
 (∃ b3 : UInt8,
 ((ByteAt (s0) (Int.toNat x2) (b3)) ∧
 (bcase ((↑(UInt8.toNat b3) : Int) != 45)
 (k [(D.val (Value.bool false))])
 (B [(Prod.mk 0 (Value.string (s0))), (Prod.mk 19 (vI x1)), (Prod.mk 20 (vI (IntKind.wrap .i64 (x2 + 1))))] []))))
 False)))))
 False)))))
 False)
 (X 0 [] [])) := by kernel_rfl
def niN2 (C : Ct) (L : AtLoop) (k : List D → Prop) : Prop := wpNext Try.prog (hP C) L 47 0 .normal [] [] (dataK k)
theorem niN2_text (C : Ct) (L : AtLoop) (k : List D → Prop) : niN2 C L k =
 (k [(D.val (Value.bool true))]) := by kernel_rfl
def gKS (C : Ct) (L : AtLoop) (x0 : Int) (x1 : Int) (x2 : Int) (x3 : Int) (x4 : Int) (x5 : Int) (n6 : Nat) (c6 : Nat) (l6 : List Value) (x7 : Int) (x8 : Int) (x9 : Int) (x10 : Int) (s11 : ByteArray) (n12 : Nat) (c12 : Nat) (l12 : List Value) (k : List D → Prop) : Prop := wpFn Try.prog (hP C) L 0 10 #[.agg #[.int .i64 x0, .int .i64 x1, .int .i64 x2, .int .i64 x3, .int .i64 x4, .int .i64 x5, .slice (some ⟨500, 0, none⟩) n6 c6, .int .i64 x7, .int .i64 x8, .int .i64 x9, .int .i64 x10], .agg #[.string s11, .slice (some ⟨501, 0, none⟩) n12 c12]] (heapOf [(500, .sym l6 false 5), (501, .sym l12 false 1)]) (dataK k)
theorem gKS_text (C : Ct) (L : AtLoop) (x0 : Int) (x1 : Int) (x2 : Int) (x3 : Int) (x4 : Int) (x5 : Int) (n6 : Nat) (c6 : Nat) (l6 : List Go.Value) (x7 : Int) (x8 : Int) (x9 : Int) (x10 : Int) (s11 : ByteArray) (n12 : Nat) (c12 : Nat) (l12 : List Go.Value) (k : List D → Prop) : gKS C L x0 x1 x2 x3 x4 x5 n6 c6 l6 x7 x8 x9 x10 s11 n12 c12 l12 k =
 (bcase (decide (0 + n6 * 5 ≤ List.length l6))
 (∃ n1 : Int,
 (∃ n2 : Int,
 ((Says C 8 [(D.agg [(D.val (vI x0)), (D.val (vI x1)), (D.val (vI x2)), (D.val (vI x3)), (D.val (vI x4)), (D.val (vI x5)), (D.sl (n6) 5 (List.take (n6 * 5) (List.drop 0 l6))), (D.val (vI x7)), (D.val (vI x8)), (D.val (vI x9)), (D.val (vI x10))])] [(D.val (vI n1)), (D.val (vI n2))]) ∧
 (bcase (n2 != 0)
 (k [(D.val (vI 0)), (D.val (vI n2))])
 (((Says C 47 [(D.val (Value.string (s11)))] [(D.val (Value.bool true))]) ∧
 (bcase ((↑n12 : Int) != (↑n6 : Int))
 (k [(D.val (vI 0)), (D.val (vI 10))])
 (L 1 [(Prod.mk 2 (Pt 1000 0)), (Prod.mk 8 (vI x1)), (Prod.mk 36 (Sl 501 (n12) (c12))), (Prod.mk 37 (vI ((↑n12 : Int)))), (Prod.mk 38 (vI 0))] [(Prod.mk 1000 (AObj.cells [(vI x0), (vI x1), (vI x2), (vI x3), (vI x4), (vI x5), (Sl 500 (n6) (c6)), (vI x7), (vI x8), (vI x9), (vI x10)] 26 false 1)), (Prod.mk 501 (AObj.sym (l12) false 1)), (Prod.mk 500 (AObj.sym (l6) false 5))]))) ∨
 ((Says C 47 [(D.val (Value.string (s11)))] [(D.val (Value.bool false))]) ∧
 (k [(D.val (vI 0)), (D.val (vI 4))])))))))
 False) := by kernel_rfl
abbrev zKS1 (x0 : Int) (n1 : Nat) (c2 : Nat) (x3 : Int) (x4 : Int) (x5 : Int) (x6 : Int) (x7 : Int) (x8 : Int) (x9 : Int) (x10 : Int) (n11 : Nat) (c12 : Nat) (x13 : Int) (x14 : Int) (x15 : Int) (x16 : Int) (l17 : List Value) (l18 : List Value) : Slots × Blocks := ([(2, (Value.pointer (some ⟨1000, 0, none⟩))), (8, (Value.int .i64 x0)), (36, (Value.slice (some ⟨501, 0, none⟩) n1 c2)), (37, (Value.int .i64 x3)), (38, (Value.int .i64 x4))], [(1000, (AObj.cells [(Value.int .i64 x5), (Value.int .i64 x6), (Value.int .i64 x7), (Value.int .i64 x8), (Value.int .i64 x9), (Value.int .i64 x10), (Value.slice (some ⟨500, 0, none⟩) n11 c12), (Value.int .i64 x13), (Value.int .i64 x14), (Value.int .i64 x15), (Value.int .i64 x16)] 26 false 1)), (501, (AObj.sym l17 false 1)), (500, (AObj.sym l18 false 5))])
def rKS1 (C : Ct) (L : AtLoop) (x0 : Int) (n1 : Nat) (c2 : Nat) (x3 : Int) (x4 : Int) (x5 : Int) (x6 : Int) (x7 : Int) (x8 : Int) (x9 : Int) (x10 : Int) (n11 : Nat) (c12 : Nat) (x13 : Int) (x14 : Int) (x15 : Int) (x16 : Int) (l17 : List Value) (l18 : List Value) (B : Bx) (X : Xx) (k : List D → Prop) : Prop := wpRound Try.prog (hP C) L 10 1 [(2, (Value.pointer (some ⟨1000, 0, none⟩))), (8, (Value.int .i64 x0)), (36, (Value.slice (some ⟨501, 0, none⟩) n1 c2)), (37, (Value.int .i64 x3)), (38, (Value.int .i64 x4))] [(1000, (AObj.cells [(Value.int .i64 x5), (Value.int .i64 x6), (Value.int .i64 x7), (Value.int .i64 x8), (Value.int .i64 x9), (Value.int .i64 x10), (Value.slice (some ⟨500, 0, none⟩) n11 c12), (Value.int .i64 x13), (Value.int .i64 x14), (Value.int .i64 x15), (Value.int .i64 x16)] 26 false 1)), (501, (AObj.sym l17 false 1)), (500, (AObj.sym l18 false 5))] B X (dataK k)
theorem rKS1_text (C : Ct) (L : AtLoop) (x0 : Int) (n1 : Nat) (c2 : Nat) (x3 : Int) (x4 : Int) (x5 : Int) (x6 : Int) (x7 : Int) (x8 : Int) (x9 : Int) (x10 : Int) (n11 : Nat) (c12 : Nat) (x13 : Int) (x14 : Int) (x15 : Int) (x16 : Int) (l17 : List Go.Value) (l18 : List Go.Value) (B : Bx) (X : Xx) (k : List D → Prop) : rKS1 C L x0 n1 c2 x3 x4 x5 x6 x7 x8 x9 x10 n11 c12 x13 x14 x15 x16 l17 l18 B X k =
 (bcase (decide (x4 < x3))
 (bcase (decide (0 ≤ x4))
 (bcase (decide (x4 < (↑n1 : Int)))
 (∃ n2 : Int,
 ((At (l17) (0 + Int.toNat x4 * 1) 1 [(vI n2)]) ∧
 (∃ n3 : Int,
 ((Says C 48 [(D.val (vI n2))] [(D.val (vI n3))]) ∧
 (bcase (n3 != 0)
 (k [(D.val (vI x4)), (D.val (vI n3))])
 (bcase (decide (n2 > x0))
 (k [(D.val (vI x4)), (D.val (vI 9))])
 (B [(Prod.mk 2 (Pt 1000 0)), (Prod.mk 8 (vI n2)), (Prod.mk 36 (Sl 501 (n1) (c2))), (Prod.mk 37 (vI x3)), (Prod.mk 38 (vI (IntKind.wrap .i64 (x4 + 1))))] [(Prod.mk 1000 (AObj.cells [(vI x5), (vI x6), (vI x7), (vI x8), (vI x9), (vI x10), (Sl 500 (n11) (c12)), (vI x13), (vI x14), (vI x15), (vI x16)] 26 false 1)), (Prod.mk 501 (AObj.sym (l17) false 1)), (Prod.mk 500 (AObj.sym (l18) false 5))])))))))
 False)
 False)
 (X 1 [(Prod.mk 2 (Pt 1000 0)), (Prod.mk 8 (vI x0))] [(Prod.mk 1000 (AObj.cells [(vI x5), (vI x6), (vI x7), (vI x8), (vI x9), (vI x10), (Sl 500 (n11) (c12)), (vI x13), (vI x14), (vI x15), (vI x16)] 26 false 1)), (Prod.mk 500 (AObj.sym (l18) false 5))])) := by kernel_rfl
def nKS2 (C : Ct) (L : AtLoop) (x0 : Int) (x1 : Int) (x2 : Int) (x3 : Int) (x4 : Int) (x5 : Int) (x6 : Int) (n7 : Nat) (c8 : Nat) (x9 : Int) (x10 : Int) (x11 : Int) (x12 : Int) (l13 : List Value) (k : List D → Prop) : Prop := wpNext Try.prog (hP C) L 10 1 .normal [(2, (Value.pointer (some ⟨1000, 0, none⟩))), (8, (Value.int .i64 x0))] [(1000, (AObj.cells [(Value.int .i64 x1), (Value.int .i64 x2), (Value.int .i64 x3), (Value.int .i64 x4), (Value.int .i64 x5), (Value.int .i64 x6), (Value.slice (some ⟨500, 0, none⟩) n7 c8), (Value.int .i64 x9), (Value.int .i64 x10), (Value.int .i64 x11), (Value.int .i64 x12)] 26 false 1)), (500, (AObj.sym l13 false 5))] (dataK k)
theorem nKS2_text (C : Ct) (L : AtLoop) (x0 : Int) (x1 : Int) (x2 : Int) (x3 : Int) (x4 : Int) (x5 : Int) (x6 : Int) (n7 : Nat) (c8 : Nat) (x9 : Int) (x10 : Int) (x11 : Int) (x12 : Int) (l13 : List Go.Value) (k : List D → Prop) : nKS2 C L x0 x1 x2 x3 x4 x5 x6 n7 c8 x9 x10 x11 x12 l13 k =
 (bcase (x0 != x3)
 (k [(D.val (vI (IntKind.wrap .i64 ((↑n7 : Int) - 1)))), (D.val (vI 14))])
 (k [(D.val (vI 0)), (D.val (vI 0))])) := by kernel_rfl
def gKM (C : Ct) (L : AtLoop) (x0 : Int) (x1 : Int) (x2 : Int) (x3 : Int) (x4 : Int) (x5 : Int) (n6 : Nat) (c6 : Nat) (l6 : List Value) (x7 : Int) (x8 : Int) (x9 : Int) (x10 : Int) (x11 : Int) (x12 : Int) (x13 : Int) (n14 : Nat) (c14 : Nat) (l14 : List Value) (k : List D → Prop) : Prop := wpFn Try.prog (hP C) L 0 20 #[.agg #[.int .i64 x0, .int .i64 x1, .int .i64 x2, .int .i64 x3, .int .i64 x4, .int .i64 x5, .slice (some ⟨500, 0, none⟩) n6 c6, .int .i64 x7, .int .i64 x8, .int .i64 x9, .int .i64 x10], .agg #[.int .i64 x11, .int .i64 x12, .int .i64 x13, .slice (some ⟨501, 0, none⟩) n14 c14]] (heapOf [(500, .sym l6 false 5), (501, .sym l14 false 1)]) (dataK k)
theorem gKM_text (C : Ct) (L : AtLoop) (x0 : Int) (x1 : Int) (x2 : Int) (x3 : Int) (x4 : Int) (x5 : Int) (n6 : Nat) (c6 : Nat) (l6 : List Go.Value) (x7 : Int) (x8 : Int) (x9 : Int) (x10 : Int) (x11 : Int) (x12 : Int) (x13 : Int) (n14 : Nat) (c14 : Nat) (l14 : List Go.Value) (k : List D → Prop) : gKM C L x0 x1 x2 x3 x4 x5 n6 c6 l6 x7 x8 x9 x10 x11 x12 x13 n14 c14 l14 k =
 (bcase (decide (0 + n6 * 5 ≤ List.length l6))
 (∃ n1 : Int,
 (∃ n2 : Int,
 ((Says C 8 [(D.agg [(D.val (vI x0)), (D.val (vI x1)), (D.val (vI x2)), (D.val (vI x3)), (D.val (vI x4)), (D.val (vI x5)), (D.sl (n6) 5 (List.take (n6 * 5) (List.drop 0 l6))), (D.val (vI x7)), (D.val (vI x8)), (D.val (vI x9)), (D.val (vI x10))])] [(D.val (vI n1)), (D.val (vI n2))]) ∧
 (bcase (n2 != 0)
 (k [(D.val (vI 0)), (D.val (vI n2))])
 (((Qv (vI x13)) ∧
 ((Qv (Pt 1001 2)) ∧
 ((Qv (Value.agg [(vI x3), (vI x4)].toArray)) ∧
 ((Qv (Pt 1000 3)) ∧
 ((Qv (vI x12)) ∧
 ((Qv (Pt 1001 1)) ∧
 ((Qv (Value.agg [(vI x9), (vI x10)].toArray)) ∧
 ((Qv (Pt 1000 9)) ∧
 ((Qv (vI x11)) ∧
 ((Qv (Pt 1001 0)) ∧
 ((Qv (Value.agg [(vI x7), (vI x8)].toArray)) ∧
 ((Qv (Pt 1000 7)) ∧
 True)))))))))))) ∧
 (∃ n3 : Int,
 ((Says C 60 [(D.agg [(D.val (vI x7)), (D.val (vI x8))]), (D.val (vI x11))] [(D.val (vI n3))]) ∧
 (((Qv (vI x13)) ∧
 ((Qv (Pt 1001 2)) ∧
 ((Qv (Value.agg [(vI x3), (vI x4)].toArray)) ∧
 ((Qv (Pt 1000 3)) ∧
 ((Qv (vI x12)) ∧
 ((Qv (Pt 1001 1)) ∧
 ((Qv (Value.agg [(vI x9), (vI x10)].toArray)) ∧
 ((Qv (Pt 1000 9)) ∧
 ((Qv (Pt 1001 0)) ∧
 ((Qv (Pt 1000 7)) ∧
 True)))))))))) ∧
 (∃ n4 : Int,
 ((Says C 60 [(D.agg [(D.val (vI x9)), (D.val (vI x10))]), (D.val (vI x12))] [(D.val (vI n4))]) ∧
 (((Qv (vI x13)) ∧
 ((Qv (Pt 1001 2)) ∧
 ((Qv (Value.agg [(vI x3), (vI x4)].toArray)) ∧
 ((Qv (Pt 1000 3)) ∧
 ((Qv (Pt 1001 1)) ∧
 ((Qv (Pt 1000 9)) ∧
 ((Qv (Pt 1001 0)) ∧
 ((Qv (Pt 1000 7)) ∧
 True)))))))) ∧
 (∃ n5 : Int,
 ((Says C 60 [(D.agg [(D.val (vI x3)), (D.val (vI x4))]), (D.val (vI x13))] [(D.val (vI n5))]) ∧
 ((((Qv (Sl 1002 3 3)) ∧
 (Qv (some (AObj.cells [(vI n3), (vI n4), (vI n5)] 32 false 1)))) ∧
 ((Qv (Pt 1001 2)) ∧
 ((Qv (Pt 1000 3)) ∧
 ((Qv (Pt 1001 1)) ∧
 ((Qv (Pt 1000 9)) ∧
 ((Qv (Pt 1001 0)) ∧
 ((Qv (Pt 1000 7)) ∧
 True))))))) ∧
 (∃ n7 : Int,
 ((Says C 42 [(D.sl 3 1 [(vI n3), (vI n4), (vI n5)])] [(D.val (vI n7))]) ∧
 (((Qv (Pt 1001 2)) ∧
 ((Qv (Pt 1000 3)) ∧
 ((Qv (Pt 1001 1)) ∧
 ((Qv (Pt 1000 9)) ∧
 ((Qv (Pt 1001 0)) ∧
 ((Qv (Pt 1000 7)) ∧
 True)))))) ∧
 (True ∧
 (bcase (n7 != 0)
 (k [(D.val (vI 0)), (D.val (vI n7))])
 (bcase ((↑n14 : Int) != (↑n6 : Int))
 (k [(D.val (vI 0)), (D.val (vI 10))])
 (L 0 [(Prod.mk 2 (Pt 1000 0)), (Prod.mk 48 (Sl 501 (n14) (c14))), (Prod.mk 49 (vI ((↑n14 : Int)))), (Prod.mk 50 (vI 0))] [(Prod.mk 1000 (AObj.cells [(vI x0), (vI x1), (vI x2), (vI x3), (vI x4), (vI x5), (Sl 500 (n6) (c6)), (vI x7), (vI x8), (vI x9), (vI x10)] 26 false 1)), (Prod.mk 501 (AObj.sym (l14) false 1)), (Prod.mk 500 (AObj.sym (l6) false 5))])))))))))))))))))))))
 False) := by kernel_rfl
abbrev zKM1 (n0 : Nat) (c1 : Nat) (x2 : Int) (x3 : Int) (x4 : Int) (x5 : Int) (x6 : Int) (x7 : Int) (x8 : Int) (x9 : Int) (n10 : Nat) (c11 : Nat) (x12 : Int) (x13 : Int) (x14 : Int) (x15 : Int) (l16 : List Value) (l17 : List Value) : Slots × Blocks := ([(2, (Value.pointer (some ⟨1000, 0, none⟩))), (48, (Value.slice (some ⟨501, 0, none⟩) n0 c1)), (49, (Value.int .i64 x2)), (50, (Value.int .i64 x3))], [(1000, (AObj.cells [(Value.int .i64 x4), (Value.int .i64 x5), (Value.int .i64 x6), (Value.int .i64 x7), (Value.int .i64 x8), (Value.int .i64 x9), (Value.slice (some ⟨500, 0, none⟩) n10 c11), (Value.int .i64 x12), (Value.int .i64 x13), (Value.int .i64 x14), (Value.int .i64 x15)] 26 false 1)), (501, (AObj.sym l16 false 1)), (500, (AObj.sym l17 false 5))])
def rKM1 (C : Ct) (L : AtLoop) (n0 : Nat) (c1 : Nat) (x2 : Int) (x3 : Int) (x4 : Int) (x5 : Int) (x6 : Int) (x7 : Int) (x8 : Int) (x9 : Int) (n10 : Nat) (c11 : Nat) (x12 : Int) (x13 : Int) (x14 : Int) (x15 : Int) (l16 : List Value) (l17 : List Value) (B : Bx) (X : Xx) (k : List D → Prop) : Prop := wpRound Try.prog (hP C) L 20 0 [(2, (Value.pointer (some ⟨1000, 0, none⟩))), (48, (Value.slice (some ⟨501, 0, none⟩) n0 c1)), (49, (Value.int .i64 x2)), (50, (Value.int .i64 x3))] [(1000, (AObj.cells [(Value.int .i64 x4), (Value.int .i64 x5), (Value.int .i64 x6), (Value.int .i64 x7), (Value.int .i64 x8), (Value.int .i64 x9), (Value.slice (some ⟨500, 0, none⟩) n10 c11), (Value.int .i64 x12), (Value.int .i64 x13), (Value.int .i64 x14), (Value.int .i64 x15)] 26 false 1)), (501, (AObj.sym l16 false 1)), (500, (AObj.sym l17 false 5))] B X (dataK k)
theorem rKM1_text (C : Ct) (L : AtLoop) (n0 : Nat) (c1 : Nat) (x2 : Int) (x3 : Int) (x4 : Int) (x5 : Int) (x6 : Int) (x7 : Int) (x8 : Int) (x9 : Int) (n10 : Nat) (c11 : Nat) (x12 : Int) (x13 : Int) (x14 : Int) (x15 : Int) (l16 : List Go.Value) (l17 : List Go.Value) (B : Bx) (X : Xx) (k : List D → Prop) : rKM1 C L n0 c1 x2 x3 x4 x5 x6 x7 x8 x9 n10 c11 x12 x13 x14 x15 l16 l17 B X k =
 (bcase (decide (x3 < x2))
 (bcase (decide (0 ≤ x3))
 (bcase (decide (x3 < (↑n0 : Int)))
 (∃ n1 : Int,
 ((At (l16) (0 + Int.toNat x3 * 1) 1 [(vI n1)]) ∧
 (bcase (decide (0 ≤ x3))
 (bcase (decide (x3 < (↑n10 : Int)))
 (∃ n2 : Int,
 (∃ n3 : Int,
 ((At (l17) (Addr.off { block := 500, off := 0 + Int.toNat x3 * 5 } + 3) 2 [(vI n2), (vI n3)]) ∧
 (∃ n4 : Int,
 ((Says C 60 [(D.agg [(D.val (vI n2)), (D.val (vI n3))]), (D.val (vI n1))] [(D.val (vI n4))]) ∧
 (bcase (n4 != 0)
 (k [(D.val (vI x3)), (D.val (vI n4))])
 (B [(Prod.mk 2 (Pt 1000 0)), (Prod.mk 48 (Sl 501 (n0) (c1))), (Prod.mk 49 (vI x2)), (Prod.mk 50 (vI (IntKind.wrap .i64 (x3 + 1))))] [(Prod.mk 1000 (AObj.cells [(vI x4), (vI x5), (vI x6), (vI x7), (vI x8), (vI x9), (Sl 500 (n10) (c11)), (vI x12), (vI x13), (vI x14), (vI x15)] 26 false 1)), (Prod.mk 501 (AObj.sym (l16) false 1)), (Prod.mk 500 (AObj.sym (l17) false 5))])))))))
 False)
 False)))
 False)
 False)
 (X 0 [] [])) := by kernel_rfl
def nKM2 (C : Ct) (L : AtLoop) (k : List D → Prop) : Prop := wpNext Try.prog (hP C) L 20 0 .normal [] [] (dataK k)
theorem nKM2_text (C : Ct) (L : AtLoop) (k : List D → Prop) : nKM2 C L k =
 (k [(D.val (vI 0)), (D.val (vI 0))]) := by kernel_rfl
def glT (C : Ct) (L : AtLoop) (x0 : Int) (x1 : Int) (k : List D → Prop) : Prop := wpFn Try.prog (hP C) L 0 53 #[.int .i64 x0, .int .i64 x1] (heapOf []) (dataK k)
theorem glT_text (C : Ct) (L : AtLoop) (x0 : Int) (x1 : Int) (k : List D → Prop) : glT C L x0 x1 k =
 (L 0 [(Prod.mk 0 (vI x0)), (Prod.mk 1 (vI x1)), (Prod.mk 4 (Pt 1000 0)), (Prod.mk 5 (vI (if IntKind.wrap .i64 (0 - x0) > x0 then IntKind.wrap .i64 (0 - x0) else x0))), (Prod.mk 6 (vI x1))] [(Prod.mk 1000 (AObj.cells [(vI 0), (vI 0)] 68 false 2))]) := by kernel_rfl
abbrev zlT1 (x0 : Int) (x1 : Int) (x2 : Int) (x3 : Int) (x4 : Int) (x5 : Int) : Slots × Blocks := ([(0, (Value.int .i64 x0)), (1, (Value.int .i64 x1)), (4, (Value.pointer (some ⟨1000, 0, none⟩))), (5, (Value.int .i64 x2)), (6, (Value.int .i64 x3))], [(1000, (AObj.cells [(Value.int .i64 x4), (Value.int .i64 x5)] 68 false 2))])
def rlT1 (C : Ct) (L : AtLoop) (x0 : Int) (x1 : Int) (x2 : Int) (x3 : Int) (x4 : Int) (x5 : Int) (B : Bx) (X : Xx) (k : List D → Prop) : Prop := wpRound Try.prog (hP C) L 53 0 [(0, (Value.int .i64 x0)), (1, (Value.int .i64 x1)), (4, (Value.pointer (some ⟨1000, 0, none⟩))), (5, (Value.int .i64 x2)), (6, (Value.int .i64 x3))] [(1000, (AObj.cells [(Value.int .i64 x4), (Value.int .i64 x5)] 68 false 2))] B X (dataK k)
theorem rlT1_text (C : Ct) (L : AtLoop) (x0 : Int) (x1 : Int) (x2 : Int) (x3 : Int) (x4 : Int) (x5 : Int) (B : Bx) (X : Xx) (k : List D → Prop) : rlT1 C L x0 x1 x2 x3 x4 x5 B X k =
 (bcase (decide (x3 > 0))
 (bcase (x3 != 0)
 (((bcase (x3 != 0)
 (Qv (vI (Int.tmod x2 x3)))
 False) ∧
 ((Qv (vI x3)) ∧
 ((Qv (vI x2)) ∧
 ((Qv (vI x3)) ∧
 True)))) ∧
 (((bcase (x3 != 0)
 (Qv (vI (Int.tmod x2 x3)))
 False) ∧
 ((Qv (vI x3)) ∧
 True)) ∧
 (True ∧
 (B [(Prod.mk 0 (vI x0)), (Prod.mk 1 (vI x1)), (Prod.mk 4 (Pt 1000 0)), (Prod.mk 5 (vI x3)), (Prod.mk 6 (vI (Int.tmod x2 x3)))] [(Prod.mk 1000 (AObj.cells [(vI x4), (vI x5)] 68 false 2))]))))
 False)
 (X 0 [(Prod.mk 0 (vI x0)), (Prod.mk 1 (vI x1)), (Prod.mk 4 (Pt 1000 0)), (Prod.mk 5 (vI x2))] [(Prod.mk 1000 (AObj.cells [(vI x4), (vI x5)] 68 false 2))])) := by kernel_rfl
def nlT2 (C : Ct) (L : AtLoop) (x0 : Int) (x1 : Int) (x2 : Int) (x3 : Int) (x4 : Int) (k : List D → Prop) : Prop := wpNext Try.prog (hP C) L 53 0 .normal [(0, (Value.int .i64 x0)), (1, (Value.int .i64 x1)), (4, (Value.pointer (some ⟨1000, 0, none⟩))), (5, (Value.int .i64 x2))] [(1000, (AObj.cells [(Value.int .i64 x3), (Value.int .i64 x4)] 68 false 2))] (dataK k)
theorem nlT2_text (C : Ct) (L : AtLoop) (x0 : Int) (x1 : Int) (x2 : Int) (x3 : Int) (x4 : Int) (k : List D → Prop) : nlT2 C L x0 x1 x2 x3 x4 k =
 (bcase (x2 != 0)
 (bcase (x2 != 0)
 (((Qv (Value.agg [(vI (IntKind.wrap .i64 (Int.tdiv x0 x2))), (vI (IntKind.wrap .i64 (Int.tdiv x1 x2)))].toArray)) ∧
 ((bcase (x2 != 0)
 (Qv (vI (IntKind.wrap .i64 (Int.tdiv x1 x2))))
 False) ∧
 ((Qv (vI x2)) ∧
 ((Qv (vI x1)) ∧
 ((bcase (x2 != 0)
 (Qv (vI (IntKind.wrap .i64 (Int.tdiv x0 x2))))
 False) ∧
 ((Qv (vI x2)) ∧
 ((Qv (vI x0)) ∧
 True))))))) ∧
 (True ∧
 (k [(D.agg [(D.val (vI (IntKind.wrap .i64 (Int.tdiv x0 x2)))), (D.val (vI (IntKind.wrap .i64 (Int.tdiv x1 x2))))])])))
 False)
 False) := by kernel_rfl
def gfB (C : Ct) (L : AtLoop) (x0 : Int) (x1 : Int) (x2 : Int) (x3 : Int) (x4 : Int) (x5 : Int) (n6 : Nat) (c6 : Nat) (l6 : List Value) (x7 : Int) (x8 : Int) (x9 : Int) (x10 : Int) (x11 : Int) (x12 : Int) (x13 : Int) (x14 : Int) (x15 : Int) (k : List D → Prop) : Prop := wpFn Try.prog (hP C) L 0 105 #[.agg #[.int .i64 x0, .int .i64 x1, .int .i64 x2, .int .i64 x3, .int .i64 x4, .int .i64 x5, .slice (some ⟨500, 0, none⟩) n6 c6, .int .i64 x7, .int .i64 x8, .int .i64 x9, .int .i64 x10], .agg #[.int .i64 x11, .int .i64 x12, .int .i64 x13], .int .i64 x14, .int .i64 x15] (heapOf [(500, .sym l6 false 5)]) (dataK k)
theorem gfB_text (C : Ct) (L : AtLoop) (x0 : Int) (x1 : Int) (x2 : Int) (x3 : Int) (x4 : Int) (x5 : Int) (n6 : Nat) (c6 : Nat) (l6 : List Go.Value) (x7 : Int) (x8 : Int) (x9 : Int) (x10 : Int) (x11 : Int) (x12 : Int) (x13 : Int) (x14 : Int) (x15 : Int) (k : List D → Prop) : gfB C L x0 x1 x2 x3 x4 x5 n6 c6 l6 x7 x8 x9 x10 x11 x12 x13 x14 x15 k =
 (bcase (x12 == x13)
 (k [(D.val (vI 0))])
 (((Qv (vI (IntKind.wrap .i64 (x15 * IntKind.wrap .i64 (x12 + x13))))) ∧
 ((Qv (vI (IntKind.wrap .i64 (x12 + x13)))) ∧
 ((Qv (vI x13)) ∧
 ((Qv (Pt 1001 2)) ∧
 ((Qv (vI x12)) ∧
 ((Qv (Pt 1001 1)) ∧
 ((Qv (vI x15)) ∧
 ((Qv (Value.agg [(vI x11), (vI x12), (vI x13)].toArray)) ∧
 ((Qv (vI x14)) ∧
 ((Qv (vI x0)) ∧
 ((Qv (Pt 1000 0)) ∧
 ((Qv (Pt 1000 0)) ∧
 True)))))))))))) ∧
 (((Qv (vI (IntKind.wrap .i64 (x0 * IntKind.wrap .i64 (IntKind.wrap .i64 (x14 * IntKind.wrap .i64 (x12 - x13)) + IntKind.wrap .i64 (x15 * IntKind.wrap .i64 (x12 + x13))))))) ∧
 ((Qv (vI (IntKind.wrap .i64 (IntKind.wrap .i64 (x14 * IntKind.wrap .i64 (x12 - x13)) + IntKind.wrap .i64 (x15 * IntKind.wrap .i64 (x12 + x13)))))) ∧
 ((Qv (vI (IntKind.wrap .i64 (x14 * IntKind.wrap .i64 (x12 - x13))))) ∧
 ((Qv (vI (IntKind.wrap .i64 (x15 * IntKind.wrap .i64 (x12 + x13))))) ∧
 ((Qv (vI (IntKind.wrap .i64 (x12 + x13)))) ∧
 ((Qv (vI x13)) ∧
 ((Qv (Pt 1001 2)) ∧
 ((Qv (vI x12)) ∧
 ((Qv (Pt 1001 1)) ∧
 ((Qv (vI x15)) ∧
 ((Qv (vI x14)) ∧
 ((Qv (vI x0)) ∧
 ((Qv (Pt 1000 0)) ∧
 ((Qv (Pt 1000 0)) ∧
 True)))))))))))))) ∧
 (True ∧
 (k [(D.val (vI (IntKind.wrap .i64 (x0 * IntKind.wrap .i64 (IntKind.wrap .i64 (x14 * IntKind.wrap .i64 (x12 - x13)) + IntKind.wrap .i64 (x15 * IntKind.wrap .i64 (x12 + x13)))))))]))))) := by kernel_rfl
def gfo (C : Ct) (L : AtLoop) (x0 : Int) (x1 : Int) (x2 : Int) (x3 : Int) (x4 : Int) (x5 : Int) (n6 : Nat) (c6 : Nat) (l6 : List Value) (x7 : Int) (x8 : Int) (x9 : Int) (x10 : Int) (x11 : Int) (x12 : Int) (x13 : Int) (k : List D → Prop) : Prop := wpFn Try.prog (hP C) L 0 98 #[.agg #[.int .i64 x0, .int .i64 x1, .int .i64 x2, .int .i64 x3, .int .i64 x4, .int .i64 x5, .slice (some ⟨500, 0, none⟩) n6 c6, .int .i64 x7, .int .i64 x8, .int .i64 x9, .int .i64 x10], .agg #[.int .i64 x11, .int .i64 x12, .int .i64 x13]] (heapOf [(500, .sym l6 false 5)]) (dataK k)
theorem gfo_text (C : Ct) (L : AtLoop) (x0 : Int) (x1 : Int) (x2 : Int) (x3 : Int) (x4 : Int) (x5 : Int) (n6 : Nat) (c6 : Nat) (l6 : List Go.Value) (x7 : Int) (x8 : Int) (x9 : Int) (x10 : Int) (x11 : Int) (x12 : Int) (x13 : Int) (k : List D → Prop) : gfo C L x0 x1 x2 x3 x4 x5 n6 c6 l6 x7 x8 x9 x10 x11 x12 x13 k =
 (((Qv (vI x10)) ∧
 ((Qv (Pt 1000 10)) ∧
 ((Qv (Pt 1000 9)) ∧
 ((Qv (Pt 1000 0)) ∧
 ((Qv (vI x8)) ∧
 ((Qv (Pt 1000 8)) ∧
 ((Qv (Pt 1000 7)) ∧
 ((Qv (Pt 1000 0)) ∧
 ((Qv (Value.agg [(vI x11), (vI x12), (vI x13)].toArray)) ∧
 ((Qv (Value.agg [(vI x0), (vI x1), (vI x2), (vI x3), (vI x4), (vI x5), (Sl 500 (n6) (c6)), (vI x7), (vI x8), (vI x9), (vI x10)].toArray)) ∧
 ((Qv (vI x9)) ∧
 ((Qv (Pt 1000 9)) ∧
 ((Qv (Pt 1000 9)) ∧
 ((Qv (Pt 1000 0)) ∧
 ((Qv (vI x7)) ∧
 ((Qv (Pt 1000 7)) ∧
 ((Qv (Pt 1000 7)) ∧
 ((Qv (Pt 1000 0)) ∧
 ((Qv (Value.agg [(vI x11), (vI x12), (vI x13)].toArray)) ∧
 ((Qv (Value.agg [(vI x0), (vI x1), (vI x2), (vI x3), (vI x4), (vI x5), (Sl 500 (n6) (c6)), (vI x7), (vI x8), (vI x9), (vI x10)].toArray)) ∧
 True)))))))))))))))))))) ∧
 (bcase (decide (0 + n6 * 5 ≤ List.length l6))
 (∃ n1 : Int,
 ((Says C 105 [(D.agg [(D.val (vI x0)), (D.val (vI x1)), (D.val (vI x2)), (D.val (vI x3)), (D.val (vI x4)), (D.val (vI x5)), (D.sl (n6) 5 (List.take (n6 * 5) (List.drop 0 l6))), (D.val (vI x7)), (D.val (vI x8)), (D.val (vI x9)), (D.val (vI x10))]), (D.agg [(D.val (vI x11)), (D.val (vI x12)), (D.val (vI x13))]), (D.val (vI x7)), (D.val (vI x9))] [(D.val (vI n1))]) ∧
 (((Qv (vI x10)) ∧
 ((Qv (Pt 1000 10)) ∧
 ((Qv (Pt 1000 9)) ∧
 ((Qv (Pt 1000 0)) ∧
 ((Qv (vI x8)) ∧
 ((Qv (Pt 1000 8)) ∧
 ((Qv (Pt 1000 7)) ∧
 ((Qv (Pt 1000 0)) ∧
 ((Qv (Value.agg [(vI x11), (vI x12), (vI x13)].toArray)) ∧
 ((Qv (Value.agg [(vI x0), (vI x1), (vI x2), (vI x3), (vI x4), (vI x5), (Sl 500 (n6) (c6)), (vI x7), (vI x8), (vI x9), (vI x10)].toArray)) ∧
 ((Qv (Pt 1000 9)) ∧
 ((Qv (Pt 1000 9)) ∧
 ((Qv (Pt 1000 0)) ∧
 ((Qv (Pt 1000 7)) ∧
 ((Qv (Pt 1000 7)) ∧
 ((Qv (Pt 1000 0)) ∧
 True)))))))))))))))) ∧
 (bcase (decide (0 + n6 * 5 ≤ List.length l6))
 (∃ n2 : Int,
 ((Says C 105 [(D.agg [(D.val (vI x0)), (D.val (vI x1)), (D.val (vI x2)), (D.val (vI x3)), (D.val (vI x4)), (D.val (vI x5)), (D.sl (n6) 5 (List.take (n6 * 5) (List.drop 0 l6))), (D.val (vI x7)), (D.val (vI x8)), (D.val (vI x9)), (D.val (vI x10))]), (D.agg [(D.val (vI x11)), (D.val (vI x12)), (D.val (vI x13))]), (D.val (vI x8)), (D.val (vI x10))] [(D.val (vI n2))]) ∧
 (((Qv (Value.agg [(vI n1), (vI n2)].toArray)) ∧
 ((Qv (Pt 1000 10)) ∧
 ((Qv (Pt 1000 9)) ∧
 ((Qv (Pt 1000 0)) ∧
 ((Qv (Pt 1000 8)) ∧
 ((Qv (Pt 1000 7)) ∧
 ((Qv (Pt 1000 0)) ∧
 ((Qv (Pt 1000 9)) ∧
 ((Qv (Pt 1000 9)) ∧
 ((Qv (Pt 1000 0)) ∧
 ((Qv (Pt 1000 7)) ∧
 ((Qv (Pt 1000 7)) ∧
 ((Qv (Pt 1000 0)) ∧
 True))))))))))))) ∧
 (True ∧
 (k [(D.agg [(D.val (vI n1)), (D.val (vI n2))])])))))
 False))))
 False)) := by kernel_rfl
def gto (C : Ct) (L : AtLoop) (x0 : Int) (x1 : Int) (x2 : Int) (x3 : Int) (x4 : Int) (x5 : Int) (n6 : Nat) (c6 : Nat) (l6 : List Value) (x7 : Int) (x8 : Int) (x9 : Int) (x10 : Int) (x11 : Int) (x12 : Int) (x13 : Int) (k : List D → Prop) : Prop := wpFn Try.prog (hP C) L 0 89 #[.agg #[.int .i64 x0, .int .i64 x1, .int .i64 x2, .int .i64 x3, .int .i64 x4, .int .i64 x5, .slice (some ⟨500, 0, none⟩) n6 c6, .int .i64 x7, .int .i64 x8, .int .i64 x9, .int .i64 x10], .agg #[.int .i64 x11, .int .i64 x12, .int .i64 x13]] (heapOf [(500, .sym l6 false 5)]) (dataK k)
theorem gto_text (C : Ct) (L : AtLoop) (x0 : Int) (x1 : Int) (x2 : Int) (x3 : Int) (x4 : Int) (x5 : Int) (n6 : Nat) (c6 : Nat) (l6 : List Go.Value) (x7 : Int) (x8 : Int) (x9 : Int) (x10 : Int) (x11 : Int) (x12 : Int) (x13 : Int) (k : List D → Prop) : gto C L x0 x1 x2 x3 x4 x5 n6 c6 l6 x7 x8 x9 x10 x11 x12 x13 k =
 (bcase (decide (0 + n6 * 5 ≤ List.length l6))
 (∃ n1 : Int,
 (∃ n2 : Int,
 ((Says C 98 [(D.agg [(D.val (vI x0)), (D.val (vI x1)), (D.val (vI x2)), (D.val (vI x3)), (D.val (vI x4)), (D.val (vI x5)), (D.sl (n6) 5 (List.take (n6 * 5) (List.drop 0 l6))), (D.val (vI x7)), (D.val (vI x8)), (D.val (vI x9)), (D.val (vI x10))]), (D.agg [(D.val (vI x11)), (D.val (vI x12)), (D.val (vI x13))])] [(D.agg [(D.val (vI n1)), (D.val (vI n2))])]) ∧
 (((Qv (Value.agg [(vI x11), (vI x12), (vI x13)].toArray)) ∧
 ((Qv (vI n2)) ∧
 ((Qv (Pt 1003 1)) ∧
 ((Qv (Value.agg [(vI x11), (vI x12), (vI x13)].toArray)) ∧
 ((Qv (vI n1)) ∧
 ((Qv (Pt 1003 0)) ∧
 True)))))) ∧
 (((Qv (vI (IntKind.wrap .i64 (n1 * IntKind.wrap .i64 (x12 - x13))))) ∧
 ((Qv (Value.agg [(vI x11), (vI x12), (vI x13)].toArray)) ∧
 ((Qv (vI n2)) ∧
 ((Qv (Pt 1003 1)) ∧
 ((Qv (vI n1)) ∧
 ((Qv (Pt 1003 0)) ∧
 True)))))) ∧
 (((Qv (Value.agg [(vI (IntKind.wrap .i64 (n1 * IntKind.wrap .i64 (x12 - x13)))), (vI (IntKind.wrap .i64 (n2 * IntKind.wrap .i64 (x12 - x13))))].toArray)) ∧
 ((Qv (vI (IntKind.wrap .i64 (n2 * IntKind.wrap .i64 (x12 - x13))))) ∧
 ((Qv (vI (IntKind.wrap .i64 (n1 * IntKind.wrap .i64 (x12 - x13))))) ∧
 ((Qv (vI n2)) ∧
 ((Qv (Pt 1003 1)) ∧
 ((Qv (vI n1)) ∧
 ((Qv (Pt 1003 0)) ∧
 True))))))) ∧
 (True ∧
 (k [(D.agg [(D.val (vI (IntKind.wrap .i64 (n1 * IntKind.wrap .i64 (x12 - x13))))), (D.val (vI (IntKind.wrap .i64 (n2 * IntKind.wrap .i64 (x12 - x13)))))])]))))))))
 False) := by kernel_rfl
def gbi (C : Ct) (L : AtLoop) (x0 : Int) (x1 : Int) (x2 : Int) (x3 : Int) (x4 : Int) (x5 : Int) (n6 : Nat) (c6 : Nat) (l6 : List Value) (x7 : Int) (x8 : Int) (x9 : Int) (x10 : Int) (x11 : Int) (x12 : Int) (x13 : Int) (k : List D → Prop) : Prop := wpFn Try.prog (hP C) L 0 99 #[.agg #[.int .i64 x0, .int .i64 x1, .int .i64 x2, .int .i64 x3, .int .i64 x4, .int .i64 x5, .slice (some ⟨500, 0, none⟩) n6 c6, .int .i64 x7, .int .i64 x8, .int .i64 x9, .int .i64 x10], .agg #[.int .i64 x11, .int .i64 x12, .int .i64 x13]] (heapOf [(500, .sym l6 false 5)]) (dataK k)
theorem gbi_text (C : Ct) (L : AtLoop) (x0 : Int) (x1 : Int) (x2 : Int) (x3 : Int) (x4 : Int) (x5 : Int) (n6 : Nat) (c6 : Nat) (l6 : List Go.Value) (x7 : Int) (x8 : Int) (x9 : Int) (x10 : Int) (x11 : Int) (x12 : Int) (x13 : Int) (k : List D → Prop) : gbi C L x0 x1 x2 x3 x4 x5 n6 c6 l6 x7 x8 x9 x10 x11 x12 x13 k =
 (bcase (x12 == x13)
 (k [(D.agg [(D.val (vI 0)), (D.val (vI 0))])])
 (((Qv (vI x10)) ∧
 ((Qv (Pt 1000 10)) ∧
 ((Qv (Pt 1000 9)) ∧
 ((Qv (Pt 1000 0)) ∧
 ((Qv (Value.func (Go.Fn.func 107) [].toArray [(Pt 1000 0), (Pt 1001 0)].toArray)) ∧
 ((Qv (vI x9)) ∧
 ((Qv (Pt 1000 9)) ∧
 ((Qv (Pt 1000 9)) ∧
 ((Qv (Pt 1000 0)) ∧
 ((Qv (Value.func (Go.Fn.func 107) [].toArray [(Pt 1000 0), (Pt 1001 0)].toArray)) ∧
 True)))))))))) ∧
 (bcase (decide (0 ≤ x11))
 (bcase (decide (x11 < (↑n6 : Int)))
 (∃ n1 : Int,
 ((At (l6) (0 + Int.toNat x11 * 5) 1 [(vI n1)]) ∧
 (((Qv (Value.agg [(vI x11), (vI x12), (vI x13)].toArray)) ∧
 ((Qv (vI (IntKind.wrap .i64 (IntKind.wrap .i64 (1 * x9) * n1)))) ∧
 ((∃ n2 : Int,
 ((At (l6) (0 + Int.toNat x11 * 5) 1 [(vI n2)]) ∧
 ((vI n2) = (vI n1)))) ∧
 ((Qv (Pt 500 (0 + Int.toNat x11 * 5))) ∧
 ((bcase (decide (0 ≤ x11))
 (bcase (decide (x11 < (↑n6 : Int)))
 (Qv (Pt 500 (0 + Int.toNat x11 * 5)))
 False)
 False) ∧
 ((Qv (vI x11)) ∧
 ((Qv (Pt 1001 0)) ∧
 ((Qv (Sl 500 (n6) (c6))) ∧
 ((Qv (Pt 1000 6)) ∧
 ((Qv (Pt 1000 0)) ∧
 ((Qv (vI (IntKind.wrap .i64 (1 * x9)))) ∧
 ((Qv (vI x9)) ∧
 True)))))))))))) ∧
 (((Qv (vI (IntKind.wrap .i64 (IntKind.wrap .i64 (IntKind.wrap .i64 (1 * x9) * n1) - IntKind.wrap .i64 (100 * IntKind.wrap .i64 (x12 - x13)))))) ∧
 ((Qv (vI (IntKind.wrap .i64 (100 * IntKind.wrap .i64 (x12 - x13))))) ∧
 ((Qv (vI (IntKind.wrap .i64 (IntKind.wrap .i64 (1 * x9) * n1)))) ∧
 ((∃ n2 : Int,
 ((At (l6) (0 + Int.toNat x11 * 5) 1 [(vI n2)]) ∧
 ((vI n2) = (vI n1)))) ∧
 ((Qv (Pt 500 (0 + Int.toNat x11 * 5))) ∧
 ((bcase (decide (0 ≤ x11))
 (bcase (decide (x11 < (↑n6 : Int)))
 (Qv (Pt 500 (0 + Int.toNat x11 * 5)))
 False)
 False) ∧
 ((Qv (vI x11)) ∧
 ((Qv (Pt 1001 0)) ∧
 ((Qv (Sl 500 (n6) (c6))) ∧
 ((Qv (Pt 1000 6)) ∧
 ((Qv (Pt 1000 0)) ∧
 ((Qv (vI (IntKind.wrap .i64 (1 * x9)))) ∧
 ((Qv (vI x9)) ∧
 True))))))))))))) ∧
 (True ∧
 (((Qv (vI x10)) ∧
 ((Qv (Pt 1000 10)) ∧
 ((Qv (Pt 1000 9)) ∧
 ((Qv (Pt 1000 0)) ∧
 ((Qv (Value.func (Go.Fn.func 107) [].toArray [(Pt 1000 0), (Pt 1001 0)].toArray)) ∧
 ((Qv (Pt 1000 9)) ∧
 ((Qv (Pt 1000 9)) ∧
 ((Qv (Pt 1000 0)) ∧
 True)))))))) ∧
 (bcase (decide (0 ≤ x11))
 (bcase (decide (x11 < (↑n6 : Int)))
 (∃ n2 : Int,
 ((At (l6) (0 + Int.toNat x11 * 5) 1 [(vI n2)]) ∧
 (((Qv (Value.agg [(vI x11), (vI x12), (vI x13)].toArray)) ∧
 ((Qv (vI (IntKind.wrap .i64 (IntKind.wrap .i64 (1 * x10) * n2)))) ∧
 ((∃ n3 : Int,
 ((At (l6) (0 + Int.toNat x11 * 5) 1 [(vI n3)]) ∧
 ((vI n3) = (vI n2)))) ∧
 ((Qv (Pt 500 (0 + Int.toNat x11 * 5))) ∧
 ((bcase (decide (0 ≤ x11))
 (bcase (decide (x11 < (↑n6 : Int)))
 (Qv (Pt 500 (0 + Int.toNat x11 * 5)))
 False)
 False) ∧
 ((Qv (vI x11)) ∧
 ((Qv (Pt 1001 0)) ∧
 ((Qv (Sl 500 (n6) (c6))) ∧
 ((Qv (Pt 1000 6)) ∧
 ((Qv (Pt 1000 0)) ∧
 ((Qv (vI (IntKind.wrap .i64 (1 * x10)))) ∧
 ((Qv (vI x10)) ∧
 True)))))))))))) ∧
 (((Qv (vI (IntKind.wrap .i64 (IntKind.wrap .i64 (IntKind.wrap .i64 (1 * x10) * n2) - IntKind.wrap .i64 (100 * IntKind.wrap .i64 (x12 - x13)))))) ∧
 ((Qv (vI (IntKind.wrap .i64 (100 * IntKind.wrap .i64 (x12 - x13))))) ∧
 ((Qv (vI (IntKind.wrap .i64 (IntKind.wrap .i64 (1 * x10) * n2)))) ∧
 ((∃ n3 : Int,
 ((At (l6) (0 + Int.toNat x11 * 5) 1 [(vI n3)]) ∧
 ((vI n3) = (vI n2)))) ∧
 ((Qv (Pt 500 (0 + Int.toNat x11 * 5))) ∧
 ((bcase (decide (0 ≤ x11))
 (bcase (decide (x11 < (↑n6 : Int)))
 (Qv (Pt 500 (0 + Int.toNat x11 * 5)))
 False)
 False) ∧
 ((Qv (vI x11)) ∧
 ((Qv (Pt 1001 0)) ∧
 ((Qv (Sl 500 (n6) (c6))) ∧
 ((Qv (Pt 1000 6)) ∧
 ((Qv (Pt 1000 0)) ∧
 ((Qv (vI (IntKind.wrap .i64 (1 * x10)))) ∧
 ((Qv (vI x10)) ∧
 True))))))))))))) ∧
 (True ∧
 (((Qv (Value.agg [(vI (IntKind.wrap .i64 (IntKind.wrap .i64 (IntKind.wrap .i64 (1 * x9) * n1) - IntKind.wrap .i64 (100 * IntKind.wrap .i64 (x12 - x13))))), (vI (IntKind.wrap .i64 (IntKind.wrap .i64 (IntKind.wrap .i64 (1 * x10) * n2) - IntKind.wrap .i64 (100 * IntKind.wrap .i64 (x12 - x13)))))].toArray)) ∧
 ((Qv (Pt 1000 10)) ∧
 ((Qv (Pt 1000 9)) ∧
 ((Qv (Pt 1000 0)) ∧
 ((Qv (Pt 1000 9)) ∧
 ((Qv (Pt 1000 9)) ∧
 ((Qv (Pt 1000 0)) ∧
 True))))))) ∧
 (True ∧
 (k [(D.agg [(D.val (vI (IntKind.wrap .i64 (IntKind.wrap .i64 (IntKind.wrap .i64 (1 * x9) * n1) - IntKind.wrap .i64 (100 * IntKind.wrap .i64 (x12 - x13)))))), (D.val (vI (IntKind.wrap .i64 (IntKind.wrap .i64 (IntKind.wrap .i64 (1 * x10) * n2) - IntKind.wrap .i64 (100 * IntKind.wrap .i64 (x12 - x13))))))])]))))))))
 False)
 False)))))))
 False)
 False))) := by kernel_rfl
def ghe (C : Ct) (L : AtLoop) (x0 : Int) (x1 : Int) (x2 : Int) (x3 : Int) (x4 : Int) (x5 : Int) (n6 : Nat) (c6 : Nat) (l6 : List Value) (x7 : Int) (x8 : Int) (x9 : Int) (x10 : Int) (x11 : Int) (x12 : Int) (x13 : Int) (k : List D → Prop) : Prop := wpFn Try.prog (hP C) L 0 63 #[.agg #[.int .i64 x0, .int .i64 x1, .int .i64 x2, .int .i64 x3, .int .i64 x4, .int .i64 x5, .slice (some ⟨500, 0, none⟩) n6 c6, .int .i64 x7, .int .i64 x8, .int .i64 x9, .int .i64 x10], .agg #[.int .i64 x11, .int .i64 x12, .int .i64 x13]] (heapOf [(500, .sym l6 false 5)]) (dataK k)
theorem ghe_text (C : Ct) (L : AtLoop) (x0 : Int) (x1 : Int) (x2 : Int) (x3 : Int) (x4 : Int) (x5 : Int) (n6 : Nat) (c6 : Nat) (l6 : List Go.Value) (x7 : Int) (x8 : Int) (x9 : Int) (x10 : Int) (x11 : Int) (x12 : Int) (x13 : Int) (k : List D → Prop) : ghe C L x0 x1 x2 x3 x4 x5 n6 c6 l6 x7 x8 x9 x10 x11 x12 x13 k =
 (bcase (decide (0 ≤ IntKind.wrap .i64 (x11 + 1)))
 (bcase (decide (IntKind.wrap .i64 (x11 + 1) ≤ (↑c6 : Int)))
 (L 0 [(Prod.mk 2 (Pt 1000 0)), (Prod.mk 3 (Pt 1001 0)), (Prod.mk 4 (Pt 1002 0)), (Prod.mk 5 (Pt 1003 0)), (Prod.mk 15 (Sl 500 (Int.toNat (IntKind.wrap .i64 (x11 + 1)) - 0) (c6 - 0))), (Prod.mk 16 (vI ((↑(Int.toNat (IntKind.wrap .i64 (x11 + 1)) - 0) : Int)))), (Prod.mk 17 (vI 0))] [(Prod.mk 1000 (AObj.cells [(vI x0), (vI x1), (vI x2), (vI x3), (vI x4), (vI x5), (Sl 500 (n6) (c6)), (vI x7), (vI x8), (vI x9), (vI x10)] 95 false 1)), (Prod.mk 1001 (AObj.cells [(vI x11), (vI x12), (vI x13)] 100 false 1)), (Prod.mk 1002 (AObj.cells [(vI 0), (vI 0)] 23 false 2)), (Prod.mk 1003 (AObj.cells [(vI 0), (vI 0)] 23 false 2)), (Prod.mk 500 (AObj.sym (l6) false 5))])
 False)
 False) := by kernel_rfl
abbrev zhe1 (n0 : Nat) (c1 : Nat) (x2 : Int) (x3 : Int) (x4 : Int) (x5 : Int) (x6 : Int) (x7 : Int) (x8 : Int) (x9 : Int) (n10 : Nat) (c11 : Nat) (x12 : Int) (x13 : Int) (x14 : Int) (x15 : Int) (x16 : Int) (x17 : Int) (x18 : Int) (x19 : Int) (x20 : Int) (x21 : Int) (x22 : Int) (l23 : List Value) : Slots × Blocks := ([(2, (Value.pointer (some ⟨1000, 0, none⟩))), (3, (Value.pointer (some ⟨1001, 0, none⟩))), (4, (Value.pointer (some ⟨1002, 0, none⟩))), (5, (Value.pointer (some ⟨1003, 0, none⟩))), (15, (Value.slice (some ⟨500, 0, none⟩) n0 c1)), (16, (Value.int .i64 x2)), (17, (Value.int .i64 x3))], [(1000, (AObj.cells [(Value.int .i64 x4), (Value.int .i64 x5), (Value.int .i64 x6), (Value.int .i64 x7), (Value.int .i64 x8), (Value.int .i64 x9), (Value.slice (some ⟨500, 0, none⟩) n10 c11), (Value.int .i64 x12), (Value.int .i64 x13), (Value.int .i64 x14), (Value.int .i64 x15)] 95 false 1)), (1001, (AObj.cells [(Value.int .i64 x16), (Value.int .i64 x17), (Value.int .i64 x18)] 100 false 1)), (1002, (AObj.cells [(Value.int .i64 x19), (Value.int .i64 x20)] 23 false 2)), (1003, (AObj.cells [(Value.int .i64 x21), (Value.int .i64 x22)] 23 false 2)), (500, (AObj.sym l23 false 5))])
def rhe1 (C : Ct) (L : AtLoop) (n0 : Nat) (c1 : Nat) (x2 : Int) (x3 : Int) (x4 : Int) (x5 : Int) (x6 : Int) (x7 : Int) (x8 : Int) (x9 : Int) (n10 : Nat) (c11 : Nat) (x12 : Int) (x13 : Int) (x14 : Int) (x15 : Int) (x16 : Int) (x17 : Int) (x18 : Int) (x19 : Int) (x20 : Int) (x21 : Int) (x22 : Int) (l23 : List Value) (B : Bx) (X : Xx) (k : List D → Prop) : Prop := wpRound Try.prog (hP C) L 63 0 [(2, (Value.pointer (some ⟨1000, 0, none⟩))), (3, (Value.pointer (some ⟨1001, 0, none⟩))), (4, (Value.pointer (some ⟨1002, 0, none⟩))), (5, (Value.pointer (some ⟨1003, 0, none⟩))), (15, (Value.slice (some ⟨500, 0, none⟩) n0 c1)), (16, (Value.int .i64 x2)), (17, (Value.int .i64 x3))] [(1000, (AObj.cells [(Value.int .i64 x4), (Value.int .i64 x5), (Value.int .i64 x6), (Value.int .i64 x7), (Value.int .i64 x8), (Value.int .i64 x9), (Value.slice (some ⟨500, 0, none⟩) n10 c11), (Value.int .i64 x12), (Value.int .i64 x13), (Value.int .i64 x14), (Value.int .i64 x15)] 95 false 1)), (1001, (AObj.cells [(Value.int .i64 x16), (Value.int .i64 x17), (Value.int .i64 x18)] 100 false 1)), (1002, (AObj.cells [(Value.int .i64 x19), (Value.int .i64 x20)] 23 false 2)), (1003, (AObj.cells [(Value.int .i64 x21), (Value.int .i64 x22)] 23 false 2)), (500, (AObj.sym l23 false 5))] B X (dataK k)
theorem rhe1_text (C : Ct) (L : AtLoop) (n0 : Nat) (c1 : Nat) (x2 : Int) (x3 : Int) (x4 : Int) (x5 : Int) (x6 : Int) (x7 : Int) (x8 : Int) (x9 : Int) (n10 : Nat) (c11 : Nat) (x12 : Int) (x13 : Int) (x14 : Int) (x15 : Int) (x16 : Int) (x17 : Int) (x18 : Int) (x19 : Int) (x20 : Int) (x21 : Int) (x22 : Int) (l23 : List Go.Value) (B : Bx) (X : Xx) (k : List D → Prop) : rhe1 C L n0 c1 x2 x3 x4 x5 x6 x7 x8 x9 n10 c11 x12 x13 x14 x15 x16 x17 x18 x19 x20 x21 x22 l23 B X k =
 (bcase (decide (x3 < x2))
 (bcase (decide (0 ≤ x3))
 (bcase (decide (x3 < (↑n0 : Int)))
 (∃ n1 : Int,
 (∃ n2 : Int,
 (∃ n3 : Int,
 (∃ n4 : Int,
 (∃ n5 : Int,
 ((At (l23) (0 + Int.toNat x3 * 5) 5 [(vI n1), (vI n2), (vI n3), (vI n4), (vI n5)]) ∧
 (B [(Prod.mk 2 (Pt 1000 0)), (Prod.mk 3 (Pt 1001 0)), (Prod.mk 4 (Pt 1002 0)), (Prod.mk 5 (Pt 1003 0)), (Prod.mk 15 (Sl 500 (n0) (c1))), (Prod.mk 16 (vI x2)), (Prod.mk 17 (vI (IntKind.wrap .i64 (x3 + 1))))] [(Prod.mk 1000 (AObj.cells [(vI x4), (vI x5), (vI x6), (vI x7), (vI x8), (vI x9), (Sl 500 (n10) (c11)), (vI x12), (vI x13), (vI x14), (vI x15)] 95 false 1)), (Prod.mk 1001 (AObj.cells [(vI x16), (vI x17), (vI x18)] 100 false 1)), (Prod.mk 1002 (AObj.cells [(vI x19), (vI x20)] 23 false 2)), (Prod.mk 1003 (AObj.cells [(vI (IntKind.wrap .i64 (x21 + n4))), (vI (IntKind.wrap .i64 (x22 + n5)))] 23 false 2)), (Prod.mk 500 (AObj.sym (l23) false 5))])))))))
 False)
 False)
 (X 0 [(Prod.mk 2 (Pt 1000 0)), (Prod.mk 3 (Pt 1001 0)), (Prod.mk 4 (Pt 1002 0)), (Prod.mk 5 (Pt 1003 0))] [(Prod.mk 1000 (AObj.cells [(vI x4), (vI x5), (vI x6), (vI x7), (vI x8), (vI x9), (Sl 500 (n10) (c11)), (vI x12), (vI x13), (vI x14), (vI x15)] 95 false 1)), (Prod.mk 1001 (AObj.cells [(vI x16), (vI x17), (vI x18)] 100 false 1)), (Prod.mk 1002 (AObj.cells [(vI x19), (vI x20)] 23 false 2)), (Prod.mk 1003 (AObj.cells [(vI x21), (vI x22)] 23 false 2)), (Prod.mk 500 (AObj.sym (l23) false 5))])) := by kernel_rfl
def nhe2 (C : Ct) (L : AtLoop) (x0 : Int) (x1 : Int) (x2 : Int) (x3 : Int) (x4 : Int) (x5 : Int) (n6 : Nat) (c7 : Nat) (x8 : Int) (x9 : Int) (x10 : Int) (x11 : Int) (x12 : Int) (x13 : Int) (x14 : Int) (x15 : Int) (x16 : Int) (x17 : Int) (x18 : Int) (l19 : List Value) (k : List D → Prop) : Prop := wpNext Try.prog (hP C) L 63 0 .normal [(2, (Value.pointer (some ⟨1000, 0, none⟩))), (3, (Value.pointer (some ⟨1001, 0, none⟩))), (4, (Value.pointer (some ⟨1002, 0, none⟩))), (5, (Value.pointer (some ⟨1003, 0, none⟩)))] [(1000, (AObj.cells [(Value.int .i64 x0), (Value.int .i64 x1), (Value.int .i64 x2), (Value.int .i64 x3), (Value.int .i64 x4), (Value.int .i64 x5), (Value.slice (some ⟨500, 0, none⟩) n6 c7), (Value.int .i64 x8), (Value.int .i64 x9), (Value.int .i64 x10), (Value.int .i64 x11)] 95 false 1)), (1001, (AObj.cells [(Value.int .i64 x12), (Value.int .i64 x13), (Value.int .i64 x14)] 100 false 1)), (1002, (AObj.cells [(Value.int .i64 x15), (Value.int .i64 x16)] 23 false 2)), (1003, (AObj.cells [(Value.int .i64 x17), (Value.int .i64 x18)] 23 false 2)), (500, (AObj.sym l19 false 5))] (dataK k)
theorem nhe2_text (C : Ct) (L : AtLoop) (x0 : Int) (x1 : Int) (x2 : Int) (x3 : Int) (x4 : Int) (x5 : Int) (n6 : Nat) (c7 : Nat) (x8 : Int) (x9 : Int) (x10 : Int) (x11 : Int) (x12 : Int) (x13 : Int) (x14 : Int) (x15 : Int) (x16 : Int) (x17 : Int) (x18 : Int) (l19 : List Go.Value) (k : List D → Prop) : nhe2 C L x0 x1 x2 x3 x4 x5 n6 c7 x8 x9 x10 x11 x12 x13 x14 x15 x16 x17 x18 l19 k =
 (k [(D.agg [(D.val (vI (IntKind.wrap .i64 (IntKind.wrap .i64 (100 * IntKind.wrap .i64 (x3 - x18)) + IntKind.wrap .i64 (IntKind.wrap .i64 (1 * IntKind.wrap .i64 (x1 - x14)) * x8))))), (D.val (vI (IntKind.wrap .i64 (IntKind.wrap .i64 (100 * IntKind.wrap .i64 (x4 - x17)) + IntKind.wrap .i64 (IntKind.wrap .i64 (1 * IntKind.wrap .i64 (x1 - x14)) * x9)))))])]) := by kernel_rfl
def gmT (C : Ct) (L : AtLoop) (x0 : Int) (x1 : Int) (x2 : Int) (k : List D → Prop) : Prop := wpFn Try.prog (hP C) L 0 97 #[.int .i64 x0, .agg #[.int .i64 x1, .int .i64 x2]] (heapOf []) (dataK k)
theorem gmT_text (C : Ct) (L : AtLoop) (x0 : Int) (x1 : Int) (x2 : Int) (k : List D → Prop) : gmT C L x0 x1 x2 k =
 (k [(D.agg [(D.val (vI (IntKind.wrap .i64 (100 * IntKind.wrap .i64 (x0 - x2))))), (D.val (vI (IntKind.wrap .i64 (100 * IntKind.wrap .i64 (x0 - x1)))))])]) := by kernel_rfl
def gma (C : Ct) (L : AtLoop) (x0 : Int) (x1 : Int) (x2 : Int) (x3 : Int) (x4 : Int) (x5 : Int) (n6 : Nat) (c6 : Nat) (l6 : List Value) (x7 : Int) (x8 : Int) (x9 : Int) (x10 : Int) (x11 : Int) (x12 : Int) (x13 : Int) (k : List D → Prop) : Prop := wpFn Try.prog (hP C) L 0 86 #[.agg #[.int .i64 x0, .int .i64 x1, .int .i64 x2, .int .i64 x3, .int .i64 x4, .int .i64 x5, .slice (some ⟨500, 0, none⟩) n6 c6, .int .i64 x7, .int .i64 x8, .int .i64 x9, .int .i64 x10], .agg #[.int .i64 x11, .int .i64 x12, .int .i64 x13]] (heapOf [(500, .sym l6 false 5)]) (dataK k)
theorem gma_text (C : Ct) (L : AtLoop) (x0 : Int) (x1 : Int) (x2 : Int) (x3 : Int) (x4 : Int) (x5 : Int) (n6 : Nat) (c6 : Nat) (l6 : List Go.Value) (x7 : Int) (x8 : Int) (x9 : Int) (x10 : Int) (x11 : Int) (x12 : Int) (x13 : Int) (k : List D → Prop) : gma C L x0 x1 x2 x3 x4 x5 n6 c6 l6 x7 x8 x9 x10 x11 x12 x13 k =
 (bcase (decide (0 ≤ x11))
 (bcase (decide (x11 < (↑n6 : Int)))
 (∃ n1 : Int,
 (∃ n2 : Int,
 (∃ n3 : Int,
 (∃ n4 : Int,
 (∃ n5 : Int,
 ((At (l6) (0 + Int.toNat x11 * 5) 5 [(vI n1), (vI n2), (vI n3), (vI n4), (vI n5)]) ∧
 ((((Qv (Pt 1004 0)) ∧
 (Qv (some (AObj.cells [(vI 0), (vI 0)] 23 false 2)))) ∧
 (((Qv (Pt 1003 0)) ∧
 (Qv (some (AObj.cells [(vI 0), (vI 0), (vI 0), (vI 0), (vI 0)] 73 false 5)))) ∧
 ((Qv (Value.agg [(vI x11), (vI x12), (vI x13)].toArray)) ∧
 ((Qv (Value.agg [(vI x0), (vI x1), (vI x2), (vI x3), (vI x4), (vI x5), (Sl 500 (n6) (c6)), (vI x7), (vI x8), (vI x9), (vI x10)].toArray)) ∧
 ((∃ n7 : Int,
 (∃ n8 : Int,
 (∃ n9 : Int,
 (∃ n10 : Int,
 (∃ n11 : Int,
 ((At (l6) (0 + Int.toNat x11 * 5) 5 [(vI n7), (vI n8), (vI n9), (vI n10), (vI n11)]) ∧
 ((Value.agg [(vI n7), (vI n8), (vI n9), (vI n10), (vI n11)].toArray) = (Value.agg [(vI n1), (vI n2), (vI n3), (vI n4), (vI n5)].toArray)))))))) ∧
 ((bcase (decide (0 ≤ x11))
 (bcase (decide (x11 < (↑n6 : Int)))
 (Qv (Pt 500 (0 + Int.toNat x11 * 5)))
 False)
 False) ∧
 ((Qv (vI x11)) ∧
 ((Qv (Pt 1001 0)) ∧
 ((Qv (Sl 500 (n6) (c6))) ∧
 ((Qv (Pt 1000 6)) ∧
 ((Qv (Pt 1000 0)) ∧
 True))))))))))) ∧
 (bcase (decide (0 + n6 * 5 ≤ List.length l6))
 (∃ n7 : Int,
 (∃ n8 : Int,
 ((Says C 63 [(D.agg [(D.val (vI x0)), (D.val (vI x1)), (D.val (vI x2)), (D.val (vI x3)), (D.val (vI x4)), (D.val (vI x5)), (D.sl (n6) 5 (List.take (n6 * 5) (List.drop 0 l6))), (D.val (vI x7)), (D.val (vI x8)), (D.val (vI x9)), (D.val (vI x10))]), (D.agg [(D.val (vI x11)), (D.val (vI x12)), (D.val (vI x13))])] [(D.agg [(D.val (vI n7)), (D.val (vI n8))])]) ∧
 ((((Qv (Pt 1004 0)) ∧
 (Qv (some (AObj.cells [(vI 0), (vI 0)] 23 false 2)))) ∧
 (((Qv (Pt 1003 0)) ∧
 (Qv (some (AObj.cells [(vI 0), (vI 0), (vI 0), (vI 0), (vI 0)] 73 false 5)))) ∧
 ((∃ n9 : Int,
 (∃ n10 : Int,
 (∃ n11 : Int,
 (∃ n12 : Int,
 (∃ n13 : Int,
 ((At (l6) (0 + Int.toNat x11 * 5) 5 [(vI n9), (vI n10), (vI n11), (vI n12), (vI n13)]) ∧
 ((Value.agg [(vI n9), (vI n10), (vI n11), (vI n12), (vI n13)].toArray) = (Value.agg [(vI n1), (vI n2), (vI n3), (vI n4), (vI n5)].toArray)))))))) ∧
 ((bcase (decide (0 ≤ x11))
 (bcase (decide (x11 < (↑n6 : Int)))
 (Qv (Pt 500 (0 + Int.toNat x11 * 5)))
 False)
 False) ∧
 ((Qv (vI x11)) ∧
 ((Qv (Pt 1001 0)) ∧
 ((Qv (Sl 500 (n6) (c6))) ∧
 ((Qv (Pt 1000 6)) ∧
 ((Qv (Pt 1000 0)) ∧
 True))))))))) ∧
 (True ∧
 (True ∧
 (((Qv (Value.agg [(vI (IntKind.wrap .i64 (n7 - IntKind.wrap .i64 (100 * x5)))), (vI (IntKind.wrap .i64 (n8 - IntKind.wrap .i64 (100 * x5))))].toArray)) ∧
 ((Qv (vI (IntKind.wrap .i64 (n8 - IntKind.wrap .i64 (100 * x5))))) ∧
 ((Qv (vI (IntKind.wrap .i64 (100 * x5)))) ∧
 ((Qv (vI x5)) ∧
 ((Qv (Pt 1000 5)) ∧
 ((Qv (Pt 1000 0)) ∧
 ((Qv (vI n8)) ∧
 ((Qv (Pt 1004 1)) ∧
 ((Qv (vI (IntKind.wrap .i64 (n7 - IntKind.wrap .i64 (100 * x5))))) ∧
 ((Qv (vI (IntKind.wrap .i64 (100 * x5)))) ∧
 ((Qv (vI x5)) ∧
 ((Qv (Pt 1000 5)) ∧
 ((Qv (Pt 1000 0)) ∧
 ((Qv (vI n7)) ∧
 ((Qv (Pt 1004 0)) ∧
 ((Qv (Value.agg [(vI x11), (vI x12), (vI x13)].toArray)) ∧
 ((Qv (Value.agg [(vI x0), (vI x1), (vI x2), (vI x3), (vI x4), (vI x5), (Sl 500 (n6) (c6)), (vI x7), (vI x8), (vI x9), (vI x10)].toArray)) ∧
 ((Qv (Value.agg [(vI x11), (vI x12), (vI x13)].toArray)) ∧
 ((Qv (Value.agg [(vI x0), (vI x1), (vI x2), (vI x3), (vI x4), (vI x5), (Sl 500 (n6) (c6)), (vI x7), (vI x8), (vI x9), (vI x10)].toArray)) ∧
 ((Qv (vI n3)) ∧
 ((Qv (Pt 1003 2)) ∧
 ((Qv (Value.agg [(vI x11), (vI x12), (vI x13)].toArray)) ∧
 ((Qv (Value.agg [(vI x0), (vI x1), (vI x2), (vI x3), (vI x4), (vI x5), (Sl 500 (n6) (c6)), (vI x7), (vI x8), (vI x9), (vI x10)].toArray)) ∧
 ((Qv (vI n2)) ∧
 ((Qv (Pt 1003 1)) ∧
 True))))))))))))))))))))))))) ∧
 (bcase (decide (0 + n6 * 5 ≤ List.length l6))
 (∃ n9 : Int,
 (∃ n10 : Int,
 ((Says C 98 [(D.agg [(D.val (vI x0)), (D.val (vI x1)), (D.val (vI x2)), (D.val (vI x3)), (D.val (vI x4)), (D.val (vI x5)), (D.sl (n6) 5 (List.take (n6 * 5) (List.drop 0 l6))), (D.val (vI x7)), (D.val (vI x8)), (D.val (vI x9)), (D.val (vI x10))]), (D.agg [(D.val (vI x11)), (D.val (vI x12)), (D.val (vI x13))])] [(D.agg [(D.val (vI n9)), (D.val (vI n10))])]) ∧
 (((Qv (Value.agg [(vI (IntKind.wrap .i64 (n7 - IntKind.wrap .i64 (100 * x5)))), (vI (IntKind.wrap .i64 (n8 - IntKind.wrap .i64 (100 * x5))))].toArray)) ∧
 ((Qv (vI (IntKind.wrap .i64 (n8 - IntKind.wrap .i64 (100 * x5))))) ∧
 ((Qv (vI (IntKind.wrap .i64 (100 * x5)))) ∧
 ((Qv (vI x5)) ∧
 ((Qv (Pt 1000 5)) ∧
 ((Qv (Pt 1000 0)) ∧
 ((Qv (vI n8)) ∧
 ((Qv (Pt 1004 1)) ∧
 ((Qv (vI (IntKind.wrap .i64 (n7 - IntKind.wrap .i64 (100 * x5))))) ∧
 ((Qv (vI (IntKind.wrap .i64 (100 * x5)))) ∧
 ((Qv (vI x5)) ∧
 ((Qv (Pt 1000 5)) ∧
 ((Qv (Pt 1000 0)) ∧
 ((Qv (vI n7)) ∧
 ((Qv (Pt 1004 0)) ∧
 ((Qv (Value.agg [(vI x11), (vI x12), (vI x13)].toArray)) ∧
 ((Qv (Value.agg [(vI x0), (vI x1), (vI x2), (vI x3), (vI x4), (vI x5), (Sl 500 (n6) (c6)), (vI x7), (vI x8), (vI x9), (vI x10)].toArray)) ∧
 ((Qv (Value.agg [(vI x11), (vI x12), (vI x13)].toArray)) ∧
 ((Qv (Value.agg [(vI x0), (vI x1), (vI x2), (vI x3), (vI x4), (vI x5), (Sl 500 (n6) (c6)), (vI x7), (vI x8), (vI x9), (vI x10)].toArray)) ∧
 ((Qv (vI n3)) ∧
 ((Qv (Pt 1003 2)) ∧
 ((Qv (vI n2)) ∧
 ((Qv (Pt 1003 1)) ∧
 True))))))))))))))))))))))) ∧
 (∃ n11 : Int,
 (∃ n12 : Int,
 ((Says C 97 [(D.val (vI n2)), (D.agg [(D.val (vI n9)), (D.val (vI n10))])] [(D.agg [(D.val (vI n11)), (D.val (vI n12))])]) ∧
 (((Qv (Value.agg [(vI (IntKind.wrap .i64 (n7 - IntKind.wrap .i64 (100 * x5)))), (vI (IntKind.wrap .i64 (n8 - IntKind.wrap .i64 (100 * x5))))].toArray)) ∧
 ((Qv (vI (IntKind.wrap .i64 (n8 - IntKind.wrap .i64 (100 * x5))))) ∧
 ((Qv (vI (IntKind.wrap .i64 (100 * x5)))) ∧
 ((Qv (vI x5)) ∧
 ((Qv (Pt 1000 5)) ∧
 ((Qv (Pt 1000 0)) ∧
 ((Qv (vI n8)) ∧
 ((Qv (Pt 1004 1)) ∧
 ((Qv (vI (IntKind.wrap .i64 (n7 - IntKind.wrap .i64 (100 * x5))))) ∧
 ((Qv (vI (IntKind.wrap .i64 (100 * x5)))) ∧
 ((Qv (vI x5)) ∧
 ((Qv (Pt 1000 5)) ∧
 ((Qv (Pt 1000 0)) ∧
 ((Qv (vI n7)) ∧
 ((Qv (Pt 1004 0)) ∧
 ((Qv (Value.agg [(vI x11), (vI x12), (vI x13)].toArray)) ∧
 ((Qv (Value.agg [(vI x0), (vI x1), (vI x2), (vI x3), (vI x4), (vI x5), (Sl 500 (n6) (c6)), (vI x7), (vI x8), (vI x9), (vI x10)].toArray)) ∧
 ((Qv (Value.agg [(vI x11), (vI x12), (vI x13)].toArray)) ∧
 ((Qv (Value.agg [(vI x0), (vI x1), (vI x2), (vI x3), (vI x4), (vI x5), (Sl 500 (n6) (c6)), (vI x7), (vI x8), (vI x9), (vI x10)].toArray)) ∧
 ((Qv (vI n3)) ∧
 ((Qv (Pt 1003 2)) ∧
 ((Qv (Pt 1003 1)) ∧
 True)))))))))))))))))))))) ∧
 (bcase (decide (0 + n6 * 5 ≤ List.length l6))
 (∃ n13 : Int,
 (∃ n14 : Int,
 ((Says C 89 [(D.agg [(D.val (vI x0)), (D.val (vI x1)), (D.val (vI x2)), (D.val (vI x3)), (D.val (vI x4)), (D.val (vI x5)), (D.sl (n6) 5 (List.take (n6 * 5) (List.drop 0 l6))), (D.val (vI x7)), (D.val (vI x8)), (D.val (vI x9)), (D.val (vI x10))]), (D.agg [(D.val (vI x11)), (D.val (vI x12)), (D.val (vI x13))])] [(D.agg [(D.val (vI n13)), (D.val (vI n14))])]) ∧
 (((Qv (Value.agg [(vI (IntKind.wrap .i64 (n7 - IntKind.wrap .i64 (100 * x5)))), (vI (IntKind.wrap .i64 (n8 - IntKind.wrap .i64 (100 * x5))))].toArray)) ∧
 ((Qv (vI (IntKind.wrap .i64 (n8 - IntKind.wrap .i64 (100 * x5))))) ∧
 ((Qv (vI (IntKind.wrap .i64 (100 * x5)))) ∧
 ((Qv (vI x5)) ∧
 ((Qv (Pt 1000 5)) ∧
 ((Qv (Pt 1000 0)) ∧
 ((Qv (vI n8)) ∧
 ((Qv (Pt 1004 1)) ∧
 ((Qv (vI (IntKind.wrap .i64 (n7 - IntKind.wrap .i64 (100 * x5))))) ∧
 ((Qv (vI (IntKind.wrap .i64 (100 * x5)))) ∧
 ((Qv (vI x5)) ∧
 ((Qv (Pt 1000 5)) ∧
 ((Qv (Pt 1000 0)) ∧
 ((Qv (vI n7)) ∧
 ((Qv (Pt 1004 0)) ∧
 ((Qv (Value.agg [(vI x11), (vI x12), (vI x13)].toArray)) ∧
 ((Qv (Value.agg [(vI x0), (vI x1), (vI x2), (vI x3), (vI x4), (vI x5), (Sl 500 (n6) (c6)), (vI x7), (vI x8), (vI x9), (vI x10)].toArray)) ∧
 ((Qv (vI n3)) ∧
 ((Qv (Pt 1003 2)) ∧
 ((Qv (Pt 1003 1)) ∧
 True)))))))))))))))))))) ∧
 (∃ n15 : Int,
 (∃ n16 : Int,
 ((Says C 97 [(D.val (vI n3)), (D.agg [(D.val (vI n13)), (D.val (vI n14))])] [(D.agg [(D.val (vI n15)), (D.val (vI n16))])]) ∧
 (((Qv (Value.agg [(vI (IntKind.wrap .i64 (n7 - IntKind.wrap .i64 (100 * x5)))), (vI (IntKind.wrap .i64 (n8 - IntKind.wrap .i64 (100 * x5))))].toArray)) ∧
 ((Qv (vI (IntKind.wrap .i64 (n8 - IntKind.wrap .i64 (100 * x5))))) ∧
 ((Qv (vI (IntKind.wrap .i64 (100 * x5)))) ∧
 ((Qv (vI x5)) ∧
 ((Qv (Pt 1000 5)) ∧
 ((Qv (Pt 1000 0)) ∧
 ((Qv (vI n8)) ∧
 ((Qv (Pt 1004 1)) ∧
 ((Qv (vI (IntKind.wrap .i64 (n7 - IntKind.wrap .i64 (100 * x5))))) ∧
 ((Qv (vI (IntKind.wrap .i64 (100 * x5)))) ∧
 ((Qv (vI x5)) ∧
 ((Qv (Pt 1000 5)) ∧
 ((Qv (Pt 1000 0)) ∧
 ((Qv (vI n7)) ∧
 ((Qv (Pt 1004 0)) ∧
 ((Qv (Value.agg [(vI x11), (vI x12), (vI x13)].toArray)) ∧
 ((Qv (Value.agg [(vI x0), (vI x1), (vI x2), (vI x3), (vI x4), (vI x5), (Sl 500 (n6) (c6)), (vI x7), (vI x8), (vI x9), (vI x10)].toArray)) ∧
 ((Qv (Pt 1003 2)) ∧
 ((Qv (Pt 1003 1)) ∧
 True))))))))))))))))))) ∧
 (bcase (decide (0 + n6 * 5 ≤ List.length l6))
 (∃ n17 : Int,
 (∃ n18 : Int,
 ((Says C 99 [(D.agg [(D.val (vI x0)), (D.val (vI x1)), (D.val (vI x2)), (D.val (vI x3)), (D.val (vI x4)), (D.val (vI x5)), (D.sl (n6) 5 (List.take (n6 * 5) (List.drop 0 l6))), (D.val (vI x7)), (D.val (vI x8)), (D.val (vI x9)), (D.val (vI x10))]), (D.agg [(D.val (vI x11)), (D.val (vI x12)), (D.val (vI x13))])] [(D.agg [(D.val (vI n17)), (D.val (vI n18))])]) ∧
 (((Qv (Value.agg [(vI n11), (vI n12), (vI n15), (vI n16), (vI n17), (vI n18), (vI (IntKind.wrap .i64 (n7 - IntKind.wrap .i64 (100 * x5)))), (vI (IntKind.wrap .i64 (n8 - IntKind.wrap .i64 (100 * x5))))].toArray)) ∧
 ((Qv (Value.agg [(vI (IntKind.wrap .i64 (n7 - IntKind.wrap .i64 (100 * x5)))), (vI (IntKind.wrap .i64 (n8 - IntKind.wrap .i64 (100 * x5))))].toArray)) ∧
 ((Qv (vI (IntKind.wrap .i64 (n8 - IntKind.wrap .i64 (100 * x5))))) ∧
 ((Qv (vI (IntKind.wrap .i64 (100 * x5)))) ∧
 ((Qv (vI x5)) ∧
 ((Qv (Pt 1000 5)) ∧
 ((Qv (Pt 1000 0)) ∧
 ((Qv (vI n8)) ∧
 ((Qv (Pt 1004 1)) ∧
 ((Qv (vI (IntKind.wrap .i64 (n7 - IntKind.wrap .i64 (100 * x5))))) ∧
 ((Qv (vI (IntKind.wrap .i64 (100 * x5)))) ∧
 ((Qv (vI x5)) ∧
 ((Qv (Pt 1000 5)) ∧
 ((Qv (Pt 1000 0)) ∧
 ((Qv (vI n7)) ∧
 ((Qv (Pt 1004 0)) ∧
 ((Qv (Pt 1003 2)) ∧
 ((Qv (Pt 1003 1)) ∧
 True)))))))))))))))))) ∧
 (True ∧
 (k [(D.agg [(D.val (vI n11)), (D.val (vI n12)), (D.val (vI n15)), (D.val (vI n16)), (D.val (vI n17)), (D.val (vI n18)), (D.val (vI (IntKind.wrap .i64 (n7 - IntKind.wrap .i64 (100 * x5))))), (D.val (vI (IntKind.wrap .i64 (n8 - IntKind.wrap .i64 (100 * x5)))))])]))))))
 False)))))))))
 False)))))))))
 False))))))))
 False))))))))
 False)
 False) := by kernel_rfl
def gro (C : Ct) (L : AtLoop) (x0 : Int) (x1 : Int) (x2 : Int) (x3 : Int) (x4 : Int) (x5 : Int) (n6 : Nat) (c6 : Nat) (l6 : List Value) (x7 : Int) (x8 : Int) (x9 : Int) (x10 : Int) (x11 : Int) (x12 : Int) (x13 : Int) (n14 : Nat) (c14 : Nat) (l14 : List Value) (k : List D → Prop) : Prop := wpFn Try.prog (hP C) L 0 61 #[.agg #[.int .i64 x0, .int .i64 x1, .int .i64 x2, .int .i64 x3, .int .i64 x4, .int .i64 x5, .slice (some ⟨500, 0, none⟩) n6 c6, .int .i64 x7, .int .i64 x8, .int .i64 x9, .int .i64 x10], .agg #[.int .i64 x11, .int .i64 x12, .int .i64 x13, .slice (some ⟨501, 0, none⟩) n14 c14]] (heapOf [(500, .sym l6 false 5), (501, .sym l14 false 1)]) (dataK k)
theorem gro_text (C : Ct) (L : AtLoop) (x0 : Int) (x1 : Int) (x2 : Int) (x3 : Int) (x4 : Int) (x5 : Int) (n6 : Nat) (c6 : Nat) (l6 : List Go.Value) (x7 : Int) (x8 : Int) (x9 : Int) (x10 : Int) (x11 : Int) (x12 : Int) (x13 : Int) (n14 : Nat) (c14 : Nat) (l14 : List Go.Value) (k : List D → Prop) : gro C L x0 x1 x2 x3 x4 x5 n6 c6 l6 x7 x8 x9 x10 x11 x12 x13 n14 c14 l14 k =
 (((Qv (vI x13)) ∧
 ((Qv (Pt 1001 2)) ∧
 ((Qv (Value.func (Go.Fn.func 84) [].toArray [].toArray)) ∧
 ((Qv (vI x12)) ∧
 ((Qv (Pt 1001 1)) ∧
 ((Qv (Value.func (Go.Fn.func 84) [].toArray [].toArray)) ∧
 ((Qv (vI x11)) ∧
 ((Qv (Pt 1001 0)) ∧
 ((Qv (Value.func (Go.Fn.func 84) [].toArray [].toArray)) ∧
 True))))))))) ∧
 (((Qv (Pt 1000 7)) ∧
 ((Qv (Pt 1000 0)) ∧
 ((Qv (vI x13)) ∧
 ((Qv (Pt 1001 2)) ∧
 ((Qv (Value.func (Go.Fn.func 84) [].toArray [].toArray)) ∧
 ((Qv (vI x12)) ∧
 ((Qv (Pt 1001 1)) ∧
 ((Qv (Value.func (Go.Fn.func 84) [].toArray [].toArray)) ∧
 ((Qv (Pt 1001 0)) ∧
 True))))))))) ∧
 (((Qv (Pt 1000 7)) ∧
 ((Qv (Pt 1000 0)) ∧
 ((Qv (vI x13)) ∧
 ((Qv (Pt 1001 2)) ∧
 ((Qv (Value.func (Go.Fn.func 84) [].toArray [].toArray)) ∧
 ((Qv (Pt 1001 1)) ∧
 ((Qv (Pt 1001 0)) ∧
 True))))))) ∧
 (((Qv (Pt 1000 7)) ∧
 ((Qv (Pt 1000 0)) ∧
 ((Qv (Pt 1001 2)) ∧
 ((Qv (Pt 1001 1)) ∧
 ((Qv (Pt 1001 0)) ∧
 True))))) ∧
 (((Qv (Pt 1000 9)) ∧
 ((Qv (Pt 1000 0)) ∧
 ((Qv (Pt 1000 0)) ∧
 ((Qv (Pt 1001 2)) ∧
 ((Qv (Pt 1001 1)) ∧
 True))))) ∧
 (((Qv (Pt 1000 3)) ∧
 ((Qv (Pt 1000 0)) ∧
 ((Qv (Pt 1000 0)) ∧
 ((Qv (Pt 1001 2)) ∧
 True)))) ∧
 (((Qv (Pt 1000 0)) ∧
 True) ∧
 (bcase (decide (0 + n6 * 5 ≤ List.length l6))
 (bcase (n6 == 0)
 (L 0 [(Prod.mk 2 (Pt 1000 0)), (Prod.mk 4 (Pt 1001 0)), (Prod.mk 5 (Value.func (Go.Fn.func 84) [].toArray [].toArray)), (Prod.mk 33 (Sl 501 (n14) (c14))), (Prod.mk 34 (vI ((↑n14 : Int)))), (Prod.mk 35 (vI 0))] [(Prod.mk 1000 (AObj.cells [(vI x0), (vI x1), (vI x2), (vI x13), (vI x13), (vI x5), (Sl 1002 0 0), (vI x11), (vI x11), (vI x12), (vI x12)] 95 false 1)), (Prod.mk 1001 (AObj.cells [(vI 0), (vI 0), (vI 0), (vI 0), (vI 0), (vI 0), (Value.slice none 0 0), (vI 0), (vI 0), (vI 0), (vI 0)] 95 false 11)), (Prod.mk 501 (AObj.sym (l14) false 1)), (Prod.mk 1002 (AObj.sym [] true 5))])
 (bcase (decide (0 < 0 + n6))
 (bcase (decide ((2 * (0 + n6) + 768) * 40 ≤ 281474976710656))
 (bcase (decide (0 + n6 ≤ 1099511627776))
 (L 0 [(Prod.mk 2 (Pt 1000 0)), (Prod.mk 4 (Pt 1001 0)), (Prod.mk 5 (Value.func (Go.Fn.func 84) [].toArray [].toArray)), (Prod.mk 33 (Sl 501 (n14) (c14))), (Prod.mk 34 (vI ((↑n14 : Int)))), (Prod.mk 35 (vI 0))] [(Prod.mk 1000 (AObj.cells [(vI x0), (vI x1), (vI x2), (vI x13), (vI x13), (vI x5), (Sl 1002 (0 + n6) (0 + n6)), (vI x11), (vI x11), (vI x12), (vI x12)] 95 false 1)), (Prod.mk 1001 (AObj.cells [(vI 0), (vI 0), (vI 0), (vI 0), (vI 0), (vI 0), (Value.slice none 0 0), (vI 0), (vI 0), (vI 0), (vI 0)] 95 false 11)), (Prod.mk 501 (AObj.sym (l14) false 1)), (Prod.mk 1002 (AObj.sym ([] ++ (List.take (n6 * 5) (List.drop 0 l6))) true 5))])
 False)
 False)
 False))
 False)))))))) := by kernel_rfl
abbrev zro1 (n0 : Nat) (c1 : Nat) (x2 : Int) (x3 : Int) (x4 : Int) (x5 : Int) (x6 : Int) (x7 : Int) (x8 : Int) (x9 : Int) (n10 : Nat) (x11 : Int) (x12 : Int) (x13 : Int) (x14 : Int) (x15 : Int) (x16 : Int) (x17 : Int) (x18 : Int) (x19 : Int) (x20 : Int) (x21 : Int) (x22 : Int) (x23 : Int) (x24 : Int) (l25 : List Value) (l26 : List Value) : Slots × Blocks := ([(2, (Value.pointer (some ⟨1000, 0, none⟩))), (4, (Value.pointer (some ⟨1001, 0, none⟩))), (5, (Value.func (.func 84) #[] #[])), (33, (Value.slice (some ⟨501, 0, none⟩) n0 c1)), (34, (Value.int .i64 x2)), (35, (Value.int .i64 x3))], [(1000, (AObj.cells [(Value.int .i64 x4), (Value.int .i64 x5), (Value.int .i64 x6), (Value.int .i64 x7), (Value.int .i64 x8), (Value.int .i64 x9), (Value.slice (some ⟨1002, 0, none⟩) n10 n10), (Value.int .i64 x11), (Value.int .i64 x12), (Value.int .i64 x13), (Value.int .i64 x14)] 95 false 1)), (1001, (AObj.cells [(Value.int .i64 x15), (Value.int .i64 x16), (Value.int .i64 x17), (Value.int .i64 x18), (Value.int .i64 x19), (Value.int .i64 x20), (Value.slice none 0 0), (Value.int .i64 x21), (Value.int .i64 x22), (Value.int .i64 x23), (Value.int .i64 x24)] 95 false 11)), (501, (AObj.sym l25 false 1)), (1002, (AObj.sym l26 true 5))])
def rro1 (C : Ct) (L : AtLoop) (n0 : Nat) (c1 : Nat) (x2 : Int) (x3 : Int) (x4 : Int) (x5 : Int) (x6 : Int) (x7 : Int) (x8 : Int) (x9 : Int) (n10 : Nat) (x11 : Int) (x12 : Int) (x13 : Int) (x14 : Int) (x15 : Int) (x16 : Int) (x17 : Int) (x18 : Int) (x19 : Int) (x20 : Int) (x21 : Int) (x22 : Int) (x23 : Int) (x24 : Int) (l25 : List Value) (l26 : List Value) (B : Bx) (X : Xx) (k : List D → Prop) : Prop := wpRound Try.prog (hP C) L 61 0 [(2, (Value.pointer (some ⟨1000, 0, none⟩))), (4, (Value.pointer (some ⟨1001, 0, none⟩))), (5, (Value.func (.func 84) #[] #[])), (33, (Value.slice (some ⟨501, 0, none⟩) n0 c1)), (34, (Value.int .i64 x2)), (35, (Value.int .i64 x3))] [(1000, (AObj.cells [(Value.int .i64 x4), (Value.int .i64 x5), (Value.int .i64 x6), (Value.int .i64 x7), (Value.int .i64 x8), (Value.int .i64 x9), (Value.slice (some ⟨1002, 0, none⟩) n10 n10), (Value.int .i64 x11), (Value.int .i64 x12), (Value.int .i64 x13), (Value.int .i64 x14)] 95 false 1)), (1001, (AObj.cells [(Value.int .i64 x15), (Value.int .i64 x16), (Value.int .i64 x17), (Value.int .i64 x18), (Value.int .i64 x19), (Value.int .i64 x20), (Value.slice none 0 0), (Value.int .i64 x21), (Value.int .i64 x22), (Value.int .i64 x23), (Value.int .i64 x24)] 95 false 11)), (501, (AObj.sym l25 false 1)), (1002, (AObj.sym l26 true 5))] B X (dataK k)
theorem rro1_text (C : Ct) (L : AtLoop) (n0 : Nat) (c1 : Nat) (x2 : Int) (x3 : Int) (x4 : Int) (x5 : Int) (x6 : Int) (x7 : Int) (x8 : Int) (x9 : Int) (n10 : Nat) (x11 : Int) (x12 : Int) (x13 : Int) (x14 : Int) (x15 : Int) (x16 : Int) (x17 : Int) (x18 : Int) (x19 : Int) (x20 : Int) (x21 : Int) (x22 : Int) (x23 : Int) (x24 : Int) (l25 : List Go.Value) (l26 : List Go.Value) (B : Bx) (X : Xx) (k : List D → Prop) : rro1 C L n0 c1 x2 x3 x4 x5 x6 x7 x8 x9 n10 x11 x12 x13 x14 x15 x16 x17 x18 x19 x20 x21 x22 x23 x24 l25 l26 B X k =
 (bcase (decide (x3 < x2))
 (bcase (decide (0 ≤ x3))
 (bcase (decide (x3 < (↑n0 : Int)))
 (∃ n1 : Int,
 ((At (l25) (0 + Int.toNat x3 * 1) 1 [(vI n1)]) ∧
 (((Qv (vI n1)) ∧
 ((Qv (Value.func (Go.Fn.func 84) [].toArray [].toArray)) ∧
 ((Qv (vI x3)) ∧
 ((Qv (Sl 1002 (n10) (n10))) ∧
 ((Qv (Pt 1000 6)) ∧
 ((Qv (Pt 1000 0)) ∧
 True)))))) ∧
 (bcase (decide (0 ≤ x3))
 (bcase (decide (x3 < (↑n10 : Int)))
 (((Qv (Value.pointer (some (Addr.mk 1002 (Addr.off { block := 1002, off := 0 + Int.toNat x3 * 5 } + 3) none)))) ∧
 ((bcase (decide (0 ≤ x3))
 (bcase (decide (x3 < (↑n10 : Int)))
 (Qv (Pt 1002 (0 + Int.toNat x3 * 5)))
 False)
 False) ∧
 ((Qv (vI x3)) ∧
 ((Qv (Sl 1002 (n10) (n10))) ∧
 ((Qv (Pt 1000 6)) ∧
 ((Qv (Pt 1000 0)) ∧
 True)))))) ∧
 (bcase (decide (Addr.off { block := 1002, off := 0 + Int.toNat x3 * 5 } + 3 + 2 ≤ List.length l26))
 (((bcase (decide (0 ≤ x3))
 (bcase (decide (x3 < (↑n10 : Int)))
 (Qv (Pt 1002 (0 + Int.toNat x3 * 5)))
 False)
 False) ∧
 True) ∧
 (B [(Prod.mk 2 (Pt 1000 0)), (Prod.mk 4 (Pt 1001 0)), (Prod.mk 5 (Value.func (Go.Fn.func 84) [].toArray [].toArray)), (Prod.mk 33 (Sl 501 (n0) (c1))), (Prod.mk 34 (vI x2)), (Prod.mk 35 (vI (IntKind.wrap .i64 (x3 + 1))))] [(Prod.mk 1000 (AObj.cells [(vI x4), (vI x5), (vI x6), (vI x7), (vI x8), (vI x9), (Sl 1002 (n10) (n10)), (vI x11), (vI x12), (vI x13), (vI x14)] 95 false 1)), (Prod.mk 1001 (AObj.cells [(vI x15), (vI x16), (vI x17), (vI x18), (vI x19), (vI x20), (Value.slice none 0 0), (vI x21), (vI x22), (vI x23), (vI x24)] 95 false 11)), (Prod.mk 501 (AObj.sym (l25) false 1)), (Prod.mk 1002 (AObj.sym (listSet (l26) (Addr.off { block := 1002, off := 0 + Int.toNat x3 * 5 } + 3) [(vI n1), (vI n1)]) true 5))]))
 False))
 False)
 False))))
 False)
 False)
 (X 0 [(Prod.mk 2 (Pt 1000 0)), (Prod.mk 4 (Pt 1001 0))] [(Prod.mk 1000 (AObj.cells [(vI x4), (vI x5), (vI x6), (vI x7), (vI x8), (vI x9), (Sl 1002 (n10) (n10)), (vI x11), (vI x12), (vI x13), (vI x14)] 95 false 1)), (Prod.mk 1001 (AObj.cells [(vI x15), (vI x16), (vI x17), (vI x18), (vI x19), (vI x20), (Value.slice none 0 0), (vI x21), (vI x22), (vI x23), (vI x24)] 95 false 11)), (Prod.mk 1002 (AObj.sym (l26) true 5))])) := by kernel_rfl
def nro2 (C : Ct) (L : AtLoop) (x0 : Int) (x1 : Int) (x2 : Int) (x3 : Int) (x4 : Int) (x5 : Int) (n6 : Nat) (x7 : Int) (x8 : Int) (x9 : Int) (x10 : Int) (x11 : Int) (x12 : Int) (x13 : Int) (x14 : Int) (x15 : Int) (x16 : Int) (x17 : Int) (x18 : Int) (x19 : Int) (x20 : Int) (l21 : List Value) (k : List D → Prop) : Prop := wpNext Try.prog (hP C) L 61 0 .normal [(2, (Value.pointer (some ⟨1000, 0, none⟩))), (4, (Value.pointer (some ⟨1001, 0, none⟩)))] [(1000, (AObj.cells [(Value.int .i64 x0), (Value.int .i64 x1), (Value.int .i64 x2), (Value.int .i64 x3), (Value.int .i64 x4), (Value.int .i64 x5), (Value.slice (some ⟨1002, 0, none⟩) n6 n6), (Value.int .i64 x7), (Value.int .i64 x8), (Value.int .i64 x9), (Value.int .i64 x10)] 95 false 1)), (1001, (AObj.cells [(Value.int .i64 x11), (Value.int .i64 x12), (Value.int .i64 x13), (Value.int .i64 x14), (Value.int .i64 x15), (Value.int .i64 x16), (Value.slice none 0 0), (Value.int .i64 x17), (Value.int .i64 x18), (Value.int .i64 x19), (Value.int .i64 x20)] 95 false 11)), (1002, (AObj.sym l21 true 5))] (dataK k)
theorem nro2_text (C : Ct) (L : AtLoop) (x0 : Int) (x1 : Int) (x2 : Int) (x3 : Int) (x4 : Int) (x5 : Int) (n6 : Nat) (x7 : Int) (x8 : Int) (x9 : Int) (x10 : Int) (x11 : Int) (x12 : Int) (x13 : Int) (x14 : Int) (x15 : Int) (x16 : Int) (x17 : Int) (x18 : Int) (x19 : Int) (x20 : Int) (l21 : List Go.Value) (k : List D → Prop) : nro2 C L x0 x1 x2 x3 x4 x5 n6 x7 x8 x9 x10 x11 x12 x13 x14 x15 x16 x17 x18 x19 x20 l21 k =
 (((Qv (n6)) ∧
 ((List.length l21) = (n6 * 5))) ∧
 (k [(D.agg [(D.val (vI x0)), (D.val (vI x1)), (D.val (vI x2)), (D.val (vI x3)), (D.val (vI x4)), (D.val (vI x5)), (D.sl (n6) 5 (l21)), (D.val (vI x7)), (D.val (vI x8)), (D.val (vI x9)), (D.val (vI x10))])])) := by kernel_rfl
def gRK (C : Ct) (L : AtLoop) (x0 : Int) (x1 : Int) (x2 : Int) (x3 : Int) (x4 : Int) (x5 : Int) (n6 : Nat) (c6 : Nat) (l6 : List Value) (x7 : Int) (x8 : Int) (x9 : Int) (x10 : Int) (k : List D → Prop) : Prop := wpFn Try.prog (hP C) L 0 14 #[.agg #[.int .i64 x0, .int .i64 x1, .int .i64 x2, .int .i64 x3, .int .i64 x4, .int .i64 x5, .slice (some ⟨500, 0, none⟩) n6 c6, .int .i64 x7, .int .i64 x8, .int .i64 x9, .int .i64 x10]] (heapOf [(500, .sym l6 false 5)]) (dataK k)
theorem gRK_text (C : Ct) (L : AtLoop) (x0 : Int) (x1 : Int) (x2 : Int) (x3 : Int) (x4 : Int) (x5 : Int) (n6 : Nat) (c6 : Nat) (l6 : List Go.Value) (x7 : Int) (x8 : Int) (x9 : Int) (x10 : Int) (k : List D → Prop) : gRK C L x0 x1 x2 x3 x4 x5 n6 c6 l6 x7 x8 x9 x10 k =
 (((Says C 18 [(D.val (vI x0)), (D.val (vI 1)), (D.val (vI 2500))] [(D.val (Value.bool true))]) ∧
 (((Says C 18 [(D.val (vI x1)), (D.val (vI 1)), (D.val (vI 1000))] [(D.val (Value.bool true))]) ∧
 (((Says C 18 [(D.val (vI x2)), (D.val (vI 1)), (D.val (vI 1000))] [(D.val (Value.bool true))]) ∧
 (((Says C 18 [(D.val (vI x3)), (D.val (vI 0)), (D.val (vI 20000))] [(D.val (Value.bool true))]) ∧
 (((Says C 18 [(D.val (vI x4)), (D.val (vI 0)), (D.val (vI 20000))] [(D.val (Value.bool true))]) ∧
 (((Says C 18 [(D.val (vI x5)), (D.val (vI 0)), (D.val (vI 20000))] [(D.val (Value.bool true))]) ∧
 (((Says C 18 [(D.val (vI x7)), (D.val (vI 1)), (D.val (vI 100))] [(D.val (Value.bool true))]) ∧
 (((Says C 18 [(D.val (vI x8)), (D.val (vI 1)), (D.val (vI 100))] [(D.val (Value.bool true))]) ∧
 (((Says C 18 [(D.val (vI x9)), (D.val (vI 0)), (D.val (vI 100))] [(D.val (Value.bool true))]) ∧
 (((Says C 18 [(D.val (vI x10)), (D.val (vI 0)), (D.val (vI 100))] [(D.val (Value.bool true))]) ∧
 (bcase (decide (x2 > x1))
 (k [(D.val (vI 0)), (D.val (vI 9))])
 (bcase (decide (x3 > x4))
 (k [(D.val (vI 0)), (D.val (vI 9))])
 (bcase (decide (x7 > x8))
 (k [(D.val (vI 0)), (D.val (vI 9))])
 (bcase (decide (x9 > x10))
 (k [(D.val (vI 0)), (D.val (vI 9))])
 (bcase ((↑n6 : Int) == 0)
 (k [(D.val (vI 0)), (D.val (vI 10))])
 (bcase (decide ((↑n6 : Int) > 6))
 (k [(D.val (vI 0)), (D.val (vI 8))])
 (L 0 [(Prod.mk 1 (Pt 1000 0)), (Prod.mk 4 (vI 0))] [(Prod.mk 1000 (AObj.cells [(vI x0), (vI x1), (vI x2), (vI x3), (vI x4), (vI x5), (Sl 500 (n6) (c6)), (vI x7), (vI x8), (vI x9), (vI x10)] 26 false 1)), (Prod.mk 500 (AObj.sym (l6) false 5))])))))))) ∨
 ((Says C 18 [(D.val (vI x10)), (D.val (vI 0)), (D.val (vI 100))] [(D.val (Value.bool false))]) ∧
 (k [(D.val (vI 0)), (D.val (vI 2))])))) ∨
 ((Says C 18 [(D.val (vI x9)), (D.val (vI 0)), (D.val (vI 100))] [(D.val (Value.bool false))]) ∧
 (k [(D.val (vI 0)), (D.val (vI 2))])))) ∨
 ((Says C 18 [(D.val (vI x8)), (D.val (vI 1)), (D.val (vI 100))] [(D.val (Value.bool false))]) ∧
 (k [(D.val (vI 0)), (D.val (vI 2))])))) ∨
 ((Says C 18 [(D.val (vI x7)), (D.val (vI 1)), (D.val (vI 100))] [(D.val (Value.bool false))]) ∧
 (k [(D.val (vI 0)), (D.val (vI 2))])))) ∨
 ((Says C 18 [(D.val (vI x5)), (D.val (vI 0)), (D.val (vI 20000))] [(D.val (Value.bool false))]) ∧
 (k [(D.val (vI 0)), (D.val (vI 2))])))) ∨
 ((Says C 18 [(D.val (vI x4)), (D.val (vI 0)), (D.val (vI 20000))] [(D.val (Value.bool false))]) ∧
 (k [(D.val (vI 0)), (D.val (vI 2))])))) ∨
 ((Says C 18 [(D.val (vI x3)), (D.val (vI 0)), (D.val (vI 20000))] [(D.val (Value.bool false))]) ∧
 (k [(D.val (vI 0)), (D.val (vI 2))])))) ∨
 ((Says C 18 [(D.val (vI x2)), (D.val (vI 1)), (D.val (vI 1000))] [(D.val (Value.bool false))]) ∧
 (k [(D.val (vI 0)), (D.val (vI 2))])))) ∨
 ((Says C 18 [(D.val (vI x1)), (D.val (vI 1)), (D.val (vI 1000))] [(D.val (Value.bool false))]) ∧
 (k [(D.val (vI 0)), (D.val (vI 2))])))) ∨
 ((Says C 18 [(D.val (vI x0)), (D.val (vI 1)), (D.val (vI 2500))] [(D.val (Value.bool false))]) ∧
 (k [(D.val (vI 0)), (D.val (vI 2))]))) := by kernel_rfl
abbrev zRK1 (x0 : Int) (x1 : Int) (x2 : Int) (x3 : Int) (x4 : Int) (x5 : Int) (x6 : Int) (n7 : Nat) (c8 : Nat) (x9 : Int) (x10 : Int) (x11 : Int) (x12 : Int) (l13 : List Value) : Slots × Blocks := ([(1, (Value.pointer (some ⟨1000, 0, none⟩))), (4, (Value.int .i64 x0))], [(1000, (AObj.cells [(Value.int .i64 x1), (Value.int .i64 x2), (Value.int .i64 x3), (Value.int .i64 x4), (Value.int .i64 x5), (Value.int .i64 x6), (Value.slice (some ⟨500, 0, none⟩) n7 c8), (Value.int .i64 x9), (Value.int .i64 x10), (Value.int .i64 x11), (Value.int .i64 x12)] 26 false 1)), (500, (AObj.sym l13 false 5))])
def rRK1 (C : Ct) (L : AtLoop) (x0 : Int) (x1 : Int) (x2 : Int) (x3 : Int) (x4 : Int) (x5 : Int) (x6 : Int) (n7 : Nat) (c8 : Nat) (x9 : Int) (x10 : Int) (x11 : Int) (x12 : Int) (l13 : List Value) (B : Bx) (X : Xx) (k : List D → Prop) : Prop := wpRound Try.prog (hP C) L 14 0 [(1, (Value.pointer (some ⟨1000, 0, none⟩))), (4, (Value.int .i64 x0))] [(1000, (AObj.cells [(Value.int .i64 x1), (Value.int .i64 x2), (Value.int .i64 x3), (Value.int .i64 x4), (Value.int .i64 x5), (Value.int .i64 x6), (Value.slice (some ⟨500, 0, none⟩) n7 c8), (Value.int .i64 x9), (Value.int .i64 x10), (Value.int .i64 x11), (Value.int .i64 x12)] 26 false 1)), (500, (AObj.sym l13 false 5))] B X (dataK k)
theorem rRK1_text (C : Ct) (L : AtLoop) (x0 : Int) (x1 : Int) (x2 : Int) (x3 : Int) (x4 : Int) (x5 : Int) (x6 : Int) (n7 : Nat) (c8 : Nat) (x9 : Int) (x10 : Int) (x11 : Int) (x12 : Int) (l13 : List Go.Value) (B : Bx) (X : Xx) (k : List D → Prop) : rRK1 C L x0 x1 x2 x3 x4 x5 x6 n7 c8 x9 x10 x11 x12 l13 B X k =
 (bcase (decide (x0 < (↑n7 : Int)))
 (bcase (decide (0 ≤ x0))
 (bcase (decide (x0 < (↑n7 : Int)))
 (∃ n1 : Int,
 (∃ n2 : Int,
 (∃ n3 : Int,
 (∃ n4 : Int,
 (∃ n5 : Int,
 ((At (l13) (0 + Int.toNat x0 * 5) 5 [(vI n1), (vI n2), (vI n3), (vI n4), (vI n5)]) ∧
 (((Says C 18 [(D.val (vI n1)), (D.val (vI 1)), (D.val (vI 1000))] [(D.val (Value.bool true))]) ∧
 (((Says C 18 [(D.val (vI n2)), (D.val (vI 0)), (D.val (vI 1000000000000))] [(D.val (Value.bool true))]) ∧
 (((Says C 18 [(D.val (vI n3)), (D.val (vI 0)), (D.val (vI 1000000000000))] [(D.val (Value.bool true))]) ∧
 (((Says C 18 [(D.val (vI n4)), (D.val (vI 0)), (D.val (vI 1000))] [(D.val (Value.bool true))]) ∧
 (((Says C 18 [(D.val (vI n5)), (D.val (vI 0)), (D.val (vI 1000))] [(D.val (Value.bool true))]) ∧
 (bcase (decide (n4 > n5))
 (k [(D.val (vI x0)), (D.val (vI 9))])
 (B [(Prod.mk 1 (Pt 1000 0)), (Prod.mk 4 (vI (IntKind.wrap .i64 (x0 + 1))))] [(Prod.mk 1000 (AObj.cells [(vI x1), (vI x2), (vI x3), (vI x4), (vI x5), (vI x6), (Sl 500 (n7) (c8)), (vI x9), (vI x10), (vI x11), (vI x12)] 26 false 1)), (Prod.mk 500 (AObj.sym (l13) false 5))]))) ∨
 ((Says C 18 [(D.val (vI n5)), (D.val (vI 0)), (D.val (vI 1000))] [(D.val (Value.bool false))]) ∧
 (k [(D.val (vI x0)), (D.val (vI 2))])))) ∨
 ((Says C 18 [(D.val (vI n4)), (D.val (vI 0)), (D.val (vI 1000))] [(D.val (Value.bool false))]) ∧
 (k [(D.val (vI x0)), (D.val (vI 2))])))) ∨
 ((Says C 18 [(D.val (vI n3)), (D.val (vI 0)), (D.val (vI 1000000000000))] [(D.val (Value.bool false))]) ∧
 (k [(D.val (vI x0)), (D.val (vI 2))])))) ∨
 ((Says C 18 [(D.val (vI n2)), (D.val (vI 0)), (D.val (vI 1000000000000))] [(D.val (Value.bool false))]) ∧
 (k [(D.val (vI x0)), (D.val (vI 2))])))) ∨
 ((Says C 18 [(D.val (vI n1)), (D.val (vI 1)), (D.val (vI 1000))] [(D.val (Value.bool false))]) ∧
 (k [(D.val (vI x0)), (D.val (vI 2))])))))))))
 False)
 False)
 (X 0 [] [])) := by kernel_rfl
def nRK2 (C : Ct) (L : AtLoop) (k : List D → Prop) : Prop := wpNext Try.prog (hP C) L 14 0 .normal [] [] (dataK k)
theorem nRK2_text (C : Ct) (L : AtLoop) (k : List D → Prop) : nRK2 C L k =
 (k [(D.val (vI 0)), (D.val (vI 0))]) := by kernel_rfl
def gRKn (C : Ct) (L : AtLoop) (x0 : Int) (x1 : Int) (x2 : Int) (x3 : Int) (x4 : Int) (x5 : Int) (x7 : Int) (x8 : Int) (x9 : Int) (x10 : Int) (k : List D → Prop) : Prop := wpFn Try.prog (hP C) L 0 14 #[.agg #[.int .i64 x0, .int .i64 x1, .int .i64 x2, .int .i64 x3, .int .i64 x4, .int .i64 x5, .slice none 0 0, .int .i64 x7, .int .i64 x8, .int .i64 x9, .int .i64 x10]] (heapOf []) (dataK k)
theorem gRKn_text (C : Ct) (L : AtLoop) (x0 : Int) (x1 : Int) (x2 : Int) (x3 : Int) (x4 : Int) (x5 : Int) (x7 : Int) (x8 : Int) (x9 : Int) (x10 : Int) (k : List D → Prop) : gRKn C L x0 x1 x2 x3 x4 x5 x7 x8 x9 x10 k =
 (((Says C 18 [(D.val (vI x0)), (D.val (vI 1)), (D.val (vI 2500))] [(D.val (Value.bool true))]) ∧
 (((Says C 18 [(D.val (vI x1)), (D.val (vI 1)), (D.val (vI 1000))] [(D.val (Value.bool true))]) ∧
 (((Says C 18 [(D.val (vI x2)), (D.val (vI 1)), (D.val (vI 1000))] [(D.val (Value.bool true))]) ∧
 (((Says C 18 [(D.val (vI x3)), (D.val (vI 0)), (D.val (vI 20000))] [(D.val (Value.bool true))]) ∧
 (((Says C 18 [(D.val (vI x4)), (D.val (vI 0)), (D.val (vI 20000))] [(D.val (Value.bool true))]) ∧
 (((Says C 18 [(D.val (vI x5)), (D.val (vI 0)), (D.val (vI 20000))] [(D.val (Value.bool true))]) ∧
 (((Says C 18 [(D.val (vI x7)), (D.val (vI 1)), (D.val (vI 100))] [(D.val (Value.bool true))]) ∧
 (((Says C 18 [(D.val (vI x8)), (D.val (vI 1)), (D.val (vI 100))] [(D.val (Value.bool true))]) ∧
 (((Says C 18 [(D.val (vI x9)), (D.val (vI 0)), (D.val (vI 100))] [(D.val (Value.bool true))]) ∧
 (((Says C 18 [(D.val (vI x10)), (D.val (vI 0)), (D.val (vI 100))] [(D.val (Value.bool true))]) ∧
 (bcase (decide (x2 > x1))
 (k [(D.val (vI 0)), (D.val (vI 9))])
 (bcase (decide (x3 > x4))
 (k [(D.val (vI 0)), (D.val (vI 9))])
 (bcase (decide (x7 > x8))
 (k [(D.val (vI 0)), (D.val (vI 9))])
 (bcase (decide (x9 > x10))
 (k [(D.val (vI 0)), (D.val (vI 9))])
 (k [(D.val (vI 0)), (D.val (vI 10))])))))) ∨
 ((Says C 18 [(D.val (vI x10)), (D.val (vI 0)), (D.val (vI 100))] [(D.val (Value.bool false))]) ∧
 (k [(D.val (vI 0)), (D.val (vI 2))])))) ∨
 ((Says C 18 [(D.val (vI x9)), (D.val (vI 0)), (D.val (vI 100))] [(D.val (Value.bool false))]) ∧
 (k [(D.val (vI 0)), (D.val (vI 2))])))) ∨
 ((Says C 18 [(D.val (vI x8)), (D.val (vI 1)), (D.val (vI 100))] [(D.val (Value.bool false))]) ∧
 (k [(D.val (vI 0)), (D.val (vI 2))])))) ∨
 ((Says C 18 [(D.val (vI x7)), (D.val (vI 1)), (D.val (vI 100))] [(D.val (Value.bool false))]) ∧
 (k [(D.val (vI 0)), (D.val (vI 2))])))) ∨
 ((Says C 18 [(D.val (vI x5)), (D.val (vI 0)), (D.val (vI 20000))] [(D.val (Value.bool false))]) ∧
 (k [(D.val (vI 0)), (D.val (vI 2))])))) ∨
 ((Says C 18 [(D.val (vI x4)), (D.val (vI 0)), (D.val (vI 20000))] [(D.val (Value.bool false))]) ∧
 (k [(D.val (vI 0)), (D.val (vI 2))])))) ∨
 ((Says C 18 [(D.val (vI x3)), (D.val (vI 0)), (D.val (vI 20000))] [(D.val (Value.bool false))]) ∧
 (k [(D.val (vI 0)), (D.val (vI 2))])))) ∨
 ((Says C 18 [(D.val (vI x2)), (D.val (vI 1)), (D.val (vI 1000))] [(D.val (Value.bool false))]) ∧
 (k [(D.val (vI 0)), (D.val (vI 2))])))) ∨
 ((Says C 18 [(D.val (vI x1)), (D.val (vI 1)), (D.val (vI 1000))] [(D.val (Value.bool false))]) ∧
 (k [(D.val (vI 0)), (D.val (vI 2))])))) ∨
 ((Says C 18 [(D.val (vI x0)), (D.val (vI 1)), (D.val (vI 2500))] [(D.val (Value.bool false))]) ∧
 (k [(D.val (vI 0)), (D.val (vI 2))]))) := by kernel_rfl
def gRE (C : Ct) (L : AtLoop) (x0 : Int) (x1 : Int) (x2 : Int) (x3 : Int) (x4 : Int) (x5 : Int) (n6 : Nat) (c6 : Nat) (l6 : List Value) (x7 : Int) (x8 : Int) (x9 : Int) (x10 : Int) (k : List D → Prop) : Prop := wpFn Try.prog (hP C) L 0 23 #[.agg #[.int .i64 x0, .int .i64 x1, .int .i64 x2, .int .i64 x3, .int .i64 x4, .int .i64 x5, .slice (some ⟨500, 0, none⟩) n6 c6, .int .i64 x7, .int .i64 x8, .int .i64 x9, .int .i64 x10]] (heapOf [(500, .sym l6 false 5)]) (dataK k)
theorem gRE_text (C : Ct) (L : AtLoop) (x0 : Int) (x1 : Int) (x2 : Int) (x3 : Int) (x4 : Int) (x5 : Int) (n6 : Nat) (c6 : Nat) (l6 : List Go.Value) (x7 : Int) (x8 : Int) (x9 : Int) (x10 : Int) (k : List D → Prop) : gRE C L x0 x1 x2 x3 x4 x5 n6 c6 l6 x7 x8 x9 x10 k =
 (bcase (decide (0 + n6 * 5 ≤ List.length l6))
 (∃ n1 : Int,
 (∃ n2 : Int,
 ((Says C 14 [(D.agg [(D.val (vI x0)), (D.val (vI x1)), (D.val (vI x2)), (D.val (vI x3)), (D.val (vI x4)), (D.val (vI x5)), (D.sl (n6) 5 (List.take (n6 * 5) (List.drop 0 l6))), (D.val (vI x7)), (D.val (vI x8)), (D.val (vI x9)), (D.val (vI x10))])] [(D.val (vI n1)), (D.val (vI n2))]) ∧
 (k [(D.val (vI n2))]))))
 False) := by kernel_rfl
def gREn (C : Ct) (L : AtLoop) (x0 : Int) (x1 : Int) (x2 : Int) (x3 : Int) (x4 : Int) (x5 : Int) (x7 : Int) (x8 : Int) (x9 : Int) (x10 : Int) (k : List D → Prop) : Prop := wpFn Try.prog (hP C) L 0 23 #[.agg #[.int .i64 x0, .int .i64 x1, .int .i64 x2, .int .i64 x3, .int .i64 x4, .int .i64 x5, .slice none 0 0, .int .i64 x7, .int .i64 x8, .int .i64 x9, .int .i64 x10]] (heapOf []) (dataK k)
theorem gREn_text (C : Ct) (L : AtLoop) (x0 : Int) (x1 : Int) (x2 : Int) (x3 : Int) (x4 : Int) (x5 : Int) (x7 : Int) (x8 : Int) (x9 : Int) (x10 : Int) (k : List D → Prop) : gREn C L x0 x1 x2 x3 x4 x5 x7 x8 x9 x10 k =
 (∃ n1 : Int,
 (∃ n2 : Int,
 ((Says C 14 [(D.agg [(D.val (vI x0)), (D.val (vI x1)), (D.val (vI x2)), (D.val (vI x3)), (D.val (vI x4)), (D.val (vI x5)), D.nil, (D.val (vI x7)), (D.val (vI x8)), (D.val (vI x9)), (D.val (vI x10))])] [(D.val (vI n1)), (D.val (vI n2))]) ∧
 (k [(D.val (vI n2))])))) := by kernel_rfl
def gRS (C : Ct) (L : AtLoop) (x0 : Int) (x1 : Int) (x2 : Int) (x3 : Int) (x4 : Int) (x5 : Int) (n6 : Nat) (c6 : Nat) (l6 : List Value) (x7 : Int) (x8 : Int) (x9 : Int) (x10 : Int) (s11 : ByteArray) (n12 : Nat) (c12 : Nat) (l12 : List Value) (k : List D → Prop) : Prop := wpFn Try.prog (hP C) L 0 15 #[.agg #[.int .i64 x0, .int .i64 x1, .int .i64 x2, .int .i64 x3, .int .i64 x4, .int .i64 x5, .slice (some ⟨500, 0, none⟩) n6 c6, .int .i64 x7, .int .i64 x8, .int .i64 x9, .int .i64 x10], .agg #[.string s11, .slice (some ⟨501, 0, none⟩) n12 c12]] (heapOf [(500, .sym l6 false 5), (501, .sym l12 false 1)]) (dataK k)
theorem gRS_text (C : Ct) (L : AtLoop) (x0 : Int) (x1 : Int) (x2 : Int) (x3 : Int) (x4 : Int) (x5 : Int) (n6 : Nat) (c6 : Nat) (l6 : List Go.Value) (x7 : Int) (x8 : Int) (x9 : Int) (x10 : Int) (s11 : ByteArray) (n12 : Nat) (c12 : Nat) (l12 : List Go.Value) (k : List D → Prop) : gRS C L x0 x1 x2 x3 x4 x5 n6 c6 l6 x7 x8 x9 x10 s11 n12 c12 l12 k =
 (((Says C 58 [(D.val (Value.string (s11)))] [(D.val (Value.bool true))]) ∧
 (bcase ((↑n12 : Int) != (↑n6 : Int))
 (k [(D.val (vI 0)), (D.val (vI 10))])
 (L 0 [(Prod.mk 2 (Pt 1000 0)), (Prod.mk 3 (Pt 1001 0)), (Prod.mk 6 (vI x1)), (Prod.mk 7 (vI 0))] [(Prod.mk 1000 (AObj.cells [(vI x0), (vI x1), (vI x2), (vI x3), (vI x4), (vI x5), (Sl 500 (n6) (c6)), (vI x7), (vI x8), (vI x9), (vI x10)] 26 false 1)), (Prod.mk 1001 (AObj.cells [(Value.string (s11)), (Sl 501 (n12) (c12))] 29 false 1)), (Prod.mk 500 (AObj.sym (l6) false 5)), (Prod.mk 501 (AObj.sym (l12) false 1))]))) ∨
 ((Says C 58 [(D.val (Value.string (s11)))] [(D.val (Value.bool false))]) ∧
 (k [(D.val (vI 0)), (D.val (vI 4))]))) := by kernel_rfl
abbrev zRS1 (x0 : Int) (x1 : Int) (x2 : Int) (x3 : Int) (x4 : Int) (x5 : Int) (x6 : Int) (x7 : Int) (n8 : Nat) (c9 : Nat) (x10 : Int) (x11 : Int) (x12 : Int) (x13 : Int) (s14 : ByteArray) (n15 : Nat) (c16 : Nat) (l17 : List Value) (l18 : List Value) : Slots × Blocks := ([(2, (Value.pointer (some ⟨1000, 0, none⟩))), (3, (Value.pointer (some ⟨1001, 0, none⟩))), (6, (Value.int .i64 x0)), (7, (Value.int .i64 x1))], [(1000, (AObj.cells [(Value.int .i64 x2), (Value.int .i64 x3), (Value.int .i64 x4), (Value.int .i64 x5), (Value.int .i64 x6), (Value.int .i64 x7), (Value.slice (some ⟨500, 0, none⟩) n8 c9), (Value.int .i64 x10), (Value.int .i64 x11), (Value.int .i64 x12), (Value.int .i64 x13)] 26 false 1)), (1001, (AObj.cells [(Value.string s14), (Value.slice (some ⟨501, 0, none⟩) n15 c16)] 29 false 1)), (500, (AObj.sym l17 false 5)), (501, (AObj.sym l18 false 1))])
def rRS1 (C : Ct) (L : AtLoop) (x0 : Int) (x1 : Int) (x2 : Int) (x3 : Int) (x4 : Int) (x5 : Int) (x6 : Int) (x7 : Int) (n8 : Nat) (c9 : Nat) (x10 : Int) (x11 : Int) (x12 : Int) (x13 : Int) (s14 : ByteArray) (n15 : Nat) (c16 : Nat) (l17 : List Value) (l18 : List Value) (B : Bx) (X : Xx) (k : List D → Prop) : Prop := wpRound Try.prog (hP C) L 15 0 [(2, (Value.pointer (some ⟨1000, 0, none⟩))), (3, (Value.pointer (some ⟨1001, 0, none⟩))), (6, (Value.int .i64 x0)), (7, (Value.int .i64 x1))] [(1000, (AObj.cells [(Value.int .i64 x2), (Value.int .i64 x3), (Value.int .i64 x4), (Value.int .i64 x5), (Value.int .i64 x6), (Value.int .i64 x7), (Value.slice (some ⟨500, 0, none⟩) n8 c9), (Value.int .i64 x10), (Value.int .i64 x11), (Value.int .i64 x12), (Value.int .i64 x13)] 26 false 1)), (1001, (AObj.cells [(Value.string s14), (Value.slice (some ⟨501, 0, none⟩) n15 c16)] 29 false 1)), (500, (AObj.sym l17 false 5)), (501, (AObj.sym l18 false 1))] B X (dataK k)
theorem rRS1_text (C : Ct) (L : AtLoop) (x0 : Int) (x1 : Int) (x2 : Int) (x3 : Int) (x4 : Int) (x5 : Int) (x6 : Int) (x7 : Int) (n8 : Nat) (c9 : Nat) (x10 : Int) (x11 : Int) (x12 : Int) (x13 : Int) (s14 : ByteArray) (n15 : Nat) (c16 : Nat) (l17 : List Go.Value) (l18 : List Go.Value) (B : Bx) (X : Xx) (k : List D → Prop) : rRS1 C L x0 x1 x2 x3 x4 x5 x6 x7 n8 c9 x10 x11 x12 x13 s14 n15 c16 l17 l18 B X k =
 (bcase (decide (x1 < (↑n15 : Int)))
 (bcase (decide (0 ≤ x1))
 (bcase (decide (x1 < (↑n15 : Int)))
 (∃ n1 : Int,
 ((At (l18) (0 + Int.toNat x1 * 1) 1 [(vI n1)]) ∧
 (((Says C 18 [(D.val (vI n1)), (D.val (vI 1)), (D.val (vI 1000))] [(D.val (Value.bool true))]) ∧
 (bcase (decide (0 ≤ x1))
 (bcase (decide (x1 < (↑n15 : Int)))
 (∃ n2 : Int,
 ((At (l18) (0 + Int.toNat x1 * 1) 1 [(vI n2)]) ∧
 (bcase (decide (n2 > x0))
 (k [(D.val (vI x1)), (D.val (vI 9))])
 (bcase (decide (0 ≤ x1))
 (bcase (decide (x1 < (↑n15 : Int)))
 (∃ n3 : Int,
 ((At (l18) (0 + Int.toNat x1 * 1) 1 [(vI n3)]) ∧
 (B [(Prod.mk 2 (Pt 1000 0)), (Prod.mk 3 (Pt 1001 0)), (Prod.mk 6 (vI n3)), (Prod.mk 7 (vI (IntKind.wrap .i64 (x1 + 1))))] [(Prod.mk 1000 (AObj.cells [(vI x2), (vI x3), (vI x4), (vI x5), (vI x6), (vI x7), (Sl 500 (n8) (c9)), (vI x10), (vI x11), (vI x12), (vI x13)] 26 false 1)), (Prod.mk 1001 (AObj.cells [(Value.string (s14)), (Sl 501 (n15) (c16))] 29 false 1)), (Prod.mk 500 (AObj.sym (l17) false 5)), (Prod.mk 501 (AObj.sym (l18) false 1))])))
 False)
 False))))
 False)
 False)) ∨
 ((Says C 18 [(D.val (vI n1)), (D.val (vI 1)), (D.val (vI 1000))] [(D.val (Value.bool false))]) ∧
 (k [(D.val (vI x1)), (D.val (vI 2))])))))
 False)
 False)
 (X 0 [(Prod.mk 2 (Pt 1000 0)), (Prod.mk 6 (vI x0))] [(Prod.mk 1000 (AObj.cells [(vI x2), (vI x3), (vI x4), (vI x5), (vI x6), (vI x7), (Sl 500 (n8) (c9)), (vI x10), (vI x11), (vI x12), (vI x13)] 26 false 1)), (Prod.mk 500 (AObj.sym (l17) false 5))])) := by kernel_rfl
def nRS2 (C : Ct) (L : AtLoop) (x0 : Int) (x1 : Int) (x2 : Int) (x3 : Int) (x4 : Int) (x5 : Int) (x6 : Int) (n7 : Nat) (c8 : Nat) (x9 : Int) (x10 : Int) (x11 : Int) (x12 : Int) (l13 : List Value) (k : List D → Prop) : Prop := wpNext Try.prog (hP C) L 15 0 .normal [(2, (Value.pointer (some ⟨1000, 0, none⟩))), (6, (Value.int .i64 x0))] [(1000, (AObj.cells [(Value.int .i64 x1), (Value.int .i64 x2), (Value.int .i64 x3), (Value.int .i64 x4), (Value.int .i64 x5), (Value.int .i64 x6), (Value.slice (some ⟨500, 0, none⟩) n7 c8), (Value.int .i64 x9), (Value.int .i64 x10), (Value.int .i64 x11), (Value.int .i64 x12)] 26 false 1)), (500, (AObj.sym l13 false 5))] (dataK k)
theorem nRS2_text (C : Ct) (L : AtLoop) (x0 : Int) (x1 : Int) (x2 : Int) (x3 : Int) (x4 : Int) (x5 : Int) (x6 : Int) (n7 : Nat) (c8 : Nat) (x9 : Int) (x10 : Int) (x11 : Int) (x12 : Int) (l13 : List Go.Value) (k : List D → Prop) : nRS2 C L x0 x1 x2 x3 x4 x5 x6 n7 c8 x9 x10 x11 x12 l13 k =
 (bcase (x0 != x3)
 (k [(D.val (vI (IntKind.wrap .i64 ((↑n7 : Int) - 1)))), (D.val (vI 14))])
 (k [(D.val (vI 0)), (D.val (vI 0))])) := by kernel_rfl
def gRSn (C : Ct) (L : AtLoop) (x0 : Int) (x1 : Int) (x2 : Int) (x3 : Int) (x4 : Int) (x5 : Int) (n6 : Nat) (c6 : Nat) (l6 : List Value) (x7 : Int) (x8 : Int) (x9 : Int) (x10 : Int) (s11 : ByteArray) (k : List D → Prop) : Prop := wpFn Try.prog (hP C) L 0 15 #[.agg #[.int .i64 x0, .int .i64 x1, .int .i64 x2, .int .i64 x3, .int .i64 x4, .int .i64 x5, .slice (some ⟨500, 0, none⟩) n6 c6, .int .i64 x7, .int .i64 x8, .int .i64 x9, .int .i64 x10], .agg #[.string s11, .slice none 0 0]] (heapOf [(500, .sym l6 false 5)]) (dataK k)
theorem gRSn_text (C : Ct) (L : AtLoop) (x0 : Int) (x1 : Int) (x2 : Int) (x3 : Int) (x4 : Int) (x5 : Int) (n6 : Nat) (c6 : Nat) (l6 : List Go.Value) (x7 : Int) (x8 : Int) (x9 : Int) (x10 : Int) (s11 : ByteArray) (k : List D → Prop) : gRSn C L x0 x1 x2 x3 x4 x5 n6 c6 l6 x7 x8 x9 x10 s11 k =
 (((Says C 58 [(D.val (Value.string (s11)))] [(D.val (Value.bool true))]) ∧
 (bcase ((↑0 : Int) != (↑n6 : Int))
 (k [(D.val (vI 0)), (D.val (vI 10))])
 (L 0 [(Prod.mk 2 (Pt 1000 0)), (Prod.mk 3 (Pt 1001 0)), (Prod.mk 6 (vI x1)), (Prod.mk 7 (vI 0))] [(Prod.mk 1000 (AObj.cells [(vI x0), (vI x1), (vI x2), (vI x3), (vI x4), (vI x5), (Sl 500 (n6) (c6)), (vI x7), (vI x8), (vI x9), (vI x10)] 26 false 1)), (Prod.mk 1001 (AObj.cells [(Value.string (s11)), (Value.slice none 0 0)] 29 false 1)), (Prod.mk 500 (AObj.sym (l6) false 5))]))) ∨
 ((Says C 58 [(D.val (Value.string (s11)))] [(D.val (Value.bool false))]) ∧
 (k [(D.val (vI 0)), (D.val (vI 4))]))) := by kernel_rfl
def gSE (C : Ct) (L : AtLoop) (x0 : Int) (x1 : Int) (x2 : Int) (x3 : Int) (x4 : Int) (x5 : Int) (n6 : Nat) (c6 : Nat) (l6 : List Value) (x7 : Int) (x8 : Int) (x9 : Int) (x10 : Int) (s11 : ByteArray) (n12 : Nat) (c12 : Nat) (l12 : List Value) (k : List D → Prop) : Prop := wpFn Try.prog (hP C) L 0 25 #[.agg #[.int .i64 x0, .int .i64 x1, .int .i64 x2, .int .i64 x3, .int .i64 x4, .int .i64 x5, .slice (some ⟨500, 0, none⟩) n6 c6, .int .i64 x7, .int .i64 x8, .int .i64 x9, .int .i64 x10], .agg #[.string s11, .slice (some ⟨501, 0, none⟩) n12 c12]] (heapOf [(500, .sym l6 false 5), (501, .sym l12 false 1)]) (dataK k)
theorem gSE_text (C : Ct) (L : AtLoop) (x0 : Int) (x1 : Int) (x2 : Int) (x3 : Int) (x4 : Int) (x5 : Int) (n6 : Nat) (c6 : Nat) (l6 : List Go.Value) (x7 : Int) (x8 : Int) (x9 : Int) (x10 : Int) (s11 : ByteArray) (n12 : Nat) (c12 : Nat) (l12 : List Go.Value) (k : List D → Prop) : gSE C L x0 x1 x2 x3 x4 x5 n6 c6 l6 x7 x8 x9 x10 s11 n12 c12 l12 k =
 (bcase (decide (0 + n6 * 5 ≤ List.length l6))
 (bcase (decide (0 + n12 * 1 ≤ List.length l12))
 (∃ n1 : Int,
 (∃ n2 : Int,
 ((Says C 15 [(D.agg [(D.val (vI x0)), (D.val (vI x1)), (D.val (vI x2)), (D.val (vI x3)), (D.val (vI x4)), (D.val (vI x5)), (D.sl (n6) 5 (List.take (n6 * 5) (List.drop 0 l6))), (D.val (vI x7)), (D.val (vI x8)), (D.val (vI x9)), (D.val (vI x10))]), (D.agg [(D.val (Value.string (s11))), (D.sl (n12) 1 (List.take (n12 * 1) (List.drop 0 l12)))])] [(D.val (vI n1)), (D.val (vI n2))]) ∧
 (k [(D.val (vI n2))]))))
 False)
 False) := by kernel_rfl
def gSEn (C : Ct) (L : AtLoop) (x0 : Int) (x1 : Int) (x2 : Int) (x3 : Int) (x4 : Int) (x5 : Int) (n6 : Nat) (c6 : Nat) (l6 : List Value) (x7 : Int) (x8 : Int) (x9 : Int) (x10 : Int) (s11 : ByteArray) (k : List D → Prop) : Prop := wpFn Try.prog (hP C) L 0 25 #[.agg #[.int .i64 x0, .int .i64 x1, .int .i64 x2, .int .i64 x3, .int .i64 x4, .int .i64 x5, .slice (some ⟨500, 0, none⟩) n6 c6, .int .i64 x7, .int .i64 x8, .int .i64 x9, .int .i64 x10], .agg #[.string s11, .slice none 0 0]] (heapOf [(500, .sym l6 false 5)]) (dataK k)
theorem gSEn_text (C : Ct) (L : AtLoop) (x0 : Int) (x1 : Int) (x2 : Int) (x3 : Int) (x4 : Int) (x5 : Int) (n6 : Nat) (c6 : Nat) (l6 : List Go.Value) (x7 : Int) (x8 : Int) (x9 : Int) (x10 : Int) (s11 : ByteArray) (k : List D → Prop) : gSEn C L x0 x1 x2 x3 x4 x5 n6 c6 l6 x7 x8 x9 x10 s11 k =
 (bcase (decide (0 + n6 * 5 ≤ List.length l6))
 (∃ n1 : Int,
 (∃ n2 : Int,
 ((Says C 15 [(D.agg [(D.val (vI x0)), (D.val (vI x1)), (D.val (vI x2)), (D.val (vI x3)), (D.val (vI x4)), (D.val (vI x5)), (D.sl (n6) 5 (List.take (n6 * 5) (List.drop 0 l6))), (D.val (vI x7)), (D.val (vI x8)), (D.val (vI x9)), (D.val (vI x10))]), (D.agg [(D.val (Value.string (s11))), D.nil])] [(D.val (vI n1)), (D.val (vI n2))]) ∧
 (k [(D.val (vI n2))]))))
 False) := by kernel_rfl
def gbf (C : Ct) (L : AtLoop) (x0 : Int) (x1 : Int) (x2 : Int) (x3 : Int) (x4 : Int) (x5 : Int) (n6 : Nat) (c6 : Nat) (l6 : List Value) (x7 : Int) (x8 : Int) (x9 : Int) (x10 : Int) (s11 : ByteArray) (n12 : Nat) (c12 : Nat) (l12 : List Value) (x13 : Int) (k : List D → Prop) : Prop := wpFn Try.prog (hP C) L 0 59 #[.agg #[.int .i64 x0, .int .i64 x1, .int .i64 x2, .int .i64 x3, .int .i64 x4, .int .i64 x5, .slice (some ⟨500, 0, none⟩) n6 c6, .int .i64 x7, .int .i64 x8, .int .i64 x9, .int .i64 x10], .agg #[.string s11, .slice (some ⟨501, 0, none⟩) n12 c12], .int .i64 x13] (heapOf [(500, .sym l6 false 5), (501, .sym l12 false 1)]) (dataK k)
theorem gbf_text (C : Ct) (L : AtLoop) (x0 : Int) (x1 : Int) (x2 : Int) (x3 : Int) (x4 : Int) (x5 : Int) (n6 : Nat) (c6 : Nat) (l6 : List Go.Value) (x7 : Int) (x8 : Int) (x9 : Int) (x10 : Int) (s11 : ByteArray) (n12 : Nat) (c12 : Nat) (l12 : List Go.Value) (x13 : Int) (k : List D → Prop) : gbf C L x0 x1 x2 x3 x4 x5 n6 c6 l6 x7 x8 x9 x10 s11 n12 c12 l12 x13 k =
 (bcase (x13 == 0)
 (k [(D.val (vI x1))])
 (bcase (decide (0 ≤ IntKind.wrap .i64 (x13 - 1)))
 (bcase (decide (IntKind.wrap .i64 (x13 - 1) < (↑n12 : Int)))
 (∃ n1 : Int,
 ((At (l12) (0 + Int.toNat (IntKind.wrap .i64 (x13 - 1)) * 1) 1 [(vI n1)]) ∧
 (k [(D.val (vI n1))])))
 False)
 False)) := by kernel_rfl
def grf (C : Ct) (L : AtLoop) (x0 : Int) (x1 : Int) (x2 : Int) (x3 : Int) (x4 : Int) (x5 : Int) (n6 : Nat) (c6 : Nat) (l6 : List Value) (x7 : Int) (x8 : Int) (x9 : Int) (x10 : Int) (x11 : Int) (x12 : Int) (x13 : Int) (x14 : Int) (k : List D → Prop) : Prop := wpFn Try.prog (hP C) L 0 66 #[.agg #[.int .i64 x0, .int .i64 x1, .int .i64 x2, .int .i64 x3, .int .i64 x4, .int .i64 x5, .slice (some ⟨500, 0, none⟩) n6 c6, .int .i64 x7, .int .i64 x8, .int .i64 x9, .int .i64 x10], .int .i64 x11, .int .i64 x12, .int .i64 x13, .int .i64 x14] (heapOf [(500, .sym l6 false 5)]) (dataK k)
theorem grf_text (C : Ct) (L : AtLoop) (x0 : Int) (x1 : Int) (x2 : Int) (x3 : Int) (x4 : Int) (x5 : Int) (n6 : Nat) (c6 : Nat) (l6 : List Go.Value) (x7 : Int) (x8 : Int) (x9 : Int) (x10 : Int) (x11 : Int) (x12 : Int) (x13 : Int) (x14 : Int) (k : List D → Prop) : grf C L x0 x1 x2 x3 x4 x5 n6 c6 l6 x7 x8 x9 x10 x11 x12 x13 x14 k =
 (bcase (x11 == x12)
 (k [(D.val (vI 0))])
 (k [(D.val (vI (IntKind.wrap .i64 (x0 * IntKind.wrap .i64 (IntKind.wrap .i64 (x13 * IntKind.wrap .i64 (x11 - x12)) + IntKind.wrap .i64 (x14 * IntKind.wrap .i64 (x11 + x12)))))))])) := by kernel_rfl
def grt (C : Ct) (L : AtLoop) (x0 : Int) (x1 : Int) (x2 : Int) (x3 : Int) (x4 : Int) (x5 : Int) (n6 : Nat) (c6 : Nat) (l6 : List Value) (x7 : Int) (x8 : Int) (x9 : Int) (x10 : Int) (x11 : Int) (x12 : Int) (x13 : Int) (x14 : Int) (k : List D → Prop) : Prop := wpFn Try.prog (hP C) L 0 67 #[.agg #[.int .i64 x0, .int .i64 x1, .int .i64 x2, .int .i64 x3, .int .i64 x4, .int .i64 x5, .slice (some ⟨500, 0, none⟩) n6 c6, .int .i64 x7, .int .i64 x8, .int .i64 x9, .int .i64 x10], .int .i64 x11, .int .i64 x12, .int .i64 x13, .int .i64 x14] (heapOf [(500, .sym l6 false 5)]) (dataK k)
theorem grt_text (C : Ct) (L : AtLoop) (x0 : Int) (x1 : Int) (x2 : Int) (x3 : Int) (x4 : Int) (x5 : Int) (n6 : Nat) (c6 : Nat) (l6 : List Go.Value) (x7 : Int) (x8 : Int) (x9 : Int) (x10 : Int) (x11 : Int) (x12 : Int) (x13 : Int) (x14 : Int) (k : List D → Prop) : grt C L x0 x1 x2 x3 x4 x5 n6 c6 l6 x7 x8 x9 x10 x11 x12 x13 x14 k =
 (bcase (decide (0 + n6 * 5 ≤ List.length l6))
 (∃ n1 : Int,
 ((Says C 66 [(D.agg [(D.val (vI x0)), (D.val (vI x1)), (D.val (vI x2)), (D.val (vI x3)), (D.val (vI x4)), (D.val (vI x5)), (D.sl (n6) 5 (List.take (n6 * 5) (List.drop 0 l6))), (D.val (vI x7)), (D.val (vI x8)), (D.val (vI x9)), (D.val (vI x10))]), (D.val (vI x11)), (D.val (vI x12)), (D.val (vI x13)), (D.val (vI x14))] [(D.val (vI n1))]) ∧
 (k [(D.val (vI (IntKind.wrap .i64 (n1 * IntKind.wrap .i64 (x11 - x12)))))])))
 False) := by kernel_rfl
def grb (C : Ct) (L : AtLoop) (x0 : Int) (x1 : Int) (x2 : Int) (x3 : Int) (x4 : Int) (x5 : Int) (x6 : Int) (x7 : Int) (k : List D → Prop) : Prop := wpFn Try.prog (hP C) L 0 68 #[.agg #[.int .i64 x0, .int .i64 x1, .int .i64 x2, .int .i64 x3, .int .i64 x4], .int .i64 x5, .int .i64 x6, .int .i64 x7] (heapOf []) (dataK k)
theorem grb_text (C : Ct) (L : AtLoop) (x0 : Int) (x1 : Int) (x2 : Int) (x3 : Int) (x4 : Int) (x5 : Int) (x6 : Int) (x7 : Int) (k : List D → Prop) : grb C L x0 x1 x2 x3 x4 x5 x6 x7 k =
 (bcase (x5 == x6)
 (k [(D.val (vI 0))])
 (k [(D.val (vI (IntKind.wrap .i64 (IntKind.wrap .i64 (x7 * x0) - IntKind.wrap .i64 (100 * IntKind.wrap .i64 (x5 - x6))))))])) := by kernel_rfl
def grh (C : Ct) (L : AtLoop) (x0 : Int) (x1 : Int) (x2 : Int) (x3 : Int) (x4 : Int) (x5 : Int) (n6 : Nat) (c6 : Nat) (l6 : List Value) (x7 : Int) (x8 : Int) (x9 : Int) (x10 : Int) (x11 : Int) (x12 : Int) (x13 : Int) (x14 : Int) (k : List D → Prop) : Prop := wpFn Try.prog (hP C) L 0 65 #[.agg #[.int .i64 x0, .int .i64 x1, .int .i64 x2, .int .i64 x3, .int .i64 x4, .int .i64 x5, .slice (some ⟨500, 0, none⟩) n6 c6, .int .i64 x7, .int .i64 x8, .int .i64 x9, .int .i64 x10], .int .i64 x11, .int .i64 x12, .int .i64 x13, .int .i64 x14] (heapOf [(500, .sym l6 false 5)]) (dataK k)
theorem grh_text (C : Ct) (L : AtLoop) (x0 : Int) (x1 : Int) (x2 : Int) (x3 : Int) (x4 : Int) (x5 : Int) (n6 : Nat) (c6 : Nat) (l6 : List Go.Value) (x7 : Int) (x8 : Int) (x9 : Int) (x10 : Int) (x11 : Int) (x12 : Int) (x13 : Int) (x14 : Int) (k : List D → Prop) : grh C L x0 x1 x2 x3 x4 x5 n6 c6 l6 x7 x8 x9 x10 x11 x12 x13 x14 k =
 (k [(D.val (vI (IntKind.wrap .i64 (IntKind.wrap .i64 (100 * IntKind.wrap .i64 (x13 - x14)) + IntKind.wrap .i64 (x12 * IntKind.wrap .i64 (x1 - x11))))))]) := by kernel_rfl
def gRm (C : Ct) (L : AtLoop) (x0 : Int) (x1 : Int) (x2 : Int) (x3 : Int) (x4 : Int) (x5 : Int) (n6 : Nat) (c6 : Nat) (l6 : List Value) (x7 : Int) (x8 : Int) (x9 : Int) (x10 : Int) (s11 : ByteArray) (n12 : Nat) (c12 : Nat) (l12 : List Value) (x13 : Int) (x14 : Int) (x15 : Int) (n16 : Nat) (c16 : Nat) (l16 : List Value) (k : List D → Prop) : Prop := wpFn Try.prog (hP C) L 0 26 #[.agg #[.int .i64 x0, .int .i64 x1, .int .i64 x2, .int .i64 x3, .int .i64 x4, .int .i64 x5, .slice (some ⟨500, 0, none⟩) n6 c6, .int .i64 x7, .int .i64 x8, .int .i64 x9, .int .i64 x10], .agg #[.string s11, .slice (some ⟨501, 0, none⟩) n12 c12], .agg #[.int .i64 x13, .int .i64 x14, .int .i64 x15, .slice (some ⟨502, 0, none⟩) n16 c16]] (heapOf [(500, .sym l6 false 5), (501, .sym l12 false 1), (502, .sym l16 false 1)]) (dataK k)
theorem gRm_text (C : Ct) (L : AtLoop) (x0 : Int) (x1 : Int) (x2 : Int) (x3 : Int) (x4 : Int) (x5 : Int) (n6 : Nat) (c6 : Nat) (l6 : List Go.Value) (x7 : Int) (x8 : Int) (x9 : Int) (x10 : Int) (s11 : ByteArray) (n12 : Nat) (c12 : Nat) (l12 : List Go.Value) (x13 : Int) (x14 : Int) (x15 : Int) (n16 : Nat) (c16 : Nat) (l16 : List Go.Value) (k : List D → Prop) : gRm C L x0 x1 x2 x3 x4 x5 n6 c6 l6 x7 x8 x9 x10 s11 n12 c12 l12 x13 x14 x15 n16 c16 l16 k =
 (L 0 [(Prod.mk 3 (Pt 1000 0)), (Prod.mk 4 (Pt 1001 0)), (Prod.mk 5 (Pt 1002 0)), (Prod.mk 8 (Value.slice none 0 0)), (Prod.mk 9 (Value.bool true)), (Prod.mk 10 (vI 0)), (Prod.mk 11 (vI 0))] [(Prod.mk 1000 (AObj.cells [(vI x0), (vI x1), (vI x2), (vI x3), (vI x4), (vI x5), (Sl 500 (n6) (c6)), (vI x7), (vI x8), (vI x9), (vI x10)] 26 false 1)), (Prod.mk 1001 (AObj.cells [(Value.string (s11)), (Sl 501 (n12) (c12))] 29 false 1)), (Prod.mk 1002 (AObj.cells [(vI x13), (vI x14), (vI x15), (Sl 502 (n16) (c16))] 51 false 1)), (Prod.mk 500 (AObj.sym (l6) false 5)), (Prod.mk 501 (AObj.sym (l12) false 1)), (Prod.mk 502 (AObj.sym (l16) false 1))]) := by kernel_rfl
abbrev zRm1 (b0 : Bool) (x1 : Int) (x2 : Int) (x3 : Int) (x4 : Int) (x5 : Int) (x6 : Int) (x7 : Int) (x8 : Int) (n9 : Nat) (c10 : Nat) (x11 : Int) (x12 : Int) (x13 : Int) (x14 : Int) (s15 : ByteArray) (n16 : Nat) (c17 : Nat) (x18 : Int) (x19 : Int) (x20 : Int) (n21 : Nat) (c22 : Nat) (l23 : List Value) (l24 : List Value) (l25 : List Value) : Slots × Blocks := ([(3, (Value.pointer (some ⟨1000, 0, none⟩))), (4, (Value.pointer (some ⟨1001, 0, none⟩))), (5, (Value.pointer (some ⟨1002, 0, none⟩))), (8, (Value.slice none 0 0)), (9, (Value.bool b0)), (10, (Value.int .i64 x1)), (11, (Value.int .i64 x2))], [(1000, (AObj.cells [(Value.int .i64 x3), (Value.int .i64 x4), (Value.int .i64 x5), (Value.int .i64 x6), (Value.int .i64 x7), (Value.int .i64 x8), (Value.slice (some ⟨500, 0, none⟩) n9 c10), (Value.int .i64 x11), (Value.int .i64 x12), (Value.int .i64 x13), (Value.int .i64 x14)] 26 false 1)), (1001, (AObj.cells [(Value.string s15), (Value.slice (some ⟨501, 0, none⟩) n16 c17)] 29 false 1)), (1002, (AObj.cells [(Value.int .i64 x18), (Value.int .i64 x19), (Value.int .i64 x20), (Value.slice (some ⟨502, 0, none⟩) n21 c22)] 51 false 1)), (500, (AObj.sym l23 false 5)), (501, (AObj.sym l24 false 1)), (502, (AObj.sym l25 false 1))])
def rRm1 (C : Ct) (L : AtLoop) (b0 : Bool) (x1 : Int) (x2 : Int) (x3 : Int) (x4 : Int) (x5 : Int) (x6 : Int) (x7 : Int) (x8 : Int) (n9 : Nat) (c10 : Nat) (x11 : Int) (x12 : Int) (x13 : Int) (x14 : Int) (s15 : ByteArray) (n16 : Nat) (c17 : Nat) (x18 : Int) (x19 : Int) (x20 : Int) (n21 : Nat) (c22 : Nat) (l23 : List Value) (l24 : List Value) (l25 : List Value) (B : Bx) (X : Xx) (k : List D → Prop) : Prop := wpRound Try.prog (hP C) L 26 0 [(3, (Value.pointer (some ⟨1000, 0, none⟩))), (4, (Value.pointer (some ⟨1001, 0, none⟩))), (5, (Value.pointer (some ⟨1002, 0, none⟩))), (8, (Value.slice none 0 0)), (9, (Value.bool b0)), (10, (Value.int .i64 x1)), (11, (Value.int .i64 x2))] [(1000, (AObj.cells [(Value.int .i64 x3), (Value.int .i64 x4), (Value.int .i64 x5), (Value.int .i64 x6), (Value.int .i64 x7), (Value.int .i64 x8), (Value.slice (some ⟨500, 0, none⟩) n9 c10), (Value.int .i64 x11), (Value.int .i64 x12), (Value.int .i64 x13), (Value.int .i64 x14)] 26 false 1)), (1001, (AObj.cells [(Value.string s15), (Value.slice (some ⟨501, 0, none⟩) n16 c17)] 29 false 1)), (1002, (AObj.cells [(Value.int .i64 x18), (Value.int .i64 x19), (Value.int .i64 x20), (Value.slice (some ⟨502, 0, none⟩) n21 c22)] 51 false 1)), (500, (AObj.sym l23 false 5)), (501, (AObj.sym l24 false 1)), (502, (AObj.sym l25 false 1))] B X (dataK k)
theorem rRm1_text (C : Ct) (L : AtLoop) (b0 : Bool) (x1 : Int) (x2 : Int) (x3 : Int) (x4 : Int) (x5 : Int) (x6 : Int) (x7 : Int) (x8 : Int) (n9 : Nat) (c10 : Nat) (x11 : Int) (x12 : Int) (x13 : Int) (x14 : Int) (s15 : ByteArray) (n16 : Nat) (c17 : Nat) (x18 : Int) (x19 : Int) (x20 : Int) (n21 : Nat) (c22 : Nat) (l23 : List Go.Value) (l24 : List Go.Value) (l25 : List Go.Value) (B : Bx) (X : Xx) (k : List D → Prop) : rRm1 C L b0 x1 x2 x3 x4 x5 x6 x7 x8 n9 c10 x11 x12 x13 x14 s15 n16 c17 x18 x19 x20 n21 c22 l23 l24 l25 B X k =
 (bcase (decide (x2 < (↑n9 : Int)))
 (bcase (decide (0 ≤ x2))
 (bcase (decide (x2 < (↑n16 : Int)))
 (∃ n1 : Int,
 ((At (l24) (0 + Int.toNat x2 * 1) 1 [(vI n1)]) ∧
 (bcase (decide (0 ≤ x2))
 (bcase (decide (x2 < (↑n9 : Int)))
 (∃ n2 : Int,
 (∃ n3 : Int,
 (∃ n4 : Int,
 (∃ n5 : Int,
 (∃ n6 : Int,
 ((At (l23) (0 + Int.toNat x2 * 5) 5 [(vI n2), (vI n3), (vI n4), (vI n5), (vI n6)]) ∧
 ((((Qv (Pt 1003 0)) ∧
 (Qv (some (AObj.cells [(vI 0), (vI 0), (vI 0), (vI 0), (vI 0)] 73 false 5)))) ∧
 ((∃ n7 : Int,
 (∃ n8 : Int,
 (∃ n10 : Int,
 (∃ n11 : Int,
 (∃ n12 : Int,
 ((At (l23) (0 + Int.toNat x2 * 5) 5 [(vI n7), (vI n8), (vI n10), (vI n11), (vI n12)]) ∧
 ((Value.agg [(vI n7), (vI n8), (vI n10), (vI n11), (vI n12)].toArray) = (Value.agg [(vI n2), (vI n3), (vI n4), (vI n5), (vI n6)].toArray)))))))) ∧
 ((bcase (decide (0 ≤ x2))
 (bcase (decide (x2 < (↑n9 : Int)))
 (Qv (Pt 500 (0 + Int.toNat x2 * 5)))
 False)
 False) ∧
 ((Qv (vI x2)) ∧
 ((Qv (Sl 500 (n9) (c10))) ∧
 ((Qv (Pt 1000 6)) ∧
 ((∃ n7 : Int,
 ((At (l24) (0 + Int.toNat x2 * 1) 1 [(vI n7)]) ∧
 ((vI n7) = (vI n1)))) ∧
 ((bcase (decide (0 ≤ x2))
 (bcase (decide (x2 < (↑n16 : Int)))
 (Qv (Pt 501 (0 + Int.toNat x2 * 1)))
 False)
 False) ∧
 ((Qv (vI x2)) ∧
 ((Qv (Sl 501 (n16) (c17))) ∧
 ((Qv (Pt 1001 1)) ∧
 ((Qv (vI x2)) ∧
 ((Qv (Value.agg [(Value.string (s15)), (Sl 501 (n16) (c17))].toArray)) ∧
 ((Qv (Value.agg [(vI x3), (vI x4), (vI x5), (vI x6), (vI x7), (vI x8), (Sl 500 (n9) (c10)), (vI x11), (vI x12), (vI x13), (vI x14)].toArray)) ∧
 True)))))))))))))) ∧
 (bcase (decide (0 + n9 * 5 ≤ List.length l23))
 (bcase (decide (0 + n16 * 1 ≤ List.length l24))
 (∃ n7 : Int,
 ((Says C 59 [(D.agg [(D.val (vI x3)), (D.val (vI x4)), (D.val (vI x5)), (D.val (vI x6)), (D.val (vI x7)), (D.val (vI x8)), (D.sl (n9) 5 (List.take (n9 * 5) (List.drop 0 l23))), (D.val (vI x11)), (D.val (vI x12)), (D.val (vI x13)), (D.val (vI x14))]), (D.agg [(D.val (Value.string (s15))), (D.sl (n16) 1 (List.take (n16 * 1) (List.drop 0 l24)))]), (D.val (vI x2))] [(D.val (vI n7))]) ∧
 ((((Qv (Pt 1003 0)) ∧
 (Qv (some (AObj.cells [(vI 0), (vI 0), (vI 0), (vI 0), (vI 0)] 73 false 5)))) ∧
 ((∃ n8 : Int,
 (∃ n10 : Int,
 (∃ n11 : Int,
 (∃ n12 : Int,
 (∃ n13 : Int,
 ((At (l23) (0 + Int.toNat x2 * 5) 5 [(vI n8), (vI n10), (vI n11), (vI n12), (vI n13)]) ∧
 ((Value.agg [(vI n8), (vI n10), (vI n11), (vI n12), (vI n13)].toArray) = (Value.agg [(vI n2), (vI n3), (vI n4), (vI n5), (vI n6)].toArray)))))))) ∧
 ((bcase (decide (0 ≤ x2))
 (bcase (decide (x2 < (↑n9 : Int)))
 (Qv (Pt 500 (0 + Int.toNat x2 * 5)))
 False)
 False) ∧
 ((Qv (vI x2)) ∧
 ((Qv (Sl 500 (n9) (c10))) ∧
 ((Qv (Pt 1000 6)) ∧
 ((∃ n8 : Int,
 ((At (l24) (0 + Int.toNat x2 * 1) 1 [(vI n8)]) ∧
 ((vI n8) = (vI n1)))) ∧
 ((bcase (decide (0 ≤ x2))
 (bcase (decide (x2 < (↑n16 : Int)))
 (Qv (Pt 501 (0 + Int.toNat x2 * 1)))
 False)
 False) ∧
 ((Qv (vI x2)) ∧
 ((Qv (Sl 501 (n16) (c17))) ∧
 ((Qv (Pt 1001 1)) ∧
 True))))))))))) ∧
 (((∃ n8 : Int,
 (∃ n10 : Int,
 (∃ n11 : Int,
 (∃ n12 : Int,
 (∃ n13 : Int,
 ((At (l23) (0 + Int.toNat x2 * 5) 5 [(vI n8), (vI n10), (vI n11), (vI n12), (vI n13)]) ∧
 ((Value.agg [(vI n8), (vI n10), (vI n11), (vI n12), (vI n13)].toArray) = (Value.agg [(vI n2), (vI n3), (vI n4), (vI n5), (vI n6)].toArray)))))))) ∧
 ((bcase (decide (0 ≤ x2))
 (bcase (decide (x2 < (↑n9 : Int)))
 (Qv (Pt 500 (0 + Int.toNat x2 * 5)))
 False)
 False) ∧
 ((Qv (vI x2)) ∧
 ((Qv (Sl 500 (n9) (c10))) ∧
 ((Qv (Pt 1000 6)) ∧
 ((∃ n8 : Int,
 ((At (l24) (0 + Int.toNat x2 * 1) 1 [(vI n8)]) ∧
 ((vI n8) = (vI n1)))) ∧
 ((bcase (decide (0 ≤ x2))
 (bcase (decide (x2 < (↑n16 : Int)))
 (Qv (Pt 501 (0 + Int.toNat x2 * 1)))
 False)
 False) ∧
 ((Qv (vI x2)) ∧
 ((Qv (Sl 501 (n16) (c17))) ∧
 ((Qv (Pt 1001 1)) ∧
 True)))))))))) ∧
 (((∃ n8 : Int,
 (∃ n10 : Int,
 (∃ n11 : Int,
 (∃ n12 : Int,
 (∃ n13 : Int,
 ((At (l23) (0 + Int.toNat x2 * 5) 5 [(vI n8), (vI n10), (vI n11), (vI n12), (vI n13)]) ∧
 ((Value.agg [(vI n8), (vI n10), (vI n11), (vI n12), (vI n13)].toArray) = (Value.agg [(vI n2), (vI n3), (vI n4), (vI n5), (vI n6)].toArray)))))))) ∧
 ((bcase (decide (0 ≤ x2))
 (bcase (decide (x2 < (↑n9 : Int)))
 (Qv (Pt 500 (0 + Int.toNat x2 * 5)))
 False)
 False) ∧
 ((Qv (vI x2)) ∧
 ((Qv (Sl 500 (n9) (c10))) ∧
 ((Qv (Pt 1000 6)) ∧
 True))))) ∧
 (True ∧
 (bcase (decide (0 ≤ x2))
 (bcase (decide (x2 < (↑n21 : Int)))
 (∃ n8 : Int,
 ((At (l25) (0 + Int.toNat x2 * 1) 1 [(vI n8)]) ∧
 (bcase (decide (0 + n9 * 5 ≤ List.length l23))
 (∃ n10 : Int,
 ((Says C 65 [(D.agg [(D.val (vI x3)), (D.val (vI x4)), (D.val (vI x5)), (D.val (vI x6)), (D.val (vI x7)), (D.val (vI x8)), (D.sl (n9) 5 (List.take (n9 * 5) (List.drop 0 l23))), (D.val (vI x11)), (D.val (vI x12)), (D.val (vI x13)), (D.val (vI x14))]), (D.val (vI n1)), (D.val (vI x18)), (D.val (vI x20)), (D.val (vI (IntKind.wrap .i64 (x1 + n8))))] [(D.val (vI n10))]) ∧
 (∃ n11 : Int,
 (∃ n12 : Int,
 ((Says C 41 [(D.val (vI n10)), (D.val (vI 100))] [(D.agg [(D.val (vI n11)), (D.val (vI n12))])]) ∧
 (bcase (b0)
 (((Qv (vI n3)) ∧
 ((Qv (Pt 1003 1)) ∧
 ((Qv (vI x19)) ∧
 ((Qv (Pt 1002 1)) ∧
 ((Qv (vI x18)) ∧
 ((Qv (Pt 1002 0)) ∧
 ((Qv (vI n1)) ∧
 ((Qv (vI n7)) ∧
 ((Qv (Value.agg [(vI x3), (vI x4), (vI x5), (vI x6), (vI x7), (vI x8), (Sl 500 (n9) (c10)), (vI x11), (vI x12), (vI x13), (vI x14)].toArray)) ∧
 ((Qv (Value.bool true)) ∧
 ((bcase (b0)
 (Qv (Value.bool true))
 ((Value.bool false) = (Value.bool true))) ∧
 True))))))))))) ∧
 (bcase (decide (0 + n9 * 5 ≤ List.length l23))
 (∃ n13 : Int,
 ((Says C 66 [(D.agg [(D.val (vI x3)), (D.val (vI x4)), (D.val (vI x5)), (D.val (vI x6)), (D.val (vI x7)), (D.val (vI x8)), (D.sl (n9) 5 (List.take (n9 * 5) (List.drop 0 l23))), (D.val (vI x11)), (D.val (vI x12)), (D.val (vI x13)), (D.val (vI x14))]), (D.val (vI n7)), (D.val (vI n1)), (D.val (vI x18)), (D.val (vI x19))] [(D.val (vI n13))]) ∧
 (bcase (decide (n13 ≤ n3))
 (((Qv (vI n4)) ∧
 ((Qv (Pt 1003 2)) ∧
 ((Qv (vI x19)) ∧
 ((Qv (Pt 1002 1)) ∧
 ((Qv (vI x18)) ∧
 ((Qv (Pt 1002 0)) ∧
 ((Qv (vI n1)) ∧
 ((Qv (vI n7)) ∧
 ((Qv (Value.agg [(vI x3), (vI x4), (vI x5), (vI x6), (vI x7), (vI x8), (Sl 500 (n9) (c10)), (vI x11), (vI x12), (vI x13), (vI x14)].toArray)) ∧
 ((Qv (Value.bool true)) ∧
 ((Qv (Value.bool true)) ∧
 ((bcase (decide (n13 ≤ n3))
 (Qv (Value.bool true))
 ((Value.bool false) = (Value.bool true))) ∧
 ((Qv (vI n3)) ∧
 ((Qv (Pt 1003 1)) ∧
 ((Qv (Pt 1002 1)) ∧
 ((Qv (Pt 1002 0)) ∧
 ((bcase (b0)
 (Qv (Value.bool true))
 ((Value.bool false) = (Value.bool true))) ∧
 True))))))))))))))))) ∧
 (bcase (decide (0 + n9 * 5 ≤ List.length l23))
 (∃ n14 : Int,
 ((Says C 67 [(D.agg [(D.val (vI x3)), (D.val (vI x4)), (D.val (vI x5)), (D.val (vI x6)), (D.val (vI x7)), (D.val (vI x8)), (D.sl (n9) 5 (List.take (n9 * 5) (List.drop 0 l23))), (D.val (vI x11)), (D.val (vI x12)), (D.val (vI x13)), (D.val (vI x14))]), (D.val (vI n7)), (D.val (vI n1)), (D.val (vI x18)), (D.val (vI x19))] [(D.val (vI n14))]) ∧
 (bcase (decide (n14 ≤ n4))
 (((Qv (vI x19)) ∧
 ((Qv (Pt 1002 1)) ∧
 ((Qv (vI n1)) ∧
 ((Qv (vI n7)) ∧
 ((Qv (Value.agg [(vI n2), (vI n3), (vI n4), (vI n5), (vI n6)].toArray)) ∧
 ((Qv (Value.bool true)) ∧
 ((Qv (Value.bool true)) ∧
 ((bcase (decide (n14 ≤ n4))
 (Qv (Value.bool true))
 ((Value.bool false) = (Value.bool true))) ∧
 ((Qv (vI n4)) ∧
 ((Qv (Pt 1003 2)) ∧
 ((Qv (Pt 1002 1)) ∧
 ((Qv (Pt 1002 0)) ∧
 ((Qv (Value.bool true)) ∧
 ((bcase (decide (n13 ≤ n3))
 (Qv (Value.bool true))
 ((Value.bool false) = (Value.bool true))) ∧
 ((Qv (vI n3)) ∧
 ((Qv (Pt 1003 1)) ∧
 ((Qv (Pt 1002 1)) ∧
 ((Qv (Pt 1002 0)) ∧
 ((bcase (b0)
 (Qv (Value.bool true))
 ((Value.bool false) = (Value.bool true))) ∧
 True))))))))))))))))))) ∧
 (∃ n15 : Int,
 ((Says C 68 [(D.agg [(D.val (vI n2)), (D.val (vI n3)), (D.val (vI n4)), (D.val (vI n5)), (D.val (vI n6))]), (D.val (vI n7)), (D.val (vI n1)), (D.val (vI x19))] [(D.val (vI n15))]) ∧
 (bcase (decide (n15 ≥ 0))
 (bcase (decide (n10 ≥ IntKind.wrap .i64 (100 * x8)))
 (((Qv (Value.bool true)) ∧
 ((bcase (decide (n10 ≥ IntKind.wrap .i64 (100 * x8)))
 (Qv (Value.bool true))
 ((Value.bool false) = (Value.bool true))) ∧
 ((Qv (vI (IntKind.wrap .i64 (100 * x8)))) ∧
 ((Qv (vI x8)) ∧
 ((Qv (Pt 1000 5)) ∧
 ((Qv (vI n10)) ∧
 ((Qv (Value.bool true)) ∧
 ((Qv (Value.bool true)) ∧
 ((bcase (decide (n15 ≥ 0))
 (Qv (Value.bool true))
 ((Value.bool false) = (Value.bool true))) ∧
 ((Qv (Pt 1002 1)) ∧
 ((Qv (Value.bool true)) ∧
 ((bcase (decide (n14 ≤ n4))
 (Qv (Value.bool true))
 ((Value.bool false) = (Value.bool true))) ∧
 ((Qv (vI n4)) ∧
 ((Qv (Pt 1003 2)) ∧
 ((Qv (Pt 1002 1)) ∧
 ((Qv (Pt 1002 0)) ∧
 ((Qv (Value.bool true)) ∧
 ((bcase (decide (n13 ≤ n3))
 (Qv (Value.bool true))
 ((Value.bool false) = (Value.bool true))) ∧
 ((Qv (vI n3)) ∧
 ((Qv (Pt 1003 1)) ∧
 ((Qv (Pt 1002 1)) ∧
 ((Qv (Pt 1002 0)) ∧
 ((bcase (b0)
 (Qv (Value.bool true))
 ((Value.bool false) = (Value.bool true))) ∧
 True))))))))))))))))))))))) ∧
 (True ∧
 (B [(Prod.mk 3 (Pt 1000 0)), (Prod.mk 4 (Pt 1001 0)), (Prod.mk 5 (Pt 1002 0)), (Prod.mk 8 (Sl 1003 1 1)), (Prod.mk 9 (Value.bool true)), (Prod.mk 10 (vI (IntKind.wrap .i64 (x1 + n8)))), (Prod.mk 11 (vI (IntKind.wrap .i64 (x2 + 1))))] [(Prod.mk 1000 (AObj.cells [(vI x3), (vI x4), (vI x5), (vI x6), (vI x7), (vI x8), (Sl 500 (n9) (c10)), (vI x11), (vI x12), (vI x13), (vI x14)] 26 false 1)), (Prod.mk 1001 (AObj.cells [(Value.string (s15)), (Sl 501 (n16) (c17))] 29 false 1)), (Prod.mk 1002 (AObj.cells [(vI x18), (vI x19), (vI x20), (Sl 502 (n21) (c22))] 51 false 1)), (Prod.mk 1003 (AObj.sym [(vI n11), (vI n12)] true 2)), (Prod.mk 500 (AObj.sym (l23) false 5)), (Prod.mk 501 (AObj.sym (l24) false 1)), (Prod.mk 502 (AObj.sym (l25) false 1))])))
 (((Qv (Value.bool false)) ∧
 ((bcase (decide (n10 ≥ IntKind.wrap .i64 (100 * x8)))
 ((Value.bool true) = (Value.bool false))
 (Qv (Value.bool false))) ∧
 ((Qv (vI (IntKind.wrap .i64 (100 * x8)))) ∧
 ((Qv (vI x8)) ∧
 ((Qv (Pt 1000 5)) ∧
 ((Qv (vI n10)) ∧
 ((Qv (Value.bool true)) ∧
 ((Qv (Value.bool true)) ∧
 ((bcase (decide (n15 ≥ 0))
 (Qv (Value.bool true))
 ((Value.bool false) = (Value.bool true))) ∧
 ((Qv (Pt 1002 1)) ∧
 ((Qv (Value.bool true)) ∧
 ((bcase (decide (n14 ≤ n4))
 (Qv (Value.bool true))
 ((Value.bool false) = (Value.bool true))) ∧
 ((Qv (vI n4)) ∧
 ((Qv (Pt 1003 2)) ∧
 ((Qv (Pt 1002 1)) ∧
 ((Qv (Pt 1002 0)) ∧
 ((Qv (Value.bool true)) ∧
 ((bcase (decide (n13 ≤ n3))
 (Qv (Value.bool true))
 ((Value.bool false) = (Value.bool true))) ∧
 ((Qv (vI n3)) ∧
 ((Qv (Pt 1003 1)) ∧
 ((Qv (Pt 1002 1)) ∧
 ((Qv (Pt 1002 0)) ∧
 ((bcase (b0)
 (Qv (Value.bool true))
 ((Value.bool false) = (Value.bool true))) ∧
 True))))))))))))))))))))))) ∧
 (True ∧
 (B [(Prod.mk 3 (Pt 1000 0)), (Prod.mk 4 (Pt 1001 0)), (Prod.mk 5 (Pt 1002 0)), (Prod.mk 8 (Sl 1003 1 1)), (Prod.mk 9 (Value.bool false)), (Prod.mk 10 (vI (IntKind.wrap .i64 (x1 + n8)))), (Prod.mk 11 (vI (IntKind.wrap .i64 (x2 + 1))))] [(Prod.mk 1000 (AObj.cells [(vI x3), (vI x4), (vI x5), (vI x6), (vI x7), (vI x8), (Sl 500 (n9) (c10)), (vI x11), (vI x12), (vI x13), (vI x14)] 26 false 1)), (Prod.mk 1001 (AObj.cells [(Value.string (s15)), (Sl 501 (n16) (c17))] 29 false 1)), (Prod.mk 1002 (AObj.cells [(vI x18), (vI x19), (vI x20), (Sl 502 (n21) (c22))] 51 false 1)), (Prod.mk 1003 (AObj.sym [(vI n11), (vI n12)] true 2)), (Prod.mk 500 (AObj.sym (l23) false 5)), (Prod.mk 501 (AObj.sym (l24) false 1)), (Prod.mk 502 (AObj.sym (l25) false 1))]))))
 (((Qv (Value.bool false)) ∧
 ((Qv (Value.tuple [].toArray)) ∧
 ((Qv (Value.tuple [].toArray)) ∧
 ((Qv (Value.tuple [].toArray)) ∧
 ((Qv (Value.tuple [].toArray)) ∧
 ((Qv (Value.tuple [].toArray)) ∧
 ((Qv (Value.bool false)) ∧
 ((Qv (Value.bool false)) ∧
 ((bcase (decide (n15 ≥ 0))
 ((Value.bool true) = (Value.bool false))
 (Qv (Value.bool false))) ∧
 ((Qv (Pt 1002 1)) ∧
 ((Qv (Value.bool true)) ∧
 ((bcase (decide (n14 ≤ n4))
 (Qv (Value.bool true))
 ((Value.bool false) = (Value.bool true))) ∧
 ((Qv (vI n4)) ∧
 ((Qv (Pt 1003 2)) ∧
 ((Qv (Pt 1002 1)) ∧
 ((Qv (Pt 1002 0)) ∧
 ((Qv (Value.bool true)) ∧
 ((bcase (decide (n13 ≤ n3))
 (Qv (Value.bool true))
 ((Value.bool false) = (Value.bool true))) ∧
 ((Qv (vI n3)) ∧
 ((Qv (Pt 1003 1)) ∧
 ((Qv (Pt 1002 1)) ∧
 ((Qv (Pt 1002 0)) ∧
 ((bcase (b0)
 (Qv (Value.bool true))
 ((Value.bool false) = (Value.bool true))) ∧
 True))))))))))))))))))))))) ∧
 (True ∧
 (B [(Prod.mk 3 (Pt 1000 0)), (Prod.mk 4 (Pt 1001 0)), (Prod.mk 5 (Pt 1002 0)), (Prod.mk 8 (Sl 1003 1 1)), (Prod.mk 9 (Value.bool false)), (Prod.mk 10 (vI (IntKind.wrap .i64 (x1 + n8)))), (Prod.mk 11 (vI (IntKind.wrap .i64 (x2 + 1))))] [(Prod.mk 1000 (AObj.cells [(vI x3), (vI x4), (vI x5), (vI x6), (vI x7), (vI x8), (Sl 500 (n9) (c10)), (vI x11), (vI x12), (vI x13), (vI x14)] 26 false 1)), (Prod.mk 1001 (AObj.cells [(Value.string (s15)), (Sl 501 (n16) (c17))] 29 false 1)), (Prod.mk 1002 (AObj.cells [(vI x18), (vI x19), (vI x20), (Sl 502 (n21) (c22))] 51 false 1)), (Prod.mk 1003 (AObj.sym [(vI n11), (vI n12)] true 2)), (Prod.mk 500 (AObj.sym (l23) false 5)), (Prod.mk 501 (AObj.sym (l24) false 1)), (Prod.mk 502 (AObj.sym (l25) false 1))])))))))
 (((Qv (Value.tuple [].toArray)) ∧
 ((Qv (Value.tuple [].toArray)) ∧
 ((Qv (Value.tuple [].toArray)) ∧
 ((Qv (Value.tuple [].toArray)) ∧
 ((Qv (Value.tuple [].toArray)) ∧
 ((Qv (Value.bool false)) ∧
 ((Qv (Value.bool false)) ∧
 ((bcase (decide (n14 ≤ n4))
 ((Value.bool true) = (Value.bool false))
 (Qv (Value.bool false))) ∧
 ((Qv (vI n4)) ∧
 ((Qv (Pt 1003 2)) ∧
 ((Qv (Pt 1002 1)) ∧
 ((Qv (Pt 1002 0)) ∧
 ((Qv (Value.bool true)) ∧
 ((bcase (decide (n13 ≤ n3))
 (Qv (Value.bool true))
 ((Value.bool false) = (Value.bool true))) ∧
 ((Qv (vI n3)) ∧
 ((Qv (Pt 1003 1)) ∧
 ((Qv (Pt 1002 1)) ∧
 ((Qv (Pt 1002 0)) ∧
 ((bcase (b0)
 (Qv (Value.bool true))
 ((Value.bool false) = (Value.bool true))) ∧
 True))))))))))))))))))) ∧
 (((Qv (Value.bool false)) ∧
 ((Qv (Value.tuple [].toArray)) ∧
 ((Qv (Value.tuple [].toArray)) ∧
 ((Qv (Value.tuple [].toArray)) ∧
 ((Qv (Value.tuple [].toArray)) ∧
 ((Qv (Value.tuple [].toArray)) ∧
 ((Qv (Value.bool false)) ∧
 ((Qv (Value.bool false)) ∧
 ((Qv (Value.tuple [].toArray)) ∧
 ((Qv (Value.tuple [].toArray)) ∧
 ((Qv (Value.bool false)) ∧
 ((bcase (decide (n14 ≤ n4))
 ((Value.bool true) = (Value.bool false))
 (Qv (Value.bool false))) ∧
 ((Qv (vI n4)) ∧
 ((Qv (Pt 1003 2)) ∧
 ((Qv (Pt 1002 1)) ∧
 ((Qv (Pt 1002 0)) ∧
 ((Qv (Value.bool true)) ∧
 ((bcase (decide (n13 ≤ n3))
 (Qv (Value.bool true))
 ((Value.bool false) = (Value.bool true))) ∧
 ((Qv (vI n3)) ∧
 ((Qv (Pt 1003 1)) ∧
 ((Qv (Pt 1002 1)) ∧
 ((Qv (Pt 1002 0)) ∧
 ((bcase (b0)
 (Qv (Value.bool true))
 ((Value.bool false) = (Value.bool true))) ∧
 True))))))))))))))))))))))) ∧
 (True ∧
 (B [(Prod.mk 3 (Pt 1000 0)), (Prod.mk 4 (Pt 1001 0)), (Prod.mk 5 (Pt 1002 0)), (Prod.mk 8 (Sl 1003 1 1)), (Prod.mk 9 (Value.bool false)), (Prod.mk 10 (vI (IntKind.wrap .i64 (x1 + n8)))), (Prod.mk 11 (vI (IntKind.wrap .i64 (x2 + 1))))] [(Prod.mk 1000 (AObj.cells [(vI x3), (vI x4), (vI x5), (vI x6), (vI x7), (vI x8), (Sl 500 (n9) (c10)), (vI x11), (vI x12), (vI x13), (vI x14)] 26 false 1)), (Prod.mk 1001 (AObj.cells [(Value.string (s15)), (Sl 501 (n16) (c17))] 29 false 1)), (Prod.mk 1002 (AObj.cells [(vI x18), (vI x19), (vI x20), (Sl 502 (n21) (c22))] 51 false 1)), (Prod.mk 1003 (AObj.sym [(vI n11), (vI n12)] true 2)), (Prod.mk 500 (AObj.sym (l23) false 5)), (Prod.mk 501 (AObj.sym (l24) false 1)), (Prod.mk 502 (AObj.sym (l25) false 1))])))))))
 False))
 (((Qv (Value.tuple [].toArray)) ∧
 ((Qv (Value.tuple [].toArray)) ∧
 ((Qv (Value.tuple [].toArray)) ∧
 ((Qv (Value.tuple [].toArray)) ∧
 ((Qv (Value.tuple [].toArray)) ∧
 ((Qv (Value.tuple [].toArray)) ∧
 ((Qv (Value.tuple [].toArray)) ∧
 ((Qv (Value.tuple [].toArray)) ∧
 ((Qv (Value.tuple [].toArray)) ∧
 ((Qv (Value.bool false)) ∧
 ((Qv (Value.bool false)) ∧
 ((bcase (decide (n13 ≤ n3))
 ((Value.bool true) = (Value.bool false))
 (Qv (Value.bool false))) ∧
 ((Qv (vI n3)) ∧
 ((Qv (Pt 1003 1)) ∧
 ((Qv (Pt 1002 1)) ∧
 ((Qv (Pt 1002 0)) ∧
 ((bcase (b0)
 (Qv (Value.bool true))
 ((Value.bool false) = (Value.bool true))) ∧
 True))))))))))))))))) ∧
 (((Qv (Value.tuple [].toArray)) ∧
 ((Qv (Value.tuple [].toArray)) ∧
 ((Qv (Value.tuple [].toArray)) ∧
 ((Qv (Value.tuple [].toArray)) ∧
 ((Qv (Value.tuple [].toArray)) ∧
 ((Qv (Value.bool false)) ∧
 ((Qv (Value.bool false)) ∧
 ((Qv (Value.tuple [].toArray)) ∧
 ((Qv (Value.tuple [].toArray)) ∧
 ((Qv (Value.tuple [].toArray)) ∧
 ((Qv (Value.tuple [].toArray)) ∧
 ((Qv (Value.tuple [].toArray)) ∧
 ((Qv (Value.bool false)) ∧
 ((bcase (decide (n13 ≤ n3))
 ((Value.bool true) = (Value.bool false))
 (Qv (Value.bool false))) ∧
 ((Qv (vI n3)) ∧
 ((Qv (Pt 1003 1)) ∧
 ((Qv (Pt 1002 1)) ∧
 ((Qv (Pt 1002 0)) ∧
 ((bcase (b0)
 (Qv (Value.bool true))
 ((Value.bool false) = (Value.bool true))) ∧
 True))))))))))))))))))) ∧
 (((Qv (Value.bool false)) ∧
 ((Qv (Value.tuple [].toArray)) ∧
 ((Qv (Value.tuple [].toArray)) ∧
 ((Qv (Value.tuple [].toArray)) ∧
 ((Qv (Value.tuple [].toArray)) ∧
 ((Qv (Value.tuple [].toArray)) ∧
 ((Qv (Value.bool false)) ∧
 ((Qv (Value.bool false)) ∧
 ((Qv (Value.tuple [].toArray)) ∧
 ((Qv (Value.tuple [].toArray)) ∧
 ((Qv (Value.bool false)) ∧
 ((Qv (Value.tuple [].toArray)) ∧
 ((Qv (Value.tuple [].toArray)) ∧
 ((Qv (Value.tuple [].toArray)) ∧
 ((Qv (Value.tuple [].toArray)) ∧
 ((Qv (Value.tuple [].toArray)) ∧
 ((Qv (Value.bool false)) ∧
 ((bcase (decide (n13 ≤ n3))
 ((Value.bool true) = (Value.bool false))
 (Qv (Value.bool false))) ∧
 ((Qv (vI n3)) ∧
 ((Qv (Pt 1003 1)) ∧
 ((Qv (Pt 1002 1)) ∧
 ((Qv (Pt 1002 0)) ∧
 ((bcase (b0)
 (Qv (Value.bool true))
 ((Value.bool false) = (Value.bool true))) ∧
 True))))))))))))))))))))))) ∧
 (True ∧
 (B [(Prod.mk 3 (Pt 1000 0)), (Prod.mk 4 (Pt 1001 0)), (Prod.mk 5 (Pt 1002 0)), (Prod.mk 8 (Sl 1003 1 1)), (Prod.mk 9 (Value.bool false)), (Prod.mk 10 (vI (IntKind.wrap .i64 (x1 + n8)))), (Prod.mk 11 (vI (IntKind.wrap .i64 (x2 + 1))))] [(Prod.mk 1000 (AObj.cells [(vI x3), (vI x4), (vI x5), (vI x6), (vI x7), (vI x8), (Sl 500 (n9) (c10)), (vI x11), (vI x12), (vI x13), (vI x14)] 26 false 1)), (Prod.mk 1001 (AObj.cells [(Value.string (s15)), (Sl 501 (n16) (c17))] 29 false 1)), (Prod.mk 1002 (AObj.cells [(vI x18), (vI x19), (vI x20), (Sl 502 (n21) (c22))] 51 false 1)), (Prod.mk 1003 (AObj.sym [(vI n11), (vI n12)] true 2)), (Prod.mk 500 (AObj.sym (l23) false 5)), (Prod.mk 501 (AObj.sym (l24) false 1)), (Prod.mk 502 (AObj.sym (l25) false 1))]))))))))
 False))
 (((Qv (Value.tuple [].toArray)) ∧
 ((Qv (Value.tuple [].toArray)) ∧
 ((Qv (Value.tuple [].toArray)) ∧
 ((Qv (Value.tuple [].toArray)) ∧
 ((Qv (Value.tuple [].toArray)) ∧
 ((Qv (Value.tuple [].toArray)) ∧
 ((Qv (Value.tuple [].toArray)) ∧
 ((Qv (Value.tuple [].toArray)) ∧
 ((Qv (Value.tuple [].toArray)) ∧
 ((Qv (Value.bool false)) ∧
 ((bcase (b0)
 ((Value.bool true) = (Value.bool false))
 (Qv (Value.bool false))) ∧
 True))))))))))) ∧
 (((Qv (Value.tuple [].toArray)) ∧
 ((Qv (Value.tuple [].toArray)) ∧
 ((Qv (Value.tuple [].toArray)) ∧
 ((Qv (Value.tuple [].toArray)) ∧
 ((Qv (Value.tuple [].toArray)) ∧
 ((Qv (Value.tuple [].toArray)) ∧
 ((Qv (Value.tuple [].toArray)) ∧
 ((Qv (Value.tuple [].toArray)) ∧
 ((Qv (Value.tuple [].toArray)) ∧
 ((Qv (Value.bool false)) ∧
 ((Qv (Value.bool false)) ∧
 ((Qv (Value.tuple [].toArray)) ∧
 ((Qv (Value.tuple [].toArray)) ∧
 ((Qv (Value.tuple [].toArray)) ∧
 ((Qv (Value.tuple [].toArray)) ∧
 ((Qv (Value.tuple [].toArray)) ∧
 ((bcase (b0)
 ((Value.bool true) = (Value.bool false))
 (Qv (Value.bool false))) ∧
 True))))))))))))))))) ∧
 (((Qv (Value.tuple [].toArray)) ∧
 ((Qv (Value.tuple [].toArray)) ∧
 ((Qv (Value.tuple [].toArray)) ∧
 ((Qv (Value.tuple [].toArray)) ∧
 ((Qv (Value.tuple [].toArray)) ∧
 ((Qv (Value.bool false)) ∧
 ((Qv (Value.bool false)) ∧
 ((Qv (Value.tuple [].toArray)) ∧
 ((Qv (Value.tuple [].toArray)) ∧
 ((Qv (Value.tuple [].toArray)) ∧
 ((Qv (Value.tuple [].toArray)) ∧
 ((Qv (Value.tuple [].toArray)) ∧
 ((Qv (Value.bool false)) ∧
 ((Qv (Value.tuple [].toArray)) ∧
 ((Qv (Value.tuple [].toArray)) ∧
 ((Qv (Value.tuple [].toArray)) ∧
 ((Qv (Value.tuple [].toArray)) ∧
 ((Qv (Value.tuple [].toArray)) ∧
 ((bcase (b0)
 ((Value.bool true) = (Value.bool false))
 (Qv (Value.bool false))) ∧
 True))))))))))))))))))) ∧
 (((Qv (Value.bool false)) ∧
 ((Qv (Value.tuple [].toArray)) ∧
 ((Qv (Value.tuple [].toArray)) ∧
 ((Qv (Value.tuple [].toArray)) ∧
 ((Qv (Value.tuple [].toArray)) ∧
 ((Qv (Value.tuple [].toArray)) ∧
 ((Qv (Value.bool false)) ∧
 ((Qv (Value.bool false)) ∧
 ((Qv (Value.tuple [].toArray)) ∧
 ((Qv (Value.tuple [].toArray)) ∧
 ((Qv (Value.bool false)) ∧
 ((Qv (Value.tuple [].toArray)) ∧
 ((Qv (Value.tuple [].toArray)) ∧
 ((Qv (Value.tuple [].toArray)) ∧
 ((Qv (Value.tuple [].toArray)) ∧
 ((Qv (Value.tuple [].toArray)) ∧
 ((Qv (Value.bool false)) ∧
 ((Qv (Value.tuple [].toArray)) ∧
 ((Qv (Value.tuple [].toArray)) ∧
 ((Qv (Value.tuple [].toArray)) ∧
 ((Qv (Value.tuple [].toArray)) ∧
 ((Qv (Value.tuple [].toArray)) ∧
 ((bcase (b0)
 ((Value.bool true) = (Value.bool false))
 (Qv (Value.bool false))) ∧
 True))))))))))))))))))))))) ∧
 (True ∧
 (B [(Prod.mk 3 (Pt 1000 0)), (Prod.mk 4 (Pt 1001 0)), (Prod.mk 5 (Pt 1002 0)), (Prod.mk 8 (Sl 1003 1 1)), (Prod.mk 9 (Value.bool false)), (Prod.mk 10 (vI (IntKind.wrap .i64 (x1 + n8)))), (Prod.mk 11 (vI (IntKind.wrap .i64 (x2 + 1))))] [(Prod.mk 1000 (AObj.cells [(vI x3), (vI x4), (vI x5), (vI x6), (vI x7), (vI x8), (Sl 500 (n9) (c10)), (vI x11), (vI x12), (vI x13), (vI x14)] 26 false 1)), (Prod.mk 1001 (AObj.cells [(Value.string (s15)), (Sl 501 (n16) (c17))] 29 false 1)), (Prod.mk 1002 (AObj.cells [(vI x18), (vI x19), (vI x20), (Sl 502 (n21) (c22))] 51 false 1)), (Prod.mk 1003 (AObj.sym [(vI n11), (vI n12)] true 2)), (Prod.mk 500 (AObj.sym (l23) false 5)), (Prod.mk 501 (AObj.sym (l24) false 1)), (Prod.mk 502 (AObj.sym (l25) false 1))]))))))))))))
 False)))
 False)
 False)))))))
 False)
 False))))))))
 False)
 False)))
 False)
 False)
 (X 0 [(Prod.mk 8 (Value.slice none 0 0)), (Prod.mk 9 (Value.bool (b0)))] [])) := by kernel_rfl
abbrev zRm2 (n0 : Nat) (b1 : Bool) (x2 : Int) (x3 : Int) (x4 : Int) (x5 : Int) (x6 : Int) (x7 : Int) (x8 : Int) (x9 : Int) (n10 : Nat) (c11 : Nat) (x12 : Int) (x13 : Int) (x14 : Int) (x15 : Int) (s16 : ByteArray) (n17 : Nat) (c18 : Nat) (x19 : Int) (x20 : Int) (x21 : Int) (n22 : Nat) (c23 : Nat) (l24 : List Value) (l25 : List Value) (l26 : List Value) (l27 : List Value) : Slots × Blocks := ([(3, (Value.pointer (some ⟨1000, 0, none⟩))), (4, (Value.pointer (some ⟨1001, 0, none⟩))), (5, (Value.pointer (some ⟨1002, 0, none⟩))), (8, (Value.slice (some ⟨1003, 0, none⟩) n0 n0)), (9, (Value.bool b1)), (10, (Value.int .i64 x2)), (11, (Value.int .i64 x3))], [(1000, (AObj.cells [(Value.int .i64 x4), (Value.int .i64 x5), (Value.int .i64 x6), (Value.int .i64 x7), (Value.int .i64 x8), (Value.int .i64 x9), (Value.slice (some ⟨500, 0, none⟩) n10 c11), (Value.int .i64 x12), (Value.int .i64 x13), (Value.int .i64 x14), (Value.int .i64 x15)] 26 false 1)), (1001, (AObj.cells [(Value.string s16), (Value.slice (some ⟨501, 0, none⟩) n17 c18)] 29 false 1)), (1002, (AObj.cells [(Value.int .i64 x19), (Value.int .i64 x20), (Value.int .i64 x21), (Value.slice (some ⟨502, 0, none⟩) n22 c23)] 51 false 1)), (1003, (AObj.sym l24 true 2)), (500, (AObj.sym l25 false 5)), (501, (AObj.sym l26 false 1)), (502, (AObj.sym l27 false 1))])
def rRm2 (C : Ct) (L : AtLoop) (n0 : Nat) (b1 : Bool) (x2 : Int) (x3 : Int) (x4 : Int) (x5 : Int) (x6 : Int) (x7 : Int) (x8 : Int) (x9 : Int) (n10 : Nat) (c11 : Nat) (x12 : Int) (x13 : Int) (x14 : Int) (x15 : Int) (s16 : ByteArray) (n17 : Nat) (c18 : Nat) (x19 : Int) (x20 : Int) (x21 : Int) (n22 : Nat) (c23 : Nat) (l24 : List Value) (l25 : List Value) (l26 : List Value) (l27 : List Value) (B : Bx) (X : Xx) (k : List D → Prop) : Prop := wpRound Try.prog (hP C) L 26 0 [(3, (Value.pointer (some ⟨1000, 0, none⟩))), (4, (Value.pointer (some ⟨1001, 0, none⟩))), (5, (Value.pointer (some ⟨1002, 0, none⟩))), (8, (Value.slice (some ⟨1003, 0, none⟩) n0 n0)), (9, (Value.bool b1)), (10, (Value.int .i64 x2)), (11, (Value.int .i64 x3))] [(1000, (AObj.cells [(Value.int .i64 x4), (Value.int .i64 x5), (Value.int .i64 x6), (Value.int .i64 x7), (Value.int .i64 x8), (Value.int .i64 x9), (Value.slice (some ⟨500, 0, none⟩) n10 c11), (Value.int .i64 x12), (Value.int .i64 x13), (Value.int .i64 x14), (Value.int .i64 x15)] 26 false 1)), (1001, (AObj.cells [(Value.string s16), (Value.slice (some ⟨501, 0, none⟩) n17 c18)] 29 false 1)), (1002, (AObj.cells [(Value.int .i64 x19), (Value.int .i64 x20), (Value.int .i64 x21), (Value.slice (some ⟨502, 0, none⟩) n22 c23)] 51 false 1)), (1003, (AObj.sym l24 true 2)), (500, (AObj.sym l25 false 5)), (501, (AObj.sym l26 false 1)), (502, (AObj.sym l27 false 1))] B X (dataK k)
theorem rRm2_text (C : Ct) (L : AtLoop) (n0 : Nat) (b1 : Bool) (x2 : Int) (x3 : Int) (x4 : Int) (x5 : Int) (x6 : Int) (x7 : Int) (x8 : Int) (x9 : Int) (n10 : Nat) (c11 : Nat) (x12 : Int) (x13 : Int) (x14 : Int) (x15 : Int) (s16 : ByteArray) (n17 : Nat) (c18 : Nat) (x19 : Int) (x20 : Int) (x21 : Int) (n22 : Nat) (c23 : Nat) (l24 : List Go.Value) (l25 : List Go.Value) (l26 : List Go.Value) (l27 : List Go.Value) (B : Bx) (X : Xx) (k : List D → Prop) : rRm2 C L n0 b1 x2 x3 x4 x5 x6 x7 x8 x9 n10 c11 x12 x13 x14 x15 s16 n17 c18 x19 x20 x21 n22 c23 l24 l25 l26 l27 B X k =
 (bcase (decide (x3 < (↑n10 : Int)))
 (bcase (decide (0 ≤ x3))
 (bcase (decide (x3 < (↑n17 : Int)))
 (∃ n1 : Int,
 ((At (l26) (0 + Int.toNat x3 * 1) 1 [(vI n1)]) ∧
 (bcase (decide (0 ≤ x3))
 (bcase (decide (x3 < (↑n10 : Int)))
 (∃ n2 : Int,
 (∃ n3 : Int,
 (∃ n4 : Int,
 (∃ n5 : Int,
 (∃ n6 : Int,
 ((At (l25) (0 + Int.toNat x3 * 5) 5 [(vI n2), (vI n3), (vI n4), (vI n5), (vI n6)]) ∧
 ((((Qv (Pt 1004 0)) ∧
 (Qv (some (AObj.cells [(vI 0), (vI 0), (vI 0), (vI 0), (vI 0)] 73 false 5)))) ∧
 ((∃ n7 : Int,
 (∃ n8 : Int,
 (∃ n9 : Int,
 (∃ n11 : Int,
 (∃ n12 : Int,
 ((At (l25) (0 + Int.toNat x3 * 5) 5 [(vI n7), (vI n8), (vI n9), (vI n11), (vI n12)]) ∧
 ((Value.agg [(vI n7), (vI n8), (vI n9), (vI n11), (vI n12)].toArray) = (Value.agg [(vI n2), (vI n3), (vI n4), (vI n5), (vI n6)].toArray)))))))) ∧
 ((bcase (decide (0 ≤ x3))
 (bcase (decide (x3 < (↑n10 : Int)))
 (Qv (Pt 500 (0 + Int.toNat x3 * 5)))
 False)
 False) ∧
 ((Qv (vI x3)) ∧
 ((Qv (Sl 500 (n10) (c11))) ∧
 ((Qv (Pt 1000 6)) ∧
 ((∃ n7 : Int,
 ((At (l26) (0 + Int.toNat x3 * 1) 1 [(vI n7)]) ∧
 ((vI n7) = (vI n1)))) ∧
 ((bcase (decide (0 ≤ x3))
 (bcase (decide (x3 < (↑n17 : Int)))
 (Qv (Pt 501 (0 + Int.toNat x3 * 1)))
 False)
 False) ∧
 ((Qv (vI x3)) ∧
 ((Qv (Sl 501 (n17) (c18))) ∧
 ((Qv (Pt 1001 1)) ∧
 ((Qv (vI x3)) ∧
 ((Qv (Value.agg [(Value.string (s16)), (Sl 501 (n17) (c18))].toArray)) ∧
 ((Qv (Value.agg [(vI x4), (vI x5), (vI x6), (vI x7), (vI x8), (vI x9), (Sl 500 (n10) (c11)), (vI x12), (vI x13), (vI x14), (vI x15)].toArray)) ∧
 True)))))))))))))) ∧
 (bcase (decide (0 + n10 * 5 ≤ List.length l25))
 (bcase (decide (0 + n17 * 1 ≤ List.length l26))
 (∃ n7 : Int,
 ((Says C 59 [(D.agg [(D.val (vI x4)), (D.val (vI x5)), (D.val (vI x6)), (D.val (vI x7)), (D.val (vI x8)), (D.val (vI x9)), (D.sl (n10) 5 (List.take (n10 * 5) (List.drop 0 l25))), (D.val (vI x12)), (D.val (vI x13)), (D.val (vI x14)), (D.val (vI x15))]), (D.agg [(D.val (Value.string (s16))), (D.sl (n17) 1 (List.take (n17 * 1) (List.drop 0 l26)))]), (D.val (vI x3))] [(D.val (vI n7))]) ∧
 ((((Qv (Pt 1004 0)) ∧
 (Qv (some (AObj.cells [(vI 0), (vI 0), (vI 0), (vI 0), (vI 0)] 73 false 5)))) ∧
 ((∃ n8 : Int,
 (∃ n9 : Int,
 (∃ n11 : Int,
 (∃ n12 : Int,
 (∃ n13 : Int,
 ((At (l25) (0 + Int.toNat x3 * 5) 5 [(vI n8), (vI n9), (vI n11), (vI n12), (vI n13)]) ∧
 ((Value.agg [(vI n8), (vI n9), (vI n11), (vI n12), (vI n13)].toArray) = (Value.agg [(vI n2), (vI n3), (vI n4), (vI n5), (vI n6)].toArray)))))))) ∧
 ((bcase (decide (0 ≤ x3))
 (bcase (decide (x3 < (↑n10 : Int)))
 (Qv (Pt 500 (0 + Int.toNat x3 * 5)))
 False)
 False) ∧
 ((Qv (vI x3)) ∧
 ((Qv (Sl 500 (n10) (c11))) ∧
 ((Qv (Pt 1000 6)) ∧
 ((∃ n8 : Int,
 ((At (l26) (0 + Int.toNat x3 * 1) 1 [(vI n8)]) ∧
 ((vI n8) = (vI n1)))) ∧
 ((bcase (decide (0 ≤ x3))
 (bcase (decide (x3 < (↑n17 : Int)))
 (Qv (Pt 501 (0 + Int.toNat x3 * 1)))
 False)
 False) ∧
 ((Qv (vI x3)) ∧
 ((Qv (Sl 501 (n17) (c18))) ∧
 ((Qv (Pt 1001 1)) ∧
 True))))))))))) ∧
 (((∃ n8 : Int,
 (∃ n9 : Int,
 (∃ n11 : Int,
 (∃ n12 : Int,
 (∃ n13 : Int,
 ((At (l25) (0 + Int.toNat x3 * 5) 5 [(vI n8), (vI n9), (vI n11), (vI n12), (vI n13)]) ∧
 ((Value.agg [(vI n8), (vI n9), (vI n11), (vI n12), (vI n13)].toArray) = (Value.agg [(vI n2), (vI n3), (vI n4), (vI n5), (vI n6)].toArray)))))))) ∧
 ((bcase (decide (0 ≤ x3))
 (bcase (decide (x3 < (↑n10 : Int)))
 (Qv (Pt 500 (0 + Int.toNat x3 * 5)))
 False)
 False) ∧
 ((Qv (vI x3)) ∧
 ((Qv (Sl 500 (n10) (c11))) ∧
 ((Qv (Pt 1000 6)) ∧
 ((∃ n8 : Int,
 ((At (l26) (0 + Int.toNat x3 * 1) 1 [(vI n8)]) ∧
 ((vI n8) = (vI n1)))) ∧
 ((bcase (decide (0 ≤ x3))
 (bcase (decide (x3 < (↑n17 : Int)))
 (Qv (Pt 501 (0 + Int.toNat x3 * 1)))
 False)
 False) ∧
 ((Qv (vI x3)) ∧
 ((Qv (Sl 501 (n17) (c18))) ∧
 ((Qv (Pt 1001 1)) ∧
 True)))))))))) ∧
 (((∃ n8 : Int,
 (∃ n9 : Int,
 (∃ n11 : Int,
 (∃ n12 : Int,
 (∃ n13 : Int,
 ((At (l25) (0 + Int.toNat x3 * 5) 5 [(vI n8), (vI n9), (vI n11), (vI n12), (vI n13)]) ∧
 ((Value.agg [(vI n8), (vI n9), (vI n11), (vI n12), (vI n13)].toArray) = (Value.agg [(vI n2), (vI n3), (vI n4), (vI n5), (vI n6)].toArray)))))))) ∧
 ((bcase (decide (0 ≤ x3))
 (bcase (decide (x3 < (↑n10 : Int)))
 (Qv (Pt 500 (0 + Int.toNat x3 * 5)))
 False)
 False) ∧
 ((Qv (vI x3)) ∧
 ((Qv (Sl 500 (n10) (c11))) ∧
 ((Qv (Pt 1000 6)) ∧
 True))))) ∧
 (True ∧
 (bcase (decide (0 ≤ x3))
 (bcase (decide (x3 < (↑n22 : Int)))
 (∃ n8 : Int,
 ((At (l27) (0 + Int.toNat x3 * 1) 1 [(vI n8)]) ∧
 (bcase (decide (0 + n10 * 5 ≤ List.length l25))
 (∃ n9 : Int,
 ((Says C 65 [(D.agg [(D.val (vI x4)), (D.val (vI x5)), (D.val (vI x6)), (D.val (vI x7)), (D.val (vI x8)), (D.val (vI x9)), (D.sl (n10) 5 (List.take (n10 * 5) (List.drop 0 l25))), (D.val (vI x12)), (D.val (vI x13)), (D.val (vI x14)), (D.val (vI x15))]), (D.val (vI n1)), (D.val (vI x19)), (D.val (vI x21)), (D.val (vI (IntKind.wrap .i64 (x2 + n8))))] [(D.val (vI n9))]) ∧
 (∃ n11 : Int,
 (∃ n12 : Int,
 ((Says C 41 [(D.val (vI n9)), (D.val (vI 100))] [(D.agg [(D.val (vI n11)), (D.val (vI n12))])]) ∧
 (bcase (decide (n0 < n0 + 1))
 (bcase (decide ((2 * (n0 + 1) + 768) * 16 ≤ 281474976710656))
 (bcase (decide (n0 + 1 ≤ 1099511627776))
 (bcase (decide (0 + n0 * 2 ≤ List.length l24))
 (bcase (decide (0 + n0 * 2 = List.length l24))
 (bcase (b1)
 (((Qv (vI n3)) ∧
 ((Qv (Pt 1004 1)) ∧
 ((Qv (vI x20)) ∧
 ((Qv (Pt 1002 1)) ∧
 ((Qv (vI x19)) ∧
 ((Qv (Pt 1002 0)) ∧
 ((Qv (vI n1)) ∧
 ((Qv (vI n7)) ∧
 ((Qv (Value.agg [(vI x4), (vI x5), (vI x6), (vI x7), (vI x8), (vI x9), (Sl 500 (n10) (c11)), (vI x12), (vI x13), (vI x14), (vI x15)].toArray)) ∧
 ((Qv (Value.bool true)) ∧
 ((bcase (b1)
 (Qv (Value.bool true))
 ((Value.bool false) = (Value.bool true))) ∧
 True))))))))))) ∧
 (bcase (decide (0 + n10 * 5 ≤ List.length l25))
 (∃ n13 : Int,
 ((Says C 66 [(D.agg [(D.val (vI x4)), (D.val (vI x5)), (D.val (vI x6)), (D.val (vI x7)), (D.val (vI x8)), (D.val (vI x9)), (D.sl (n10) 5 (List.take (n10 * 5) (List.drop 0 l25))), (D.val (vI x12)), (D.val (vI x13)), (D.val (vI x14)), (D.val (vI x15))]), (D.val (vI n7)), (D.val (vI n1)), (D.val (vI x19)), (D.val (vI x20))] [(D.val (vI n13))]) ∧
 (bcase (decide (n13 ≤ n3))
 (((Qv (vI n4)) ∧
 ((Qv (Pt 1004 2)) ∧
 ((Qv (vI x20)) ∧
 ((Qv (Pt 1002 1)) ∧
 ((Qv (vI x19)) ∧
 ((Qv (Pt 1002 0)) ∧
 ((Qv (vI n1)) ∧
 ((Qv (vI n7)) ∧
 ((Qv (Value.agg [(vI x4), (vI x5), (vI x6), (vI x7), (vI x8), (vI x9), (Sl 500 (n10) (c11)), (vI x12), (vI x13), (vI x14), (vI x15)].toArray)) ∧
 ((Qv (Value.bool true)) ∧
 ((Qv (Value.bool true)) ∧
 ((bcase (decide (n13 ≤ n3))
 (Qv (Value.bool true))
 ((Value.bool false) = (Value.bool true))) ∧
 ((Qv (vI n3)) ∧
 ((Qv (Pt 1004 1)) ∧
 ((Qv (Pt 1002 1)) ∧
 ((Qv (Pt 1002 0)) ∧
 ((bcase (b1)
 (Qv (Value.bool true))
 ((Value.bool false) = (Value.bool true))) ∧
 True))))))))))))))))) ∧
 (bcase (decide (0 + n10 * 5 ≤ List.length l25))
 (∃ n14 : Int,
 ((Says C 67 [(D.agg [(D.val (vI x4)), (D.val (vI x5)), (D.val (vI x6)), (D.val (vI x7)), (D.val (vI x8)), (D.val (vI x9)), (D.sl (n10) 5 (List.take (n10 * 5) (List.drop 0 l25))), (D.val (vI x12)), (D.val (vI x13)), (D.val (vI x14)), (D.val (vI x15))]), (D.val (vI n7)), (D.val (vI n1)), (D.val (vI x19)), (D.val (vI x20))] [(D.val (vI n14))]) ∧
 (bcase (decide (n14 ≤ n4))
 (((Qv (vI x20)) ∧
 ((Qv (Pt 1002 1)) ∧
 ((Qv (vI n1)) ∧
 ((Qv (vI n7)) ∧
 ((Qv (Value.agg [(vI n2), (vI n3), (vI n4), (vI n5), (vI n6)].toArray)) ∧
 ((Qv (Value.bool true)) ∧
 ((Qv (Value.bool true)) ∧
 ((bcase (decide (n14 ≤ n4))
 (Qv (Value.bool true))
 ((Value.bool false) = (Value.bool true))) ∧
 ((Qv (vI n4)) ∧
 ((Qv (Pt 1004 2)) ∧
 ((Qv (Pt 1002 1)) ∧
 ((Qv (Pt 1002 0)) ∧
 ((Qv (Value.bool true)) ∧
 ((bcase (decide (n13 ≤ n3))
 (Qv (Value.bool true))
 ((Value.bool false) = (Value.bool true))) ∧
 ((Qv (vI n3)) ∧
 ((Qv (Pt 1004 1)) ∧
 ((Qv (Pt 1002 1)) ∧
 ((Qv (Pt 1002 0)) ∧
 ((bcase (b1)
 (Qv (Value.bool true))
 ((Value.bool false) = (Value.bool true))) ∧
 True))))))))))))))))))) ∧
 (∃ n15 : Int,
 ((Says C 68 [(D.agg [(D.val (vI n2)), (D.val (vI n3)), (D.val (vI n4)), (D.val (vI n5)), (D.val (vI n6))]), (D.val (vI n7)), (D.val (vI n1)), (D.val (vI x20))] [(D.val (vI n15))]) ∧
 (bcase (decide (n15 ≥ 0))
 (bcase (decide (n9 ≥ IntKind.wrap .i64 (100 * x9)))
 (((Qv (Value.bool true)) ∧
 ((bcase (decide (n9 ≥ IntKind.wrap .i64 (100 * x9)))
 (Qv (Value.bool true))
 ((Value.bool false) = (Value.bool true))) ∧
 ((Qv (vI (IntKind.wrap .i64 (100 * x9)))) ∧
 ((Qv (vI x9)) ∧
 ((Qv (Pt 1000 5)) ∧
 ((Qv (vI n9)) ∧
 ((Qv (Value.bool true)) ∧
 ((Qv (Value.bool true)) ∧
 ((bcase (decide (n15 ≥ 0))
 (Qv (Value.bool true))
 ((Value.bool false) = (Value.bool true))) ∧
 ((Qv (Pt 1002 1)) ∧
 ((Qv (Value.bool true)) ∧
 ((bcase (decide (n14 ≤ n4))
 (Qv (Value.bool true))
 ((Value.bool false) = (Value.bool true))) ∧
 ((Qv (vI n4)) ∧
 ((Qv (Pt 1004 2)) ∧
 ((Qv (Pt 1002 1)) ∧
 ((Qv (Pt 1002 0)) ∧
 ((Qv (Value.bool true)) ∧
 ((bcase (decide (n13 ≤ n3))
 (Qv (Value.bool true))
 ((Value.bool false) = (Value.bool true))) ∧
 ((Qv (vI n3)) ∧
 ((Qv (Pt 1004 1)) ∧
 ((Qv (Pt 1002 1)) ∧
 ((Qv (Pt 1002 0)) ∧
 ((bcase (b1)
 (Qv (Value.bool true))
 ((Value.bool false) = (Value.bool true))) ∧
 True))))))))))))))))))))))) ∧
 (True ∧
 (B [(Prod.mk 3 (Pt 1000 0)), (Prod.mk 4 (Pt 1001 0)), (Prod.mk 5 (Pt 1002 0)), (Prod.mk 8 (Sl 1003 (n0 + 1) (n0 + 1))), (Prod.mk 9 (Value.bool true)), (Prod.mk 10 (vI (IntKind.wrap .i64 (x2 + n8)))), (Prod.mk 11 (vI (IntKind.wrap .i64 (x3 + 1))))] [(Prod.mk 1000 (AObj.cells [(vI x4), (vI x5), (vI x6), (vI x7), (vI x8), (vI x9), (Sl 500 (n10) (c11)), (vI x12), (vI x13), (vI x14), (vI x15)] 26 false 1)), (Prod.mk 1001 (AObj.cells [(Value.string (s16)), (Sl 501 (n17) (c18))] 29 false 1)), (Prod.mk 1002 (AObj.cells [(vI x19), (vI x20), (vI x21), (Sl 502 (n22) (c23))] 51 false 1)), (Prod.mk 1003 (AObj.sym ((List.take (n0 * 2) (List.drop 0 l24)) ++ [(vI n11), (vI n12)]) true 2)), (Prod.mk 500 (AObj.sym (l25) false 5)), (Prod.mk 501 (AObj.sym (l26) false 1)), (Prod.mk 502 (AObj.sym (l27) false 1))])))
 (((Qv (Value.bool false)) ∧
 ((bcase (decide (n9 ≥ IntKind.wrap .i64 (100 * x9)))
 ((Value.bool true) = (Value.bool false))
 (Qv (Value.bool false))) ∧
 ((Qv (vI (IntKind.wrap .i64 (100 * x9)))) ∧
 ((Qv (vI x9)) ∧
 ((Qv (Pt 1000 5)) ∧
 ((Qv (vI n9)) ∧
 ((Qv (Value.bool true)) ∧
 ((Qv (Value.bool true)) ∧
 ((bcase (decide (n15 ≥ 0))
 (Qv (Value.bool true))
 ((Value.bool false) = (Value.bool true))) ∧
 ((Qv (Pt 1002 1)) ∧
 ((Qv (Value.bool true)) ∧
 ((bcase (decide (n14 ≤ n4))
 (Qv (Value.bool true))
 ((Value.bool false) = (Value.bool true))) ∧
 ((Qv (vI n4)) ∧
 ((Qv (Pt 1004 2)) ∧
 ((Qv (Pt 1002 1)) ∧
 ((Qv (Pt 1002 0)) ∧
 ((Qv (Value.bool true)) ∧
 ((bcase (decide (n13 ≤ n3))
 (Qv (Value.bool true))
 ((Value.bool false) = (Value.bool true))) ∧
 ((Qv (vI n3)) ∧
 ((Qv (Pt 1004 1)) ∧
 ((Qv (Pt 1002 1)) ∧
 ((Qv (Pt 1002 0)) ∧
 ((bcase (b1)
 (Qv (Value.bool true))
 ((Value.bool false) = (Value.bool true))) ∧
 True))))))))))))))))))))))) ∧
 (True ∧
 (B [(Prod.mk 3 (Pt 1000 0)), (Prod.mk 4 (Pt 1001 0)), (Prod.mk 5 (Pt 1002 0)), (Prod.mk 8 (Sl 1003 (n0 + 1) (n0 + 1))), (Prod.mk 9 (Value.bool false)), (Prod.mk 10 (vI (IntKind.wrap .i64 (x2 + n8)))), (Prod.mk 11 (vI (IntKind.wrap .i64 (x3 + 1))))] [(Prod.mk 1000 (AObj.cells [(vI x4), (vI x5), (vI x6), (vI x7), (vI x8), (vI x9), (Sl 500 (n10) (c11)), (vI x12), (vI x13), (vI x14), (vI x15)] 26 false 1)), (Prod.mk 1001 (AObj.cells [(Value.string (s16)), (Sl 501 (n17) (c18))] 29 false 1)), (Prod.mk 1002 (AObj.cells [(vI x19), (vI x20), (vI x21), (Sl 502 (n22) (c23))] 51 false 1)), (Prod.mk 1003 (AObj.sym ((List.take (n0 * 2) (List.drop 0 l24)) ++ [(vI n11), (vI n12)]) true 2)), (Prod.mk 500 (AObj.sym (l25) false 5)), (Prod.mk 501 (AObj.sym (l26) false 1)), (Prod.mk 502 (AObj.sym (l27) false 1))]))))
 (((Qv (Value.bool false)) ∧
 ((Qv (Value.tuple [].toArray)) ∧
 ((Qv (Value.tuple [].toArray)) ∧
 ((Qv (Value.tuple [].toArray)) ∧
 ((Qv (Value.tuple [].toArray)) ∧
 ((Qv (Value.tuple [].toArray)) ∧
 ((Qv (Value.bool false)) ∧
 ((Qv (Value.bool false)) ∧
 ((bcase (decide (n15 ≥ 0))
 ((Value.bool true) = (Value.bool false))
 (Qv (Value.bool false))) ∧
 ((Qv (Pt 1002 1)) ∧
 ((Qv (Value.bool true)) ∧
 ((bcase (decide (n14 ≤ n4))
 (Qv (Value.bool true))
 ((Value.bool false) = (Value.bool true))) ∧
 ((Qv (vI n4)) ∧
 ((Qv (Pt 1004 2)) ∧
 ((Qv (Pt 1002 1)) ∧
 ((Qv (Pt 1002 0)) ∧
 ((Qv (Value.bool true)) ∧
 ((bcase (decide (n13 ≤ n3))
 (Qv (Value.bool true))
 ((Value.bool false) = (Value.bool true))) ∧
 ((Qv (vI n3)) ∧
 ((Qv (Pt 1004 1)) ∧
 ((Qv (Pt 1002 1)) ∧
 ((Qv (Pt 1002 0)) ∧
 ((bcase (b1)
 (Qv (Value.bool true))
 ((Value.bool false) = (Value.bool true))) ∧
 True))))))))))))))))))))))) ∧
 (True ∧
 (B [(Prod.mk 3 (Pt 1000 0)), (Prod.mk 4 (Pt 1001 0)), (Prod.mk 5 (Pt 1002 0)), (Prod.mk 8 (Sl 1003 (n0 + 1) (n0 + 1))), (Prod.mk 9 (Value.bool false)), (Prod.mk 10 (vI (IntKind.wrap .i64 (x2 + n8)))), (Prod.mk 11 (vI (IntKind.wrap .i64 (x3 + 1))))] [(Prod.mk 1000 (AObj.cells [(vI x4), (vI x5), (vI x6), (vI x7), (vI x8), (vI x9), (Sl 500 (n10) (c11)), (vI x12), (vI x13), (vI x14), (vI x15)] 26 false 1)), (Prod.mk 1001 (AObj.cells [(Value.string (s16)), (Sl 501 (n17) (c18))] 29 false 1)), (Prod.mk 1002 (AObj.cells [(vI x19), (vI x20), (vI x21), (Sl 502 (n22) (c23))] 51 false 1)), (Prod.mk 1003 (AObj.sym ((List.take (n0 * 2) (List.drop 0 l24)) ++ [(vI n11), (vI n12)]) true 2)), (Prod.mk 500 (AObj.sym (l25) false 5)), (Prod.mk 501 (AObj.sym (l26) false 1)), (Prod.mk 502 (AObj.sym (l27) false 1))])))))))
 (((Qv (Value.tuple [].toArray)) ∧
 ((Qv (Value.tuple [].toArray)) ∧
 ((Qv (Value.tuple [].toArray)) ∧
 ((Qv (Value.tuple [].toArray)) ∧
 ((Qv (Value.tuple [].toArray)) ∧
 ((Qv (Value.bool false)) ∧
 ((Qv (Value.bool false)) ∧
 ((bcase (decide (n14 ≤ n4))
 ((Value.bool true) = (Value.bool false))
 (Qv (Value.bool false))) ∧
 ((Qv (vI n4)) ∧
 ((Qv (Pt 1004 2)) ∧
 ((Qv (Pt 1002 1)) ∧
 ((Qv (Pt 1002 0)) ∧
 ((Qv (Value.bool true)) ∧
 ((bcase (decide (n13 ≤ n3))
 (Qv (Value.bool true))
 ((Value.bool false) = (Value.bool true))) ∧
 ((Qv (vI n3)) ∧
 ((Qv (Pt 1004 1)) ∧
 ((Qv (Pt 1002 1)) ∧
 ((Qv (Pt 1002 0)) ∧
 ((bcase (b1)
 (Qv (Value.bool true))
 ((Value.bool false) = (Value.bool true))) ∧
 True))))))))))))))))))) ∧
 (((Qv (Value.bool false)) ∧
 ((Qv (Value.tuple [].toArray)) ∧
 ((Qv (Value.tuple [].toArray)) ∧
 ((Qv (Value.tuple [].toArray)) ∧
 ((Qv (Value.tuple [].toArray)) ∧
 ((Qv (Value.tuple [].toArray)) ∧
 ((Qv (Value.bool false)) ∧
 ((Qv (Value.bool false)) ∧
 ((Qv (Value.tuple [].toArray)) ∧
 ((Qv (Value.tuple [].toArray)) ∧
 ((Qv (Value.bool false)) ∧
 ((bcase (decide (n14 ≤ n4))
 ((Value.bool true) = (Value.bool false))
 (Qv (Value.bool false))) ∧
 ((Qv (vI n4)) ∧
 ((Qv (Pt 1004 2)) ∧
 ((Qv (Pt 1002 1)) ∧
 ((Qv (Pt 1002 0)) ∧
 ((Qv (Value.bool true)) ∧
 ((bcase (decide (n13 ≤ n3))
 (Qv (Value.bool true))
 ((Value.bool false) = (Value.bool true))) ∧
 ((Qv (vI n3)) ∧
 ((Qv (Pt 1004 1)) ∧
 ((Qv (Pt 1002 1)) ∧
 ((Qv (Pt 1002 0)) ∧
 ((bcase (b1)
 (Qv (Value.bool true))
 ((Value.bool false) = (Value.bool true))) ∧
 True))))))))))))))))))))))) ∧
 (True ∧
 (B [(Prod.mk 3 (Pt 1000 0)), (Prod.mk 4 (Pt 1001 0)), (Prod.mk 5 (Pt 1002 0)), (Prod.mk 8 (Sl 1003 (n0 + 1) (n0 + 1))), (Prod.mk 9 (Value.bool false)), (Prod.mk 10 (vI (IntKind.wrap .i64 (x2 + n8)))), (Prod.mk 11 (vI (IntKind.wrap .i64 (x3 + 1))))] [(Prod.mk 1000 (AObj.cells [(vI x4), (vI x5), (vI x6), (vI x7), (vI x8), (vI x9), (Sl 500 (n10) (c11)), (vI x12), (vI x13), (vI x14), (vI x15)] 26 false 1)), (Prod.mk 1001 (AObj.cells [(Value.string (s16)), (Sl 501 (n17) (c18))] 29 false 1)), (Prod.mk 1002 (AObj.cells [(vI x19), (vI x20), (vI x21), (Sl 502 (n22) (c23))] 51 false 1)), (Prod.mk 1003 (AObj.sym ((List.take (n0 * 2) (List.drop 0 l24)) ++ [(vI n11), (vI n12)]) true 2)), (Prod.mk 500 (AObj.sym (l25) false 5)), (Prod.mk 501 (AObj.sym (l26) false 1)), (Prod.mk 502 (AObj.sym (l27) false 1))])))))))
 False))
 (((Qv (Value.tuple [].toArray)) ∧
 ((Qv (Value.tuple [].toArray)) ∧
 ((Qv (Value.tuple [].toArray)) ∧
 ((Qv (Value.tuple [].toArray)) ∧
 ((Qv (Value.tuple [].toArray)) ∧
 ((Qv (Value.tuple [].toArray)) ∧
 ((Qv (Value.tuple [].toArray)) ∧
 ((Qv (Value.tuple [].toArray)) ∧
 ((Qv (Value.tuple [].toArray)) ∧
 ((Qv (Value.bool false)) ∧
 ((Qv (Value.bool false)) ∧
 ((bcase (decide (n13 ≤ n3))
 ((Value.bool true) = (Value.bool false))
 (Qv (Value.bool false))) ∧
 ((Qv (vI n3)) ∧
 ((Qv (Pt 1004 1)) ∧
 ((Qv (Pt 1002 1)) ∧
 ((Qv (Pt 1002 0)) ∧
 ((bcase (b1)
 (Qv (Value.bool true))
 ((Value.bool false) = (Value.bool true))) ∧
 True))))))))))))))))) ∧
 (((Qv (Value.tuple [].toArray)) ∧
 ((Qv (Value.tuple [].toArray)) ∧
 ((Qv (Value.tuple [].toArray)) ∧
 ((Qv (Value.tuple [].toArray)) ∧
 ((Qv (Value.tuple [].toArray)) ∧
 ((Qv (Value.bool false)) ∧
 ((Qv (Value.bool false)) ∧
 ((Qv (Value.tuple [].toArray)) ∧
 ((Qv (Value.tuple [].toArray)) ∧
 ((Qv (Value.tuple [].toArray)) ∧
 ((Qv (Value.tuple [].toArray)) ∧
 ((Qv (Value.tuple [].toArray)) ∧
 ((Qv (Value.bool false)) ∧
 ((bcase (decide (n13 ≤ n3))
 ((Value.bool true) = (Value.bool false))
 (Qv (Value.bool false))) ∧
 ((Qv (vI n3)) ∧
 ((Qv (Pt 1004 1)) ∧
 ((Qv (Pt 1002 1)) ∧
 ((Qv (Pt 1002 0)) ∧
 ((bcase (b1)
 (Qv (Value.bool true))
 ((Value.bool false) = (Value.bool true))) ∧
 True))))))))))))))))))) ∧
 (((Qv (Value.bool false)) ∧
 ((Qv (Value.tuple [].toArray)) ∧
 ((Qv (Value.tuple [].toArray)) ∧
 ((Qv (Value.tuple [].toArray)) ∧
 ((Qv (Value.tuple [].toArray)) ∧
 ((Qv (Value.tuple [].toArray)) ∧
 ((Qv (Value.bool false)) ∧
 ((Qv (Value.bool false)) ∧
 ((Qv (Value.tuple [].toArray)) ∧
 ((Qv (Value.tuple [].toArray)) ∧
 ((Qv (Value.bool false)) ∧
 ((Qv (Value.tuple [].toArray)) ∧
 ((Qv (Value.tuple [].toArray)) ∧
 ((Qv (Value.tuple [].toArray)) ∧
 ((Qv (Value.tuple [].toArray)) ∧
 ((Qv (Value.tuple [].toArray)) ∧
 ((Qv (Value.bool false)) ∧
 ((bcase (decide (n13 ≤ n3))
 ((Value.bool true) = (Value.bool false))
 (Qv (Value.bool false))) ∧
 ((Qv (vI n3)) ∧
 ((Qv (Pt 1004 1)) ∧
 ((Qv (Pt 1002 1)) ∧
 ((Qv (Pt 1002 0)) ∧
 ((bcase (b1)
 (Qv (Value.bool true))
 ((Value.bool false) = (Value.bool true))) ∧
 True))))))))))))))))))))))) ∧
 (True ∧
 (B [(Prod.mk 3 (Pt 1000 0)), (Prod.mk 4 (Pt 1001 0)), (Prod.mk 5 (Pt 1002 0)), (Prod.mk 8 (Sl 1003 (n0 + 1) (n0 + 1))), (Prod.mk 9 (Value.bool false)), (Prod.mk 10 (vI (IntKind.wrap .i64 (x2 + n8)))), (Prod.mk 11 (vI (IntKind.wrap .i64 (x3 + 1))))] [(Prod.mk 1000 (AObj.cells [(vI x4), (vI x5), (vI x6), (vI x7), (vI x8), (vI x9), (Sl 500 (n10) (c11)), (vI x12), (vI x13), (vI x14), (vI x15)] 26 false 1)), (Prod.mk 1001 (AObj.cells [(Value.string (s16)), (Sl 501 (n17) (c18))] 29 false 1)), (Prod.mk 1002 (AObj.cells [(vI x19), (vI x20), (vI x21), (Sl 502 (n22) (c23))] 51 false 1)), (Prod.mk 1003 (AObj.sym ((List.take (n0 * 2) (List.drop 0 l24)) ++ [(vI n11), (vI n12)]) true 2)), (Prod.mk 500 (AObj.sym (l25) false 5)), (Prod.mk 501 (AObj.sym (l26) false 1)), (Prod.mk 502 (AObj.sym (l27) false 1))]))))))))
 False))
 (((Qv (Value.tuple [].toArray)) ∧
 ((Qv (Value.tuple [].toArray)) ∧
 ((Qv (Value.tuple [].toArray)) ∧
 ((Qv (Value.tuple [].toArray)) ∧
 ((Qv (Value.tuple [].toArray)) ∧
 ((Qv (Value.tuple [].toArray)) ∧
 ((Qv (Value.tuple [].toArray)) ∧
 ((Qv (Value.tuple [].toArray)) ∧
 ((Qv (Value.tuple [].toArray)) ∧
 ((Qv (Value.bool false)) ∧
 ((bcase (b1)
 ((Value.bool true) = (Value.bool false))
 (Qv (Value.bool false))) ∧
 True))))))))))) ∧
 (((Qv (Value.tuple [].toArray)) ∧
 ((Qv (Value.tuple [].toArray)) ∧
 ((Qv (Value.tuple [].toArray)) ∧
 ((Qv (Value.tuple [].toArray)) ∧
 ((Qv (Value.tuple [].toArray)) ∧
 ((Qv (Value.tuple [].toArray)) ∧
 ((Qv (Value.tuple [].toArray)) ∧
 ((Qv (Value.tuple [].toArray)) ∧
 ((Qv (Value.tuple [].toArray)) ∧
 ((Qv (Value.bool false)) ∧
 ((Qv (Value.bool false)) ∧
 ((Qv (Value.tuple [].toArray)) ∧
 ((Qv (Value.tuple [].toArray)) ∧
 ((Qv (Value.tuple [].toArray)) ∧
 ((Qv (Value.tuple [].toArray)) ∧
 ((Qv (Value.tuple [].toArray)) ∧
 ((bcase (b1)
 ((Value.bool true) = (Value.bool false))
 (Qv (Value.bool false))) ∧
 True))))))))))))))))) ∧
 (((Qv (Value.tuple [].toArray)) ∧
 ((Qv (Value.tuple [].toArray)) ∧
 ((Qv (Value.tuple [].toArray)) ∧
 ((Qv (Value.tuple [].toArray)) ∧
 ((Qv (Value.tuple [].toArray)) ∧
 ((Qv (Value.bool false)) ∧
 ((Qv (Value.bool false)) ∧
 ((Qv (Value.tuple [].toArray)) ∧
 ((Qv (Value.tuple [].toArray)) ∧
 ((Qv (Value.tuple [].toArray)) ∧
 ((Qv (Value.tuple [].toArray)) ∧
 ((Qv (Value.tuple [].toArray)) ∧
 ((Qv (Value.bool false)) ∧
 ((Qv (Value.tuple [].toArray)) ∧
 ((Qv (Value.tuple [].toArray)) ∧
 ((Qv (Value.tuple [].toArray)) ∧
 ((Qv (Value.tuple [].toArray)) ∧
 ((Qv (Value.tuple [].toArray)) ∧
 ((bcase (b1)
 ((Value.bool true) = (Value.bool false))
 (Qv (Value.bool false))) ∧
 True))))))))))))))))))) ∧
 (((Qv (Value.bool false)) ∧
 ((Qv (Value.tuple [].toArray)) ∧
 ((Qv (Value.tuple [].toArray)) ∧
 ((Qv (Value.tuple [].toArray)) ∧
 ((Qv (Value.tuple [].toArray)) ∧
 ((Qv (Value.tuple [].toArray)) ∧
 ((Qv (Value.bool false)) ∧
 ((Qv (Value.bool false)) ∧
 ((Qv (Value.tuple [].toArray)) ∧
 ((Qv (Value.tuple [].toArray)) ∧
 ((Qv (Value.bool false)) ∧
 ((Qv (Value.tuple [].toArray)) ∧
 ((Qv (Value.tuple [].toArray)) ∧
 ((Qv (Value.tuple [].toArray)) ∧
 ((Qv (Value.tuple [].toArray)) ∧
 ((Qv (Value.tuple [].toArray)) ∧
 ((Qv (Value.bool false)) ∧
 ((Qv (Value.tuple [].toArray)) ∧
 ((Qv (Value.tuple [].toArray)) ∧
 ((Qv (Value.tuple [].toArray)) ∧
 ((Qv (Value.tuple [].toArray)) ∧
 ((Qv (Value.tuple [].toArray)) ∧
 ((bcase (b1)
 ((Value.bool true) = (Value.bool false))
 (Qv (Value.bool false))) ∧
 True))))))))))))))))))))))) ∧
 (True ∧
 (B [(Prod.mk 3 (Pt 1000 0)), (Prod.mk 4 (Pt 1001 0)), (Prod.mk 5 (Pt 1002 0)), (Prod.mk 8 (Sl 1003 (n0 + 1) (n0 + 1))), (Prod.mk 9 (Value.bool false)), (Prod.mk 10 (vI (IntKind.wrap .i64 (x2 + n8)))), (Prod.mk 11 (vI (IntKind.wrap .i64 (x3 + 1))))] [(Prod.mk 1000 (AObj.cells [(vI x4), (vI x5), (vI x6), (vI x7), (vI x8), (vI x9), (Sl 500 (n10) (c11)), (vI x12), (vI x13), (vI x14), (vI x15)] 26 false 1)), (Prod.mk 1001 (AObj.cells [(Value.string (s16)), (Sl 501 (n17) (c18))] 29 false 1)), (Prod.mk 1002 (AObj.cells [(vI x19), (vI x20), (vI x21), (Sl 502 (n22) (c23))] 51 false 1)), (Prod.mk 1003 (AObj.sym ((List.take (n0 * 2) (List.drop 0 l24)) ++ [(vI n11), (vI n12)]) true 2)), (Prod.mk 500 (AObj.sym (l25) false 5)), (Prod.mk 501 (AObj.sym (l26) false 1)), (Prod.mk 502 (AObj.sym (l27) false 1))])))))))
 False)
 False)
 False)
 False)
 False))))))
 False)))
 False)
 False)))))))
 False)
 False))))))))
 False)
 False)))
 False)
 False)
 (X 0 [(Prod.mk 8 (Sl 1000 (n0) (n0))), (Prod.mk 9 (Value.bool (b1)))] [(Prod.mk 1000 (AObj.sym (l24) true 2))])) := by kernel_rfl
def nRm4 (C : Ct) (L : AtLoop) (n0 : Nat) (b1 : Bool) (l2 : List Value) (k : List D → Prop) : Prop := wpNext Try.prog (hP C) L 26 0 .normal [(8, (Value.slice (some ⟨1000, 0, none⟩) n0 n0)), (9, (Value.bool b1))] [(1000, (AObj.sym l2 true 2))] (dataK k)
theorem nRm4_text (C : Ct) (L : AtLoop) (n0 : Nat) (b1 : Bool) (l2 : List Go.Value) (k : List D → Prop) : nRm4 C L n0 b1 l2 k =
 (bcase (b1)
 (((Qv (n0)) ∧
 ((List.length l2) = (n0 * 2))) ∧
 (k [(D.sl (n0) 2 (l2)), (D.val (Value.bool true))]))
 (((Qv (n0)) ∧
 ((List.length l2) = (n0 * 2))) ∧
 (k [(D.sl (n0) 2 (l2)), (D.val (Value.bool false))]))) := by kernel_rfl
def gRC (C : Ct) (L : AtLoop) (x0 : Int) (x1 : Int) (x2 : Int) (x3 : Int) (x4 : Int) (x5 : Int) (n6 : Nat) (c6 : Nat) (l6 : List Value) (x7 : Int) (x8 : Int) (x9 : Int) (x10 : Int) (x11 : Int) (x12 : Int) (x13 : Int) (n14 : Nat) (c14 : Nat) (l14 : List Value) (k : List D → Prop) : Prop := wpFn Try.prog (hP C) L 0 24 #[.agg #[.int .i64 x0, .int .i64 x1, .int .i64 x2, .int .i64 x3, .int .i64 x4, .int .i64 x5, .slice (some ⟨500, 0, none⟩) n6 c6, .int .i64 x7, .int .i64 x8, .int .i64 x9, .int .i64 x10], .agg #[.int .i64 x11, .int .i64 x12, .int .i64 x13, .slice (some ⟨501, 0, none⟩) n14 c14]] (heapOf [(500, .sym l6 false 5), (501, .sym l14 false 1)]) (dataK k)
theorem gRC_text (C : Ct) (L : AtLoop) (x0 : Int) (x1 : Int) (x2 : Int) (x3 : Int) (x4 : Int) (x5 : Int) (n6 : Nat) (c6 : Nat) (l6 : List Go.Value) (x7 : Int) (x8 : Int) (x9 : Int) (x10 : Int) (x11 : Int) (x12 : Int) (x13 : Int) (n14 : Nat) (c14 : Nat) (l14 : List Go.Value) (k : List D → Prop) : gRC C L x0 x1 x2 x3 x4 x5 n6 c6 l6 x7 x8 x9 x10 x11 x12 x13 n14 c14 l14 k =
 (((Says C 18 [(D.val (vI x11)), (D.val (vI x7)), (D.val (vI x8))] [(D.val (Value.bool true))]) ∧
 (((Says C 18 [(D.val (vI x12)), (D.val (vI x9)), (D.val (vI x10))] [(D.val (Value.bool true))]) ∧
 (((Says C 18 [(D.val (vI x13)), (D.val (vI x3)), (D.val (vI x4))] [(D.val (Value.bool true))]) ∧
 (bcase ((↑n14 : Int) != (↑n6 : Int))
 (k [(D.val (vI 0)), (D.val (vI 10))])
 (L 0 [(Prod.mk 2 (Pt 1000 0)), (Prod.mk 3 (Pt 1001 0)), (Prod.mk 6 (vI 0))] [(Prod.mk 1000 (AObj.cells [(vI x0), (vI x1), (vI x2), (vI x3), (vI x4), (vI x5), (Sl 500 (n6) (c6)), (vI x7), (vI x8), (vI x9), (vI x10)] 26 false 1)), (Prod.mk 1001 (AObj.cells [(vI x11), (vI x12), (vI x13), (Sl 501 (n14) (c14))] 51 false 1)), (Prod.mk 500 (AObj.sym (l6) false 5)), (Prod.mk 501 (AObj.sym (l14) false 1))]))) ∨
 ((Says C 18 [(D.val (vI x13)), (D.val (vI x3)), (D.val (vI x4))] [(D.val (Value.bool false))]) ∧
 (k [(D.val (vI 0)), (D.val (vI 2))])))) ∨
 ((Says C 18 [(D.val (vI x12)), (D.val (vI x9)), (D.val (vI x10))] [(D.val (Value.bool false))]) ∧
 (k [(D.val (vI 0)), (D.val (vI 2))])))) ∨
 ((Says C 18 [(D.val (vI x11)), (D.val (vI x7)), (D.val (vI x8))] [(D.val (Value.bool false))]) ∧
 (k [(D.val (vI 0)), (D.val (vI 2))]))) := by kernel_rfl
abbrev zRC1 (x0 : Int) (x1 : Int) (x2 : Int) (x3 : Int) (x4 : Int) (x5 : Int) (x6 : Int) (n7 : Nat) (c8 : Nat) (x9 : Int) (x10 : Int) (x11 : Int) (x12 : Int) (x13 : Int) (x14 : Int) (x15 : Int) (n16 : Nat) (c17 : Nat) (l18 : List Value) (l19 : List Value) : Slots × Blocks := ([(2, (Value.pointer (some ⟨1000, 0, none⟩))), (3, (Value.pointer (some ⟨1001, 0, none⟩))), (6, (Value.int .i64 x0))], [(1000, (AObj.cells [(Value.int .i64 x1), (Value.int .i64 x2), (Value.int .i64 x3), (Value.int .i64 x4), (Value.int .i64 x5), (Value.int .i64 x6), (Value.slice (some ⟨500, 0, none⟩) n7 c8), (Value.int .i64 x9), (Value.int .i64 x10), (Value.int .i64 x11), (Value.int .i64 x12)] 26 false 1)), (1001, (AObj.cells [(Value.int .i64 x13), (Value.int .i64 x14), (Value.int .i64 x15), (Value.slice (some ⟨501, 0, none⟩) n16 c17)] 51 false 1)), (500, (AObj.sym l18 false 5)), (501, (AObj.sym l19 false 1))])
def rRC1 (C : Ct) (L : AtLoop) (x0 : Int) (x1 : Int) (x2 : Int) (x3 : Int) (x4 : Int) (x5 : Int) (x6 : Int) (n7 : Nat) (c8 : Nat) (x9 : Int) (x10 : Int) (x11 : Int) (x12 : Int) (x13 : Int) (x14 : Int) (x15 : Int) (n16 : Nat) (c17 : Nat) (l18 : List Value) (l19 : List Value) (B : Bx) (X : Xx) (k : List D → Prop) : Prop := wpRound Try.prog (hP C) L 24 0 [(2, (Value.pointer (some ⟨1000, 0, none⟩))), (3, (Value.pointer (some ⟨1001, 0, none⟩))), (6, (Value.int .i64 x0))] [(1000, (AObj.cells [(Value.int .i64 x1), (Value.int .i64 x2), (Value.int .i64 x3), (Value.int .i64 x4), (Value.int .i64 x5), (Value.int .i64 x6), (Value.slice (some ⟨500, 0, none⟩) n7 c8), (Value.int .i64 x9), (Value.int .i64 x10), (Value.int .i64 x11), (Value.int .i64 x12)] 26 false 1)), (1001, (AObj.cells [(Value.int .i64 x13), (Value.int .i64 x14), (Value.int .i64 x15), (Value.slice (some ⟨501, 0, none⟩) n16 c17)] 51 false 1)), (500, (AObj.sym l18 false 5)), (501, (AObj.sym l19 false 1))] B X (dataK k)
theorem rRC1_text (C : Ct) (L : AtLoop) (x0 : Int) (x1 : Int) (x2 : Int) (x3 : Int) (x4 : Int) (x5 : Int) (x6 : Int) (n7 : Nat) (c8 : Nat) (x9 : Int) (x10 : Int) (x11 : Int) (x12 : Int) (x13 : Int) (x14 : Int) (x15 : Int) (n16 : Nat) (c17 : Nat) (l18 : List Go.Value) (l19 : List Go.Value) (B : Bx) (X : Xx) (k : List D → Prop) : rRC1 C L x0 x1 x2 x3 x4 x5 x6 n7 c8 x9 x10 x11 x12 x13 x14 x15 n16 c17 l18 l19 B X k =
 (bcase (decide (x0 < (↑n16 : Int)))
 (bcase (decide (0 ≤ x0))
 (bcase (decide (x0 < (↑n16 : Int)))
 (∃ n1 : Int,
 ((At (l19) (0 + Int.toNat x0 * 1) 1 [(vI n1)]) ∧
 (bcase (decide (0 ≤ x0))
 (bcase (decide (x0 < (↑n7 : Int)))
 (∃ n2 : Int,
 ((At (l18) (Addr.off { block := 500, off := 0 + Int.toNat x0 * 5 } + 3) 1 [(vI n2)]) ∧
 (bcase (decide (0 ≤ x0))
 (bcase (decide (x0 < (↑n7 : Int)))
 (∃ n3 : Int,
 ((At (l18) (Addr.off (Addr.add { block := 500, off := 0 + Int.toNat x0 * 5 } 3) + 1) 1 [(vI n3)]) ∧
 (((∃ n4 : Int,
 ((At (l18) (Addr.off (Addr.add { block := 500, off := 0 + Int.toNat x0 * 5 } 3) + 1) 1 [(vI n4)]) ∧
 ((vI n4) = (vI n3)))) ∧
 (((Value.pointer (some (Addr.mk 500 (Addr.off { block := 500, off := Addr.off { block := 500, off := 0 + Int.toNat x0 * 5 } + 3 } + 1) none))) = (Value.pointer (some (Addr.mk 500 (Addr.off (Addr.add { block := 500, off := 0 + Int.toNat x0 * 5 } 3) + 1) none)))) ∧
 ((Qv (Value.pointer (some (Addr.mk 500 (Addr.off { block := 500, off := 0 + Int.toNat x0 * 5 } + 3) none)))) ∧
 ((bcase (decide (0 ≤ x0))
 (bcase (decide (x0 < (↑n7 : Int)))
 (Qv (Pt 500 (0 + Int.toNat x0 * 5)))
 False)
 False) ∧
 ((Qv (vI x0)) ∧
 ((Qv (Sl 500 (n7) (c8))) ∧
 ((Qv (Pt 1000 6)) ∧
 ((∃ n4 : Int,
 ((At (l18) (Addr.off { block := 500, off := 0 + Int.toNat x0 * 5 } + 3) 1 [(vI n4)]) ∧
 ((vI n4) = (vI n2)))) ∧
 ((Qv (Value.pointer (some (Addr.mk 500 (Addr.off { block := 500, off := 0 + Int.toNat x0 * 5 } + 3) none)))) ∧
 ((Qv (Value.pointer (some (Addr.mk 500 (Addr.off { block := 500, off := 0 + Int.toNat x0 * 5 } + 3) none)))) ∧
 ((bcase (decide (0 ≤ x0))
 (bcase (decide (x0 < (↑n7 : Int)))
 (Qv (Pt 500 (0 + Int.toNat x0 * 5)))
 False)
 False) ∧
 ((Qv (vI x0)) ∧
 ((Qv (Sl 500 (n7) (c8))) ∧
 ((Qv (Pt 1000 6)) ∧
 ((∃ n4 : Int,
 ((At (l19) (0 + Int.toNat x0 * 1) 1 [(vI n4)]) ∧
 ((vI n4) = (vI n1)))) ∧
 ((bcase (decide (0 ≤ x0))
 (bcase (decide (x0 < (↑n16 : Int)))
 (Qv (Pt 501 (0 + Int.toNat x0 * 1)))
 False)
 False) ∧
 ((Qv (vI x0)) ∧
 ((Qv (Sl 501 (n16) (c17))) ∧
 ((Qv (Pt 1001 3)) ∧
 True))))))))))))))))))) ∧
 (((Says C 18 [(D.val (vI n1)), (D.val (vI n2)), (D.val (vI n3))] [(D.val (Value.bool true))]) ∧
 (((Qv (Value.bool false)) ∧
 (((Value.pointer (some (Addr.mk 500 (Addr.off { block := 500, off := Addr.off { block := 500, off := 0 + Int.toNat x0 * 5 } + 3 } + 1) none))) = (Value.pointer (some (Addr.mk 500 (Addr.off (Addr.add { block := 500, off := 0 + Int.toNat x0 * 5 } 3) + 1) none)))) ∧
 ((Qv (Value.pointer (some (Addr.mk 500 (Addr.off { block := 500, off := 0 + Int.toNat x0 * 5 } + 3) none)))) ∧
 ((bcase (decide (0 ≤ x0))
 (bcase (decide (x0 < (↑n7 : Int)))
 (Qv (Pt 500 (0 + Int.toNat x0 * 5)))
 False)
 False) ∧
 ((Qv (vI x0)) ∧
 ((Qv (Sl 500 (n7) (c8))) ∧
 ((Qv (Pt 1000 6)) ∧
 ((Qv (Value.pointer (some (Addr.mk 500 (Addr.off { block := 500, off := 0 + Int.toNat x0 * 5 } + 3) none)))) ∧
 ((Qv (Value.pointer (some (Addr.mk 500 (Addr.off { block := 500, off := 0 + Int.toNat x0 * 5 } + 3) none)))) ∧
 ((bcase (decide (0 ≤ x0))
 (bcase (decide (x0 < (↑n7 : Int)))
 (Qv (Pt 500 (0 + Int.toNat x0 * 5)))
 False)
 False) ∧
 ((Qv (vI x0)) ∧
 ((Qv (Sl 500 (n7) (c8))) ∧
 ((Qv (Pt 1000 6)) ∧
 ((bcase (decide (0 ≤ x0))
 (bcase (decide (x0 < (↑n16 : Int)))
 (Qv (Pt 501 (0 + Int.toNat x0 * 1)))
 False)
 False) ∧
 ((Qv (vI x0)) ∧
 ((Qv (Sl 501 (n16) (c17))) ∧
 ((Qv (Pt 1001 3)) ∧
 True))))))))))))))))) ∧
 (B [(Prod.mk 2 (Pt 1000 0)), (Prod.mk 3 (Pt 1001 0)), (Prod.mk 6 (vI (IntKind.wrap .i64 (x0 + 1))))] [(Prod.mk 1000 (AObj.cells [(vI x1), (vI x2), (vI x3), (vI x4), (vI x5), (vI x6), (Sl 500 (n7) (c8)), (vI x9), (vI x10), (vI x11), (vI x12)] 26 false 1)), (Prod.mk 1001 (AObj.cells [(vI x13), (vI x14), (vI x15), (Sl 501 (n16) (c17))] 51 false 1)), (Prod.mk 500 (AObj.sym (l18) false 5)), (Prod.mk 501 (AObj.sym (l19) false 1))]))) ∨
 ((Says C 18 [(D.val (vI n1)), (D.val (vI n2)), (D.val (vI n3))] [(D.val (Value.bool false))]) ∧
 (((Qv (Value.bool true)) ∧
 (((Value.pointer (some (Addr.mk 500 (Addr.off { block := 500, off := Addr.off { block := 500, off := 0 + Int.toNat x0 * 5 } + 3 } + 1) none))) = (Value.pointer (some (Addr.mk 500 (Addr.off (Addr.add { block := 500, off := 0 + Int.toNat x0 * 5 } 3) + 1) none)))) ∧
 ((Qv (Value.pointer (some (Addr.mk 500 (Addr.off { block := 500, off := 0 + Int.toNat x0 * 5 } + 3) none)))) ∧
 ((bcase (decide (0 ≤ x0))
 (bcase (decide (x0 < (↑n7 : Int)))
 (Qv (Pt 500 (0 + Int.toNat x0 * 5)))
 False)
 False) ∧
 ((Qv (vI x0)) ∧
 ((Qv (Sl 500 (n7) (c8))) ∧
 ((Qv (Pt 1000 6)) ∧
 ((Qv (Value.pointer (some (Addr.mk 500 (Addr.off { block := 500, off := 0 + Int.toNat x0 * 5 } + 3) none)))) ∧
 ((Qv (Value.pointer (some (Addr.mk 500 (Addr.off { block := 500, off := 0 + Int.toNat x0 * 5 } + 3) none)))) ∧
 ((bcase (decide (0 ≤ x0))
 (bcase (decide (x0 < (↑n7 : Int)))
 (Qv (Pt 500 (0 + Int.toNat x0 * 5)))
 False)
 False) ∧
 ((Qv (vI x0)) ∧
 ((Qv (Sl 500 (n7) (c8))) ∧
 ((Qv (Pt 1000 6)) ∧
 ((bcase (decide (0 ≤ x0))
 (bcase (decide (x0 < (↑n16 : Int)))
 (Qv (Pt 501 (0 + Int.toNat x0 * 1)))
 False)
 False) ∧
 ((Qv (vI x0)) ∧
 ((Qv (Sl 501 (n16) (c17))) ∧
 ((Qv (Pt 1001 3)) ∧
 True))))))))))))))))) ∧
 (k [(D.val (vI x0)), (D.val (vI 2))])))))))
 False)
 False)))
 False)
 False)))
 False)
 False)
 (X 0 [] [])) := by kernel_rfl
def nRC2 (C : Ct) (L : AtLoop) (k : List D → Prop) : Prop := wpNext Try.prog (hP C) L 24 0 .normal [] [] (dataK k)
theorem nRC2_text (C : Ct) (L : AtLoop) (k : List D → Prop) : nRC2 C L k =
 (k [(D.val (vI 0)), (D.val (vI 0))]) := by kernel_rfl
def gRCn (C : Ct) (L : AtLoop) (x0 : Int) (x1 : Int) (x2 : Int) (x3 : Int) (x4 : Int) (x5 : Int) (n6 : Nat) (c6 : Nat) (l6 : List Value) (x7 : Int) (x8 : Int) (x9 : Int) (x10 : Int) (x11 : Int) (x12 : Int) (x13 : Int) (k : List D → Prop) : Prop := wpFn Try.prog (hP C) L 0 24 #[.agg #[.int .i64 x0, .int .i64 x1, .int .i64 x2, .int .i64 x3, .int .i64 x4, .int .i64 x5, .slice (some ⟨500, 0, none⟩) n6 c6, .int .i64 x7, .int .i64 x8, .int .i64 x9, .int .i64 x10], .agg #[.int .i64 x11, .int .i64 x12, .int .i64 x13, .slice none 0 0]] (heapOf [(500, .sym l6 false 5)]) (dataK k)
theorem gRCn_text (C : Ct) (L : AtLoop) (x0 : Int) (x1 : Int) (x2 : Int) (x3 : Int) (x4 : Int) (x5 : Int) (n6 : Nat) (c6 : Nat) (l6 : List Go.Value) (x7 : Int) (x8 : Int) (x9 : Int) (x10 : Int) (x11 : Int) (x12 : Int) (x13 : Int) (k : List D → Prop) : gRCn C L x0 x1 x2 x3 x4 x5 n6 c6 l6 x7 x8 x9 x10 x11 x12 x13 k =
 (((Says C 18 [(D.val (vI x11)), (D.val (vI x7)), (D.val (vI x8))] [(D.val (Value.bool true))]) ∧
 (((Says C 18 [(D.val (vI x12)), (D.val (vI x9)), (D.val (vI x10))] [(D.val (Value.bool true))]) ∧
 (((Says C 18 [(D.val (vI x13)), (D.val (vI x3)), (D.val (vI x4))] [(D.val (Value.bool true))]) ∧
 (bcase ((↑0 : Int) != (↑n6 : Int))
 (k [(D.val (vI 0)), (D.val (vI 10))])
 (L 0 [(Prod.mk 2 (Pt 1000 0)), (Prod.mk 3 (Pt 1001 0)), (Prod.mk 6 (vI 0))] [(Prod.mk 1000 (AObj.cells [(vI x0), (vI x1), (vI x2), (vI x3), (vI x4), (vI x5), (Sl 500 (n6) (c6)), (vI x7), (vI x8), (vI x9), (vI x10)] 26 false 1)), (Prod.mk 1001 (AObj.cells [(vI x11), (vI x12), (vI x13), (Value.slice none 0 0)] 51 false 1)), (Prod.mk 500 (AObj.sym (l6) false 5))]))) ∨
 ((Says C 18 [(D.val (vI x13)), (D.val (vI x3)), (D.val (vI x4))] [(D.val (Value.bool false))]) ∧
 (k [(D.val (vI 0)), (D.val (vI 2))])))) ∨
 ((Says C 18 [(D.val (vI x12)), (D.val (vI x9)), (D.val (vI x10))] [(D.val (Value.bool false))]) ∧
 (k [(D.val (vI 0)), (D.val (vI 2))])))) ∨
 ((Says C 18 [(D.val (vI x11)), (D.val (vI x7)), (D.val (vI x8))] [(D.val (Value.bool false))]) ∧
 (k [(D.val (vI 0)), (D.val (vI 2))]))) := by kernel_rfl
def gFr (C : Ct) (L : AtLoop) (n0 : Nat) (c0 : Nat) (l0 : List Value) (n1 : Nat) (c1 : Nat) (l1 : List Value) (k : List D → Prop) : Prop := wpFn Try.prog (hP C) L 0 16 #[.slice (some ⟨500, 0, none⟩) n0 c0, .slice (some ⟨501, 0, none⟩) n1 c1] (heapOf [(500, .sym l0 false 2), (501, .sym l1 false 2)]) (dataK k)
theorem gFr_text (C : Ct) (L : AtLoop) (n0 : Nat) (c0 : Nat) (l0 : List Go.Value) (n1 : Nat) (c1 : Nat) (l1 : List Go.Value) (k : List D → Prop) : gFr C L n0 c0 l0 n1 c1 l1 k =
 (bcase ((↑n0 : Int) != (↑n1 : Int))
 (k [(D.val (Value.bool false))])
 (L 0 [(Prod.mk 0 (Sl 500 (n0) (c0))), (Prod.mk 1 (Sl 501 (n1) (c1))), (Prod.mk 5 (vI 0))] [(Prod.mk 500 (AObj.sym (l0) false 2)), (Prod.mk 501 (AObj.sym (l1) false 2))])) := by kernel_rfl
abbrev zFr1 (n0 : Nat) (c1 : Nat) (n2 : Nat) (c3 : Nat) (x4 : Int) (l5 : List Value) (l6 : List Value) : Slots × Blocks := ([(0, (Value.slice (some ⟨500, 0, none⟩) n0 c1)), (1, (Value.slice (some ⟨501, 0, none⟩) n2 c3)), (5, (Value.int .i64 x4))], [(500, (AObj.sym l5 false 2)), (501, (AObj.sym l6 false 2))])
def rFr1 (C : Ct) (L : AtLoop) (n0 : Nat) (c1 : Nat) (n2 : Nat) (c3 : Nat) (x4 : Int) (l5 : List Value) (l6 : List Value) (B : Bx) (X : Xx) (k : List D → Prop) : Prop := wpRound Try.prog (hP C) L 16 0 [(0, (Value.slice (some ⟨500, 0, none⟩) n0 c1)), (1, (Value.slice (some ⟨501, 0, none⟩) n2 c3)), (5, (Value.int .i64 x4))] [(500, (AObj.sym l5 false 2)), (501, (AObj.sym l6 false 2))] B X (dataK k)
theorem rFr1_text (C : Ct) (L : AtLoop) (n0 : Nat) (c1 : Nat) (n2 : Nat) (c3 : Nat) (x4 : Int) (l5 : List Go.Value) (l6 : List Go.Value) (B : Bx) (X : Xx) (k : List D → Prop) : rFr1 C L n0 c1 n2 c3 x4 l5 l6 B X k =
 (bcase (decide (x4 < (↑n0 : Int)))
 (bcase (decide (0 ≤ x4))
 (bcase (decide (x4 < (↑n0 : Int)))
 (∃ n1 : Int,
 (∃ n3 : Int,
 ((At (l5) (0 + Int.toNat x4 * 2) 2 [(vI n1), (vI n3)]) ∧
 (bcase (decide (0 ≤ x4))
 (bcase (decide (x4 < (↑n2 : Int)))
 (∃ n4 : Int,
 (∃ n5 : Int,
 ((At (l6) (0 + Int.toNat x4 * 2) 2 [(vI n4), (vI n5)]) ∧
 (bcase (if Bool.true = Bool.true then !(n1 == n4 && (n3 == n5 && Bool.true)) else n1 == n4 && (n3 == n5 && Bool.true))
 (((bcase (if Bool.true = Bool.true then !(n1 == n4 && (n3 == n5 && Bool.true)) else n1 == n4 && (n3 == n5 && Bool.true))
 (Qv (Value.bool true))
 ((Value.bool false) = (Value.bool true))) ∧
 ((∃ n6 : Int,
 (∃ n7 : Int,
 ((At (l6) (0 + Int.toNat x4 * 2) 2 [(vI n6), (vI n7)]) ∧
 ((Value.agg [(vI n6), (vI n7)].toArray) = (Value.agg [(vI n4), (vI n5)].toArray))))) ∧
 ((bcase (decide (0 ≤ x4))
 (bcase (decide (x4 < (↑n2 : Int)))
 (Qv (Pt 501 (0 + Int.toNat x4 * 2)))
 False)
 False) ∧
 ((Qv (vI x4)) ∧
 ((Qv (Sl 501 (n2) (c3))) ∧
 ((∃ n6 : Int,
 (∃ n7 : Int,
 ((At (l5) (0 + Int.toNat x4 * 2) 2 [(vI n6), (vI n7)]) ∧
 ((Value.agg [(vI n6), (vI n7)].toArray) = (Value.agg [(vI n1), (vI n3)].toArray))))) ∧
 ((bcase (decide (0 ≤ x4))
 (bcase (decide (x4 < (↑n0 : Int)))
 (Qv (Pt 500 (0 + Int.toNat x4 * 2)))
 False)
 False) ∧
 ((Qv (vI x4)) ∧
 ((Qv (Sl 500 (n0) (c1))) ∧
 True))))))))) ∧
 (k [(D.val (Value.bool false))]))
 (((bcase (if Bool.true = Bool.true then !(n1 == n4 && (n3 == n5 && Bool.true)) else n1 == n4 && (n3 == n5 && Bool.true))
 ((Value.bool true) = (Value.bool false))
 (Qv (Value.bool false))) ∧
 ((∃ n6 : Int,
 (∃ n7 : Int,
 ((At (l6) (0 + Int.toNat x4 * 2) 2 [(vI n6), (vI n7)]) ∧
 ((Value.agg [(vI n6), (vI n7)].toArray) = (Value.agg [(vI n4), (vI n5)].toArray))))) ∧
 ((bcase (decide (0 ≤ x4))
 (bcase (decide (x4 < (↑n2 : Int)))
 (Qv (Pt 501 (0 + Int.toNat x4 * 2)))
 False)
 False) ∧
 ((Qv (vI x4)) ∧
 ((Qv (Sl 501 (n2) (c3))) ∧
 ((∃ n6 : Int,
 (∃ n7 : Int,
 ((At (l5) (0 + Int.toNat x4 * 2) 2 [(vI n6), (vI n7)]) ∧
 ((Value.agg [(vI n6), (vI n7)].toArray) = (Value.agg [(vI n1), (vI n3)].toArray))))) ∧
 ((bcase (decide (0 ≤ x4))
 (bcase (decide (x4 < (↑n0 : Int)))
 (Qv (Pt 500 (0 + Int.toNat x4 * 2)))
 False)
 False) ∧
 ((Qv (vI x4)) ∧
 ((Qv (Sl 500 (n0) (c1))) ∧
 True))))))))) ∧
 (B [(Prod.mk 0 (Sl 500 (n0) (c1))), (Prod.mk 1 (Sl 501 (n2) (c3))), (Prod.mk 5 (vI (IntKind.wrap .i64 (x4 + 1))))] [(Prod.mk 500 (AObj.sym (l5) false 2)), (Prod.mk 501 (AObj.sym (l6) false 2))]))))))
 False)
 False))))
 False)
 False)
 (X 0 [] [])) := by kernel_rfl
def nFr2 (C : Ct) (L : AtLoop) (k : List D → Prop) : Prop := wpNext Try.prog (hP C) L 16 0 .normal [] [] (dataK k)
theorem nFr2_text (C : Ct) (L : AtLoop) (k : List D → Prop) : nFr2 C L k =
 (k [(D.val (Value.bool true))]) := by kernel_rfl
def gWj (C : Ct) (L : AtLoop) (x0 : Int) (x1 : Int) (x2 : Int) (k : List D → Prop) : Prop := wpFn Try.prog (hE C) L 0 18 #[.int .i64 x0, .int .i64 x1, .int .i64 x2] (heapOf []) (dataK k)
theorem gWj_text (C : Ct) (L : AtLoop) (x0 : Int) (x1 : Int) (x2 : Int) (k : List D → Prop) : gWj C L x0 x1 x2 k =
 (bcase (decide (x1 ≤ x0))
 (bcase (decide (x0 ≤ x2))
 (k [(D.val (Value.bool true))])
 (k [(D.val (Value.bool false))]))
 (k [(D.val (Value.bool false))])) := by kernel_rfl
def gIN (C : Ct) (L : AtLoop) (s0 : ByteArray) (k : List D → Prop) : Prop := wpFn Try.prog (hP C) L 0 58 #[.string s0] (heapOf []) (dataK k)
theorem gIN_text (C : Ct) (L : AtLoop) (s0 : ByteArray) (k : List D → Prop) : gIN C L s0 k =
 (bcase (decide ((↑(ByteArray.size s0) : Int) < 1))
 (k [(D.val (Value.bool false))])
 (bcase (decide ((↑(ByteArray.size s0) : Int) > 12))
 (k [(D.val (Value.bool false))])
 (L 0 [(Prod.mk 0 (Value.string (s0))), (Prod.mk 3 (vI 0))] []))) := by kernel_rfl
abbrev zIN1 (s0 : ByteArray) (x1 : Int) : Slots × Blocks := ([(0, (Value.string s0)), (3, (Value.int .i64 x1))], [])
def rIN1 (C : Ct) (L : AtLoop) (s0 : ByteArray) (x1 : Int) (B : Bx) (X : Xx) (k : List D → Prop) : Prop := wpRound Try.prog (hP C) L 58 0 [(0, (Value.string s0)), (3, (Value.int .i64 x1))] [] B X (dataK k)
theorem rIN1_text (C : Ct) (L : AtLoop) (s0 : ByteArray) (x1 : Int) (B : Bx) (X : Xx) (k : List D → Prop) : rIN1 C L s0 x1 B X k =
 (bcase (decide (x1 < (↑(ByteArray.size s0) : Int)))
 (bcase (decide (0 ≤ x1))
 (∃ b1 : UInt8,
 ((ByteAt (s0) (Int.toNat x1) (b1)) ∧
 (bcase (decide ((↑(UInt8.toNat b1) : Int) ≥ 97))
 (bcase (decide ((↑(UInt8.toNat b1) : Int) ≤ 122))
 (B [(Prod.mk 0 (Value.string (s0))), (Prod.mk 3 (vI (IntKind.wrap .i64 (x1 + 1))))] [])
 (bcase (decide ((↑(UInt8.toNat b1) : Int) ≥ 65))
 (bcase (decide ((↑(UInt8.toNat b1) : Int) ≤ 90))
 (B [(Prod.mk 0 (Value.string (s0))), (Prod.mk 3 (vI (IntKind.wrap .i64 (x1 + 1))))] [])
 (bcase (x1 == 0)
 (k [(D.val (Value.bool false))])
 (bcase ((↑(UInt8.toNat b1) : Int) != 45)
 (bcase (decide ((↑(UInt8.toNat b1) : Int) < 48))
 (k [(D.val (Value.bool false))])
 (bcase (decide ((↑(UInt8.toNat b1) : Int) > 57))
 (k [(D.val (Value.bool false))])
 (B [(Prod.mk 0 (Value.string (s0))), (Prod.mk 3 (vI (IntKind.wrap .i64 (x1 + 1))))] [])))
 (B [(Prod.mk 0 (Value.string (s0))), (Prod.mk 3 (vI (IntKind.wrap .i64 (x1 + 1))))] []))))
 (bcase (x1 == 0)
 (k [(D.val (Value.bool false))])
 (bcase ((↑(UInt8.toNat b1) : Int) != 45)
 (bcase (decide ((↑(UInt8.toNat b1) : Int) < 48))
 (k [(D.val (Value.bool false))])
 (bcase (decide ((↑(UInt8.toNat b1) : Int) > 57))
 (k [(D.val (Value.bool false))])
 (B [(Prod.mk 0 (Value.string (s0))), (Prod.mk 3 (vI (IntKind.wrap .i64 (x1 + 1))))] [])))
 (B [(Prod.mk 0 (Value.string (s0))), (Prod.mk 3 (vI (IntKind.wrap .i64 (x1 + 1))))] [])))))
 (bcase (decide ((↑(UInt8.toNat b1) : Int) ≥ 65))
 (bcase (decide ((↑(UInt8.toNat b1) : Int) ≤ 90))
 (B [(Prod.mk 0 (Value.string (s0))), (Prod.mk 3 (vI (IntKind.wrap .i64 (x1 + 1))))] [])
 (bcase (x1 == 0)
 (k [(D.val (Value.bool false))])
 (bcase ((↑(UInt8.toNat b1) : Int) != 45)
 (bcase (decide ((↑(UInt8.toNat b1) : Int) < 48))
 (k [(D.val (Value.bool false))])
 (bcase (decide ((↑(UInt8.toNat b1) : Int) > 57))
 (k [(D.val (Value.bool false))])
 (B [(Prod.mk 0 (Value.string (s0))), (Prod.mk 3 (vI (IntKind.wrap .i64 (x1 + 1))))] [])))
 (B [(Prod.mk 0 (Value.string (s0))), (Prod.mk 3 (vI (IntKind.wrap .i64 (x1 + 1))))] []))))
 (bcase (x1 == 0)
 (k [(D.val (Value.bool false))])
 (bcase ((↑(UInt8.toNat b1) : Int) != 45)
 (bcase (decide ((↑(UInt8.toNat b1) : Int) < 48))
 (k [(D.val (Value.bool false))])
 (bcase (decide ((↑(UInt8.toNat b1) : Int) > 57))
 (k [(D.val (Value.bool false))])
 (B [(Prod.mk 0 (Value.string (s0))), (Prod.mk 3 (vI (IntKind.wrap .i64 (x1 + 1))))] [])))
 (B [(Prod.mk 0 (Value.string (s0))), (Prod.mk 3 (vI (IntKind.wrap .i64 (x1 + 1))))] [])))))))
 False)
 (X 0 [] [])) := by kernel_rfl
def nIN2 (C : Ct) (L : AtLoop) (k : List D → Prop) : Prop := wpNext Try.prog (hP C) L 58 0 .normal [] [] (dataK k)
theorem nIN2_text (C : Ct) (L : AtLoop) (k : List D → Prop) : nIN2 C L k =
 (k [(D.val (Value.bool true))]) := by kernel_rfl
def gLe (C : Ct) (L : AtLoop) (x0 : Int) (x1 : Int) (k : List D → Prop) : Prop := wpFn Try.prog (hP C) L 0 41 #[.int .i64 x0, .int .i64 x1] (heapOf []) (dataK k)
theorem gLe_text (C : Ct) (L : AtLoop) (x0 : Int) (x1 : Int) (k : List D → Prop) : gLe C L x0 x1 k =
 (∃ n1 : Int,
 ((Says C 71 [(D.val (vI x0)), (D.val (vI x1))] [(D.val (vI n1))]) ∧
 (bcase (decide (x1 < 0))
 (bcase (IntKind.wrap .i64 (0 - n1) != 0)
 (bcase (IntKind.wrap .i64 (0 - n1) != 0)
 (((Qv (Value.agg [(vI (IntKind.wrap .i64 (Int.tdiv x0 (IntKind.wrap .i64 (0 - n1))))), (vI (IntKind.wrap .i64 (Int.tdiv x1 (IntKind.wrap .i64 (0 - n1)))))].toArray)) ∧
 ((bcase (IntKind.wrap .i64 (0 - n1) != 0)
 (Qv (vI (IntKind.wrap .i64 (Int.tdiv x1 (IntKind.wrap .i64 (0 - n1))))))
 False) ∧
 ((Qv (vI (IntKind.wrap .i64 (0 - n1)))) ∧
 ((Qv (vI x1)) ∧
 ((bcase (IntKind.wrap .i64 (0 - n1) != 0)
 (Qv (vI (IntKind.wrap .i64 (Int.tdiv x0 (IntKind.wrap .i64 (0 - n1))))))
 False) ∧
 ((Qv (vI (IntKind.wrap .i64 (0 - n1)))) ∧
 ((Qv (vI x0)) ∧
 True))))))) ∧
 (True ∧
 (k [(D.agg [(D.val (vI (IntKind.wrap .i64 (Int.tdiv x0 (IntKind.wrap .i64 (0 - n1)))))), (D.val (vI (IntKind.wrap .i64 (Int.tdiv x1 (IntKind.wrap .i64 (0 - n1))))))])])))
 False)
 False)
 (bcase (n1 != 0)
 (bcase (n1 != 0)
 (((Qv (Value.agg [(vI (IntKind.wrap .i64 (Int.tdiv x0 n1))), (vI (IntKind.wrap .i64 (Int.tdiv x1 n1)))].toArray)) ∧
 ((bcase (n1 != 0)
 (Qv (vI (IntKind.wrap .i64 (Int.tdiv x1 n1))))
 False) ∧
 ((Qv (vI n1)) ∧
 ((Qv (vI x1)) ∧
 ((bcase (n1 != 0)
 (Qv (vI (IntKind.wrap .i64 (Int.tdiv x0 n1))))
 False) ∧
 ((Qv (vI n1)) ∧
 ((Qv (vI x0)) ∧
 True))))))) ∧
 (True ∧
 (k [(D.agg [(D.val (vI (IntKind.wrap .i64 (Int.tdiv x0 n1)))), (D.val (vI (IntKind.wrap .i64 (Int.tdiv x1 n1))))])])))
 False)
 False)))) := by kernel_rfl
def gGc (C : Ct) (L : AtLoop) (x0 : Int) (x1 : Int) (k : List D → Prop) : Prop := wpFn Try.prog (hP C) L 0 71 #[.int .i64 x0, .int .i64 x1] (heapOf []) (dataK k)
theorem gGc_text (C : Ct) (L : AtLoop) (x0 : Int) (x1 : Int) (k : List D → Prop) : gGc C L x0 x1 k =
 (L 0 [(Prod.mk 0 (vI x0)), (Prod.mk 1 (vI x1))] []) := by kernel_rfl
abbrev zGc1 (x0 : Int) (x1 : Int) : Slots × Blocks := ([(0, (Value.int .i64 x0)), (1, (Value.int .i64 x1))], [])
def rGc1 (C : Ct) (L : AtLoop) (x0 : Int) (x1 : Int) (B : Bx) (X : Xx) (k : List D → Prop) : Prop := wpRound Try.prog (hP C) L 71 0 [(0, (Value.int .i64 x0)), (1, (Value.int .i64 x1))] [] B X (dataK k)
theorem rGc1_text (C : Ct) (L : AtLoop) (x0 : Int) (x1 : Int) (B : Bx) (X : Xx) (k : List D → Prop) : rGc1 C L x0 x1 B X k =
 (bcase (x1 != 0)
 (bcase (x1 != 0)
 (((bcase (x1 != 0)
 (Qv (vI (Int.tmod x0 x1)))
 False) ∧
 ((Qv (vI x1)) ∧
 ((Qv (vI x0)) ∧
 ((Qv (vI x1)) ∧
 True)))) ∧
 (((bcase (x1 != 0)
 (Qv (vI (Int.tmod x0 x1)))
 False) ∧
 ((Qv (vI x1)) ∧
 True)) ∧
 (True ∧
 (B [(Prod.mk 0 (vI x1)), (Prod.mk 1 (vI (Int.tmod x0 x1)))] []))))
 False)
 (X 0 [(Prod.mk 0 (vI x0))] [])) := by kernel_rfl
def nGc2 (C : Ct) (L : AtLoop) (x0 : Int) (k : List D → Prop) : Prop := wpNext Try.prog (hP C) L 71 0 .normal [(0, (Value.int .i64 x0))] [] (dataK k)
theorem nGc2_text (C : Ct) (L : AtLoop) (x0 : Int) (k : List D → Prop) : nGc2 C L x0 k =
 (∃ n1 : Int,
 ((Says C 87 [(D.val (vI x0))] [(D.val (vI n1))]) ∧
 (k [(D.val (vI n1))]))) := by kernel_rfl
def gSi (C : Ct) (L : AtLoop) (x0 : Int) (k : List D → Prop) : Prop := wpFn Try.prog (hE C) L 0 87 #[.int .i64 x0] (heapOf []) (dataK k)
theorem gSi_text (C : Ct) (L : AtLoop) (x0 : Int) (k : List D → Prop) : gSi C L x0 k =
 (k [(D.val (vI (if IntKind.wrap .i64 (0 - x0) > x0 then IntKind.wrap .i64 (0 - x0) else x0)))]) := by kernel_rfl
end Go.Proofs.G5p
