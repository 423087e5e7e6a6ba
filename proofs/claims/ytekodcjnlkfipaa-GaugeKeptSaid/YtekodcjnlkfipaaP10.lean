/- Texts of the proof, put together: GbTH, GbTI, GbBK, GbBL, GbKJ. -/
import Derived.Test.YtekodcjnlkfipaaGbTG
import Derived.Test.YtekodcjnlkfipaaP8
import Derived.Test.YtekodcjnlkfipaaP4
/- What is left to show of each function, written out; the kernel reckons it. -/
namespace Go.Proofs.G5b
open Go Go.Abs Go.Proofs
set_option maxRecDepth 100000
set_option linter.unusedVariables false
def gKpn (C : Ct) (L : AtLoop) (n0 : Nat) (c0 : Nat) (l0 : List Value) (n2 : Nat) (c2 : Nat) (l2 : List Value) (k : List D → Prop) : Prop := wpFn Try.prog (hL C) L 0 5 #[.agg #[.slice (some ⟨500, 0, none⟩) n0 c0], .slice none 0 0, .slice (some ⟨501, 0, none⟩) n2 c2] (heapOf [(500, .sym l0 false 7), (501, .sym l2 false 1)]) (dataK k)
theorem gKpn_text (C : Ct) (L : AtLoop) (n0 : Nat) (c0 : Nat) (l0 : List Go.Value) (n2 : Nat) (c2 : Nat) (l2 : List Go.Value) (k : List D → Prop) : gKpn C L n0 c0 l0 n2 c2 l2 k =
 (((Says C 7 [] [(D.val (Value.bool true))]) ∧
 (bcase (decide (0 + n0 * 7 ≤ List.length l0))
 (((Says C 8 [(D.agg [(D.sl (n0) 7 (List.take (n0 * 7) (List.drop 0 l0)))])] [(D.val (Value.bool true))]) ∧
 (bcase (decide (0 + n0 * 7 ≤ List.length l0))
 (∃ n1 : Int,
 ((Says C 21 [(D.agg [(D.sl (n0) 7 (List.take (n0 * 7) (List.drop 0 l0)))])] [(D.val (vI n1))]) ∧
 (bcase (n1 != 0)
 (k [(D.val (Value.bool true))])
 (bcase (decide ((↑n2 : Int) < IntKind.wrap .i64 (3 * (↑n0 : Int))))
 (k [(D.val (Value.bool true))])
 (bcase (decide ((↑n2 : Int) > 30))
 (k [(D.val (Value.bool true))])
 (L 0 [(Prod.mk 1 (Go.Value.slice Option.none 0 0)), (Prod.mk 2 (Sl 501 (n2) (c2))), (Prod.mk 3 (Pt 1000 0)), (Prod.mk 7 (vI ((↑n0 : Int)))), (Prod.mk 8 (Go.Value.slice Option.none 0 0)), (Prod.mk 9 (vI (0 : Int)))] [(Prod.mk 501 (AObj.sym (l2) false 1)), (Prod.mk 1000 (AObj.cells [(Sl 500 (n0) (c0))] 24 false 1)), (Prod.mk 500 (AObj.sym (l0) false 7))]))))))
 False)) ∨
 ((Says C 8 [(D.agg [(D.sl (n0) 7 (List.take (n0 * 7) (List.drop 0 l0)))])] [(D.val (Value.bool false))]) ∧
 (k [(D.val (Value.bool true))])))
 False)) ∨
 ((Says C 7 [] [(D.val (Value.bool false))]) ∧
 (k [(D.val (Value.bool false))]))) := by kernel_rfl
abbrev zKpn1 (n0 : Nat) (c1 : Nat) (x2 : Int) (x3 : Int) (l4 : List Value) (n5 : Nat) (c6 : Nat) (l7 : List Value) : Slots × Blocks := ([(1, (Value.slice none 0 0)), (2, (Value.slice (some ⟨501, 0, none⟩) n0 c1)), (3, (Value.pointer (some ⟨1000, 0, none⟩))), (7, (Value.int .i64 x2)), (8, (Value.slice none 0 0)), (9, (Value.int .i64 x3))], [(501, (AObj.sym l4 false 1)), (1000, (AObj.cells [(Value.slice (some ⟨500, 0, none⟩) n5 c6)] 24 false 1)), (500, (AObj.sym l7 false 7))])
def rKpn1 (C : Ct) (L : AtLoop) (n0 : Nat) (c1 : Nat) (x2 : Int) (x3 : Int) (l4 : List Value) (n5 : Nat) (c6 : Nat) (l7 : List Value) (B : Bx) (X : Xx) (k : List D → Prop) : Prop := wpRound Try.prog (hL C) L 5 0 [(1, (Value.slice none 0 0)), (2, (Value.slice (some ⟨501, 0, none⟩) n0 c1)), (3, (Value.pointer (some ⟨1000, 0, none⟩))), (7, (Value.int .i64 x2)), (8, (Value.slice none 0 0)), (9, (Value.int .i64 x3))] [(501, (AObj.sym l4 false 1)), (1000, (AObj.cells [(Value.slice (some ⟨500, 0, none⟩) n5 c6)] 24 false 1)), (500, (AObj.sym l7 false 7))] B X (dataK k)
theorem rKpn1_text (C : Ct) (L : AtLoop) (n0 : Nat) (c1 : Nat) (x2 : Int) (x3 : Int) (l4 : List Go.Value) (n5 : Nat) (c6 : Nat) (l7 : List Go.Value) (B : Bx) (X : Xx) (k : List D → Prop) : rKpn1 C L n0 c1 x2 x3 l4 n5 c6 l7 B X k =
 (bcase (decide (x3 < x2))
 (bcase (decide (0 ≤ x3))
 (bcase (decide (x3 < (↑n5 : Int)))
 (∃ n1 : Int,
 (∃ n2 : Int,
 ((At (l7) (Go.Addr.off { block := 500, off := 0 + Int.toNat x3 * 7 } + 5) 2 [(vI n1), (vI n2)]) ∧
 (bcase (decide (0 ≤ x3))
 (bcase (decide (x3 < (↑n0 : Int)))
 (∃ n3 : Int,
 ((At (l4) (0 + Int.toNat x3 * 1) 1 [(vI n3)]) ∧
 (((Qv (vI (IntKind.wrap .i64 (IntKind.wrap .i64 (n2 - n1) + 1)))) ∧
 ((Qv (vI (IntKind.wrap .i64 (n2 - n1)))) ∧
 ((Qv (vI n1)) ∧
 ((Qv (Pt 1001 0)) ∧
 ((Qv (vI n2)) ∧
 ((Qv (Pt 1001 1)) ∧
 ((∃ n4 : Int,
 ((At (l4) (0 + Int.toNat x3 * 1) 1 [(vI n4)]) ∧
 ((vI n4) = (vI n3)))) ∧
 ((bcase (decide (0 ≤ x3))
 (bcase (decide (x3 < (↑n0 : Int)))
 (Qv (Pt 501 (0 + Int.toNat x3 * 1)))
 False)
 False) ∧
 ((Qv (vI x3)) ∧
 ((Qv (Sl 501 (n0) (c1))) ∧
 ((Qv (vI n1)) ∧
 ((Qv (Pt 1001 0)) ∧
 ((Qv (Go.Value.slice Option.none 0 0)) ∧
 True))))))))))))) ∧
 (∃ n4 : Int,
 ((Says C 25 [(D.val (vI n3)), (D.val (vI (IntKind.wrap .i64 (IntKind.wrap .i64 (n2 - n1) + 1))))] [(D.val (vI n4))]) ∧
 ((((Qv (Sl 1002 1 1)) ∧
 (Qv (Option.some (AObj.cells [(vI (IntKind.wrap .i64 (n1 + n4)))] 3 false 1)))) ∧
 ((Qv (vI (IntKind.wrap .i64 (n1 + n4)))) ∧
 ((Qv (vI (IntKind.wrap .i64 (n2 - n1)))) ∧
 ((Qv (vI n1)) ∧
 ((Qv (Pt 1001 0)) ∧
 ((Qv (vI n2)) ∧
 ((Qv (Pt 1001 1)) ∧
 ((bcase (decide (0 ≤ x3))
 (bcase (decide (x3 < (↑n0 : Int)))
 (Qv (Pt 501 (0 + Int.toNat x3 * 1)))
 False)
 False) ∧
 ((Qv (vI x3)) ∧
 ((Qv (Sl 501 (n0) (c1))) ∧
 ((Qv (vI n1)) ∧
 ((Qv (Pt 1001 0)) ∧
 ((Qv (Go.Value.slice Option.none 0 0)) ∧
 True))))))))))))) ∧
 (((Qv (vI (IntKind.wrap .i64 (n1 + n4)))) ∧
 ((Qv (vI (IntKind.wrap .i64 (n2 - n1)))) ∧
 ((Qv (vI n1)) ∧
 ((Qv (Pt 1001 0)) ∧
 ((Qv (vI n2)) ∧
 ((Qv (Pt 1001 1)) ∧
 ((bcase (decide (0 ≤ x3))
 (bcase (decide (x3 < (↑n0 : Int)))
 (Qv (Pt 501 (0 + Int.toNat x3 * 1)))
 False)
 False) ∧
 ((Qv (vI x3)) ∧
 ((Qv (Sl 501 (n0) (c1))) ∧
 ((Qv (vI n1)) ∧
 ((Qv (Pt 1001 0)) ∧
 True))))))))))) ∧
 (True ∧
 (B [(Prod.mk 1 (Go.Value.slice Option.none 0 0)), (Prod.mk 2 (Sl 501 (n0) (c1))), (Prod.mk 3 (Pt 1000 0)), (Prod.mk 7 (vI x2)), (Prod.mk 8 (Sl 1001 1 1)), (Prod.mk 9 (vI (IntKind.wrap .i64 (x3 + 1))))] [(Prod.mk 501 (AObj.sym (l4) false 1)), (Prod.mk 1000 (AObj.cells [(Sl 500 (n5) (c6))] 24 false 1)), (Prod.mk 1001 (AObj.sym [(vI (IntKind.wrap .i64 (n1 + n4)))] true 1)), (Prod.mk 500 (AObj.sym (l7) false 7))])))))))))
 False)
 False))))
 False)
 False)
 (X 0 [(Prod.mk 1 (Go.Value.slice Option.none 0 0)), (Prod.mk 2 (Sl 501 (n0) (c1))), (Prod.mk 3 (Pt 1000 0)), (Prod.mk 7 (vI x2)), (Prod.mk 8 (Go.Value.slice Option.none 0 0))] [(Prod.mk 501 (AObj.sym (l4) false 1)), (Prod.mk 1000 (AObj.cells [(Sl 500 (n5) (c6))] 24 false 1)), (Prod.mk 500 (AObj.sym (l7) false 7))])) := by kernel_rfl
abbrev zKpn2 (n0 : Nat) (c1 : Nat) (x2 : Int) (n3 : Nat) (x4 : Int) (l5 : List Value) (n6 : Nat) (c7 : Nat) (l8 : List Value) (l9 : List Value) : Slots × Blocks := ([(1, (Value.slice none 0 0)), (2, (Value.slice (some ⟨501, 0, none⟩) n0 c1)), (3, (Value.pointer (some ⟨1000, 0, none⟩))), (7, (Value.int .i64 x2)), (8, (Value.slice (some ⟨1001, 0, none⟩) n3 n3)), (9, (Value.int .i64 x4))], [(501, (AObj.sym l5 false 1)), (1000, (AObj.cells [(Value.slice (some ⟨500, 0, none⟩) n6 c7)] 24 false 1)), (1001, (AObj.sym l8 true 1)), (500, (AObj.sym l9 false 7))])
def rKpn2 (C : Ct) (L : AtLoop) (n0 : Nat) (c1 : Nat) (x2 : Int) (n3 : Nat) (x4 : Int) (l5 : List Value) (n6 : Nat) (c7 : Nat) (l8 : List Value) (l9 : List Value) (B : Bx) (X : Xx) (k : List D → Prop) : Prop := wpRound Try.prog (hL C) L 5 0 [(1, (Value.slice none 0 0)), (2, (Value.slice (some ⟨501, 0, none⟩) n0 c1)), (3, (Value.pointer (some ⟨1000, 0, none⟩))), (7, (Value.int .i64 x2)), (8, (Value.slice (some ⟨1001, 0, none⟩) n3 n3)), (9, (Value.int .i64 x4))] [(501, (AObj.sym l5 false 1)), (1000, (AObj.cells [(Value.slice (some ⟨500, 0, none⟩) n6 c7)] 24 false 1)), (1001, (AObj.sym l8 true 1)), (500, (AObj.sym l9 false 7))] B X (dataK k)
theorem rKpn2_text (C : Ct) (L : AtLoop) (n0 : Nat) (c1 : Nat) (x2 : Int) (n3 : Nat) (x4 : Int) (l5 : List Go.Value) (n6 : Nat) (c7 : Nat) (l8 : List Go.Value) (l9 : List Go.Value) (B : Bx) (X : Xx) (k : List D → Prop) : rKpn2 C L n0 c1 x2 n3 x4 l5 n6 c7 l8 l9 B X k =
 (bcase (decide (x4 < x2))
 (bcase (decide (0 ≤ x4))
 (bcase (decide (x4 < (↑n6 : Int)))
 (∃ n1 : Int,
 (∃ n2 : Int,
 ((At (l9) (Go.Addr.off { block := 500, off := 0 + Int.toNat x4 * 7 } + 5) 2 [(vI n1), (vI n2)]) ∧
 (bcase (decide (0 ≤ x4))
 (bcase (decide (x4 < (↑n0 : Int)))
 (∃ n4 : Int,
 ((At (l5) (0 + Int.toNat x4 * 1) 1 [(vI n4)]) ∧
 (((Qv (vI (IntKind.wrap .i64 (IntKind.wrap .i64 (n2 - n1) + 1)))) ∧
 ((Qv (vI (IntKind.wrap .i64 (n2 - n1)))) ∧
 ((Qv (vI n1)) ∧
 ((Qv (Pt 1002 0)) ∧
 ((Qv (vI n2)) ∧
 ((Qv (Pt 1002 1)) ∧
 ((∃ n5 : Int,
 ((At (l5) (0 + Int.toNat x4 * 1) 1 [(vI n5)]) ∧
 ((vI n5) = (vI n4)))) ∧
 ((bcase (decide (0 ≤ x4))
 (bcase (decide (x4 < (↑n0 : Int)))
 (Qv (Pt 501 (0 + Int.toNat x4 * 1)))
 False)
 False) ∧
 ((Qv (vI x4)) ∧
 ((Qv (Sl 501 (n0) (c1))) ∧
 ((Qv (vI n1)) ∧
 ((Qv (Pt 1002 0)) ∧
 ((Qv (Sl 1001 (n3) (n3))) ∧
 True))))))))))))) ∧
 (∃ n5 : Int,
 ((Says C 25 [(D.val (vI n4)), (D.val (vI (IntKind.wrap .i64 (IntKind.wrap .i64 (n2 - n1) + 1))))] [(D.val (vI n5))]) ∧
 ((((Qv (Sl 1003 1 1)) ∧
 (Qv (Option.some (AObj.cells [(vI (IntKind.wrap .i64 (n1 + n5)))] 3 false 1)))) ∧
 ((Qv (vI (IntKind.wrap .i64 (n1 + n5)))) ∧
 ((Qv (vI (IntKind.wrap .i64 (n2 - n1)))) ∧
 ((Qv (vI n1)) ∧
 ((Qv (Pt 1002 0)) ∧
 ((Qv (vI n2)) ∧
 ((Qv (Pt 1002 1)) ∧
 ((bcase (decide (0 ≤ x4))
 (bcase (decide (x4 < (↑n0 : Int)))
 (Qv (Pt 501 (0 + Int.toNat x4 * 1)))
 False)
 False) ∧
 ((Qv (vI x4)) ∧
 ((Qv (Sl 501 (n0) (c1))) ∧
 ((Qv (vI n1)) ∧
 ((Qv (Pt 1002 0)) ∧
 ((Qv (Sl 1001 (n3) (n3))) ∧
 True))))))))))))) ∧
 (bcase (decide (n3 < n3 + 1))
 (bcase (decide ((2 * (n3 + 1) + 768) * 8 ≤ 281474976710656))
 (bcase (decide (n3 + 1 ≤ 1099511627776))
 (bcase (decide (0 + n3 * 1 ≤ List.length l8))
 (bcase (decide (0 + n3 * 1 = List.length l8))
 (((Qv (vI (IntKind.wrap .i64 (n1 + n5)))) ∧
 ((Qv (vI (IntKind.wrap .i64 (n2 - n1)))) ∧
 ((Qv (vI n1)) ∧
 ((Qv (Pt 1002 0)) ∧
 ((Qv (vI n2)) ∧
 ((Qv (Pt 1002 1)) ∧
 ((bcase (decide (0 ≤ x4))
 (bcase (decide (x4 < (↑n0 : Int)))
 (Qv (Pt 501 (0 + Int.toNat x4 * 1)))
 False)
 False) ∧
 ((Qv (vI x4)) ∧
 ((Qv (Sl 501 (n0) (c1))) ∧
 ((Qv (vI n1)) ∧
 ((Qv (Pt 1002 0)) ∧
 True))))))))))) ∧
 (True ∧
 (B [(Prod.mk 1 (Go.Value.slice Option.none 0 0)), (Prod.mk 2 (Sl 501 (n0) (c1))), (Prod.mk 3 (Pt 1000 0)), (Prod.mk 7 (vI x2)), (Prod.mk 8 (Sl 1001 (n3 + 1) (n3 + 1))), (Prod.mk 9 (vI (IntKind.wrap .i64 (x4 + 1))))] [(Prod.mk 501 (AObj.sym (l5) false 1)), (Prod.mk 1000 (AObj.cells [(Sl 500 (n6) (c7))] 24 false 1)), (Prod.mk 1001 (AObj.sym ((List.take (n3 * 1) (List.drop 0 l8)) ++ [(vI (IntKind.wrap .i64 (n1 + n5)))]) true 1)), (Prod.mk 500 (AObj.sym (l9) false 7))])))
 False)
 False)
 False)
 False)
 False)))))))
 False)
 False))))
 False)
 False)
 (X 0 [(Prod.mk 1 (Go.Value.slice Option.none 0 0)), (Prod.mk 2 (Sl 501 (n0) (c1))), (Prod.mk 3 (Pt 1000 0)), (Prod.mk 7 (vI x2)), (Prod.mk 8 (Sl 1001 (n3) (n3)))] [(Prod.mk 501 (AObj.sym (l5) false 1)), (Prod.mk 1000 (AObj.cells [(Sl 500 (n6) (c7))] 24 false 1)), (Prod.mk 1001 (AObj.sym (l8) true 1)), (Prod.mk 500 (AObj.sym (l9) false 7))])) := by kernel_rfl
def nKpn3 (C : Ct) (L : AtLoop) (n0 : Nat) (c1 : Nat) (x2 : Int) (n3 : Nat) (l4 : List Value) (n5 : Nat) (c6 : Nat) (l7 : List Value) (l8 : List Value) (k : List D → Prop) : Prop := wpNext Try.prog (hL C) L 5 0 .normal [(1, (Value.slice none 0 0)), (2, (Value.slice (some ⟨501, 0, none⟩) n0 c1)), (3, (Value.pointer (some ⟨1000, 0, none⟩))), (7, (Value.int .i64 x2)), (8, (Value.slice (some ⟨1001, 0, none⟩) n3 n3))] [(501, (AObj.sym l4 false 1)), (1000, (AObj.cells [(Value.slice (some ⟨500, 0, none⟩) n5 c6)] 24 false 1)), (1001, (AObj.sym l7 true 1)), (500, (AObj.sym l8 false 7))] (dataK k)
theorem nKpn3_text (C : Ct) (L : AtLoop) (n0 : Nat) (c1 : Nat) (x2 : Int) (n3 : Nat) (l4 : List Go.Value) (n5 : Nat) (c6 : Nat) (l7 : List Go.Value) (l8 : List Go.Value) (k : List D → Prop) : nKpn3 C L n0 c1 x2 n3 l4 n5 c6 l7 l8 k =
 (bcase (decide (0 + n5 * 7 ≤ List.length l8))
 ((Says C 10 [(D.agg [(D.sl (n5) 7 (List.take (n5 * 7) (List.drop 0 l8)))])] [(D.agg [(D.sl (n5) 7 (List.take (n5 * 7) (List.drop 0 l8)))])]) ∧
 (bcase (decide (0 + n3 * 1 ≤ List.length l7))
 ((Says C 20 [(D.sl (n3) 1 (List.take (n3 * 1) (List.drop 0 l7)))] [(D.sl (n3) 1 (List.take (n3 * 1) (List.drop 0 l7)))]) ∧
 (bcase (decide (0 + n5 * 7 ≤ List.length (List.take (n5 * 7) (List.drop 0 l8))))
 (bcase (decide (0 + n3 * 1 ≤ List.length (List.take (n3 * 1) (List.drop 0 l7))))
 ((∃ n1 : Int,
 ((Says C 19 [(D.agg [(D.sl (n5) 7 (List.take (n5 * 7) (List.drop 0 (List.take (n5 * 7) (List.drop 0 l8)))))]), (D.sl (n3) 1 (List.take (n3 * 1) (List.drop 0 (List.take (n3 * 1) (List.drop 0 l7)))))] [D.nil, (D.val (vI n1))]) ∧
 (bcase (decide (0 + n5 * 7 ≤ List.length l8))
 ((Says C 10 [(D.agg [(D.sl (n5) 7 (List.take (n5 * 7) (List.drop 0 l8)))])] [(D.agg [(D.sl (n5) 7 (List.take (n5 * 7) (List.drop 0 l8)))])]) ∧
 ((Says C 18 [D.nil] [(D.sl 0 2 [])]) ∧
 (bcase (decide (0 + n5 * 7 ≤ List.length (List.take (n5 * 7) (List.drop 0 l8))))
 (∃ n2 : Int,
 (∃ n4 : Int,
 ((Says C 17 [(D.agg [(D.sl (n5) 7 (List.take (n5 * 7) (List.drop 0 (List.take (n5 * 7) (List.drop 0 l8)))))]), (D.sl 0 2 [])] [(D.val (vI n2)), (D.val (vI n4))]) ∧
 (bcase (n4 == 0)
 (bcase ((↑0 : Int) == x2)
 (L 2 [(Prod.mk 1 (Go.Value.slice Option.none 0 0)), (Prod.mk 2 (Sl 501 (n0) (c1))), (Prod.mk 3 (Pt 1000 0)), (Prod.mk 7 (vI x2)), (Prod.mk 8 (Sl 1001 (n3) (n3))), (Prod.mk 11 (Go.Value.slice Option.none 0 0)), (Prod.mk 12 (vI n1)), (Prod.mk 15 (Value.bool true)), (Prod.mk 16 (vI (0 : Int)))] [(Prod.mk 501 (AObj.sym (l4) false 1)), (Prod.mk 1000 (AObj.cells [(Sl 500 (n5) (c6))] 24 false 1)), (Prod.mk 1001 (AObj.sym (l7) true 1)), (Prod.mk 500 (AObj.sym (l8) false 7))])
 (L 2 [(Prod.mk 1 (Go.Value.slice Option.none 0 0)), (Prod.mk 2 (Sl 501 (n0) (c1))), (Prod.mk 3 (Pt 1000 0)), (Prod.mk 7 (vI x2)), (Prod.mk 8 (Sl 1001 (n3) (n3))), (Prod.mk 11 (Go.Value.slice Option.none 0 0)), (Prod.mk 12 (vI n1)), (Prod.mk 15 (Value.bool false)), (Prod.mk 16 (vI (0 : Int)))] [(Prod.mk 501 (AObj.sym (l4) false 1)), (Prod.mk 1000 (AObj.cells [(Sl 500 (n5) (c6))] 24 false 1)), (Prod.mk 1001 (AObj.sym (l7) true 1)), (Prod.mk 500 (AObj.sym (l8) false 7))]))
 (L 2 [(Prod.mk 1 (Go.Value.slice Option.none 0 0)), (Prod.mk 2 (Sl 501 (n0) (c1))), (Prod.mk 3 (Pt 1000 0)), (Prod.mk 7 (vI x2)), (Prod.mk 8 (Sl 1001 (n3) (n3))), (Prod.mk 11 (Go.Value.slice Option.none 0 0)), (Prod.mk 12 (vI n1)), (Prod.mk 15 (Value.bool false)), (Prod.mk 16 (vI (0 : Int)))] [(Prod.mk 501 (AObj.sym (l4) false 1)), (Prod.mk 1000 (AObj.cells [(Sl 500 (n5) (c6))] 24 false 1)), (Prod.mk 1001 (AObj.sym (l7) true 1)), (Prod.mk 500 (AObj.sym (l8) false 7))])))))
 False)))
 False))) ∨
 (∃ n1 : Nat,
 (∃ cs1 : List Go.Value,
 (∃ n2 : Int,
 ((Says C 19 [(D.agg [(D.sl (n5) 7 (List.take (n5 * 7) (List.drop 0 (List.take (n5 * 7) (List.drop 0 l8)))))]), (D.sl (n3) 1 (List.take (n3 * 1) (List.drop 0 (List.take (n3 * 1) (List.drop 0 l7)))))] [(D.sl (n1) 2 (cs1)), (D.val (vI n2))]) ∧
 (bcase (decide (0 + n5 * 7 ≤ List.length l8))
 ((Says C 10 [(D.agg [(D.sl (n5) 7 (List.take (n5 * 7) (List.drop 0 l8)))])] [(D.agg [(D.sl (n5) 7 (List.take (n5 * 7) (List.drop 0 l8)))])]) ∧
 ((Says C 18 [D.nil] [(D.sl 0 2 [])]) ∧
 (bcase (decide (0 + n5 * 7 ≤ List.length (List.take (n5 * 7) (List.drop 0 l8))))
 (∃ n4 : Int,
 (∃ n6 : Int,
 ((Says C 17 [(D.agg [(D.sl (n5) 7 (List.take (n5 * 7) (List.drop 0 (List.take (n5 * 7) (List.drop 0 l8)))))]), (D.sl 0 2 [])] [(D.val (vI n4)), (D.val (vI n6))]) ∧
 (bcase (n6 == 0)
 (bcase ((↑0 : Int) == x2)
 (L 2 [(Prod.mk 1 (Go.Value.slice Option.none 0 0)), (Prod.mk 2 (Sl 501 (n0) (c1))), (Prod.mk 3 (Pt 1000 0)), (Prod.mk 7 (vI x2)), (Prod.mk 8 (Sl 1001 (n3) (n3))), (Prod.mk 11 (Sl 1002 (n1) (n1))), (Prod.mk 12 (vI n2)), (Prod.mk 15 (Value.bool true)), (Prod.mk 16 (vI (0 : Int)))] [(Prod.mk 501 (AObj.sym (l4) false 1)), (Prod.mk 1000 (AObj.cells [(Sl 500 (n5) (c6))] 24 false 1)), (Prod.mk 1001 (AObj.sym (l7) true 1)), (Prod.mk 1002 (AObj.sym (cs1) true 2)), (Prod.mk 500 (AObj.sym (l8) false 7))])
 (L 2 [(Prod.mk 1 (Go.Value.slice Option.none 0 0)), (Prod.mk 2 (Sl 501 (n0) (c1))), (Prod.mk 3 (Pt 1000 0)), (Prod.mk 7 (vI x2)), (Prod.mk 8 (Sl 1001 (n3) (n3))), (Prod.mk 11 (Sl 1002 (n1) (n1))), (Prod.mk 12 (vI n2)), (Prod.mk 15 (Value.bool false)), (Prod.mk 16 (vI (0 : Int)))] [(Prod.mk 501 (AObj.sym (l4) false 1)), (Prod.mk 1000 (AObj.cells [(Sl 500 (n5) (c6))] 24 false 1)), (Prod.mk 1001 (AObj.sym (l7) true 1)), (Prod.mk 1002 (AObj.sym (cs1) true 2)), (Prod.mk 500 (AObj.sym (l8) false 7))]))
 (L 2 [(Prod.mk 1 (Go.Value.slice Option.none 0 0)), (Prod.mk 2 (Sl 501 (n0) (c1))), (Prod.mk 3 (Pt 1000 0)), (Prod.mk 7 (vI x2)), (Prod.mk 8 (Sl 1001 (n3) (n3))), (Prod.mk 11 (Sl 1002 (n1) (n1))), (Prod.mk 12 (vI n2)), (Prod.mk 15 (Value.bool false)), (Prod.mk 16 (vI (0 : Int)))] [(Prod.mk 501 (AObj.sym (l4) false 1)), (Prod.mk 1000 (AObj.cells [(Sl 500 (n5) (c6))] 24 false 1)), (Prod.mk 1001 (AObj.sym (l7) true 1)), (Prod.mk 1002 (AObj.sym (cs1) true 2)), (Prod.mk 500 (AObj.sym (l8) false 7))])))))
 False)))
 False))))))
 False)
 False))
 False))
 False) := by kernel_rfl
abbrev zKpn4 (n0 : Nat) (c1 : Nat) (x2 : Int) (n3 : Nat) (x4 : Int) (b5 : Bool) (x6 : Int) (l7 : List Value) (n8 : Nat) (c9 : Nat) (l10 : List Value) (l11 : List Value) : Slots × Blocks := ([(1, (Value.slice none 0 0)), (2, (Value.slice (some ⟨501, 0, none⟩) n0 c1)), (3, (Value.pointer (some ⟨1000, 0, none⟩))), (7, (Value.int .i64 x2)), (8, (Value.slice (some ⟨1001, 0, none⟩) n3 n3)), (11, (Value.slice none 0 0)), (12, (Value.int .i64 x4)), (15, (Value.bool b5)), (16, (Value.int .i64 x6))], [(501, (AObj.sym l7 false 1)), (1000, (AObj.cells [(Value.slice (some ⟨500, 0, none⟩) n8 c9)] 24 false 1)), (1001, (AObj.sym l10 true 1)), (500, (AObj.sym l11 false 7))])
def rKpn4 (C : Ct) (L : AtLoop) (n0 : Nat) (c1 : Nat) (x2 : Int) (n3 : Nat) (x4 : Int) (b5 : Bool) (x6 : Int) (l7 : List Value) (n8 : Nat) (c9 : Nat) (l10 : List Value) (l11 : List Value) (B : Bx) (X : Xx) (k : List D → Prop) : Prop := wpRound Try.prog (hL C) L 5 2 [(1, (Value.slice none 0 0)), (2, (Value.slice (some ⟨501, 0, none⟩) n0 c1)), (3, (Value.pointer (some ⟨1000, 0, none⟩))), (7, (Value.int .i64 x2)), (8, (Value.slice (some ⟨1001, 0, none⟩) n3 n3)), (11, (Value.slice none 0 0)), (12, (Value.int .i64 x4)), (15, (Value.bool b5)), (16, (Value.int .i64 x6))] [(501, (AObj.sym l7 false 1)), (1000, (AObj.cells [(Value.slice (some ⟨500, 0, none⟩) n8 c9)] 24 false 1)), (1001, (AObj.sym l10 true 1)), (500, (AObj.sym l11 false 7))] B X (dataK k)
theorem rKpn4_text (C : Ct) (L : AtLoop) (n0 : Nat) (c1 : Nat) (x2 : Int) (n3 : Nat) (x4 : Int) (b5 : Bool) (x6 : Int) (l7 : List Go.Value) (n8 : Nat) (c9 : Nat) (l10 : List Go.Value) (l11 : List Go.Value) (B : Bx) (X : Xx) (k : List D → Prop) : rKpn4 C L n0 c1 x2 n3 x4 b5 x6 l7 n8 c9 l10 l11 B X k =
 (bcase (decide (x6 < x2))
 (bcase (b5)
 (bcase (decide (0 ≤ x6))
 (bcase (decide (x6 < (↑n3 : Int)))
 (∃ n1 : Int,
 ((At (l10) (0 + Int.toNat x6 * 1) 1 [(vI n1)]) ∧
 False))
 False)
 False)
 (X 2 [(Prod.mk 1 (Go.Value.slice Option.none 0 0)), (Prod.mk 2 (Sl 501 (n0) (c1))), (Prod.mk 3 (Pt 1000 0)), (Prod.mk 7 (vI x2)), (Prod.mk 8 (Sl 1001 (n3) (n3))), (Prod.mk 11 (Go.Value.slice Option.none 0 0)), (Prod.mk 12 (vI x4)), (Prod.mk 15 (Go.Value.bool (b5)))] [(Prod.mk 501 (AObj.sym (l7) false 1)), (Prod.mk 1000 (AObj.cells [(Sl 500 (n8) (c9))] 24 false 1)), (Prod.mk 1001 (AObj.sym (l10) true 1)), (Prod.mk 500 (AObj.sym (l11) false 7))]))
 (X 2 [(Prod.mk 1 (Go.Value.slice Option.none 0 0)), (Prod.mk 2 (Sl 501 (n0) (c1))), (Prod.mk 3 (Pt 1000 0)), (Prod.mk 7 (vI x2)), (Prod.mk 8 (Sl 1001 (n3) (n3))), (Prod.mk 11 (Go.Value.slice Option.none 0 0)), (Prod.mk 12 (vI x4)), (Prod.mk 15 (Go.Value.bool (b5)))] [(Prod.mk 501 (AObj.sym (l7) false 1)), (Prod.mk 1000 (AObj.cells [(Sl 500 (n8) (c9))] 24 false 1)), (Prod.mk 1001 (AObj.sym (l10) true 1)), (Prod.mk 500 (AObj.sym (l11) false 7))])) := by kernel_rfl
abbrev zKpn5 (n0 : Nat) (c1 : Nat) (x2 : Int) (n3 : Nat) (n4 : Nat) (x5 : Int) (b6 : Bool) (x7 : Int) (l8 : List Value) (n9 : Nat) (c10 : Nat) (l11 : List Value) (l12 : List Value) (l13 : List Value) : Slots × Blocks := ([(1, (Value.slice none 0 0)), (2, (Value.slice (some ⟨501, 0, none⟩) n0 c1)), (3, (Value.pointer (some ⟨1000, 0, none⟩))), (7, (Value.int .i64 x2)), (8, (Value.slice (some ⟨1001, 0, none⟩) n3 n3)), (11, (Value.slice (some ⟨1002, 0, none⟩) n4 n4)), (12, (Value.int .i64 x5)), (15, (Value.bool b6)), (16, (Value.int .i64 x7))], [(501, (AObj.sym l8 false 1)), (1000, (AObj.cells [(Value.slice (some ⟨500, 0, none⟩) n9 c10)] 24 false 1)), (1001, (AObj.sym l11 true 1)), (1002, (AObj.sym l12 true 2)), (500, (AObj.sym l13 false 7))])
def rKpn5 (C : Ct) (L : AtLoop) (n0 : Nat) (c1 : Nat) (x2 : Int) (n3 : Nat) (n4 : Nat) (x5 : Int) (b6 : Bool) (x7 : Int) (l8 : List Value) (n9 : Nat) (c10 : Nat) (l11 : List Value) (l12 : List Value) (l13 : List Value) (B : Bx) (X : Xx) (k : List D → Prop) : Prop := wpRound Try.prog (hL C) L 5 2 [(1, (Value.slice none 0 0)), (2, (Value.slice (some ⟨501, 0, none⟩) n0 c1)), (3, (Value.pointer (some ⟨1000, 0, none⟩))), (7, (Value.int .i64 x2)), (8, (Value.slice (some ⟨1001, 0, none⟩) n3 n3)), (11, (Value.slice (some ⟨1002, 0, none⟩) n4 n4)), (12, (Value.int .i64 x5)), (15, (Value.bool b6)), (16, (Value.int .i64 x7))] [(501, (AObj.sym l8 false 1)), (1000, (AObj.cells [(Value.slice (some ⟨500, 0, none⟩) n9 c10)] 24 false 1)), (1001, (AObj.sym l11 true 1)), (1002, (AObj.sym l12 true 2)), (500, (AObj.sym l13 false 7))] B X (dataK k)
theorem rKpn5_text (C : Ct) (L : AtLoop) (n0 : Nat) (c1 : Nat) (x2 : Int) (n3 : Nat) (n4 : Nat) (x5 : Int) (b6 : Bool) (x7 : Int) (l8 : List Go.Value) (n9 : Nat) (c10 : Nat) (l11 : List Go.Value) (l12 : List Go.Value) (l13 : List Go.Value) (B : Bx) (X : Xx) (k : List D → Prop) : rKpn5 C L n0 c1 x2 n3 n4 x5 b6 x7 l8 n9 c10 l11 l12 l13 B X k =
 (bcase (decide (x7 < x2))
 (bcase (b6)
 (bcase (decide (0 ≤ x7))
 (bcase (decide (x7 < (↑n3 : Int)))
 (∃ n1 : Int,
 ((At (l11) (0 + Int.toNat x7 * 1) 1 [(vI n1)]) ∧
 False))
 False)
 False)
 (X 2 [(Prod.mk 1 (Go.Value.slice Option.none 0 0)), (Prod.mk 2 (Sl 501 (n0) (c1))), (Prod.mk 3 (Pt 1000 0)), (Prod.mk 7 (vI x2)), (Prod.mk 8 (Sl 1001 (n3) (n3))), (Prod.mk 11 (Sl 1002 (n4) (n4))), (Prod.mk 12 (vI x5)), (Prod.mk 15 (Go.Value.bool (b6)))] [(Prod.mk 501 (AObj.sym (l8) false 1)), (Prod.mk 1000 (AObj.cells [(Sl 500 (n9) (c10))] 24 false 1)), (Prod.mk 1001 (AObj.sym (l11) true 1)), (Prod.mk 1002 (AObj.sym (l12) true 2)), (Prod.mk 500 (AObj.sym (l13) false 7))]))
 (X 2 [(Prod.mk 1 (Go.Value.slice Option.none 0 0)), (Prod.mk 2 (Sl 501 (n0) (c1))), (Prod.mk 3 (Pt 1000 0)), (Prod.mk 7 (vI x2)), (Prod.mk 8 (Sl 1001 (n3) (n3))), (Prod.mk 11 (Sl 1002 (n4) (n4))), (Prod.mk 12 (vI x5)), (Prod.mk 15 (Go.Value.bool (b6)))] [(Prod.mk 501 (AObj.sym (l8) false 1)), (Prod.mk 1000 (AObj.cells [(Sl 500 (n9) (c10))] 24 false 1)), (Prod.mk 1001 (AObj.sym (l11) true 1)), (Prod.mk 1002 (AObj.sym (l12) true 2)), (Prod.mk 500 (AObj.sym (l13) false 7))])) := by kernel_rfl
def nKpn6 (C : Ct) (L : AtLoop) (n0 : Nat) (c1 : Nat) (x2 : Int) (n3 : Nat) (n4 : Nat) (x5 : Int) (b6 : Bool) (l7 : List Value) (n8 : Nat) (c9 : Nat) (l10 : List Value) (l11 : List Value) (l12 : List Value) (k : List D → Prop) : Prop := wpNext Try.prog (hL C) L 5 2 .normal [(1, (Value.slice none 0 0)), (2, (Value.slice (some ⟨501, 0, none⟩) n0 c1)), (3, (Value.pointer (some ⟨1000, 0, none⟩))), (7, (Value.int .i64 x2)), (8, (Value.slice (some ⟨1001, 0, none⟩) n3 n3)), (11, (Value.slice (some ⟨1002, 0, none⟩) n4 n4)), (12, (Value.int .i64 x5)), (15, (Value.bool b6))] [(501, (AObj.sym l7 false 1)), (1000, (AObj.cells [(Value.slice (some ⟨500, 0, none⟩) n8 c9)] 24 false 1)), (1001, (AObj.sym l10 true 1)), (1002, (AObj.sym l11 true 2)), (500, (AObj.sym l12 false 7))] (dataK k)
theorem nKpn6_text (C : Ct) (L : AtLoop) (n0 : Nat) (c1 : Nat) (x2 : Int) (n3 : Nat) (n4 : Nat) (x5 : Int) (b6 : Bool) (l7 : List Go.Value) (n8 : Nat) (c9 : Nat) (l10 : List Go.Value) (l11 : List Go.Value) (l12 : List Go.Value) (k : List D → Prop) : nKpn6 C L n0 c1 x2 n3 n4 x5 b6 l7 n8 c9 l10 l11 l12 k =
 (bcase (x5 != 0)
 (bcase (x5 == 12)
 (bcase (b6)
 (k [(D.val (Value.bool false))])
 (k [(D.val (Value.bool true))]))
 (k [(D.val (Value.bool false))]))
 (bcase ((↑n4 : Int) != x2)
 (k [(D.val (Value.bool false))])
 (bcase (decide (0 + n8 * 7 ≤ List.length l12))
 ((Says C 10 [(D.agg [(D.sl (n8) 7 (List.take (n8 * 7) (List.drop 0 l12)))])] [(D.agg [(D.sl (n8) 7 (List.take (n8 * 7) (List.drop 0 l12)))])]) ∧
 (bcase (decide (0 + n4 * 2 ≤ List.length l11))
 ((Says C 18 [(D.sl (n4) 2 (List.take (n4 * 2) (List.drop 0 l11)))] [(D.sl (n4) 2 (List.take (n4 * 2) (List.drop 0 l11)))]) ∧
 (bcase (decide (0 + n8 * 7 ≤ List.length (List.take (n8 * 7) (List.drop 0 l12))))
 (bcase (decide (0 + n4 * 2 ≤ List.length (List.take (n4 * 2) (List.drop 0 l11))))
 (∃ n1 : Int,
 (∃ n2 : Int,
 ((Says C 17 [(D.agg [(D.sl (n8) 7 (List.take (n8 * 7) (List.drop 0 (List.take (n8 * 7) (List.drop 0 l12)))))]), (D.sl (n4) 2 (List.take (n4 * 2) (List.drop 0 (List.take (n4 * 2) (List.drop 0 l11)))))] [(D.val (vI n1)), (D.val (vI n2))]) ∧
 (bcase (n2 != 0)
 (k [(D.val (Value.bool false))])
 (L 4 [(Prod.mk 1 (Go.Value.slice Option.none 0 0)), (Prod.mk 2 (Sl 501 (n0) (c1))), (Prod.mk 3 (Pt 1000 0)), (Prod.mk 7 (vI x2)), (Prod.mk 8 (Sl 1001 (n3) (n3))), (Prod.mk 11 (Sl 1002 (n4) (n4))), (Prod.mk 15 (Go.Value.bool (b6))), (Prod.mk 19 (Pt 1003 0)), (Prod.mk 20 (vI (0 : Int)))] [(Prod.mk 501 (AObj.sym (l7) false 1)), (Prod.mk 1000 (AObj.cells [(Sl 500 (n8) (c9))] 24 false 1)), (Prod.mk 1001 (AObj.sym (l10) true 1)), (Prod.mk 1002 (AObj.sym (l11) true 2)), (Prod.mk 1003 (AObj.cells [(Go.Value.slice Option.none 0 0), (Go.Value.slice Option.none 0 0)] 27 false 2)), (Prod.mk 500 (AObj.sym (l12) false 7))])))))
 False)
 False))
 False))
 False))) := by kernel_rfl
abbrev zKpn7 (n0 : Nat) (c1 : Nat) (x2 : Int) (n3 : Nat) (n4 : Nat) (b5 : Bool) (x6 : Int) (l7 : List Value) (n8 : Nat) (c9 : Nat) (l10 : List Value) (l11 : List Value) (l12 : List Value) : Slots × Blocks := ([(1, (Value.slice none 0 0)), (2, (Value.slice (some ⟨501, 0, none⟩) n0 c1)), (3, (Value.pointer (some ⟨1000, 0, none⟩))), (7, (Value.int .i64 x2)), (8, (Value.slice (some ⟨1001, 0, none⟩) n3 n3)), (11, (Value.slice (some ⟨1002, 0, none⟩) n4 n4)), (15, (Value.bool b5)), (19, (Value.pointer (some ⟨1003, 0, none⟩))), (20, (Value.int .i64 x6))], [(501, (AObj.sym l7 false 1)), (1000, (AObj.cells [(Value.slice (some ⟨500, 0, none⟩) n8 c9)] 24 false 1)), (1001, (AObj.sym l10 true 1)), (1002, (AObj.sym l11 true 2)), (1003, (AObj.cells [(Value.slice none 0 0), (Value.slice none 0 0)] 27 false 2)), (500, (AObj.sym l12 false 7))])
def rKpn7 (C : Ct) (L : AtLoop) (n0 : Nat) (c1 : Nat) (x2 : Int) (n3 : Nat) (n4 : Nat) (b5 : Bool) (x6 : Int) (l7 : List Value) (n8 : Nat) (c9 : Nat) (l10 : List Value) (l11 : List Value) (l12 : List Value) (B : Bx) (X : Xx) (k : List D → Prop) : Prop := wpRound Try.prog (hL C) L 5 4 [(1, (Value.slice none 0 0)), (2, (Value.slice (some ⟨501, 0, none⟩) n0 c1)), (3, (Value.pointer (some ⟨1000, 0, none⟩))), (7, (Value.int .i64 x2)), (8, (Value.slice (some ⟨1001, 0, none⟩) n3 n3)), (11, (Value.slice (some ⟨1002, 0, none⟩) n4 n4)), (15, (Value.bool b5)), (19, (Value.pointer (some ⟨1003, 0, none⟩))), (20, (Value.int .i64 x6))] [(501, (AObj.sym l7 false 1)), (1000, (AObj.cells [(Value.slice (some ⟨500, 0, none⟩) n8 c9)] 24 false 1)), (1001, (AObj.sym l10 true 1)), (1002, (AObj.sym l11 true 2)), (1003, (AObj.cells [(Value.slice none 0 0), (Value.slice none 0 0)] 27 false 2)), (500, (AObj.sym l12 false 7))] B X (dataK k)
theorem rKpn7_text (C : Ct) (L : AtLoop) (n0 : Nat) (c1 : Nat) (x2 : Int) (n3 : Nat) (n4 : Nat) (b5 : Bool) (x6 : Int) (l7 : List Go.Value) (n8 : Nat) (c9 : Nat) (l10 : List Go.Value) (l11 : List Go.Value) (l12 : List Go.Value) (B : Bx) (X : Xx) (k : List D → Prop) : rKpn7 C L n0 c1 x2 n3 n4 b5 x6 l7 n8 c9 l10 l11 l12 B X k =
 (bcase (decide (x6 < x2))
 (bcase (decide (0 ≤ x6))
 (bcase (decide (x6 < (↑n8 : Int)))
 (∃ n1 : Int,
 (∃ n2 : Int,
 (∃ n5 : Int,
 (∃ n6 : Int,
 (∃ n7 : Int,
 (∃ n9 : Int,
 (∃ n10 : Int,
 ((At (l12) (0 + Int.toNat x6 * 7) 7 [(vI n1), (vI n2), (vI n5), (vI n6), (vI n7), (vI n9), (vI n10)]) ∧
 (bcase (decide (0 ≤ x6))
 (bcase (decide (x6 < (↑n3 : Int)))
 (∃ n11 : Int,
 ((At (l10) (0 + Int.toNat x6 * 1) 1 [(vI n11)]) ∧
 (bcase (decide (0 ≤ x6))
 (bcase (decide (x6 < (↑n4 : Int)))
 (∃ n12 : Int,
 ((At (l11) (0 + Int.toNat x6 * 2) 1 [(vI n12)]) ∧
 (bcase (decide (0 ≤ x6))
 (bcase (decide (x6 < (↑n4 : Int)))
 (∃ n13 : Int,
 ((At (l11) (Go.Addr.off { block := 1002, off := 0 + Int.toNat x6 * 2 } + 1) 1 [(vI n13)]) ∧
 (((∃ n14 : Int,
 ((At (l11) (Go.Addr.off { block := 1002, off := 0 + Int.toNat x6 * 2 } + 1) 1 [(vI n14)]) ∧
 ((vI n14) = (vI n13)))) ∧
 ((Qv (Go.Value.pointer (Option.some (Go.Addr.mk 1002 (Go.Addr.off { block := 1002, off := 0 + Int.toNat x6 * 2 } + 1) Option.none)))) ∧
 ((bcase (decide (0 ≤ x6))
 (bcase (decide (x6 < (↑n4 : Int)))
 (Qv (Pt 1002 (0 + Int.toNat x6 * 2)))
 False)
 False) ∧
 ((Qv (vI x6)) ∧
 ((Qv (Sl 1002 (n4) (n4))) ∧
 ((∃ n14 : Int,
 ((At (l11) (0 + Int.toNat x6 * 2) 1 [(vI n14)]) ∧
 ((vI n14) = (vI n12)))) ∧
 ((Qv (Pt 1002 (0 + Int.toNat x6 * 2))) ∧
 ((bcase (decide (0 ≤ x6))
 (bcase (decide (x6 < (↑n4 : Int)))
 (Qv (Pt 1002 (0 + Int.toNat x6 * 2)))
 False)
 False) ∧
 ((Qv (vI x6)) ∧
 ((Qv (Sl 1002 (n4) (n4))) ∧
 ((∃ n14 : Int,
 ((At (l10) (0 + Int.toNat x6 * 1) 1 [(vI n14)]) ∧
 ((vI n14) = (vI n11)))) ∧
 ((bcase (decide (0 ≤ x6))
 (bcase (decide (x6 < (↑n3 : Int)))
 (Qv (Pt 1001 (0 + Int.toNat x6 * 1)))
 False)
 False) ∧
 ((Qv (vI x6)) ∧
 ((Qv (Sl 1001 (n3) (n3))) ∧
 True)))))))))))))) ∧
 (((Says C 26 [(D.val (vI n11)), (D.val (vI n12)), (D.val (vI n13))] [(D.val (Value.bool true))]) ∧
 (bcase (decide (0 ≤ x6))
 (bcase (decide (x6 < (↑n4 : Int)))
 (∃ n14 : Int,
 ((At (l11) (0 + Int.toNat x6 * 2) 1 [(vI n14)]) ∧
 (((Qv (vI n10)) ∧
 ((Qv (Pt 1004 6)) ∧
 ((Qv (Pt 1004 5)) ∧
 ((Qv (vI n9)) ∧
 ((Qv (Pt 1004 5)) ∧
 ((Qv (Pt 1004 5)) ∧
 ((∃ n15 : Int,
 ((At (l11) (0 + Int.toNat x6 * 2) 1 [(vI n15)]) ∧
 ((vI n15) = (vI n14)))) ∧
 ((Qv (Pt 1002 (0 + Int.toNat x6 * 2))) ∧
 ((bcase (decide (0 ≤ x6))
 (bcase (decide (x6 < (↑n4 : Int)))
 (Qv (Pt 1002 (0 + Int.toNat x6 * 2)))
 False)
 False) ∧
 ((Qv (vI x6)) ∧
 ((Qv (Sl 1002 (n4) (n4))) ∧
 ((Qv (Value.bool false)) ∧
 ((Qv (Value.bool false)) ∧
 ((Qv (Go.Value.pointer (Option.some (Go.Addr.mk 1002 (Go.Addr.off { block := 1002, off := 0 + Int.toNat x6 * 2 } + 1) Option.none)))) ∧
 ((bcase (decide (0 ≤ x6))
 (bcase (decide (x6 < (↑n4 : Int)))
 (Qv (Pt 1002 (0 + Int.toNat x6 * 2)))
 False)
 False) ∧
 ((Qv (vI x6)) ∧
 ((Qv (Sl 1002 (n4) (n4))) ∧
 ((Qv (Pt 1002 (0 + Int.toNat x6 * 2))) ∧
 ((bcase (decide (0 ≤ x6))
 (bcase (decide (x6 < (↑n4 : Int)))
 (Qv (Pt 1002 (0 + Int.toNat x6 * 2)))
 False)
 False) ∧
 ((Qv (vI x6)) ∧
 ((Qv (Sl 1002 (n4) (n4))) ∧
 ((bcase (decide (0 ≤ x6))
 (bcase (decide (x6 < (↑n3 : Int)))
 (Qv (Pt 1001 (0 + Int.toNat x6 * 1)))
 False)
 False) ∧
 ((Qv (vI x6)) ∧
 ((Qv (Sl 1001 (n3) (n3))) ∧
 True)))))))))))))))))))))))) ∧
 (((Says C 26 [(D.val (vI n14)), (D.val (vI n9)), (D.val (vI n10))] [(D.val (Value.bool true))]) ∧
 (bcase (decide (0 ≤ x6))
 (bcase (decide (x6 < (↑n4 : Int)))
 (∃ n15 : Int,
 ((At (l11) (Go.Addr.off { block := 1002, off := 0 + Int.toNat x6 * 2 } + 1) 1 [(vI n15)]) ∧
 (((Qv (vI n10)) ∧
 ((Qv (Pt 1004 6)) ∧
 ((Qv (Pt 1004 5)) ∧
 ((Qv (vI n9)) ∧
 ((Qv (Pt 1004 5)) ∧
 ((Qv (Pt 1004 5)) ∧
 ((∃ n16 : Int,
 ((At (l11) (Go.Addr.off { block := 1002, off := 0 + Int.toNat x6 * 2 } + 1) 1 [(vI n16)]) ∧
 ((vI n16) = (vI n15)))) ∧
 ((Qv (Go.Value.pointer (Option.some (Go.Addr.mk 1002 (Go.Addr.off { block := 1002, off := 0 + Int.toNat x6 * 2 } + 1) Option.none)))) ∧
 ((bcase (decide (0 ≤ x6))
 (bcase (decide (x6 < (↑n4 : Int)))
 (Qv (Pt 1002 (0 + Int.toNat x6 * 2)))
 False)
 False) ∧
 ((Qv (vI x6)) ∧
 ((Qv (Sl 1002 (n4) (n4))) ∧
 ((Qv (Value.bool false)) ∧
 ((Qv (Value.bool false)) ∧
 ((Qv (Value.bool false)) ∧
 ((Qv (Pt 1004 6)) ∧
 ((Qv (Pt 1004 5)) ∧
 ((Qv (Pt 1004 5)) ∧
 ((Qv (Pt 1004 5)) ∧
 ((Qv (Pt 1002 (0 + Int.toNat x6 * 2))) ∧
 ((bcase (decide (0 ≤ x6))
 (bcase (decide (x6 < (↑n4 : Int)))
 (Qv (Pt 1002 (0 + Int.toNat x6 * 2)))
 False)
 False) ∧
 ((Qv (vI x6)) ∧
 ((Qv (Sl 1002 (n4) (n4))) ∧
 ((Qv (Value.bool false)) ∧
 ((Qv (Go.Value.pointer (Option.some (Go.Addr.mk 1002 (Go.Addr.off { block := 1002, off := 0 + Int.toNat x6 * 2 } + 1) Option.none)))) ∧
 ((bcase (decide (0 ≤ x6))
 (bcase (decide (x6 < (↑n4 : Int)))
 (Qv (Pt 1002 (0 + Int.toNat x6 * 2)))
 False)
 False) ∧
 ((Qv (vI x6)) ∧
 ((Qv (Sl 1002 (n4) (n4))) ∧
 ((Qv (Pt 1002 (0 + Int.toNat x6 * 2))) ∧
 ((bcase (decide (0 ≤ x6))
 (bcase (decide (x6 < (↑n4 : Int)))
 (Qv (Pt 1002 (0 + Int.toNat x6 * 2)))
 False)
 False) ∧
 ((Qv (vI x6)) ∧
 ((Qv (Sl 1002 (n4) (n4))) ∧
 ((bcase (decide (0 ≤ x6))
 (bcase (decide (x6 < (↑n3 : Int)))
 (Qv (Pt 1001 (0 + Int.toNat x6 * 1)))
 False)
 False) ∧
 ((Qv (vI x6)) ∧
 ((Qv (Sl 1001 (n3) (n3))) ∧
 True)))))))))))))))))))))))))))))))))) ∧
 (((Says C 26 [(D.val (vI n15)), (D.val (vI n9)), (D.val (vI n10))] [(D.val (Value.bool true))]) ∧
 (bcase (b5)
 (bcase (decide (0 ≤ x6))
 (bcase (decide (x6 < (↑n4 : Int)))
 (∃ n16 : Int,
 ((At (l11) (0 + Int.toNat x6 * 2) 1 [(vI n16)]) ∧
 False))
 False)
 False)
 (((Qv (Value.bool false)) ∧
 ((Qv (Value.bool false)) ∧
 ((Qv (Go.Value.tuple [].toArray)) ∧
 ((Qv (Go.Value.tuple [].toArray)) ∧
 ((Qv (Go.Value.tuple [].toArray)) ∧
 ((Qv (Go.Value.tuple [].toArray)) ∧
 ((Qv (Go.Value.tuple [].toArray)) ∧
 ((Qv (Go.Value.tuple [].toArray)) ∧
 ((Qv (Go.Value.tuple [].toArray)) ∧
 ((Qv (Go.Value.tuple [].toArray)) ∧
 ((Qv (Go.Value.tuple [].toArray)) ∧
 ((Qv (Go.Value.tuple [].toArray)) ∧
 ((Qv (Go.Value.tuple [].toArray)) ∧
 ((Qv (Go.Value.tuple [].toArray)) ∧
 ((Qv (Go.Value.tuple [].toArray)) ∧
 ((Qv (Go.Value.tuple [].toArray)) ∧
 ((Qv (Go.Value.tuple [].toArray)) ∧
 ((Qv (Go.Value.tuple [].toArray)) ∧
 ((Qv (Go.Value.tuple [].toArray)) ∧
 ((Qv (Go.Value.tuple [].toArray)) ∧
 ((Qv (Go.Value.tuple [].toArray)) ∧
 ((Qv (Go.Value.tuple [].toArray)) ∧
 ((Qv (Go.Value.tuple [].toArray)) ∧
 ((Qv (Go.Value.tuple [].toArray)) ∧
 ((Qv (Go.Value.tuple [].toArray)) ∧
 ((Qv (Go.Value.tuple [].toArray)) ∧
 ((Qv (Value.bool false)) ∧
 ((bcase (b5)
 ((Value.bool true) = (Value.bool false))
 (Qv (Value.bool false))) ∧
 ((Qv (Value.bool false)) ∧
 ((Qv (Value.bool false)) ∧
 ((Qv (Value.bool false)) ∧
 ((Qv (Pt 1004 6)) ∧
 ((Qv (Pt 1004 5)) ∧
 ((Qv (Pt 1004 5)) ∧
 ((Qv (Pt 1004 5)) ∧
 ((Qv (Go.Value.pointer (Option.some (Go.Addr.mk 1002 (Go.Addr.off { block := 1002, off := 0 + Int.toNat x6 * 2 } + 1) Option.none)))) ∧
 ((bcase (decide (0 ≤ x6))
 (bcase (decide (x6 < (↑n4 : Int)))
 (Qv (Pt 1002 (0 + Int.toNat x6 * 2)))
 False)
 False) ∧
 ((Qv (vI x6)) ∧
 ((Qv (Sl 1002 (n4) (n4))) ∧
 ((Qv (Value.bool false)) ∧
 ((Qv (Value.bool false)) ∧
 ((Qv (Pt 1004 6)) ∧
 ((Qv (Pt 1004 5)) ∧
 ((Qv (Pt 1004 5)) ∧
 ((Qv (Pt 1004 5)) ∧
 ((Qv (Pt 1002 (0 + Int.toNat x6 * 2))) ∧
 ((bcase (decide (0 ≤ x6))
 (bcase (decide (x6 < (↑n4 : Int)))
 (Qv (Pt 1002 (0 + Int.toNat x6 * 2)))
 False)
 False) ∧
 ((Qv (vI x6)) ∧
 ((Qv (Sl 1002 (n4) (n4))) ∧
 ((Qv (Value.bool false)) ∧
 ((Qv (Go.Value.pointer (Option.some (Go.Addr.mk 1002 (Go.Addr.off { block := 1002, off := 0 + Int.toNat x6 * 2 } + 1) Option.none)))) ∧
 ((bcase (decide (0 ≤ x6))
 (bcase (decide (x6 < (↑n4 : Int)))
 (Qv (Pt 1002 (0 + Int.toNat x6 * 2)))
 False)
 False) ∧
 ((Qv (vI x6)) ∧
 ((Qv (Sl 1002 (n4) (n4))) ∧
 ((Qv (Pt 1002 (0 + Int.toNat x6 * 2))) ∧
 ((bcase (decide (0 ≤ x6))
 (bcase (decide (x6 < (↑n4 : Int)))
 (Qv (Pt 1002 (0 + Int.toNat x6 * 2)))
 False)
 False) ∧
 ((Qv (vI x6)) ∧
 ((Qv (Sl 1002 (n4) (n4))) ∧
 ((bcase (decide (0 ≤ x6))
 (bcase (decide (x6 < (↑n3 : Int)))
 (Qv (Pt 1001 (0 + Int.toNat x6 * 1)))
 False)
 False) ∧
 ((Qv (vI x6)) ∧
 ((Qv (Sl 1001 (n3) (n3))) ∧
 True))))))))))))))))))))))))))))))))))))))))))))))))))))))))))))) ∧
 (bcase (decide (0 ≤ x6))
 (bcase (decide (x6 < (↑n4 : Int)))
 (∃ n16 : Int,
 ((At (l11) (0 + Int.toNat x6 * 2) 1 [(vI n16)]) ∧
 (bcase (decide (0 ≤ IntKind.wrap .i64 (x2 + x6)))
 (bcase (decide (IntKind.wrap .i64 (x2 + x6) < (↑n0 : Int)))
 (∃ n17 : Int,
 ((At (l7) (0 + Int.toNat (IntKind.wrap .i64 (x2 + x6)) * 1) 1 [(vI n17)]) ∧
 (bcase (decide (0 ≤ x6))
 (bcase (decide (x6 < (↑n4 : Int)))
 (∃ n18 : Int,
 ((At (l11) (Go.Addr.off { block := 1002, off := 0 + Int.toNat x6 * 2 } + 1) 1 [(vI n18)]) ∧
 (bcase (decide (0 ≤ x6))
 (bcase (decide (x6 < (↑n4 : Int)))
 (∃ n19 : Int,
 ((At (l11) (0 + Int.toNat x6 * 2) 1 [(vI n19)]) ∧
 (((Qv (vI (IntKind.wrap .i64 (IntKind.wrap .i64 (n18 - n19) + 1)))) ∧
 ((Qv (vI (IntKind.wrap .i64 (n18 - n19)))) ∧
 ((∃ n20 : Int,
 ((At (l11) (0 + Int.toNat x6 * 2) 1 [(vI n20)]) ∧
 ((vI n20) = (vI n19)))) ∧
 ((Qv (Pt 1002 (0 + Int.toNat x6 * 2))) ∧
 ((bcase (decide (0 ≤ x6))
 (bcase (decide (x6 < (↑n4 : Int)))
 (Qv (Pt 1002 (0 + Int.toNat x6 * 2)))
 False)
 False) ∧
 ((Qv (vI x6)) ∧
 ((Qv (Sl 1002 (n4) (n4))) ∧
 ((∃ n20 : Int,
 ((At (l11) (Go.Addr.off { block := 1002, off := 0 + Int.toNat x6 * 2 } + 1) 1 [(vI n20)]) ∧
 ((vI n20) = (vI n18)))) ∧
 ((Qv (Go.Value.pointer (Option.some (Go.Addr.mk 1002 (Go.Addr.off { block := 1002, off := 0 + Int.toNat x6 * 2 } + 1) Option.none)))) ∧
 ((bcase (decide (0 ≤ x6))
 (bcase (decide (x6 < (↑n4 : Int)))
 (Qv (Pt 1002 (0 + Int.toNat x6 * 2)))
 False)
 False) ∧
 ((Qv (vI x6)) ∧
 ((Qv (Sl 1002 (n4) (n4))) ∧
 ((∃ n20 : Int,
 ((At (l7) (0 + Int.toNat (IntKind.wrap .i64 (x2 + x6)) * 1) 1 [(vI n20)]) ∧
 ((vI n20) = (vI n17)))) ∧
 ((bcase (decide (0 ≤ IntKind.wrap .i64 (x2 + x6)))
 (bcase (decide (IntKind.wrap .i64 (x2 + x6) < (↑n0 : Int)))
 (Qv (Pt 501 (0 + Int.toNat (IntKind.wrap .i64 (x2 + x6)) * 1)))
 False)
 False) ∧
 ((Qv (vI (IntKind.wrap .i64 (x2 + x6)))) ∧
 ((Qv (vI x6)) ∧
 ((Qv (vI x2)) ∧
 ((Qv (Sl 501 (n0) (c1))) ∧
 ((∃ n20 : Int,
 ((At (l11) (0 + Int.toNat x6 * 2) 1 [(vI n20)]) ∧
 ((vI n20) = (vI n16)))) ∧
 ((Qv (Pt 1002 (0 + Int.toNat x6 * 2))) ∧
 ((bcase (decide (0 ≤ x6))
 (bcase (decide (x6 < (↑n4 : Int)))
 (Qv (Pt 1002 (0 + Int.toNat x6 * 2)))
 False)
 False) ∧
 ((Qv (vI x6)) ∧
 ((Qv (Sl 1002 (n4) (n4))) ∧
 ((Qv (Go.Value.slice Option.none 0 0)) ∧
 ((Qv (Pt 1003 0)) ∧
 True))))))))))))))))))))))))) ∧
 (∃ n20 : Int,
 ((Says C 25 [(D.val (vI n17)), (D.val (vI (IntKind.wrap .i64 (IntKind.wrap .i64 (n18 - n19) + 1))))] [(D.val (vI n20))]) ∧
 ((((Qv (Sl 1005 1 1)) ∧
 (Qv (Option.some (AObj.cells [(vI (IntKind.wrap .i64 (n16 + n20)))] 3 false 1)))) ∧
 ((Qv (vI (IntKind.wrap .i64 (n16 + n20)))) ∧
 ((Qv (vI (IntKind.wrap .i64 (n18 - n19)))) ∧
 ((∃ n21 : Int,
 ((At (l11) (0 + Int.toNat x6 * 2) 1 [(vI n21)]) ∧
 ((vI n21) = (vI n19)))) ∧
 ((Qv (Pt 1002 (0 + Int.toNat x6 * 2))) ∧
 ((bcase (decide (0 ≤ x6))
 (bcase (decide (x6 < (↑n4 : Int)))
 (Qv (Pt 1002 (0 + Int.toNat x6 * 2)))
 False)
 False) ∧
 ((Qv (vI x6)) ∧
 ((Qv (Sl 1002 (n4) (n4))) ∧
 ((∃ n21 : Int,
 ((At (l11) (Go.Addr.off { block := 1002, off := 0 + Int.toNat x6 * 2 } + 1) 1 [(vI n21)]) ∧
 ((vI n21) = (vI n18)))) ∧
 ((Qv (Go.Value.pointer (Option.some (Go.Addr.mk 1002 (Go.Addr.off { block := 1002, off := 0 + Int.toNat x6 * 2 } + 1) Option.none)))) ∧
 ((bcase (decide (0 ≤ x6))
 (bcase (decide (x6 < (↑n4 : Int)))
 (Qv (Pt 1002 (0 + Int.toNat x6 * 2)))
 False)
 False) ∧
 ((Qv (vI x6)) ∧
 ((Qv (Sl 1002 (n4) (n4))) ∧
 ((bcase (decide (0 ≤ IntKind.wrap .i64 (x2 + x6)))
 (bcase (decide (IntKind.wrap .i64 (x2 + x6) < (↑n0 : Int)))
 (Qv (Pt 501 (0 + Int.toNat (IntKind.wrap .i64 (x2 + x6)) * 1)))
 False)
 False) ∧
 ((Qv (vI (IntKind.wrap .i64 (x2 + x6)))) ∧
 ((Qv (vI x6)) ∧
 ((Qv (vI x2)) ∧
 ((Qv (Sl 501 (n0) (c1))) ∧
 ((∃ n21 : Int,
 ((At (l11) (0 + Int.toNat x6 * 2) 1 [(vI n21)]) ∧
 ((vI n21) = (vI n16)))) ∧
 ((Qv (Pt 1002 (0 + Int.toNat x6 * 2))) ∧
 ((bcase (decide (0 ≤ x6))
 (bcase (decide (x6 < (↑n4 : Int)))
 (Qv (Pt 1002 (0 + Int.toNat x6 * 2)))
 False)
 False) ∧
 ((Qv (vI x6)) ∧
 ((Qv (Sl 1002 (n4) (n4))) ∧
 ((Qv (Go.Value.slice Option.none 0 0)) ∧
 ((Qv (Pt 1003 0)) ∧
 True))))))))))))))))))))))))) ∧
 (((Qv (Pt 1003 0)) ∧
 ((Qv (vI (IntKind.wrap .i64 (n16 + n20)))) ∧
 ((Qv (vI (IntKind.wrap .i64 (n18 - n19)))) ∧
 ((∃ n21 : Int,
 ((At (l11) (0 + Int.toNat x6 * 2) 1 [(vI n21)]) ∧
 ((vI n21) = (vI n19)))) ∧
 ((Qv (Pt 1002 (0 + Int.toNat x6 * 2))) ∧
 ((bcase (decide (0 ≤ x6))
 (bcase (decide (x6 < (↑n4 : Int)))
 (Qv (Pt 1002 (0 + Int.toNat x6 * 2)))
 False)
 False) ∧
 ((Qv (vI x6)) ∧
 ((Qv (Sl 1002 (n4) (n4))) ∧
 ((∃ n21 : Int,
 ((At (l11) (Go.Addr.off { block := 1002, off := 0 + Int.toNat x6 * 2 } + 1) 1 [(vI n21)]) ∧
 ((vI n21) = (vI n18)))) ∧
 ((Qv (Go.Value.pointer (Option.some (Go.Addr.mk 1002 (Go.Addr.off { block := 1002, off := 0 + Int.toNat x6 * 2 } + 1) Option.none)))) ∧
 ((bcase (decide (0 ≤ x6))
 (bcase (decide (x6 < (↑n4 : Int)))
 (Qv (Pt 1002 (0 + Int.toNat x6 * 2)))
 False)
 False) ∧
 ((Qv (vI x6)) ∧
 ((Qv (Sl 1002 (n4) (n4))) ∧
 ((bcase (decide (0 ≤ IntKind.wrap .i64 (x2 + x6)))
 (bcase (decide (IntKind.wrap .i64 (x2 + x6) < (↑n0 : Int)))
 (Qv (Pt 501 (0 + Int.toNat (IntKind.wrap .i64 (x2 + x6)) * 1)))
 False)
 False) ∧
 ((Qv (vI (IntKind.wrap .i64 (x2 + x6)))) ∧
 ((Qv (vI x6)) ∧
 ((Qv (vI x2)) ∧
 ((Qv (Sl 501 (n0) (c1))) ∧
 ((∃ n21 : Int,
 ((At (l11) (0 + Int.toNat x6 * 2) 1 [(vI n21)]) ∧
 ((vI n21) = (vI n16)))) ∧
 ((Qv (Pt 1002 (0 + Int.toNat x6 * 2))) ∧
 ((bcase (decide (0 ≤ x6))
 (bcase (decide (x6 < (↑n4 : Int)))
 (Qv (Pt 1002 (0 + Int.toNat x6 * 2)))
 False)
 False) ∧
 ((Qv (vI x6)) ∧
 ((Qv (Sl 1002 (n4) (n4))) ∧
 ((Qv (Pt 1003 0)) ∧
 True)))))))))))))))))))))))) ∧
 (True ∧
 (bcase (decide (0 ≤ IntKind.wrap .i64 (IntKind.wrap .i64 (2 * x2) + x6)))
 (bcase (decide (IntKind.wrap .i64 (IntKind.wrap .i64 (2 * x2) + x6) < (↑n0 : Int)))
 (∃ n21 : Int,
 ((At (l7) (0 + Int.toNat (IntKind.wrap .i64 (IntKind.wrap .i64 (2 * x2) + x6)) * 1) 1 [(vI n21)]) ∧
 (((Qv (vI (IntKind.wrap .i64 (IntKind.wrap .i64 (n7 - n6) + 1)))) ∧
 ((Qv (vI (IntKind.wrap .i64 (n7 - n6)))) ∧
 ((Qv (vI n6)) ∧
 ((Qv (Pt 1004 3)) ∧
 ((Qv (Pt 1004 3)) ∧
 ((Qv (vI n7)) ∧
 ((Qv (Pt 1004 4)) ∧
 ((Qv (Pt 1004 3)) ∧
 ((∃ n22 : Int,
 ((At (l7) (0 + Int.toNat (IntKind.wrap .i64 (IntKind.wrap .i64 (2 * x2) + x6)) * 1) 1 [(vI n22)]) ∧
 ((vI n22) = (vI n21)))) ∧
 ((bcase (decide (0 ≤ IntKind.wrap .i64 (IntKind.wrap .i64 (2 * x2) + x6)))
 (bcase (decide (IntKind.wrap .i64 (IntKind.wrap .i64 (2 * x2) + x6) < (↑n0 : Int)))
 (Qv (Pt 501 (0 + Int.toNat (IntKind.wrap .i64 (IntKind.wrap .i64 (2 * x2) + x6)) * 1)))
 False)
 False) ∧
 ((Qv (vI (IntKind.wrap .i64 (IntKind.wrap .i64 (2 * x2) + x6)))) ∧
 ((Qv (vI x6)) ∧
 ((Qv (vI (IntKind.wrap .i64 (2 * x2)))) ∧
 ((Qv (vI x2)) ∧
 ((Qv (Sl 501 (n0) (c1))) ∧
 ((Qv (vI n6)) ∧
 ((Qv (Pt 1004 3)) ∧
 ((Qv (Pt 1004 3)) ∧
 ((Qv (Go.Value.slice Option.none 0 0)) ∧
 ((Qv (Pt 1003 1)) ∧
 True)))))))))))))))))))) ∧
 (∃ n22 : Int,
 ((Says C 25 [(D.val (vI n21)), (D.val (vI (IntKind.wrap .i64 (IntKind.wrap .i64 (n7 - n6) + 1))))] [(D.val (vI n22))]) ∧
 ((((Qv (Sl 1007 1 1)) ∧
 (Qv (Option.some (AObj.cells [(vI (IntKind.wrap .i64 (n6 + n22)))] 3 false 1)))) ∧
 ((Qv (vI (IntKind.wrap .i64 (n6 + n22)))) ∧
 ((Qv (vI (IntKind.wrap .i64 (n7 - n6)))) ∧
 ((Qv (vI n6)) ∧
 ((Qv (Pt 1004 3)) ∧
 ((Qv (Pt 1004 3)) ∧
 ((Qv (vI n7)) ∧
 ((Qv (Pt 1004 4)) ∧
 ((Qv (Pt 1004 3)) ∧
 ((bcase (decide (0 ≤ IntKind.wrap .i64 (IntKind.wrap .i64 (2 * x2) + x6)))
 (bcase (decide (IntKind.wrap .i64 (IntKind.wrap .i64 (2 * x2) + x6) < (↑n0 : Int)))
 (Qv (Pt 501 (0 + Int.toNat (IntKind.wrap .i64 (IntKind.wrap .i64 (2 * x2) + x6)) * 1)))
 False)
 False) ∧
 ((Qv (vI (IntKind.wrap .i64 (IntKind.wrap .i64 (2 * x2) + x6)))) ∧
 ((Qv (vI x6)) ∧
 ((Qv (vI (IntKind.wrap .i64 (2 * x2)))) ∧
 ((Qv (vI x2)) ∧
 ((Qv (Sl 501 (n0) (c1))) ∧
 ((Qv (vI n6)) ∧
 ((Qv (Pt 1004 3)) ∧
 ((Qv (Pt 1004 3)) ∧
 ((Qv (Go.Value.slice Option.none 0 0)) ∧
 ((Qv (Pt 1003 1)) ∧
 True)))))))))))))))))))) ∧
 (((Qv (Pt 1003 1)) ∧
 ((Qv (vI (IntKind.wrap .i64 (n6 + n22)))) ∧
 ((Qv (vI (IntKind.wrap .i64 (n7 - n6)))) ∧
 ((Qv (vI n6)) ∧
 ((Qv (Pt 1004 3)) ∧
 ((Qv (Pt 1004 3)) ∧
 ((Qv (vI n7)) ∧
 ((Qv (Pt 1004 4)) ∧
 ((Qv (Pt 1004 3)) ∧
 ((bcase (decide (0 ≤ IntKind.wrap .i64 (IntKind.wrap .i64 (2 * x2) + x6)))
 (bcase (decide (IntKind.wrap .i64 (IntKind.wrap .i64 (2 * x2) + x6) < (↑n0 : Int)))
 (Qv (Pt 501 (0 + Int.toNat (IntKind.wrap .i64 (IntKind.wrap .i64 (2 * x2) + x6)) * 1)))
 False)
 False) ∧
 ((Qv (vI (IntKind.wrap .i64 (IntKind.wrap .i64 (2 * x2) + x6)))) ∧
 ((Qv (vI x6)) ∧
 ((Qv (vI (IntKind.wrap .i64 (2 * x2)))) ∧
 ((Qv (vI x2)) ∧
 ((Qv (Sl 501 (n0) (c1))) ∧
 ((Qv (vI n6)) ∧
 ((Qv (Pt 1004 3)) ∧
 ((Qv (Pt 1004 3)) ∧
 ((Qv (Pt 1003 1)) ∧
 True))))))))))))))))))) ∧
 (True ∧
 (B [(Prod.mk 1 (Go.Value.slice Option.none 0 0)), (Prod.mk 2 (Sl 501 (n0) (c1))), (Prod.mk 3 (Pt 1000 0)), (Prod.mk 7 (vI x2)), (Prod.mk 8 (Sl 1001 (n3) (n3))), (Prod.mk 11 (Sl 1002 (n4) (n4))), (Prod.mk 15 (Go.Value.bool (b5))), (Prod.mk 19 (Pt 1003 0)), (Prod.mk 20 (vI (IntKind.wrap .i64 (x6 + 1))))] [(Prod.mk 501 (AObj.sym (l7) false 1)), (Prod.mk 1000 (AObj.cells [(Sl 500 (n8) (c9))] 24 false 1)), (Prod.mk 1001 (AObj.sym (l10) true 1)), (Prod.mk 1002 (AObj.sym (l11) true 2)), (Prod.mk 1003 (AObj.cells [(Sl 1004 1 1), (Sl 1005 1 1)] 27 false 2)), (Prod.mk 500 (AObj.sym (l12) false 7)), (Prod.mk 1004 (AObj.sym [(vI (IntKind.wrap .i64 (n16 + n20)))] true 1)), (Prod.mk 1005 (AObj.sym [(vI (IntKind.wrap .i64 (n6 + n22)))] true 1))])))))))))
 False)
 False)))))))))
 False)
 False)))
 False)
 False)))
 False)
 False)))
 False)
 False)))) ∨
 ((Says C 26 [(D.val (vI n15)), (D.val (vI n9)), (D.val (vI n10))] [(D.val (Value.bool false))]) ∧
 (((Qv (Value.bool true)) ∧
 ((Qv (Go.Value.tuple [].toArray)) ∧
 ((Qv (Go.Value.tuple [].toArray)) ∧
 ((Qv (Go.Value.tuple [].toArray)) ∧
 ((Qv (Go.Value.tuple [].toArray)) ∧
 ((Qv (Go.Value.tuple [].toArray)) ∧
 ((Qv (Go.Value.tuple [].toArray)) ∧
 ((Qv (Go.Value.tuple [].toArray)) ∧
 ((Qv (Go.Value.tuple [].toArray)) ∧
 ((Qv (Go.Value.tuple [].toArray)) ∧
 ((Qv (Go.Value.tuple [].toArray)) ∧
 ((Qv (Go.Value.tuple [].toArray)) ∧
 ((Qv (Go.Value.tuple [].toArray)) ∧
 ((Qv (Go.Value.tuple [].toArray)) ∧
 ((Qv (Go.Value.tuple [].toArray)) ∧
 ((Qv (Go.Value.tuple [].toArray)) ∧
 ((Qv (Go.Value.tuple [].toArray)) ∧
 ((Qv (Go.Value.tuple [].toArray)) ∧
 ((Qv (Go.Value.tuple [].toArray)) ∧
 ((Qv (Go.Value.tuple [].toArray)) ∧
 ((Qv (Go.Value.tuple [].toArray)) ∧
 ((Qv (Go.Value.tuple [].toArray)) ∧
 ((Qv (Go.Value.tuple [].toArray)) ∧
 ((Qv (Go.Value.tuple [].toArray)) ∧
 ((Qv (Go.Value.tuple [].toArray)) ∧
 ((Qv (Go.Value.tuple [].toArray)) ∧
 ((Qv (Go.Value.tuple [].toArray)) ∧
 ((Qv (Go.Value.tuple [].toArray)) ∧
 ((Qv (Value.bool true)) ∧
 ((Qv (Value.bool true)) ∧
 ((Qv (Value.bool true)) ∧
 ((Qv (Pt 1004 6)) ∧
 ((Qv (Pt 1004 5)) ∧
 ((Qv (Pt 1004 5)) ∧
 ((Qv (Pt 1004 5)) ∧
 ((Qv (Go.Value.pointer (Option.some (Go.Addr.mk 1002 (Go.Addr.off { block := 1002, off := 0 + Int.toNat x6 * 2 } + 1) Option.none)))) ∧
 ((bcase (decide (0 ≤ x6))
 (bcase (decide (x6 < (↑n4 : Int)))
 (Qv (Pt 1002 (0 + Int.toNat x6 * 2)))
 False)
 False) ∧
 ((Qv (vI x6)) ∧
 ((Qv (Sl 1002 (n4) (n4))) ∧
 ((Qv (Value.bool false)) ∧
 ((Qv (Value.bool false)) ∧
 ((Qv (Pt 1004 6)) ∧
 ((Qv (Pt 1004 5)) ∧
 ((Qv (Pt 1004 5)) ∧
 ((Qv (Pt 1004 5)) ∧
 ((Qv (Pt 1002 (0 + Int.toNat x6 * 2))) ∧
 ((bcase (decide (0 ≤ x6))
 (bcase (decide (x6 < (↑n4 : Int)))
 (Qv (Pt 1002 (0 + Int.toNat x6 * 2)))
 False)
 False) ∧
 ((Qv (vI x6)) ∧
 ((Qv (Sl 1002 (n4) (n4))) ∧
 ((Qv (Value.bool false)) ∧
 ((Qv (Go.Value.pointer (Option.some (Go.Addr.mk 1002 (Go.Addr.off { block := 1002, off := 0 + Int.toNat x6 * 2 } + 1) Option.none)))) ∧
 ((bcase (decide (0 ≤ x6))
 (bcase (decide (x6 < (↑n4 : Int)))
 (Qv (Pt 1002 (0 + Int.toNat x6 * 2)))
 False)
 False) ∧
 ((Qv (vI x6)) ∧
 ((Qv (Sl 1002 (n4) (n4))) ∧
 ((Qv (Pt 1002 (0 + Int.toNat x6 * 2))) ∧
 ((bcase (decide (0 ≤ x6))
 (bcase (decide (x6 < (↑n4 : Int)))
 (Qv (Pt 1002 (0 + Int.toNat x6 * 2)))
 False)
 False) ∧
 ((Qv (vI x6)) ∧
 ((Qv (Sl 1002 (n4) (n4))) ∧
 ((bcase (decide (0 ≤ x6))
 (bcase (decide (x6 < (↑n3 : Int)))
 (Qv (Pt 1001 (0 + Int.toNat x6 * 1)))
 False)
 False) ∧
 ((Qv (vI x6)) ∧
 ((Qv (Sl 1001 (n3) (n3))) ∧
 True))))))))))))))))))))))))))))))))))))))))))))))))))))))))))))) ∧
 (k [(D.val (Value.bool false))])))))))
 False)
 False)) ∨
 ((Says C 26 [(D.val (vI n14)), (D.val (vI n9)), (D.val (vI n10))] [(D.val (Value.bool false))]) ∧
 (((Qv (Go.Value.tuple [].toArray)) ∧
 ((Qv (Go.Value.tuple [].toArray)) ∧
 ((Qv (Go.Value.tuple [].toArray)) ∧
 ((Qv (Go.Value.tuple [].toArray)) ∧
 ((Qv (Go.Value.tuple [].toArray)) ∧
 ((Qv (Go.Value.tuple [].toArray)) ∧
 ((Qv (Go.Value.tuple [].toArray)) ∧
 ((Qv (Go.Value.tuple [].toArray)) ∧
 ((Qv (Go.Value.tuple [].toArray)) ∧
 ((Qv (Go.Value.tuple [].toArray)) ∧
 ((Qv (Go.Value.tuple [].toArray)) ∧
 ((Qv (Value.bool true)) ∧
 ((Qv (Value.bool true)) ∧
 ((Qv (Value.bool true)) ∧
 ((Qv (Pt 1004 6)) ∧
 ((Qv (Pt 1004 5)) ∧
 ((Qv (Pt 1004 5)) ∧
 ((Qv (Pt 1004 5)) ∧
 ((Qv (Pt 1002 (0 + Int.toNat x6 * 2))) ∧
 ((bcase (decide (0 ≤ x6))
 (bcase (decide (x6 < (↑n4 : Int)))
 (Qv (Pt 1002 (0 + Int.toNat x6 * 2)))
 False)
 False) ∧
 ((Qv (vI x6)) ∧
 ((Qv (Sl 1002 (n4) (n4))) ∧
 ((Qv (Value.bool false)) ∧
 ((Qv (Go.Value.pointer (Option.some (Go.Addr.mk 1002 (Go.Addr.off { block := 1002, off := 0 + Int.toNat x6 * 2 } + 1) Option.none)))) ∧
 ((bcase (decide (0 ≤ x6))
 (bcase (decide (x6 < (↑n4 : Int)))
 (Qv (Pt 1002 (0 + Int.toNat x6 * 2)))
 False)
 False) ∧
 ((Qv (vI x6)) ∧
 ((Qv (Sl 1002 (n4) (n4))) ∧
 ((Qv (Pt 1002 (0 + Int.toNat x6 * 2))) ∧
 ((bcase (decide (0 ≤ x6))
 (bcase (decide (x6 < (↑n4 : Int)))
 (Qv (Pt 1002 (0 + Int.toNat x6 * 2)))
 False)
 False) ∧
 ((Qv (vI x6)) ∧
 ((Qv (Sl 1002 (n4) (n4))) ∧
 ((bcase (decide (0 ≤ x6))
 (bcase (decide (x6 < (↑n3 : Int)))
 (Qv (Pt 1001 (0 + Int.toNat x6 * 1)))
 False)
 False) ∧
 ((Qv (vI x6)) ∧
 ((Qv (Sl 1001 (n3) (n3))) ∧
 True)))))))))))))))))))))))))))))))))) ∧
 (((Qv (Value.bool true)) ∧
 ((Qv (Go.Value.tuple [].toArray)) ∧
 ((Qv (Go.Value.tuple [].toArray)) ∧
 ((Qv (Go.Value.tuple [].toArray)) ∧
 ((Qv (Go.Value.tuple [].toArray)) ∧
 ((Qv (Go.Value.tuple [].toArray)) ∧
 ((Qv (Go.Value.tuple [].toArray)) ∧
 ((Qv (Go.Value.tuple [].toArray)) ∧
 ((Qv (Go.Value.tuple [].toArray)) ∧
 ((Qv (Go.Value.tuple [].toArray)) ∧
 ((Qv (Go.Value.tuple [].toArray)) ∧
 ((Qv (Go.Value.tuple [].toArray)) ∧
 ((Qv (Go.Value.tuple [].toArray)) ∧
 ((Qv (Go.Value.tuple [].toArray)) ∧
 ((Qv (Go.Value.tuple [].toArray)) ∧
 ((Qv (Go.Value.tuple [].toArray)) ∧
 ((Qv (Go.Value.tuple [].toArray)) ∧
 ((Qv (Go.Value.tuple [].toArray)) ∧
 ((Qv (Go.Value.tuple [].toArray)) ∧
 ((Qv (Go.Value.tuple [].toArray)) ∧
 ((Qv (Go.Value.tuple [].toArray)) ∧
 ((Qv (Go.Value.tuple [].toArray)) ∧
 ((Qv (Go.Value.tuple [].toArray)) ∧
 ((Qv (Go.Value.tuple [].toArray)) ∧
 ((Qv (Go.Value.tuple [].toArray)) ∧
 ((Qv (Go.Value.tuple [].toArray)) ∧
 ((Qv (Go.Value.tuple [].toArray)) ∧
 ((Qv (Go.Value.tuple [].toArray)) ∧
 ((Qv (Value.bool true)) ∧
 ((Qv (Value.bool true)) ∧
 ((Qv (Go.Value.tuple [].toArray)) ∧
 ((Qv (Go.Value.tuple [].toArray)) ∧
 ((Qv (Go.Value.tuple [].toArray)) ∧
 ((Qv (Go.Value.tuple [].toArray)) ∧
 ((Qv (Go.Value.tuple [].toArray)) ∧
 ((Qv (Go.Value.tuple [].toArray)) ∧
 ((Qv (Go.Value.tuple [].toArray)) ∧
 ((Qv (Go.Value.tuple [].toArray)) ∧
 ((Qv (Go.Value.tuple [].toArray)) ∧
 ((Qv (Value.bool true)) ∧
 ((Qv (Value.bool true)) ∧
 ((Qv (Pt 1004 6)) ∧
 ((Qv (Pt 1004 5)) ∧
 ((Qv (Pt 1004 5)) ∧
 ((Qv (Pt 1004 5)) ∧
 ((Qv (Pt 1002 (0 + Int.toNat x6 * 2))) ∧
 ((bcase (decide (0 ≤ x6))
 (bcase (decide (x6 < (↑n4 : Int)))
 (Qv (Pt 1002 (0 + Int.toNat x6 * 2)))
 False)
 False) ∧
 ((Qv (vI x6)) ∧
 ((Qv (Sl 1002 (n4) (n4))) ∧
 ((Qv (Value.bool false)) ∧
 ((Qv (Go.Value.pointer (Option.some (Go.Addr.mk 1002 (Go.Addr.off { block := 1002, off := 0 + Int.toNat x6 * 2 } + 1) Option.none)))) ∧
 ((bcase (decide (0 ≤ x6))
 (bcase (decide (x6 < (↑n4 : Int)))
 (Qv (Pt 1002 (0 + Int.toNat x6 * 2)))
 False)
 False) ∧
 ((Qv (vI x6)) ∧
 ((Qv (Sl 1002 (n4) (n4))) ∧
 ((Qv (Pt 1002 (0 + Int.toNat x6 * 2))) ∧
 ((bcase (decide (0 ≤ x6))
 (bcase (decide (x6 < (↑n4 : Int)))
 (Qv (Pt 1002 (0 + Int.toNat x6 * 2)))
 False)
 False) ∧
 ((Qv (vI x6)) ∧
 ((Qv (Sl 1002 (n4) (n4))) ∧
 ((bcase (decide (0 ≤ x6))
 (bcase (decide (x6 < (↑n3 : Int)))
 (Qv (Pt 1001 (0 + Int.toNat x6 * 1)))
 False)
 False) ∧
 ((Qv (vI x6)) ∧
 ((Qv (Sl 1001 (n3) (n3))) ∧
 True))))))))))))))))))))))))))))))))))))))))))))))))))))))))))))) ∧
 (k [(D.val (Value.bool false))]))))))))
 False)
 False)) ∨
 ((Says C 26 [(D.val (vI n11)), (D.val (vI n12)), (D.val (vI n13))] [(D.val (Value.bool false))]) ∧
 (((Qv (Go.Value.tuple [].toArray)) ∧
 ((Qv (Go.Value.tuple [].toArray)) ∧
 ((Qv (Go.Value.tuple [].toArray)) ∧
 ((Qv (Go.Value.tuple [].toArray)) ∧
 ((Qv (Go.Value.tuple [].toArray)) ∧
 ((Qv (Go.Value.tuple [].toArray)) ∧
 ((Qv (Go.Value.tuple [].toArray)) ∧
 ((Qv (Go.Value.tuple [].toArray)) ∧
 ((Qv (Go.Value.tuple [].toArray)) ∧
 ((Qv (Go.Value.tuple [].toArray)) ∧
 ((Qv (Go.Value.tuple [].toArray)) ∧
 ((Qv (Value.bool true)) ∧
 ((Qv (Value.bool true)) ∧
 ((Qv (Go.Value.pointer (Option.some (Go.Addr.mk 1002 (Go.Addr.off { block := 1002, off := 0 + Int.toNat x6 * 2 } + 1) Option.none)))) ∧
 ((bcase (decide (0 ≤ x6))
 (bcase (decide (x6 < (↑n4 : Int)))
 (Qv (Pt 1002 (0 + Int.toNat x6 * 2)))
 False)
 False) ∧
 ((Qv (vI x6)) ∧
 ((Qv (Sl 1002 (n4) (n4))) ∧
 ((Qv (Pt 1002 (0 + Int.toNat x6 * 2))) ∧
 ((bcase (decide (0 ≤ x6))
 (bcase (decide (x6 < (↑n4 : Int)))
 (Qv (Pt 1002 (0 + Int.toNat x6 * 2)))
 False)
 False) ∧
 ((Qv (vI x6)) ∧
 ((Qv (Sl 1002 (n4) (n4))) ∧
 ((bcase (decide (0 ≤ x6))
 (bcase (decide (x6 < (↑n3 : Int)))
 (Qv (Pt 1001 (0 + Int.toNat x6 * 1)))
 False)
 False) ∧
 ((Qv (vI x6)) ∧
 ((Qv (Sl 1001 (n3) (n3))) ∧
 True)))))))))))))))))))))))) ∧
 (((Qv (Go.Value.tuple [].toArray)) ∧
 ((Qv (Go.Value.tuple [].toArray)) ∧
 ((Qv (Go.Value.tuple [].toArray)) ∧
 ((Qv (Go.Value.tuple [].toArray)) ∧
 ((Qv (Go.Value.tuple [].toArray)) ∧
 ((Qv (Go.Value.tuple [].toArray)) ∧
 ((Qv (Go.Value.tuple [].toArray)) ∧
 ((Qv (Go.Value.tuple [].toArray)) ∧
 ((Qv (Go.Value.tuple [].toArray)) ∧
 ((Qv (Go.Value.tuple [].toArray)) ∧
 ((Qv (Go.Value.tuple [].toArray)) ∧
 ((Qv (Value.bool true)) ∧
 ((Qv (Value.bool true)) ∧
 ((Qv (Go.Value.tuple [].toArray)) ∧
 ((Qv (Go.Value.tuple [].toArray)) ∧
 ((Qv (Go.Value.tuple [].toArray)) ∧
 ((Qv (Go.Value.tuple [].toArray)) ∧
 ((Qv (Go.Value.tuple [].toArray)) ∧
 ((Qv (Go.Value.tuple [].toArray)) ∧
 ((Qv (Go.Value.tuple [].toArray)) ∧
 ((Qv (Go.Value.tuple [].toArray)) ∧
 ((Qv (Go.Value.tuple [].toArray)) ∧
 ((Qv (Value.bool true)) ∧
 ((Qv (Go.Value.pointer (Option.some (Go.Addr.mk 1002 (Go.Addr.off { block := 1002, off := 0 + Int.toNat x6 * 2 } + 1) Option.none)))) ∧
 ((bcase (decide (0 ≤ x6))
 (bcase (decide (x6 < (↑n4 : Int)))
 (Qv (Pt 1002 (0 + Int.toNat x6 * 2)))
 False)
 False) ∧
 ((Qv (vI x6)) ∧
 ((Qv (Sl 1002 (n4) (n4))) ∧
 ((Qv (Pt 1002 (0 + Int.toNat x6 * 2))) ∧
 ((bcase (decide (0 ≤ x6))
 (bcase (decide (x6 < (↑n4 : Int)))
 (Qv (Pt 1002 (0 + Int.toNat x6 * 2)))
 False)
 False) ∧
 ((Qv (vI x6)) ∧
 ((Qv (Sl 1002 (n4) (n4))) ∧
 ((bcase (decide (0 ≤ x6))
 (bcase (decide (x6 < (↑n3 : Int)))
 (Qv (Pt 1001 (0 + Int.toNat x6 * 1)))
 False)
 False) ∧
 ((Qv (vI x6)) ∧
 ((Qv (Sl 1001 (n3) (n3))) ∧
 True)))))))))))))))))))))))))))))))))) ∧
 (((Qv (Value.bool true)) ∧
 ((Qv (Go.Value.tuple [].toArray)) ∧
 ((Qv (Go.Value.tuple [].toArray)) ∧
 ((Qv (Go.Value.tuple [].toArray)) ∧
 ((Qv (Go.Value.tuple [].toArray)) ∧
 ((Qv (Go.Value.tuple [].toArray)) ∧
 ((Qv (Go.Value.tuple [].toArray)) ∧
 ((Qv (Go.Value.tuple [].toArray)) ∧
 ((Qv (Go.Value.tuple [].toArray)) ∧
 ((Qv (Go.Value.tuple [].toArray)) ∧
 ((Qv (Go.Value.tuple [].toArray)) ∧
 ((Qv (Go.Value.tuple [].toArray)) ∧
 ((Qv (Go.Value.tuple [].toArray)) ∧
 ((Qv (Go.Value.tuple [].toArray)) ∧
 ((Qv (Go.Value.tuple [].toArray)) ∧
 ((Qv (Go.Value.tuple [].toArray)) ∧
 ((Qv (Go.Value.tuple [].toArray)) ∧
 ((Qv (Go.Value.tuple [].toArray)) ∧
 ((Qv (Go.Value.tuple [].toArray)) ∧
 ((Qv (Go.Value.tuple [].toArray)) ∧
 ((Qv (Go.Value.tuple [].toArray)) ∧
 ((Qv (Go.Value.tuple [].toArray)) ∧
 ((Qv (Go.Value.tuple [].toArray)) ∧
 ((Qv (Go.Value.tuple [].toArray)) ∧
 ((Qv (Go.Value.tuple [].toArray)) ∧
 ((Qv (Go.Value.tuple [].toArray)) ∧
 ((Qv (Go.Value.tuple [].toArray)) ∧
 ((Qv (Go.Value.tuple [].toArray)) ∧
 ((Qv (Value.bool true)) ∧
 ((Qv (Value.bool true)) ∧
 ((Qv (Go.Value.tuple [].toArray)) ∧
 ((Qv (Go.Value.tuple [].toArray)) ∧
 ((Qv (Go.Value.tuple [].toArray)) ∧
 ((Qv (Go.Value.tuple [].toArray)) ∧
 ((Qv (Go.Value.tuple [].toArray)) ∧
 ((Qv (Go.Value.tuple [].toArray)) ∧
 ((Qv (Go.Value.tuple [].toArray)) ∧
 ((Qv (Go.Value.tuple [].toArray)) ∧
 ((Qv (Go.Value.tuple [].toArray)) ∧
 ((Qv (Value.bool true)) ∧
 ((Qv (Go.Value.tuple [].toArray)) ∧
 ((Qv (Go.Value.tuple [].toArray)) ∧
 ((Qv (Go.Value.tuple [].toArray)) ∧
 ((Qv (Go.Value.tuple [].toArray)) ∧
 ((Qv (Go.Value.tuple [].toArray)) ∧
 ((Qv (Go.Value.tuple [].toArray)) ∧
 ((Qv (Go.Value.tuple [].toArray)) ∧
 ((Qv (Go.Value.tuple [].toArray)) ∧
 ((Qv (Go.Value.tuple [].toArray)) ∧
 ((Qv (Value.bool true)) ∧
 ((Qv (Go.Value.pointer (Option.some (Go.Addr.mk 1002 (Go.Addr.off { block := 1002, off := 0 + Int.toNat x6 * 2 } + 1) Option.none)))) ∧
 ((bcase (decide (0 ≤ x6))
 (bcase (decide (x6 < (↑n4 : Int)))
 (Qv (Pt 1002 (0 + Int.toNat x6 * 2)))
 False)
 False) ∧
 ((Qv (vI x6)) ∧
 ((Qv (Sl 1002 (n4) (n4))) ∧
 ((Qv (Pt 1002 (0 + Int.toNat x6 * 2))) ∧
 ((bcase (decide (0 ≤ x6))
 (bcase (decide (x6 < (↑n4 : Int)))
 (Qv (Pt 1002 (0 + Int.toNat x6 * 2)))
 False)
 False) ∧
 ((Qv (vI x6)) ∧
 ((Qv (Sl 1002 (n4) (n4))) ∧
 ((bcase (decide (0 ≤ x6))
 (bcase (decide (x6 < (↑n3 : Int)))
 (Qv (Pt 1001 (0 + Int.toNat x6 * 1)))
 False)
 False) ∧
 ((Qv (vI x6)) ∧
 ((Qv (Sl 1001 (n3) (n3))) ∧
 True))))))))))))))))))))))))))))))))))))))))))))))))))))))))))))) ∧
 (k [(D.val (Value.bool false))])))))))))
 False)
 False)))
 False)
 False)))
 False)
 False)))))))))
 False)
 False)
 (X 4 [(Prod.mk 3 (Pt 1000 0)), (Prod.mk 7 (vI x2)), (Prod.mk 11 (Sl 1001 (n4) (n4))), (Prod.mk 19 (Pt 1002 0))] [(Prod.mk 1000 (AObj.cells [(Sl 500 (n8) (c9))] 24 false 1)), (Prod.mk 1001 (AObj.sym (l11) true 2)), (Prod.mk 1002 (AObj.cells [(Go.Value.slice Option.none 0 0), (Go.Value.slice Option.none 0 0)] 27 false 2)), (Prod.mk 500 (AObj.sym (l12) false 7))])) := by kernel_rfl
abbrev zKpn8 (n0 : Nat) (c1 : Nat) (x2 : Int) (n3 : Nat) (n4 : Nat) (b5 : Bool) (x6 : Int) (l7 : List Value) (n8 : Nat) (c9 : Nat) (l10 : List Value) (l11 : List Value) (n12 : Nat) (n13 : Nat) (l14 : List Value) (l15 : List Value) (l16 : List Value) : Slots × Blocks := ([(1, (Value.slice none 0 0)), (2, (Value.slice (some ⟨501, 0, none⟩) n0 c1)), (3, (Value.pointer (some ⟨1000, 0, none⟩))), (7, (Value.int .i64 x2)), (8, (Value.slice (some ⟨1001, 0, none⟩) n3 n3)), (11, (Value.slice (some ⟨1002, 0, none⟩) n4 n4)), (15, (Value.bool b5)), (19, (Value.pointer (some ⟨1003, 0, none⟩))), (20, (Value.int .i64 x6))], [(501, (AObj.sym l7 false 1)), (1000, (AObj.cells [(Value.slice (some ⟨500, 0, none⟩) n8 c9)] 24 false 1)), (1001, (AObj.sym l10 true 1)), (1002, (AObj.sym l11 true 2)), (1003, (AObj.cells [(Value.slice (some ⟨1004, 0, none⟩) n12 n12), (Value.slice (some ⟨1005, 0, none⟩) n13 n13)] 27 false 2)), (500, (AObj.sym l14 false 7)), (1004, (AObj.sym l15 true 1)), (1005, (AObj.sym l16 true 1))])
def rKpn8 (C : Ct) (L : AtLoop) (n0 : Nat) (c1 : Nat) (x2 : Int) (n3 : Nat) (n4 : Nat) (b5 : Bool) (x6 : Int) (l7 : List Value) (n8 : Nat) (c9 : Nat) (l10 : List Value) (l11 : List Value) (n12 : Nat) (n13 : Nat) (l14 : List Value) (l15 : List Value) (l16 : List Value) (B : Bx) (X : Xx) (k : List D → Prop) : Prop := wpRound Try.prog (hL C) L 5 4 [(1, (Value.slice none 0 0)), (2, (Value.slice (some ⟨501, 0, none⟩) n0 c1)), (3, (Value.pointer (some ⟨1000, 0, none⟩))), (7, (Value.int .i64 x2)), (8, (Value.slice (some ⟨1001, 0, none⟩) n3 n3)), (11, (Value.slice (some ⟨1002, 0, none⟩) n4 n4)), (15, (Value.bool b5)), (19, (Value.pointer (some ⟨1003, 0, none⟩))), (20, (Value.int .i64 x6))] [(501, (AObj.sym l7 false 1)), (1000, (AObj.cells [(Value.slice (some ⟨500, 0, none⟩) n8 c9)] 24 false 1)), (1001, (AObj.sym l10 true 1)), (1002, (AObj.sym l11 true 2)), (1003, (AObj.cells [(Value.slice (some ⟨1004, 0, none⟩) n12 n12), (Value.slice (some ⟨1005, 0, none⟩) n13 n13)] 27 false 2)), (500, (AObj.sym l14 false 7)), (1004, (AObj.sym l15 true 1)), (1005, (AObj.sym l16 true 1))] B X (dataK k)
theorem rKpn8_text (C : Ct) (L : AtLoop) (n0 : Nat) (c1 : Nat) (x2 : Int) (n3 : Nat) (n4 : Nat) (b5 : Bool) (x6 : Int) (l7 : List Go.Value) (n8 : Nat) (c9 : Nat) (l10 : List Go.Value) (l11 : List Go.Value) (n12 : Nat) (n13 : Nat) (l14 : List Go.Value) (l15 : List Go.Value) (l16 : List Go.Value) (B : Bx) (X : Xx) (k : List D → Prop) : rKpn8 C L n0 c1 x2 n3 n4 b5 x6 l7 n8 c9 l10 l11 n12 n13 l14 l15 l16 B X k =
 (bcase (decide (x6 < x2))
 (bcase (decide (0 ≤ x6))
 (bcase (decide (x6 < (↑n8 : Int)))
 (∃ n1 : Int,
 (∃ n2 : Int,
 (∃ n5 : Int,
 (∃ n6 : Int,
 (∃ n7 : Int,
 (∃ n9 : Int,
 (∃ n10 : Int,
 ((At (l14) (0 + Int.toNat x6 * 7) 7 [(vI n1), (vI n2), (vI n5), (vI n6), (vI n7), (vI n9), (vI n10)]) ∧
 (bcase (decide (0 ≤ x6))
 (bcase (decide (x6 < (↑n3 : Int)))
 (∃ n11 : Int,
 ((At (l10) (0 + Int.toNat x6 * 1) 1 [(vI n11)]) ∧
 (bcase (decide (0 ≤ x6))
 (bcase (decide (x6 < (↑n4 : Int)))
 (∃ n14 : Int,
 ((At (l11) (0 + Int.toNat x6 * 2) 1 [(vI n14)]) ∧
 (bcase (decide (0 ≤ x6))
 (bcase (decide (x6 < (↑n4 : Int)))
 (∃ n15 : Int,
 ((At (l11) (Go.Addr.off { block := 1002, off := 0 + Int.toNat x6 * 2 } + 1) 1 [(vI n15)]) ∧
 (((∃ n16 : Int,
 ((At (l11) (Go.Addr.off { block := 1002, off := 0 + Int.toNat x6 * 2 } + 1) 1 [(vI n16)]) ∧
 ((vI n16) = (vI n15)))) ∧
 ((Qv (Go.Value.pointer (Option.some (Go.Addr.mk 1002 (Go.Addr.off { block := 1002, off := 0 + Int.toNat x6 * 2 } + 1) Option.none)))) ∧
 ((bcase (decide (0 ≤ x6))
 (bcase (decide (x6 < (↑n4 : Int)))
 (Qv (Pt 1002 (0 + Int.toNat x6 * 2)))
 False)
 False) ∧
 ((Qv (vI x6)) ∧
 ((Qv (Sl 1002 (n4) (n4))) ∧
 ((∃ n16 : Int,
 ((At (l11) (0 + Int.toNat x6 * 2) 1 [(vI n16)]) ∧
 ((vI n16) = (vI n14)))) ∧
 ((Qv (Pt 1002 (0 + Int.toNat x6 * 2))) ∧
 ((bcase (decide (0 ≤ x6))
 (bcase (decide (x6 < (↑n4 : Int)))
 (Qv (Pt 1002 (0 + Int.toNat x6 * 2)))
 False)
 False) ∧
 ((Qv (vI x6)) ∧
 ((Qv (Sl 1002 (n4) (n4))) ∧
 ((∃ n16 : Int,
 ((At (l10) (0 + Int.toNat x6 * 1) 1 [(vI n16)]) ∧
 ((vI n16) = (vI n11)))) ∧
 ((bcase (decide (0 ≤ x6))
 (bcase (decide (x6 < (↑n3 : Int)))
 (Qv (Pt 1001 (0 + Int.toNat x6 * 1)))
 False)
 False) ∧
 ((Qv (vI x6)) ∧
 ((Qv (Sl 1001 (n3) (n3))) ∧
 True)))))))))))))) ∧
 (((Says C 26 [(D.val (vI n11)), (D.val (vI n14)), (D.val (vI n15))] [(D.val (Value.bool true))]) ∧
 (bcase (decide (0 ≤ x6))
 (bcase (decide (x6 < (↑n4 : Int)))
 (∃ n16 : Int,
 ((At (l11) (0 + Int.toNat x6 * 2) 1 [(vI n16)]) ∧
 (((Qv (vI n10)) ∧
 ((Qv (Pt 1006 6)) ∧
 ((Qv (Pt 1006 5)) ∧
 ((Qv (vI n9)) ∧
 ((Qv (Pt 1006 5)) ∧
 ((Qv (Pt 1006 5)) ∧
 ((∃ n17 : Int,
 ((At (l11) (0 + Int.toNat x6 * 2) 1 [(vI n17)]) ∧
 ((vI n17) = (vI n16)))) ∧
 ((Qv (Pt 1002 (0 + Int.toNat x6 * 2))) ∧
 ((bcase (decide (0 ≤ x6))
 (bcase (decide (x6 < (↑n4 : Int)))
 (Qv (Pt 1002 (0 + Int.toNat x6 * 2)))
 False)
 False) ∧
 ((Qv (vI x6)) ∧
 ((Qv (Sl 1002 (n4) (n4))) ∧
 ((Qv (Value.bool false)) ∧
 ((Qv (Value.bool false)) ∧
 ((Qv (Go.Value.pointer (Option.some (Go.Addr.mk 1002 (Go.Addr.off { block := 1002, off := 0 + Int.toNat x6 * 2 } + 1) Option.none)))) ∧
 ((bcase (decide (0 ≤ x6))
 (bcase (decide (x6 < (↑n4 : Int)))
 (Qv (Pt 1002 (0 + Int.toNat x6 * 2)))
 False)
 False) ∧
 ((Qv (vI x6)) ∧
 ((Qv (Sl 1002 (n4) (n4))) ∧
 ((Qv (Pt 1002 (0 + Int.toNat x6 * 2))) ∧
 ((bcase (decide (0 ≤ x6))
 (bcase (decide (x6 < (↑n4 : Int)))
 (Qv (Pt 1002 (0 + Int.toNat x6 * 2)))
 False)
 False) ∧
 ((Qv (vI x6)) ∧
 ((Qv (Sl 1002 (n4) (n4))) ∧
 ((bcase (decide (0 ≤ x6))
 (bcase (decide (x6 < (↑n3 : Int)))
 (Qv (Pt 1001 (0 + Int.toNat x6 * 1)))
 False)
 False) ∧
 ((Qv (vI x6)) ∧
 ((Qv (Sl 1001 (n3) (n3))) ∧
 True)))))))))))))))))))))))) ∧
 (((Says C 26 [(D.val (vI n16)), (D.val (vI n9)), (D.val (vI n10))] [(D.val (Value.bool true))]) ∧
 (bcase (decide (0 ≤ x6))
 (bcase (decide (x6 < (↑n4 : Int)))
 (∃ n17 : Int,
 ((At (l11) (Go.Addr.off { block := 1002, off := 0 + Int.toNat x6 * 2 } + 1) 1 [(vI n17)]) ∧
 (((Qv (vI n10)) ∧
 ((Qv (Pt 1006 6)) ∧
 ((Qv (Pt 1006 5)) ∧
 ((Qv (vI n9)) ∧
 ((Qv (Pt 1006 5)) ∧
 ((Qv (Pt 1006 5)) ∧
 ((∃ n18 : Int,
 ((At (l11) (Go.Addr.off { block := 1002, off := 0 + Int.toNat x6 * 2 } + 1) 1 [(vI n18)]) ∧
 ((vI n18) = (vI n17)))) ∧
 ((Qv (Go.Value.pointer (Option.some (Go.Addr.mk 1002 (Go.Addr.off { block := 1002, off := 0 + Int.toNat x6 * 2 } + 1) Option.none)))) ∧
 ((bcase (decide (0 ≤ x6))
 (bcase (decide (x6 < (↑n4 : Int)))
 (Qv (Pt 1002 (0 + Int.toNat x6 * 2)))
 False)
 False) ∧
 ((Qv (vI x6)) ∧
 ((Qv (Sl 1002 (n4) (n4))) ∧
 ((Qv (Value.bool false)) ∧
 ((Qv (Value.bool false)) ∧
 ((Qv (Value.bool false)) ∧
 ((Qv (Pt 1006 6)) ∧
 ((Qv (Pt 1006 5)) ∧
 ((Qv (Pt 1006 5)) ∧
 ((Qv (Pt 1006 5)) ∧
 ((Qv (Pt 1002 (0 + Int.toNat x6 * 2))) ∧
 ((bcase (decide (0 ≤ x6))
 (bcase (decide (x6 < (↑n4 : Int)))
 (Qv (Pt 1002 (0 + Int.toNat x6 * 2)))
 False)
 False) ∧
 ((Qv (vI x6)) ∧
 ((Qv (Sl 1002 (n4) (n4))) ∧
 ((Qv (Value.bool false)) ∧
 ((Qv (Go.Value.pointer (Option.some (Go.Addr.mk 1002 (Go.Addr.off { block := 1002, off := 0 + Int.toNat x6 * 2 } + 1) Option.none)))) ∧
 ((bcase (decide (0 ≤ x6))
 (bcase (decide (x6 < (↑n4 : Int)))
 (Qv (Pt 1002 (0 + Int.toNat x6 * 2)))
 False)
 False) ∧
 ((Qv (vI x6)) ∧
 ((Qv (Sl 1002 (n4) (n4))) ∧
 ((Qv (Pt 1002 (0 + Int.toNat x6 * 2))) ∧
 ((bcase (decide (0 ≤ x6))
 (bcase (decide (x6 < (↑n4 : Int)))
 (Qv (Pt 1002 (0 + Int.toNat x6 * 2)))
 False)
 False) ∧
 ((Qv (vI x6)) ∧
 ((Qv (Sl 1002 (n4) (n4))) ∧
 ((bcase (decide (0 ≤ x6))
 (bcase (decide (x6 < (↑n3 : Int)))
 (Qv (Pt 1001 (0 + Int.toNat x6 * 1)))
 False)
 False) ∧
 ((Qv (vI x6)) ∧
 ((Qv (Sl 1001 (n3) (n3))) ∧
 True)))))))))))))))))))))))))))))))))) ∧
 (((Says C 26 [(D.val (vI n17)), (D.val (vI n9)), (D.val (vI n10))] [(D.val (Value.bool true))]) ∧
 (bcase (b5)
 (bcase (decide (0 ≤ x6))
 (bcase (decide (x6 < (↑n4 : Int)))
 (∃ n18 : Int,
 ((At (l11) (0 + Int.toNat x6 * 2) 1 [(vI n18)]) ∧
 False))
 False)
 False)
 (((Qv (Value.bool false)) ∧
 ((Qv (Value.bool false)) ∧
 ((Qv (Go.Value.tuple [].toArray)) ∧
 ((Qv (Go.Value.tuple [].toArray)) ∧
 ((Qv (Go.Value.tuple [].toArray)) ∧
 ((Qv (Go.Value.tuple [].toArray)) ∧
 ((Qv (Go.Value.tuple [].toArray)) ∧
 ((Qv (Go.Value.tuple [].toArray)) ∧
 ((Qv (Go.Value.tuple [].toArray)) ∧
 ((Qv (Go.Value.tuple [].toArray)) ∧
 ((Qv (Go.Value.tuple [].toArray)) ∧
 ((Qv (Go.Value.tuple [].toArray)) ∧
 ((Qv (Go.Value.tuple [].toArray)) ∧
 ((Qv (Go.Value.tuple [].toArray)) ∧
 ((Qv (Go.Value.tuple [].toArray)) ∧
 ((Qv (Go.Value.tuple [].toArray)) ∧
 ((Qv (Go.Value.tuple [].toArray)) ∧
 ((Qv (Go.Value.tuple [].toArray)) ∧
 ((Qv (Go.Value.tuple [].toArray)) ∧
 ((Qv (Go.Value.tuple [].toArray)) ∧
 ((Qv (Go.Value.tuple [].toArray)) ∧
 ((Qv (Go.Value.tuple [].toArray)) ∧
 ((Qv (Go.Value.tuple [].toArray)) ∧
 ((Qv (Go.Value.tuple [].toArray)) ∧
 ((Qv (Go.Value.tuple [].toArray)) ∧
 ((Qv (Go.Value.tuple [].toArray)) ∧
 ((Qv (Value.bool false)) ∧
 ((bcase (b5)
 ((Value.bool true) = (Value.bool false))
 (Qv (Value.bool false))) ∧
 ((Qv (Value.bool false)) ∧
 ((Qv (Value.bool false)) ∧
 ((Qv (Value.bool false)) ∧
 ((Qv (Pt 1006 6)) ∧
 ((Qv (Pt 1006 5)) ∧
 ((Qv (Pt 1006 5)) ∧
 ((Qv (Pt 1006 5)) ∧
 ((Qv (Go.Value.pointer (Option.some (Go.Addr.mk 1002 (Go.Addr.off { block := 1002, off := 0 + Int.toNat x6 * 2 } + 1) Option.none)))) ∧
 ((bcase (decide (0 ≤ x6))
 (bcase (decide (x6 < (↑n4 : Int)))
 (Qv (Pt 1002 (0 + Int.toNat x6 * 2)))
 False)
 False) ∧
 ((Qv (vI x6)) ∧
 ((Qv (Sl 1002 (n4) (n4))) ∧
 ((Qv (Value.bool false)) ∧
 ((Qv (Value.bool false)) ∧
 ((Qv (Pt 1006 6)) ∧
 ((Qv (Pt 1006 5)) ∧
 ((Qv (Pt 1006 5)) ∧
 ((Qv (Pt 1006 5)) ∧
 ((Qv (Pt 1002 (0 + Int.toNat x6 * 2))) ∧
 ((bcase (decide (0 ≤ x6))
 (bcase (decide (x6 < (↑n4 : Int)))
 (Qv (Pt 1002 (0 + Int.toNat x6 * 2)))
 False)
 False) ∧
 ((Qv (vI x6)) ∧
 ((Qv (Sl 1002 (n4) (n4))) ∧
 ((Qv (Value.bool false)) ∧
 ((Qv (Go.Value.pointer (Option.some (Go.Addr.mk 1002 (Go.Addr.off { block := 1002, off := 0 + Int.toNat x6 * 2 } + 1) Option.none)))) ∧
 ((bcase (decide (0 ≤ x6))
 (bcase (decide (x6 < (↑n4 : Int)))
 (Qv (Pt 1002 (0 + Int.toNat x6 * 2)))
 False)
 False) ∧
 ((Qv (vI x6)) ∧
 ((Qv (Sl 1002 (n4) (n4))) ∧
 ((Qv (Pt 1002 (0 + Int.toNat x6 * 2))) ∧
 ((bcase (decide (0 ≤ x6))
 (bcase (decide (x6 < (↑n4 : Int)))
 (Qv (Pt 1002 (0 + Int.toNat x6 * 2)))
 False)
 False) ∧
 ((Qv (vI x6)) ∧
 ((Qv (Sl 1002 (n4) (n4))) ∧
 ((bcase (decide (0 ≤ x6))
 (bcase (decide (x6 < (↑n3 : Int)))
 (Qv (Pt 1001 (0 + Int.toNat x6 * 1)))
 False)
 False) ∧
 ((Qv (vI x6)) ∧
 ((Qv (Sl 1001 (n3) (n3))) ∧
 True))))))))))))))))))))))))))))))))))))))))))))))))))))))))))))) ∧
 (bcase (decide (0 ≤ x6))
 (bcase (decide (x6 < (↑n4 : Int)))
 (∃ n18 : Int,
 ((At (l11) (0 + Int.toNat x6 * 2) 1 [(vI n18)]) ∧
 (bcase (decide (0 ≤ IntKind.wrap .i64 (x2 + x6)))
 (bcase (decide (IntKind.wrap .i64 (x2 + x6) < (↑n0 : Int)))
 (∃ n19 : Int,
 ((At (l7) (0 + Int.toNat (IntKind.wrap .i64 (x2 + x6)) * 1) 1 [(vI n19)]) ∧
 (bcase (decide (0 ≤ x6))
 (bcase (decide (x6 < (↑n4 : Int)))
 (∃ n20 : Int,
 ((At (l11) (Go.Addr.off { block := 1002, off := 0 + Int.toNat x6 * 2 } + 1) 1 [(vI n20)]) ∧
 (bcase (decide (0 ≤ x6))
 (bcase (decide (x6 < (↑n4 : Int)))
 (∃ n21 : Int,
 ((At (l11) (0 + Int.toNat x6 * 2) 1 [(vI n21)]) ∧
 (((Qv (vI (IntKind.wrap .i64 (IntKind.wrap .i64 (n20 - n21) + 1)))) ∧
 ((Qv (vI (IntKind.wrap .i64 (n20 - n21)))) ∧
 ((∃ n22 : Int,
 ((At (l11) (0 + Int.toNat x6 * 2) 1 [(vI n22)]) ∧
 ((vI n22) = (vI n21)))) ∧
 ((Qv (Pt 1002 (0 + Int.toNat x6 * 2))) ∧
 ((bcase (decide (0 ≤ x6))
 (bcase (decide (x6 < (↑n4 : Int)))
 (Qv (Pt 1002 (0 + Int.toNat x6 * 2)))
 False)
 False) ∧
 ((Qv (vI x6)) ∧
 ((Qv (Sl 1002 (n4) (n4))) ∧
 ((∃ n22 : Int,
 ((At (l11) (Go.Addr.off { block := 1002, off := 0 + Int.toNat x6 * 2 } + 1) 1 [(vI n22)]) ∧
 ((vI n22) = (vI n20)))) ∧
 ((Qv (Go.Value.pointer (Option.some (Go.Addr.mk 1002 (Go.Addr.off { block := 1002, off := 0 + Int.toNat x6 * 2 } + 1) Option.none)))) ∧
 ((bcase (decide (0 ≤ x6))
 (bcase (decide (x6 < (↑n4 : Int)))
 (Qv (Pt 1002 (0 + Int.toNat x6 * 2)))
 False)
 False) ∧
 ((Qv (vI x6)) ∧
 ((Qv (Sl 1002 (n4) (n4))) ∧
 ((∃ n22 : Int,
 ((At (l7) (0 + Int.toNat (IntKind.wrap .i64 (x2 + x6)) * 1) 1 [(vI n22)]) ∧
 ((vI n22) = (vI n19)))) ∧
 ((bcase (decide (0 ≤ IntKind.wrap .i64 (x2 + x6)))
 (bcase (decide (IntKind.wrap .i64 (x2 + x6) < (↑n0 : Int)))
 (Qv (Pt 501 (0 + Int.toNat (IntKind.wrap .i64 (x2 + x6)) * 1)))
 False)
 False) ∧
 ((Qv (vI (IntKind.wrap .i64 (x2 + x6)))) ∧
 ((Qv (vI x6)) ∧
 ((Qv (vI x2)) ∧
 ((Qv (Sl 501 (n0) (c1))) ∧
 ((∃ n22 : Int,
 ((At (l11) (0 + Int.toNat x6 * 2) 1 [(vI n22)]) ∧
 ((vI n22) = (vI n18)))) ∧
 ((Qv (Pt 1002 (0 + Int.toNat x6 * 2))) ∧
 ((bcase (decide (0 ≤ x6))
 (bcase (decide (x6 < (↑n4 : Int)))
 (Qv (Pt 1002 (0 + Int.toNat x6 * 2)))
 False)
 False) ∧
 ((Qv (vI x6)) ∧
 ((Qv (Sl 1002 (n4) (n4))) ∧
 ((Qv (Sl 1004 (n12) (n12))) ∧
 ((Qv (Pt 1003 0)) ∧
 True))))))))))))))))))))))))) ∧
 (∃ n22 : Int,
 ((Says C 25 [(D.val (vI n19)), (D.val (vI (IntKind.wrap .i64 (IntKind.wrap .i64 (n20 - n21) + 1))))] [(D.val (vI n22))]) ∧
 ((((Qv (Sl 1007 1 1)) ∧
 (Qv (Option.some (AObj.cells [(vI (IntKind.wrap .i64 (n18 + n22)))] 3 false 1)))) ∧
 ((Qv (vI (IntKind.wrap .i64 (n18 + n22)))) ∧
 ((Qv (vI (IntKind.wrap .i64 (n20 - n21)))) ∧
 ((∃ n23 : Int,
 ((At (l11) (0 + Int.toNat x6 * 2) 1 [(vI n23)]) ∧
 ((vI n23) = (vI n21)))) ∧
 ((Qv (Pt 1002 (0 + Int.toNat x6 * 2))) ∧
 ((bcase (decide (0 ≤ x6))
 (bcase (decide (x6 < (↑n4 : Int)))
 (Qv (Pt 1002 (0 + Int.toNat x6 * 2)))
 False)
 False) ∧
 ((Qv (vI x6)) ∧
 ((Qv (Sl 1002 (n4) (n4))) ∧
 ((∃ n23 : Int,
 ((At (l11) (Go.Addr.off { block := 1002, off := 0 + Int.toNat x6 * 2 } + 1) 1 [(vI n23)]) ∧
 ((vI n23) = (vI n20)))) ∧
 ((Qv (Go.Value.pointer (Option.some (Go.Addr.mk 1002 (Go.Addr.off { block := 1002, off := 0 + Int.toNat x6 * 2 } + 1) Option.none)))) ∧
 ((bcase (decide (0 ≤ x6))
 (bcase (decide (x6 < (↑n4 : Int)))
 (Qv (Pt 1002 (0 + Int.toNat x6 * 2)))
 False)
 False) ∧
 ((Qv (vI x6)) ∧
 ((Qv (Sl 1002 (n4) (n4))) ∧
 ((bcase (decide (0 ≤ IntKind.wrap .i64 (x2 + x6)))
 (bcase (decide (IntKind.wrap .i64 (x2 + x6) < (↑n0 : Int)))
 (Qv (Pt 501 (0 + Int.toNat (IntKind.wrap .i64 (x2 + x6)) * 1)))
 False)
 False) ∧
 ((Qv (vI (IntKind.wrap .i64 (x2 + x6)))) ∧
 ((Qv (vI x6)) ∧
 ((Qv (vI x2)) ∧
 ((Qv (Sl 501 (n0) (c1))) ∧
 ((∃ n23 : Int,
 ((At (l11) (0 + Int.toNat x6 * 2) 1 [(vI n23)]) ∧
 ((vI n23) = (vI n18)))) ∧
 ((Qv (Pt 1002 (0 + Int.toNat x6 * 2))) ∧
 ((bcase (decide (0 ≤ x6))
 (bcase (decide (x6 < (↑n4 : Int)))
 (Qv (Pt 1002 (0 + Int.toNat x6 * 2)))
 False)
 False) ∧
 ((Qv (vI x6)) ∧
 ((Qv (Sl 1002 (n4) (n4))) ∧
 ((Qv (Sl 1004 (n12) (n12))) ∧
 ((Qv (Pt 1003 0)) ∧
 True))))))))))))))))))))))))) ∧
 (bcase (decide (n12 < n12 + 1))
 (bcase (decide ((2 * (n12 + 1) + 768) * 8 ≤ 281474976710656))
 (bcase (decide (n12 + 1 ≤ 1099511627776))
 (bcase (decide (0 + n12 * 1 ≤ List.length l15))
 (bcase (decide (0 + n12 * 1 = List.length l15))
 (((Qv (Pt 1003 0)) ∧
 ((Qv (vI (IntKind.wrap .i64 (n18 + n22)))) ∧
 ((Qv (vI (IntKind.wrap .i64 (n20 - n21)))) ∧
 ((∃ n23 : Int,
 ((At (l11) (0 + Int.toNat x6 * 2) 1 [(vI n23)]) ∧
 ((vI n23) = (vI n21)))) ∧
 ((Qv (Pt 1002 (0 + Int.toNat x6 * 2))) ∧
 ((bcase (decide (0 ≤ x6))
 (bcase (decide (x6 < (↑n4 : Int)))
 (Qv (Pt 1002 (0 + Int.toNat x6 * 2)))
 False)
 False) ∧
 ((Qv (vI x6)) ∧
 ((Qv (Sl 1002 (n4) (n4))) ∧
 ((∃ n23 : Int,
 ((At (l11) (Go.Addr.off { block := 1002, off := 0 + Int.toNat x6 * 2 } + 1) 1 [(vI n23)]) ∧
 ((vI n23) = (vI n20)))) ∧
 ((Qv (Go.Value.pointer (Option.some (Go.Addr.mk 1002 (Go.Addr.off { block := 1002, off := 0 + Int.toNat x6 * 2 } + 1) Option.none)))) ∧
 ((bcase (decide (0 ≤ x6))
 (bcase (decide (x6 < (↑n4 : Int)))
 (Qv (Pt 1002 (0 + Int.toNat x6 * 2)))
 False)
 False) ∧
 ((Qv (vI x6)) ∧
 ((Qv (Sl 1002 (n4) (n4))) ∧
 ((bcase (decide (0 ≤ IntKind.wrap .i64 (x2 + x6)))
 (bcase (decide (IntKind.wrap .i64 (x2 + x6) < (↑n0 : Int)))
 (Qv (Pt 501 (0 + Int.toNat (IntKind.wrap .i64 (x2 + x6)) * 1)))
 False)
 False) ∧
 ((Qv (vI (IntKind.wrap .i64 (x2 + x6)))) ∧
 ((Qv (vI x6)) ∧
 ((Qv (vI x2)) ∧
 ((Qv (Sl 501 (n0) (c1))) ∧
 ((∃ n23 : Int,
 ((At (l11) (0 + Int.toNat x6 * 2) 1 [(vI n23)]) ∧
 ((vI n23) = (vI n18)))) ∧
 ((Qv (Pt 1002 (0 + Int.toNat x6 * 2))) ∧
 ((bcase (decide (0 ≤ x6))
 (bcase (decide (x6 < (↑n4 : Int)))
 (Qv (Pt 1002 (0 + Int.toNat x6 * 2)))
 False)
 False) ∧
 ((Qv (vI x6)) ∧
 ((Qv (Sl 1002 (n4) (n4))) ∧
 ((Qv (Pt 1003 0)) ∧
 True)))))))))))))))))))))))) ∧
 (True ∧
 (bcase (decide (0 ≤ IntKind.wrap .i64 (IntKind.wrap .i64 (2 * x2) + x6)))
 (bcase (decide (IntKind.wrap .i64 (IntKind.wrap .i64 (2 * x2) + x6) < (↑n0 : Int)))
 (∃ n23 : Int,
 ((At (l7) (0 + Int.toNat (IntKind.wrap .i64 (IntKind.wrap .i64 (2 * x2) + x6)) * 1) 1 [(vI n23)]) ∧
 (((Qv (vI (IntKind.wrap .i64 (IntKind.wrap .i64 (n7 - n6) + 1)))) ∧
 ((Qv (vI (IntKind.wrap .i64 (n7 - n6)))) ∧
 ((Qv (vI n6)) ∧
 ((Qv (Pt 1006 3)) ∧
 ((Qv (Pt 1006 3)) ∧
 ((Qv (vI n7)) ∧
 ((Qv (Pt 1006 4)) ∧
 ((Qv (Pt 1006 3)) ∧
 ((∃ n24 : Int,
 ((At (l7) (0 + Int.toNat (IntKind.wrap .i64 (IntKind.wrap .i64 (2 * x2) + x6)) * 1) 1 [(vI n24)]) ∧
 ((vI n24) = (vI n23)))) ∧
 ((bcase (decide (0 ≤ IntKind.wrap .i64 (IntKind.wrap .i64 (2 * x2) + x6)))
 (bcase (decide (IntKind.wrap .i64 (IntKind.wrap .i64 (2 * x2) + x6) < (↑n0 : Int)))
 (Qv (Pt 501 (0 + Int.toNat (IntKind.wrap .i64 (IntKind.wrap .i64 (2 * x2) + x6)) * 1)))
 False)
 False) ∧
 ((Qv (vI (IntKind.wrap .i64 (IntKind.wrap .i64 (2 * x2) + x6)))) ∧
 ((Qv (vI x6)) ∧
 ((Qv (vI (IntKind.wrap .i64 (2 * x2)))) ∧
 ((Qv (vI x2)) ∧
 ((Qv (Sl 501 (n0) (c1))) ∧
 ((Qv (vI n6)) ∧
 ((Qv (Pt 1006 3)) ∧
 ((Qv (Pt 1006 3)) ∧
 ((Qv (Sl 1005 (n13) (n13))) ∧
 ((Qv (Pt 1003 1)) ∧
 True)))))))))))))))))))) ∧
 (∃ n24 : Int,
 ((Says C 25 [(D.val (vI n23)), (D.val (vI (IntKind.wrap .i64 (IntKind.wrap .i64 (n7 - n6) + 1))))] [(D.val (vI n24))]) ∧
 ((((Qv (Sl 1009 1 1)) ∧
 (Qv (Option.some (AObj.cells [(vI (IntKind.wrap .i64 (n6 + n24)))] 3 false 1)))) ∧
 ((Qv (vI (IntKind.wrap .i64 (n6 + n24)))) ∧
 ((Qv (vI (IntKind.wrap .i64 (n7 - n6)))) ∧
 ((Qv (vI n6)) ∧
 ((Qv (Pt 1006 3)) ∧
 ((Qv (Pt 1006 3)) ∧
 ((Qv (vI n7)) ∧
 ((Qv (Pt 1006 4)) ∧
 ((Qv (Pt 1006 3)) ∧
 ((bcase (decide (0 ≤ IntKind.wrap .i64 (IntKind.wrap .i64 (2 * x2) + x6)))
 (bcase (decide (IntKind.wrap .i64 (IntKind.wrap .i64 (2 * x2) + x6) < (↑n0 : Int)))
 (Qv (Pt 501 (0 + Int.toNat (IntKind.wrap .i64 (IntKind.wrap .i64 (2 * x2) + x6)) * 1)))
 False)
 False) ∧
 ((Qv (vI (IntKind.wrap .i64 (IntKind.wrap .i64 (2 * x2) + x6)))) ∧
 ((Qv (vI x6)) ∧
 ((Qv (vI (IntKind.wrap .i64 (2 * x2)))) ∧
 ((Qv (vI x2)) ∧
 ((Qv (Sl 501 (n0) (c1))) ∧
 ((Qv (vI n6)) ∧
 ((Qv (Pt 1006 3)) ∧
 ((Qv (Pt 1006 3)) ∧
 ((Qv (Sl 1005 (n13) (n13))) ∧
 ((Qv (Pt 1003 1)) ∧
 True)))))))))))))))))))) ∧
 (bcase (decide (n13 < n13 + 1))
 (bcase (decide ((2 * (n13 + 1) + 768) * 8 ≤ 281474976710656))
 (bcase (decide (n13 + 1 ≤ 1099511627776))
 (bcase (decide (0 + n13 * 1 ≤ List.length l16))
 (bcase (decide (0 + n13 * 1 = List.length l16))
 (((Qv (Pt 1003 1)) ∧
 ((Qv (vI (IntKind.wrap .i64 (n6 + n24)))) ∧
 ((Qv (vI (IntKind.wrap .i64 (n7 - n6)))) ∧
 ((Qv (vI n6)) ∧
 ((Qv (Pt 1006 3)) ∧
 ((Qv (Pt 1006 3)) ∧
 ((Qv (vI n7)) ∧
 ((Qv (Pt 1006 4)) ∧
 ((Qv (Pt 1006 3)) ∧
 ((bcase (decide (0 ≤ IntKind.wrap .i64 (IntKind.wrap .i64 (2 * x2) + x6)))
 (bcase (decide (IntKind.wrap .i64 (IntKind.wrap .i64 (2 * x2) + x6) < (↑n0 : Int)))
 (Qv (Pt 501 (0 + Int.toNat (IntKind.wrap .i64 (IntKind.wrap .i64 (2 * x2) + x6)) * 1)))
 False)
 False) ∧
 ((Qv (vI (IntKind.wrap .i64 (IntKind.wrap .i64 (2 * x2) + x6)))) ∧
 ((Qv (vI x6)) ∧
 ((Qv (vI (IntKind.wrap .i64 (2 * x2)))) ∧
 ((Qv (vI x2)) ∧
 ((Qv (Sl 501 (n0) (c1))) ∧
 ((Qv (vI n6)) ∧
 ((Qv (Pt 1006 3)) ∧
 ((Qv (Pt 1006 3)) ∧
 ((Qv (Pt 1003 1)) ∧
 True))))))))))))))))))) ∧
 (True ∧
 (B [(Prod.mk 1 (Go.Value.slice Option.none 0 0)), (Prod.mk 2 (Sl 501 (n0) (c1))), (Prod.mk 3 (Pt 1000 0)), (Prod.mk 7 (vI x2)), (Prod.mk 8 (Sl 1001 (n3) (n3))), (Prod.mk 11 (Sl 1002 (n4) (n4))), (Prod.mk 15 (Go.Value.bool (b5))), (Prod.mk 19 (Pt 1003 0)), (Prod.mk 20 (vI (IntKind.wrap .i64 (x6 + 1))))] [(Prod.mk 501 (AObj.sym (l7) false 1)), (Prod.mk 1000 (AObj.cells [(Sl 500 (n8) (c9))] 24 false 1)), (Prod.mk 1001 (AObj.sym (l10) true 1)), (Prod.mk 1002 (AObj.sym (l11) true 2)), (Prod.mk 1003 (AObj.cells [(Sl 1004 (n12 + 1) (n12 + 1)), (Sl 1005 (n13 + 1) (n13 + 1))] 27 false 2)), (Prod.mk 500 (AObj.sym (l14) false 7)), (Prod.mk 1004 (AObj.sym ((List.take (n12 * 1) (List.drop 0 l15)) ++ [(vI (IntKind.wrap .i64 (n18 + n22)))]) true 1)), (Prod.mk 1005 (AObj.sym ((List.take (n13 * 1) (List.drop 0 l16)) ++ [(vI (IntKind.wrap .i64 (n6 + n24)))]) true 1))])))
 False)
 False)
 False)
 False)
 False)))))))
 False)
 False)))
 False)
 False)
 False)
 False)
 False)))))))
 False)
 False)))
 False)
 False)))
 False)
 False)))
 False)
 False)))) ∨
 ((Says C 26 [(D.val (vI n17)), (D.val (vI n9)), (D.val (vI n10))] [(D.val (Value.bool false))]) ∧
 (((Qv (Value.bool true)) ∧
 ((Qv (Go.Value.tuple [].toArray)) ∧
 ((Qv (Go.Value.tuple [].toArray)) ∧
 ((Qv (Go.Value.tuple [].toArray)) ∧
 ((Qv (Go.Value.tuple [].toArray)) ∧
 ((Qv (Go.Value.tuple [].toArray)) ∧
 ((Qv (Go.Value.tuple [].toArray)) ∧
 ((Qv (Go.Value.tuple [].toArray)) ∧
 ((Qv (Go.Value.tuple [].toArray)) ∧
 ((Qv (Go.Value.tuple [].toArray)) ∧
 ((Qv (Go.Value.tuple [].toArray)) ∧
 ((Qv (Go.Value.tuple [].toArray)) ∧
 ((Qv (Go.Value.tuple [].toArray)) ∧
 ((Qv (Go.Value.tuple [].toArray)) ∧
 ((Qv (Go.Value.tuple [].toArray)) ∧
 ((Qv (Go.Value.tuple [].toArray)) ∧
 ((Qv (Go.Value.tuple [].toArray)) ∧
 ((Qv (Go.Value.tuple [].toArray)) ∧
 ((Qv (Go.Value.tuple [].toArray)) ∧
 ((Qv (Go.Value.tuple [].toArray)) ∧
 ((Qv (Go.Value.tuple [].toArray)) ∧
 ((Qv (Go.Value.tuple [].toArray)) ∧
 ((Qv (Go.Value.tuple [].toArray)) ∧
 ((Qv (Go.Value.tuple [].toArray)) ∧
 ((Qv (Go.Value.tuple [].toArray)) ∧
 ((Qv (Go.Value.tuple [].toArray)) ∧
 ((Qv (Go.Value.tuple [].toArray)) ∧
 ((Qv (Go.Value.tuple [].toArray)) ∧
 ((Qv (Value.bool true)) ∧
 ((Qv (Value.bool true)) ∧
 ((Qv (Value.bool true)) ∧
 ((Qv (Pt 1006 6)) ∧
 ((Qv (Pt 1006 5)) ∧
 ((Qv (Pt 1006 5)) ∧
 ((Qv (Pt 1006 5)) ∧
 ((Qv (Go.Value.pointer (Option.some (Go.Addr.mk 1002 (Go.Addr.off { block := 1002, off := 0 + Int.toNat x6 * 2 } + 1) Option.none)))) ∧
 ((bcase (decide (0 ≤ x6))
 (bcase (decide (x6 < (↑n4 : Int)))
 (Qv (Pt 1002 (0 + Int.toNat x6 * 2)))
 False)
 False) ∧
 ((Qv (vI x6)) ∧
 ((Qv (Sl 1002 (n4) (n4))) ∧
 ((Qv (Value.bool false)) ∧
 ((Qv (Value.bool false)) ∧
 ((Qv (Pt 1006 6)) ∧
 ((Qv (Pt 1006 5)) ∧
 ((Qv (Pt 1006 5)) ∧
 ((Qv (Pt 1006 5)) ∧
 ((Qv (Pt 1002 (0 + Int.toNat x6 * 2))) ∧
 ((bcase (decide (0 ≤ x6))
 (bcase (decide (x6 < (↑n4 : Int)))
 (Qv (Pt 1002 (0 + Int.toNat x6 * 2)))
 False)
 False) ∧
 ((Qv (vI x6)) ∧
 ((Qv (Sl 1002 (n4) (n4))) ∧
 ((Qv (Value.bool false)) ∧
 ((Qv (Go.Value.pointer (Option.some (Go.Addr.mk 1002 (Go.Addr.off { block := 1002, off := 0 + Int.toNat x6 * 2 } + 1) Option.none)))) ∧
 ((bcase (decide (0 ≤ x6))
 (bcase (decide (x6 < (↑n4 : Int)))
 (Qv (Pt 1002 (0 + Int.toNat x6 * 2)))
 False)
 False) ∧
 ((Qv (vI x6)) ∧
 ((Qv (Sl 1002 (n4) (n4))) ∧
 ((Qv (Pt 1002 (0 + Int.toNat x6 * 2))) ∧
 ((bcase (decide (0 ≤ x6))
 (bcase (decide (x6 < (↑n4 : Int)))
 (Qv (Pt 1002 (0 + Int.toNat x6 * 2)))
 False)
 False) ∧
 ((Qv (vI x6)) ∧
 ((Qv (Sl 1002 (n4) (n4))) ∧
 ((bcase (decide (0 ≤ x6))
 (bcase (decide (x6 < (↑n3 : Int)))
 (Qv (Pt 1001 (0 + Int.toNat x6 * 1)))
 False)
 False) ∧
 ((Qv (vI x6)) ∧
 ((Qv (Sl 1001 (n3) (n3))) ∧
 True))))))))))))))))))))))))))))))))))))))))))))))))))))))))))))) ∧
 (k [(D.val (Value.bool false))])))))))
 False)
 False)) ∨
 ((Says C 26 [(D.val (vI n16)), (D.val (vI n9)), (D.val (vI n10))] [(D.val (Value.bool false))]) ∧
 (((Qv (Go.Value.tuple [].toArray)) ∧
 ((Qv (Go.Value.tuple [].toArray)) ∧
 ((Qv (Go.Value.tuple [].toArray)) ∧
 ((Qv (Go.Value.tuple [].toArray)) ∧
 ((Qv (Go.Value.tuple [].toArray)) ∧
 ((Qv (Go.Value.tuple [].toArray)) ∧
 ((Qv (Go.Value.tuple [].toArray)) ∧
 ((Qv (Go.Value.tuple [].toArray)) ∧
 ((Qv (Go.Value.tuple [].toArray)) ∧
 ((Qv (Go.Value.tuple [].toArray)) ∧
 ((Qv (Go.Value.tuple [].toArray)) ∧
 ((Qv (Value.bool true)) ∧
 ((Qv (Value.bool true)) ∧
 ((Qv (Value.bool true)) ∧
 ((Qv (Pt 1006 6)) ∧
 ((Qv (Pt 1006 5)) ∧
 ((Qv (Pt 1006 5)) ∧
 ((Qv (Pt 1006 5)) ∧
 ((Qv (Pt 1002 (0 + Int.toNat x6 * 2))) ∧
 ((bcase (decide (0 ≤ x6))
 (bcase (decide (x6 < (↑n4 : Int)))
 (Qv (Pt 1002 (0 + Int.toNat x6 * 2)))
 False)
 False) ∧
 ((Qv (vI x6)) ∧
 ((Qv (Sl 1002 (n4) (n4))) ∧
 ((Qv (Value.bool false)) ∧
 ((Qv (Go.Value.pointer (Option.some (Go.Addr.mk 1002 (Go.Addr.off { block := 1002, off := 0 + Int.toNat x6 * 2 } + 1) Option.none)))) ∧
 ((bcase (decide (0 ≤ x6))
 (bcase (decide (x6 < (↑n4 : Int)))
 (Qv (Pt 1002 (0 + Int.toNat x6 * 2)))
 False)
 False) ∧
 ((Qv (vI x6)) ∧
 ((Qv (Sl 1002 (n4) (n4))) ∧
 ((Qv (Pt 1002 (0 + Int.toNat x6 * 2))) ∧
 ((bcase (decide (0 ≤ x6))
 (bcase (decide (x6 < (↑n4 : Int)))
 (Qv (Pt 1002 (0 + Int.toNat x6 * 2)))
 False)
 False) ∧
 ((Qv (vI x6)) ∧
 ((Qv (Sl 1002 (n4) (n4))) ∧
 ((bcase (decide (0 ≤ x6))
 (bcase (decide (x6 < (↑n3 : Int)))
 (Qv (Pt 1001 (0 + Int.toNat x6 * 1)))
 False)
 False) ∧
 ((Qv (vI x6)) ∧
 ((Qv (Sl 1001 (n3) (n3))) ∧
 True)))))))))))))))))))))))))))))))))) ∧
 (((Qv (Value.bool true)) ∧
 ((Qv (Go.Value.tuple [].toArray)) ∧
 ((Qv (Go.Value.tuple [].toArray)) ∧
 ((Qv (Go.Value.tuple [].toArray)) ∧
 ((Qv (Go.Value.tuple [].toArray)) ∧
 ((Qv (Go.Value.tuple [].toArray)) ∧
 ((Qv (Go.Value.tuple [].toArray)) ∧
 ((Qv (Go.Value.tuple [].toArray)) ∧
 ((Qv (Go.Value.tuple [].toArray)) ∧
 ((Qv (Go.Value.tuple [].toArray)) ∧
 ((Qv (Go.Value.tuple [].toArray)) ∧
 ((Qv (Go.Value.tuple [].toArray)) ∧
 ((Qv (Go.Value.tuple [].toArray)) ∧
 ((Qv (Go.Value.tuple [].toArray)) ∧
 ((Qv (Go.Value.tuple [].toArray)) ∧
 ((Qv (Go.Value.tuple [].toArray)) ∧
 ((Qv (Go.Value.tuple [].toArray)) ∧
 ((Qv (Go.Value.tuple [].toArray)) ∧
 ((Qv (Go.Value.tuple [].toArray)) ∧
 ((Qv (Go.Value.tuple [].toArray)) ∧
 ((Qv (Go.Value.tuple [].toArray)) ∧
 ((Qv (Go.Value.tuple [].toArray)) ∧
 ((Qv (Go.Value.tuple [].toArray)) ∧
 ((Qv (Go.Value.tuple [].toArray)) ∧
 ((Qv (Go.Value.tuple [].toArray)) ∧
 ((Qv (Go.Value.tuple [].toArray)) ∧
 ((Qv (Go.Value.tuple [].toArray)) ∧
 ((Qv (Go.Value.tuple [].toArray)) ∧
 ((Qv (Value.bool true)) ∧
 ((Qv (Value.bool true)) ∧
 ((Qv (Go.Value.tuple [].toArray)) ∧
 ((Qv (Go.Value.tuple [].toArray)) ∧
 ((Qv (Go.Value.tuple [].toArray)) ∧
 ((Qv (Go.Value.tuple [].toArray)) ∧
 ((Qv (Go.Value.tuple [].toArray)) ∧
 ((Qv (Go.Value.tuple [].toArray)) ∧
 ((Qv (Go.Value.tuple [].toArray)) ∧
 ((Qv (Go.Value.tuple [].toArray)) ∧
 ((Qv (Go.Value.tuple [].toArray)) ∧
 ((Qv (Value.bool true)) ∧
 ((Qv (Value.bool true)) ∧
 ((Qv (Pt 1006 6)) ∧
 ((Qv (Pt 1006 5)) ∧
 ((Qv (Pt 1006 5)) ∧
 ((Qv (Pt 1006 5)) ∧
 ((Qv (Pt 1002 (0 + Int.toNat x6 * 2))) ∧
 ((bcase (decide (0 ≤ x6))
 (bcase (decide (x6 < (↑n4 : Int)))
 (Qv (Pt 1002 (0 + Int.toNat x6 * 2)))
 False)
 False) ∧
 ((Qv (vI x6)) ∧
 ((Qv (Sl 1002 (n4) (n4))) ∧
 ((Qv (Value.bool false)) ∧
 ((Qv (Go.Value.pointer (Option.some (Go.Addr.mk 1002 (Go.Addr.off { block := 1002, off := 0 + Int.toNat x6 * 2 } + 1) Option.none)))) ∧
 ((bcase (decide (0 ≤ x6))
 (bcase (decide (x6 < (↑n4 : Int)))
 (Qv (Pt 1002 (0 + Int.toNat x6 * 2)))
 False)
 False) ∧
 ((Qv (vI x6)) ∧
 ((Qv (Sl 1002 (n4) (n4))) ∧
 ((Qv (Pt 1002 (0 + Int.toNat x6 * 2))) ∧
 ((bcase (decide (0 ≤ x6))
 (bcase (decide (x6 < (↑n4 : Int)))
 (Qv (Pt 1002 (0 + Int.toNat x6 * 2)))
 False)
 False) ∧
 ((Qv (vI x6)) ∧
 ((Qv (Sl 1002 (n4) (n4))) ∧
 ((bcase (decide (0 ≤ x6))
 (bcase (decide (x6 < (↑n3 : Int)))
 (Qv (Pt 1001 (0 + Int.toNat x6 * 1)))
 False)
 False) ∧
 ((Qv (vI x6)) ∧
 ((Qv (Sl 1001 (n3) (n3))) ∧
 True))))))))))))))))))))))))))))))))))))))))))))))))))))))))))))) ∧
 (k [(D.val (Value.bool false))]))))))))
 False)
 False)) ∨
 ((Says C 26 [(D.val (vI n11)), (D.val (vI n14)), (D.val (vI n15))] [(D.val (Value.bool false))]) ∧
 (((Qv (Go.Value.tuple [].toArray)) ∧
 ((Qv (Go.Value.tuple [].toArray)) ∧
 ((Qv (Go.Value.tuple [].toArray)) ∧
 ((Qv (Go.Value.tuple [].toArray)) ∧
 ((Qv (Go.Value.tuple [].toArray)) ∧
 ((Qv (Go.Value.tuple [].toArray)) ∧
 ((Qv (Go.Value.tuple [].toArray)) ∧
 ((Qv (Go.Value.tuple [].toArray)) ∧
 ((Qv (Go.Value.tuple [].toArray)) ∧
 ((Qv (Go.Value.tuple [].toArray)) ∧
 ((Qv (Go.Value.tuple [].toArray)) ∧
 ((Qv (Value.bool true)) ∧
 ((Qv (Value.bool true)) ∧
 ((Qv (Go.Value.pointer (Option.some (Go.Addr.mk 1002 (Go.Addr.off { block := 1002, off := 0 + Int.toNat x6 * 2 } + 1) Option.none)))) ∧
 ((bcase (decide (0 ≤ x6))
 (bcase (decide (x6 < (↑n4 : Int)))
 (Qv (Pt 1002 (0 + Int.toNat x6 * 2)))
 False)
 False) ∧
 ((Qv (vI x6)) ∧
 ((Qv (Sl 1002 (n4) (n4))) ∧
 ((Qv (Pt 1002 (0 + Int.toNat x6 * 2))) ∧
 ((bcase (decide (0 ≤ x6))
 (bcase (decide (x6 < (↑n4 : Int)))
 (Qv (Pt 1002 (0 + Int.toNat x6 * 2)))
 False)
 False) ∧
 ((Qv (vI x6)) ∧
 ((Qv (Sl 1002 (n4) (n4))) ∧
 ((bcase (decide (0 ≤ x6))
 (bcase (decide (x6 < (↑n3 : Int)))
 (Qv (Pt 1001 (0 + Int.toNat x6 * 1)))
 False)
 False) ∧
 ((Qv (vI x6)) ∧
 ((Qv (Sl 1001 (n3) (n3))) ∧
 True)))))))))))))))))))))))) ∧
 (((Qv (Go.Value.tuple [].toArray)) ∧
 ((Qv (Go.Value.tuple [].toArray)) ∧
 ((Qv (Go.Value.tuple [].toArray)) ∧
 ((Qv (Go.Value.tuple [].toArray)) ∧
 ((Qv (Go.Value.tuple [].toArray)) ∧
 ((Qv (Go.Value.tuple [].toArray)) ∧
 ((Qv (Go.Value.tuple [].toArray)) ∧
 ((Qv (Go.Value.tuple [].toArray)) ∧
 ((Qv (Go.Value.tuple [].toArray)) ∧
 ((Qv (Go.Value.tuple [].toArray)) ∧
 ((Qv (Go.Value.tuple [].toArray)) ∧
 ((Qv (Value.bool true)) ∧
 ((Qv (Value.bool true)) ∧
 ((Qv (Go.Value.tuple [].toArray)) ∧
 ((Qv (Go.Value.tuple [].toArray)) ∧
 ((Qv (Go.Value.tuple [].toArray)) ∧
 ((Qv (Go.Value.tuple [].toArray)) ∧
 ((Qv (Go.Value.tuple [].toArray)) ∧
 ((Qv (Go.Value.tuple [].toArray)) ∧
 ((Qv (Go.Value.tuple [].toArray)) ∧
 ((Qv (Go.Value.tuple [].toArray)) ∧
 ((Qv (Go.Value.tuple [].toArray)) ∧
 ((Qv (Value.bool true)) ∧
 ((Qv (Go.Value.pointer (Option.some (Go.Addr.mk 1002 (Go.Addr.off { block := 1002, off := 0 + Int.toNat x6 * 2 } + 1) Option.none)))) ∧
 ((bcase (decide (0 ≤ x6))
 (bcase (decide (x6 < (↑n4 : Int)))
 (Qv (Pt 1002 (0 + Int.toNat x6 * 2)))
 False)
 False) ∧
 ((Qv (vI x6)) ∧
 ((Qv (Sl 1002 (n4) (n4))) ∧
 ((Qv (Pt 1002 (0 + Int.toNat x6 * 2))) ∧
 ((bcase (decide (0 ≤ x6))
 (bcase (decide (x6 < (↑n4 : Int)))
 (Qv (Pt 1002 (0 + Int.toNat x6 * 2)))
 False)
 False) ∧
 ((Qv (vI x6)) ∧
 ((Qv (Sl 1002 (n4) (n4))) ∧
 ((bcase (decide (0 ≤ x6))
 (bcase (decide (x6 < (↑n3 : Int)))
 (Qv (Pt 1001 (0 + Int.toNat x6 * 1)))
 False)
 False) ∧
 ((Qv (vI x6)) ∧
 ((Qv (Sl 1001 (n3) (n3))) ∧
 True)))))))))))))))))))))))))))))))))) ∧
 (((Qv (Value.bool true)) ∧
 ((Qv (Go.Value.tuple [].toArray)) ∧
 ((Qv (Go.Value.tuple [].toArray)) ∧
 ((Qv (Go.Value.tuple [].toArray)) ∧
 ((Qv (Go.Value.tuple [].toArray)) ∧
 ((Qv (Go.Value.tuple [].toArray)) ∧
 ((Qv (Go.Value.tuple [].toArray)) ∧
 ((Qv (Go.Value.tuple [].toArray)) ∧
 ((Qv (Go.Value.tuple [].toArray)) ∧
 ((Qv (Go.Value.tuple [].toArray)) ∧
 ((Qv (Go.Value.tuple [].toArray)) ∧
 ((Qv (Go.Value.tuple [].toArray)) ∧
 ((Qv (Go.Value.tuple [].toArray)) ∧
 ((Qv (Go.Value.tuple [].toArray)) ∧
 ((Qv (Go.Value.tuple [].toArray)) ∧
 ((Qv (Go.Value.tuple [].toArray)) ∧
 ((Qv (Go.Value.tuple [].toArray)) ∧
 ((Qv (Go.Value.tuple [].toArray)) ∧
 ((Qv (Go.Value.tuple [].toArray)) ∧
 ((Qv (Go.Value.tuple [].toArray)) ∧
 ((Qv (Go.Value.tuple [].toArray)) ∧
 ((Qv (Go.Value.tuple [].toArray)) ∧
 ((Qv (Go.Value.tuple [].toArray)) ∧
 ((Qv (Go.Value.tuple [].toArray)) ∧
 ((Qv (Go.Value.tuple [].toArray)) ∧
 ((Qv (Go.Value.tuple [].toArray)) ∧
 ((Qv (Go.Value.tuple [].toArray)) ∧
 ((Qv (Go.Value.tuple [].toArray)) ∧
 ((Qv (Value.bool true)) ∧
 ((Qv (Value.bool true)) ∧
 ((Qv (Go.Value.tuple [].toArray)) ∧
 ((Qv (Go.Value.tuple [].toArray)) ∧
 ((Qv (Go.Value.tuple [].toArray)) ∧
 ((Qv (Go.Value.tuple [].toArray)) ∧
 ((Qv (Go.Value.tuple [].toArray)) ∧
 ((Qv (Go.Value.tuple [].toArray)) ∧
 ((Qv (Go.Value.tuple [].toArray)) ∧
 ((Qv (Go.Value.tuple [].toArray)) ∧
 ((Qv (Go.Value.tuple [].toArray)) ∧
 ((Qv (Value.bool true)) ∧
 ((Qv (Go.Value.tuple [].toArray)) ∧
 ((Qv (Go.Value.tuple [].toArray)) ∧
 ((Qv (Go.Value.tuple [].toArray)) ∧
 ((Qv (Go.Value.tuple [].toArray)) ∧
 ((Qv (Go.Value.tuple [].toArray)) ∧
 ((Qv (Go.Value.tuple [].toArray)) ∧
 ((Qv (Go.Value.tuple [].toArray)) ∧
 ((Qv (Go.Value.tuple [].toArray)) ∧
 ((Qv (Go.Value.tuple [].toArray)) ∧
 ((Qv (Value.bool true)) ∧
 ((Qv (Go.Value.pointer (Option.some (Go.Addr.mk 1002 (Go.Addr.off { block := 1002, off := 0 + Int.toNat x6 * 2 } + 1) Option.none)))) ∧
 ((bcase (decide (0 ≤ x6))
 (bcase (decide (x6 < (↑n4 : Int)))
 (Qv (Pt 1002 (0 + Int.toNat x6 * 2)))
 False)
 False) ∧
 ((Qv (vI x6)) ∧
 ((Qv (Sl 1002 (n4) (n4))) ∧
 ((Qv (Pt 1002 (0 + Int.toNat x6 * 2))) ∧
 ((bcase (decide (0 ≤ x6))
 (bcase (decide (x6 < (↑n4 : Int)))
 (Qv (Pt 1002 (0 + Int.toNat x6 * 2)))
 False)
 False) ∧
 ((Qv (vI x6)) ∧
 ((Qv (Sl 1002 (n4) (n4))) ∧
 ((bcase (decide (0 ≤ x6))
 (bcase (decide (x6 < (↑n3 : Int)))
 (Qv (Pt 1001 (0 + Int.toNat x6 * 1)))
 False)
 False) ∧
 ((Qv (vI x6)) ∧
 ((Qv (Sl 1001 (n3) (n3))) ∧
 True))))))))))))))))))))))))))))))))))))))))))))))))))))))))))))) ∧
 (k [(D.val (Value.bool false))])))))))))
 False)
 False)))
 False)
 False)))
 False)
 False)))))))))
 False)
 False)
 (X 4 [(Prod.mk 3 (Pt 1000 0)), (Prod.mk 7 (vI x2)), (Prod.mk 11 (Sl 1001 (n4) (n4))), (Prod.mk 19 (Pt 1002 0))] [(Prod.mk 1000 (AObj.cells [(Sl 500 (n8) (c9))] 24 false 1)), (Prod.mk 1001 (AObj.sym (l11) true 2)), (Prod.mk 1002 (AObj.cells [(Sl 1003 (n12) (n12)), (Sl 1004 (n13) (n13))] 27 false 2)), (Prod.mk 500 (AObj.sym (l14) false 7)), (Prod.mk 1003 (AObj.sym (l15) true 1)), (Prod.mk 1004 (AObj.sym (l16) true 1))])) := by kernel_rfl
def nKpn9 (C : Ct) (L : AtLoop) (x0 : Int) (n1 : Nat) (n2 : Nat) (c3 : Nat) (l4 : List Value) (n5 : Nat) (n6 : Nat) (l7 : List Value) (l8 : List Value) (l9 : List Value) (k : List D → Prop) : Prop := wpNext Try.prog (hL C) L 5 4 .normal [(3, (Value.pointer (some ⟨1000, 0, none⟩))), (7, (Value.int .i64 x0)), (11, (Value.slice (some ⟨1001, 0, none⟩) n1 n1)), (19, (Value.pointer (some ⟨1002, 0, none⟩)))] [(1000, (AObj.cells [(Value.slice (some ⟨500, 0, none⟩) n2 c3)] 24 false 1)), (1001, (AObj.sym l4 true 2)), (1002, (AObj.cells [(Value.slice (some ⟨1003, 0, none⟩) n5 n5), (Value.slice (some ⟨1004, 0, none⟩) n6 n6)] 27 false 2)), (500, (AObj.sym l7 false 7)), (1003, (AObj.sym l8 true 1)), (1004, (AObj.sym l9 true 1))] (dataK k)
theorem nKpn9_text (C : Ct) (L : AtLoop) (x0 : Int) (n1 : Nat) (n2 : Nat) (c3 : Nat) (l4 : List Go.Value) (n5 : Nat) (n6 : Nat) (l7 : List Go.Value) (l8 : List Go.Value) (l9 : List Go.Value) (k : List D → Prop) : nKpn9 C L x0 n1 n2 c3 l4 n5 n6 l7 l8 l9 k =
 (((Qv (Go.Value.agg [(Sl 1003 (n5) (n5)), (Sl 1004 (n6) (n6))].toArray)) ∧
 ((Qv (Go.Value.agg [(Sl 500 (n2) (c3))].toArray)) ∧
 True)) ∧
 (bcase (decide (0 + n2 * 7 ≤ List.length l7))
 ((Says C 10 [(D.agg [(D.sl (n2) 7 (List.take (n2 * 7) (List.drop 0 l7)))])] [(D.agg [(D.sl (n2) 7 (List.take (n2 * 7) (List.drop 0 l7)))])]) ∧
 (((Qv (Go.Value.agg [(Sl 1003 (n5) (n5)), (Sl 1004 (n6) (n6))].toArray)) ∧
 True) ∧
 (bcase (decide (0 + n2 * 7 ≤ List.length (List.take (n2 * 7) (List.drop 0 l7))))
 (bcase (decide (0 + n5 * 1 ≤ List.length l8))
 (bcase (decide (0 + n6 * 1 ≤ List.length l9))
 ((∃ n3 : Int,
 ((Says C 11 [(D.agg [(D.sl (n2) 7 (List.take (n2 * 7) (List.drop 0 (List.take (n2 * 7) (List.drop 0 l7)))))]), (D.agg [(D.sl (n5) 1 (List.take (n5 * 1) (List.drop 0 l8))), (D.sl (n6) 1 (List.take (n6 * 1) (List.drop 0 l9)))])] [D.nil, (D.val (vI n3))]) ∧
 (((Qv (vI n3)) ∧
 ((Qv (Go.Value.slice Option.none 0 0)) ∧
 ((Qv (Go.Value.tuple [(Go.Value.slice Option.none 0 0), (vI n3)].toArray)) ∧
 True))) ∧
 (((Qv (vI n3)) ∧
 True) ∧
 (True ∧
 (bcase (n3 != 0)
 (k [(D.val (Value.bool false))])
 (bcase ((↑0 : Int) != x0)
 (k [(D.val (Value.bool false))])
 (L 6 [(Prod.mk 7 (vI x0)), (Prod.mk 11 (Sl 1000 (n1) (n1))), (Prod.mk 22 (Go.Value.slice Option.none 0 0)), (Prod.mk 24 (vI (0 : Int)))] [(Prod.mk 1000 (AObj.sym (l4) true 2))])))))))) ∨
 (∃ n3 : Nat,
 (∃ cs1 : List Go.Value,
 (∃ n4 : Int,
 ((Says C 11 [(D.agg [(D.sl (n2) 7 (List.take (n2 * 7) (List.drop 0 (List.take (n2 * 7) (List.drop 0 l7)))))]), (D.agg [(D.sl (n5) 1 (List.take (n5 * 1) (List.drop 0 l8))), (D.sl (n6) 1 (List.take (n6 * 1) (List.drop 0 l9)))])] [(D.sl (n3) 1 (cs1)), (D.val (vI n4))]) ∧
 (((Qv (vI n4)) ∧
 ((Qv (Sl 1006 (n3) (n3))) ∧
 ((Qv (Go.Value.tuple [(Sl 1006 (n3) (n3)), (vI n4)].toArray)) ∧
 True))) ∧
 (((Qv (vI n4)) ∧
 True) ∧
 (True ∧
 (bcase (n4 != 0)
 (k [(D.val (Value.bool false))])
 (bcase ((↑n3 : Int) != x0)
 (k [(D.val (Value.bool false))])
 (L 6 [(Prod.mk 7 (vI x0)), (Prod.mk 11 (Sl 1000 (n1) (n1))), (Prod.mk 22 (Sl 1001 (n3) (n3))), (Prod.mk 24 (vI (0 : Int)))] [(Prod.mk 1000 (AObj.sym (l4) true 2)), (Prod.mk 1001 (AObj.sym (cs1) true 1))])))))))))))
 False)
 False)
 False)))
 False)) := by kernel_rfl
end Go.Proofs.G5b

/- What is left to show of each function, written out; the kernel reckons it. -/
namespace Go.Proofs.G5b
open Go Go.Abs Go.Proofs
set_option maxRecDepth 100000
set_option linter.unusedVariables false
def gKqssn (C : Ct) (L : AtLoop) (n0 : Nat) (c0 : Nat) (l0 : List Value) (n1 : Nat) (c1 : Nat) (l1 : List Value) (k : List D → Prop) : Prop := wpFn Try.prog (hL C) L 0 5 #[.agg #[.slice (some ⟨500, 0, none⟩) n0 c0], .slice (some ⟨501, 0, none⟩) n1 c1, .slice none 0 0] (heapOf [(500, .sym l0 false 7), (501, .sym l1 false 2)]) (dataK k)
theorem gKqssn_text (C : Ct) (L : AtLoop) (n0 : Nat) (c0 : Nat) (l0 : List Go.Value) (n1 : Nat) (c1 : Nat) (l1 : List Go.Value) (k : List D → Prop) : gKqssn C L n0 c0 l0 n1 c1 l1 k =
 (((Says C 7 [] [(D.val (Value.bool true))]) ∧
 (bcase (decide (0 + n0 * 7 ≤ List.length l0))
 (((Says C 8 [(D.agg [(D.sl (n0) 7 (List.take (n0 * 7) (List.drop 0 l0)))])] [(D.val (Value.bool true))]) ∧
 (bcase (decide (0 + n0 * 7 ≤ List.length l0))
 (∃ n2 : Int,
 ((Says C 21 [(D.agg [(D.sl (n0) 7 (List.take (n0 * 7) (List.drop 0 l0)))])] [(D.val (vI n2))]) ∧
 (bcase (n2 != 0)
 (k [(D.val (Value.bool true))])
 (bcase (decide ((↑n1 : Int) > 7))
 (k [(D.val (Value.bool true))])
 (bcase (decide ((↑0 : Int) < IntKind.wrap .i64 (3 * (↑n0 : Int))))
 (k [(D.val (Value.bool true))])
 (L 0 [(Prod.mk 1 (Sl 501 (n1) (c1))), (Prod.mk 2 (Go.Value.slice Option.none 0 0)), (Prod.mk 3 (Pt 1000 0)), (Prod.mk 7 (vI ((↑n0 : Int)))), (Prod.mk 8 (Go.Value.slice Option.none 0 0)), (Prod.mk 9 (vI (0 : Int)))] [(Prod.mk 501 (AObj.sym (l1) false 2)), (Prod.mk 1000 (AObj.cells [(Sl 500 (n0) (c0))] 24 false 1)), (Prod.mk 500 (AObj.sym (l0) false 7))]))))))
 False)) ∨
 ((Says C 8 [(D.agg [(D.sl (n0) 7 (List.take (n0 * 7) (List.drop 0 l0)))])] [(D.val (Value.bool false))]) ∧
 (k [(D.val (Value.bool true))])))
 False)) ∨
 ((Says C 7 [] [(D.val (Value.bool false))]) ∧
 (k [(D.val (Value.bool false))]))) := by kernel_rfl
def gKqsnn (C : Ct) (L : AtLoop) (n0 : Nat) (c0 : Nat) (l0 : List Value) (k : List D → Prop) : Prop := wpFn Try.prog (hL C) L 0 5 #[.agg #[.slice (some ⟨500, 0, none⟩) n0 c0], .slice none 0 0, .slice none 0 0] (heapOf [(500, .sym l0 false 7)]) (dataK k)
theorem gKqsnn_text (C : Ct) (L : AtLoop) (n0 : Nat) (c0 : Nat) (l0 : List Go.Value) (k : List D → Prop) : gKqsnn C L n0 c0 l0 k =
 (((Says C 7 [] [(D.val (Value.bool true))]) ∧
 (bcase (decide (0 + n0 * 7 ≤ List.length l0))
 (((Says C 8 [(D.agg [(D.sl (n0) 7 (List.take (n0 * 7) (List.drop 0 l0)))])] [(D.val (Value.bool true))]) ∧
 (bcase (decide (0 + n0 * 7 ≤ List.length l0))
 (∃ n1 : Int,
 ((Says C 21 [(D.agg [(D.sl (n0) 7 (List.take (n0 * 7) (List.drop 0 l0)))])] [(D.val (vI n1))]) ∧
 (bcase (n1 != 0)
 (k [(D.val (Value.bool true))])
 (bcase (decide ((↑0 : Int) < IntKind.wrap .i64 (3 * (↑n0 : Int))))
 (k [(D.val (Value.bool true))])
 (L 0 [(Prod.mk 1 (Go.Value.slice Option.none 0 0)), (Prod.mk 2 (Go.Value.slice Option.none 0 0)), (Prod.mk 3 (Pt 1000 0)), (Prod.mk 7 (vI ((↑n0 : Int)))), (Prod.mk 8 (Go.Value.slice Option.none 0 0)), (Prod.mk 9 (vI (0 : Int)))] [(Prod.mk 1000 (AObj.cells [(Sl 500 (n0) (c0))] 24 false 1)), (Prod.mk 500 (AObj.sym (l0) false 7))])))))
 False)) ∨
 ((Says C 8 [(D.agg [(D.sl (n0) 7 (List.take (n0 * 7) (List.drop 0 l0)))])] [(D.val (Value.bool false))]) ∧
 (k [(D.val (Value.bool true))])))
 False)) ∨
 ((Says C 7 [] [(D.val (Value.bool false))]) ∧
 (k [(D.val (Value.bool false))]))) := by kernel_rfl
def gKqnss (C : Ct) (L : AtLoop) (n1 : Nat) (c1 : Nat) (l1 : List Value) (n2 : Nat) (c2 : Nat) (l2 : List Value) (k : List D → Prop) : Prop := wpFn Try.prog (hL C) L 0 5 #[.agg #[.slice none 0 0], .slice (some ⟨500, 0, none⟩) n1 c1, .slice (some ⟨501, 0, none⟩) n2 c2] (heapOf [(500, .sym l1 false 2), (501, .sym l2 false 1)]) (dataK k)
theorem gKqnss_text (C : Ct) (L : AtLoop) (n1 : Nat) (c1 : Nat) (l1 : List Go.Value) (n2 : Nat) (c2 : Nat) (l2 : List Go.Value) (k : List D → Prop) : gKqnss C L n1 c1 l1 n2 c2 l2 k =
 (((Says C 7 [] [(D.val (Value.bool true))]) ∧
 (((Says C 8 [(D.agg [D.nil])] [(D.val (Value.bool true))]) ∧
 (∃ n3 : Int,
 ((Says C 21 [(D.agg [D.nil])] [(D.val (vI n3))]) ∧
 (bcase (n3 != 0)
 (k [(D.val (Value.bool true))])
 (bcase (decide ((↑n1 : Int) > 7))
 (k [(D.val (Value.bool true))])
 (bcase (decide ((↑n2 : Int) > 30))
 (k [(D.val (Value.bool true))])
 (L 0 [(Prod.mk 1 (Sl 500 (n1) (c1))), (Prod.mk 2 (Sl 501 (n2) (c2))), (Prod.mk 3 (Pt 1000 0)), (Prod.mk 7 (vI (0 : Int))), (Prod.mk 8 (Go.Value.slice Option.none 0 0)), (Prod.mk 9 (vI (0 : Int)))] [(Prod.mk 500 (AObj.sym (l1) false 2)), (Prod.mk 501 (AObj.sym (l2) false 1)), (Prod.mk 1000 (AObj.cells [(Go.Value.slice Option.none 0 0)] 24 false 1))]))))))) ∨
 ((Says C 8 [(D.agg [D.nil])] [(D.val (Value.bool false))]) ∧
 (k [(D.val (Value.bool true))])))) ∨
 ((Says C 7 [] [(D.val (Value.bool false))]) ∧
 (k [(D.val (Value.bool false))]))) := by kernel_rfl
def gKqnsn (C : Ct) (L : AtLoop) (n1 : Nat) (c1 : Nat) (l1 : List Value) (k : List D → Prop) : Prop := wpFn Try.prog (hL C) L 0 5 #[.agg #[.slice none 0 0], .slice (some ⟨500, 0, none⟩) n1 c1, .slice none 0 0] (heapOf [(500, .sym l1 false 2)]) (dataK k)
theorem gKqnsn_text (C : Ct) (L : AtLoop) (n1 : Nat) (c1 : Nat) (l1 : List Go.Value) (k : List D → Prop) : gKqnsn C L n1 c1 l1 k =
 (((Says C 7 [] [(D.val (Value.bool true))]) ∧
 (((Says C 8 [(D.agg [D.nil])] [(D.val (Value.bool true))]) ∧
 (∃ n2 : Int,
 ((Says C 21 [(D.agg [D.nil])] [(D.val (vI n2))]) ∧
 (bcase (n2 != 0)
 (k [(D.val (Value.bool true))])
 (bcase (decide ((↑n1 : Int) > 7))
 (k [(D.val (Value.bool true))])
 (L 0 [(Prod.mk 1 (Sl 500 (n1) (c1))), (Prod.mk 2 (Go.Value.slice Option.none 0 0)), (Prod.mk 3 (Pt 1000 0)), (Prod.mk 7 (vI (0 : Int))), (Prod.mk 8 (Go.Value.slice Option.none 0 0)), (Prod.mk 9 (vI (0 : Int)))] [(Prod.mk 500 (AObj.sym (l1) false 2)), (Prod.mk 1000 (AObj.cells [(Go.Value.slice Option.none 0 0)] 24 false 1))])))))) ∨
 ((Says C 8 [(D.agg [D.nil])] [(D.val (Value.bool false))]) ∧
 (k [(D.val (Value.bool true))])))) ∨
 ((Says C 7 [] [(D.val (Value.bool false))]) ∧
 (k [(D.val (Value.bool false))]))) := by kernel_rfl
def gKqnns (C : Ct) (L : AtLoop) (n2 : Nat) (c2 : Nat) (l2 : List Value) (k : List D → Prop) : Prop := wpFn Try.prog (hL C) L 0 5 #[.agg #[.slice none 0 0], .slice none 0 0, .slice (some ⟨500, 0, none⟩) n2 c2] (heapOf [(500, .sym l2 false 1)]) (dataK k)
theorem gKqnns_text (C : Ct) (L : AtLoop) (n2 : Nat) (c2 : Nat) (l2 : List Go.Value) (k : List D → Prop) : gKqnns C L n2 c2 l2 k =
 (((Says C 7 [] [(D.val (Value.bool true))]) ∧
 (((Says C 8 [(D.agg [D.nil])] [(D.val (Value.bool true))]) ∧
 (∃ n1 : Int,
 ((Says C 21 [(D.agg [D.nil])] [(D.val (vI n1))]) ∧
 (bcase (n1 != 0)
 (k [(D.val (Value.bool true))])
 (bcase (decide ((↑n2 : Int) > 30))
 (k [(D.val (Value.bool true))])
 (L 0 [(Prod.mk 1 (Go.Value.slice Option.none 0 0)), (Prod.mk 2 (Sl 500 (n2) (c2))), (Prod.mk 3 (Pt 1000 0)), (Prod.mk 7 (vI (0 : Int))), (Prod.mk 8 (Go.Value.slice Option.none 0 0)), (Prod.mk 9 (vI (0 : Int)))] [(Prod.mk 500 (AObj.sym (l2) false 1)), (Prod.mk 1000 (AObj.cells [(Go.Value.slice Option.none 0 0)] 24 false 1))])))))) ∨
 ((Says C 8 [(D.agg [D.nil])] [(D.val (Value.bool false))]) ∧
 (k [(D.val (Value.bool true))])))) ∨
 ((Says C 7 [] [(D.val (Value.bool false))]) ∧
 (k [(D.val (Value.bool false))]))) := by kernel_rfl
def gKqnnn (C : Ct) (L : AtLoop) (k : List D → Prop) : Prop := wpFn Try.prog (hL C) L 0 5 #[.agg #[.slice none 0 0], .slice none 0 0, .slice none 0 0] (heapOf []) (dataK k)
theorem gKqnnn_text (C : Ct) (L : AtLoop) (k : List D → Prop) : gKqnnn C L k =
 (((Says C 7 [] [(D.val (Value.bool true))]) ∧
 (((Says C 8 [(D.agg [D.nil])] [(D.val (Value.bool true))]) ∧
 (∃ n1 : Int,
 ((Says C 21 [(D.agg [D.nil])] [(D.val (vI n1))]) ∧
 (bcase (n1 != 0)
 (k [(D.val (Value.bool true))])
 (L 0 [(Prod.mk 1 (Go.Value.slice Option.none 0 0)), (Prod.mk 2 (Go.Value.slice Option.none 0 0)), (Prod.mk 3 (Pt 1000 0)), (Prod.mk 7 (vI (0 : Int))), (Prod.mk 8 (Go.Value.slice Option.none 0 0)), (Prod.mk 9 (vI (0 : Int)))] [(Prod.mk 1000 (AObj.cells [(Go.Value.slice Option.none 0 0)] 24 false 1))]))))) ∨
 ((Says C 8 [(D.agg [D.nil])] [(D.val (Value.bool false))]) ∧
 (k [(D.val (Value.bool true))])))) ∨
 ((Says C 7 [] [(D.val (Value.bool false))]) ∧
 (k [(D.val (Value.bool false))]))) := by kernel_rfl
def nKp13 (C : Ct) (L : AtLoop) (n0 : Nat) (c1 : Nat) (n2 : Nat) (c3 : Nat) (x4 : Int) (n5 : Nat) (x6 : Int) (b7 : Bool) (l9 : List Value) (l10 : List Value) (n11 : Nat) (c12 : Nat) (l13 : List Value) (l14 : List Value) (k : List D → Prop) : Prop := wpNext Try.prog (hL C) L 5 2 .normal [(1, (Value.slice (some ⟨501, 0, none⟩) n0 c1)), (2, (Value.slice (some ⟨502, 0, none⟩) n2 c3)), (3, (Value.pointer (some ⟨1000, 0, none⟩))), (7, (Value.int .i64 x4)), (8, (Value.slice (some ⟨1001, 0, none⟩) n5 n5)), (11, (Value.slice none 0 0)), (12, (Value.int .i64 x6)), (15, (Value.bool b7))] [(501, (AObj.sym l9 false 2)), (502, (AObj.sym l10 false 1)), (1000, (AObj.cells [(Value.slice (some ⟨500, 0, none⟩) n11 c12)] 24 false 1)), (1001, (AObj.sym l13 true 1)), (500, (AObj.sym l14 false 7))] (dataK k)
theorem nKp13_text (C : Ct) (L : AtLoop) (n0 : Nat) (c1 : Nat) (n2 : Nat) (c3 : Nat) (x4 : Int) (n5 : Nat) (x6 : Int) (b7 : Bool) (l9 : List Go.Value) (l10 : List Go.Value) (n11 : Nat) (c12 : Nat) (l13 : List Go.Value) (l14 : List Go.Value) (k : List D → Prop) : nKp13 C L n0 c1 n2 c3 x4 n5 x6 b7 l9 l10 n11 c12 l13 l14 k =
 (bcase (x6 != 0)
 (bcase (x6 == 12)
 (bcase (b7)
 (k [(D.val (Value.bool false))])
 (k [(D.val (Value.bool true))]))
 (k [(D.val (Value.bool false))]))
 (bcase ((↑0 : Int) != x4)
 (k [(D.val (Value.bool false))])
 (bcase (decide (0 + n11 * 7 ≤ List.length l14))
 ((Says C 10 [(D.agg [(D.sl (n11) 7 (List.take (n11 * 7) (List.drop 0 l14)))])] [(D.agg [(D.sl (n11) 7 (List.take (n11 * 7) (List.drop 0 l14)))])]) ∧
 ((Says C 18 [D.nil] [(D.sl 0 2 [])]) ∧
 (bcase (decide (0 + n11 * 7 ≤ List.length (List.take (n11 * 7) (List.drop 0 l14))))
 (∃ n1 : Int,
 (∃ n3 : Int,
 ((Says C 17 [(D.agg [(D.sl (n11) 7 (List.take (n11 * 7) (List.drop 0 (List.take (n11 * 7) (List.drop 0 l14)))))]), (D.sl 0 2 [])] [(D.val (vI n1)), (D.val (vI n3))]) ∧
 (bcase (n3 != 0)
 (k [(D.val (Value.bool false))])
 (L 4 [(Prod.mk 1 (Sl 501 (n0) (c1))), (Prod.mk 2 (Sl 502 (n2) (c3))), (Prod.mk 3 (Pt 1000 0)), (Prod.mk 7 (vI x4)), (Prod.mk 8 (Sl 1001 (n5) (n5))), (Prod.mk 11 (Go.Value.slice Option.none 0 0)), (Prod.mk 15 (Go.Value.bool (b7))), (Prod.mk 19 (Pt 1002 0)), (Prod.mk 20 (vI (0 : Int)))] [(Prod.mk 501 (AObj.sym (l9) false 2)), (Prod.mk 502 (AObj.sym (l10) false 1)), (Prod.mk 1000 (AObj.cells [(Sl 500 (n11) (c12))] 24 false 1)), (Prod.mk 1001 (AObj.sym (l13) true 1)), (Prod.mk 1002 (AObj.cells [(Go.Value.slice Option.none 0 0), (Go.Value.slice Option.none 0 0)] 27 false 2)), (Prod.mk 500 (AObj.sym (l14) false 7))])))))
 False)))
 False))) := by kernel_rfl
abbrev zKp11 (x0 : Int) (n1 : Nat) (n2 : Nat) (x3 : Int) (l4 : List Value) (l5 : List Value) : Slots × Blocks := ([(7, (Value.int .i64 x0)), (11, (Value.slice (some ⟨1000, 0, none⟩) n1 n1)), (22, (Value.slice (some ⟨1001, 0, none⟩) n2 n2)), (24, (Value.int .i64 x3))], [(1000, (AObj.sym l4 true 2)), (1001, (AObj.sym l5 true 1))])
def rKp11 (C : Ct) (L : AtLoop) (x0 : Int) (n1 : Nat) (n2 : Nat) (x3 : Int) (l4 : List Value) (l5 : List Value) (B : Bx) (X : Xx) (k : List D → Prop) : Prop := wpRound Try.prog (hL C) L 5 6 [(7, (Value.int .i64 x0)), (11, (Value.slice (some ⟨1000, 0, none⟩) n1 n1)), (22, (Value.slice (some ⟨1001, 0, none⟩) n2 n2)), (24, (Value.int .i64 x3))] [(1000, (AObj.sym l4 true 2)), (1001, (AObj.sym l5 true 1))] B X (dataK k)
theorem rKp11_text (C : Ct) (L : AtLoop) (x0 : Int) (n1 : Nat) (n2 : Nat) (x3 : Int) (l4 : List Go.Value) (l5 : List Go.Value) (B : Bx) (X : Xx) (k : List D → Prop) : rKp11 C L x0 n1 n2 x3 l4 l5 B X k =
 (bcase (decide (x3 < x0))
 (bcase (decide (0 ≤ x3))
 (bcase (decide (x3 < (↑n2 : Int)))
 (∃ n3 : Int,
 ((At (l5) (0 + Int.toNat x3 * 1) 1 [(vI n3)]) ∧
 (bcase (decide (0 ≤ x3))
 (bcase (decide (x3 < (↑n1 : Int)))
 (∃ n4 : Int,
 ((At (l4) (0 + Int.toNat x3 * 2) 1 [(vI n4)]) ∧
 (bcase (decide (0 ≤ x3))
 (bcase (decide (x3 < (↑n1 : Int)))
 (∃ n5 : Int,
 ((At (l4) (Go.Addr.off { block := 1000, off := 0 + Int.toNat x3 * 2 } + 1) 1 [(vI n5)]) ∧
 (((∃ n6 : Int,
 ((At (l4) (Go.Addr.off { block := 1000, off := 0 + Int.toNat x3 * 2 } + 1) 1 [(vI n6)]) ∧
 ((vI n6) = (vI n5)))) ∧
 ((Qv (Go.Value.pointer (Option.some (Go.Addr.mk 1000 (Go.Addr.off { block := 1000, off := 0 + Int.toNat x3 * 2 } + 1) Option.none)))) ∧
 ((bcase (decide (0 ≤ x3))
 (bcase (decide (x3 < (↑n1 : Int)))
 (Qv (Pt 1000 (0 + Int.toNat x3 * 2)))
 False)
 False) ∧
 ((Qv (vI x3)) ∧
 ((Qv (Sl 1000 (n1) (n1))) ∧
 ((∃ n6 : Int,
 ((At (l4) (0 + Int.toNat x3 * 2) 1 [(vI n6)]) ∧
 ((vI n6) = (vI n4)))) ∧
 ((Qv (Pt 1000 (0 + Int.toNat x3 * 2))) ∧
 ((bcase (decide (0 ≤ x3))
 (bcase (decide (x3 < (↑n1 : Int)))
 (Qv (Pt 1000 (0 + Int.toNat x3 * 2)))
 False)
 False) ∧
 ((Qv (vI x3)) ∧
 ((Qv (Sl 1000 (n1) (n1))) ∧
 ((∃ n6 : Int,
 ((At (l5) (0 + Int.toNat x3 * 1) 1 [(vI n6)]) ∧
 ((vI n6) = (vI n3)))) ∧
 ((bcase (decide (0 ≤ x3))
 (bcase (decide (x3 < (↑n2 : Int)))
 (Qv (Pt 1001 (0 + Int.toNat x3 * 1)))
 False)
 False) ∧
 ((Qv (vI x3)) ∧
 ((Qv (Sl 1001 (n2) (n2))) ∧
 True)))))))))))))) ∧
 (((Says C 26 [(D.val (vI n3)), (D.val (vI n4)), (D.val (vI n5))] [(D.val (Value.bool true))]) ∧
 (((Qv (Value.bool false)) ∧
 ((Qv (Go.Value.pointer (Option.some (Go.Addr.mk 1000 (Go.Addr.off { block := 1000, off := 0 + Int.toNat x3 * 2 } + 1) Option.none)))) ∧
 ((bcase (decide (0 ≤ x3))
 (bcase (decide (x3 < (↑n1 : Int)))
 (Qv (Pt 1000 (0 + Int.toNat x3 * 2)))
 False)
 False) ∧
 ((Qv (vI x3)) ∧
 ((Qv (Sl 1000 (n1) (n1))) ∧
 ((Qv (Pt 1000 (0 + Int.toNat x3 * 2))) ∧
 ((bcase (decide (0 ≤ x3))
 (bcase (decide (x3 < (↑n1 : Int)))
 (Qv (Pt 1000 (0 + Int.toNat x3 * 2)))
 False)
 False) ∧
 ((Qv (vI x3)) ∧
 ((Qv (Sl 1000 (n1) (n1))) ∧
 ((bcase (decide (0 ≤ x3))
 (bcase (decide (x3 < (↑n2 : Int)))
 (Qv (Pt 1001 (0 + Int.toNat x3 * 1)))
 False)
 False) ∧
 ((Qv (vI x3)) ∧
 ((Qv (Sl 1001 (n2) (n2))) ∧
 True)))))))))))) ∧
 (B [(Prod.mk 7 (vI x0)), (Prod.mk 11 (Sl 1000 (n1) (n1))), (Prod.mk 22 (Sl 1001 (n2) (n2))), (Prod.mk 24 (vI (IntKind.wrap .i64 (x3 + 1))))] [(Prod.mk 1000 (AObj.sym (l4) true 2)), (Prod.mk 1001 (AObj.sym (l5) true 1))]))) ∨
 ((Says C 26 [(D.val (vI n3)), (D.val (vI n4)), (D.val (vI n5))] [(D.val (Value.bool false))]) ∧
 (((Qv (Value.bool true)) ∧
 ((Qv (Go.Value.pointer (Option.some (Go.Addr.mk 1000 (Go.Addr.off { block := 1000, off := 0 + Int.toNat x3 * 2 } + 1) Option.none)))) ∧
 ((bcase (decide (0 ≤ x3))
 (bcase (decide (x3 < (↑n1 : Int)))
 (Qv (Pt 1000 (0 + Int.toNat x3 * 2)))
 False)
 False) ∧
 ((Qv (vI x3)) ∧
 ((Qv (Sl 1000 (n1) (n1))) ∧
 ((Qv (Pt 1000 (0 + Int.toNat x3 * 2))) ∧
 ((bcase (decide (0 ≤ x3))
 (bcase (decide (x3 < (↑n1 : Int)))
 (Qv (Pt 1000 (0 + Int.toNat x3 * 2)))
 False)
 False) ∧
 ((Qv (vI x3)) ∧
 ((Qv (Sl 1000 (n1) (n1))) ∧
 ((bcase (decide (0 ≤ x3))
 (bcase (decide (x3 < (↑n2 : Int)))
 (Qv (Pt 1001 (0 + Int.toNat x3 * 1)))
 False)
 False) ∧
 ((Qv (vI x3)) ∧
 ((Qv (Sl 1001 (n2) (n2))) ∧
 True)))))))))))) ∧
 (k [(D.val (Value.bool false))])))))))
 False)
 False)))
 False)
 False)))
 False)
 False)
 (X 6 [] [])) := by kernel_rfl
def nKp12 (C : Ct) (L : AtLoop) (k : List D → Prop) : Prop := wpNext Try.prog (hL C) L 5 6 .normal [] [] (dataK k)
theorem nKp12_text (C : Ct) (L : AtLoop) (k : List D → Prop) : nKp12 C L k =
 (k [(D.val (Value.bool true))]) := by kernel_rfl
def nKpn13 (C : Ct) (L : AtLoop) (n2 : Nat) (c3 : Nat) (x4 : Int) (n5 : Nat) (x6 : Int) (b7 : Bool) (l10 : List Value) (n11 : Nat) (c12 : Nat) (l13 : List Value) (l14 : List Value) (k : List D → Prop) : Prop := wpNext Try.prog (hL C) L 5 2 .normal [(1, (Value.slice none 0 0)), (2, (Value.slice (some ⟨501, 0, none⟩) n2 c3)), (3, (Value.pointer (some ⟨1000, 0, none⟩))), (7, (Value.int .i64 x4)), (8, (Value.slice (some ⟨1001, 0, none⟩) n5 n5)), (11, (Value.slice none 0 0)), (12, (Value.int .i64 x6)), (15, (Value.bool b7))] [(501, (AObj.sym l10 false 1)), (1000, (AObj.cells [(Value.slice (some ⟨500, 0, none⟩) n11 c12)] 24 false 1)), (1001, (AObj.sym l13 true 1)), (500, (AObj.sym l14 false 7))] (dataK k)
theorem nKpn13_text (C : Ct) (L : AtLoop) (n2 : Nat) (c3 : Nat) (x4 : Int) (n5 : Nat) (x6 : Int) (b7 : Bool) (l10 : List Go.Value) (n11 : Nat) (c12 : Nat) (l13 : List Go.Value) (l14 : List Go.Value) (k : List D → Prop) : nKpn13 C L n2 c3 x4 n5 x6 b7 l10 n11 c12 l13 l14 k =
 (bcase (x6 != 0)
 (bcase (x6 == 12)
 (bcase (b7)
 (k [(D.val (Value.bool false))])
 (k [(D.val (Value.bool true))]))
 (k [(D.val (Value.bool false))]))
 (bcase ((↑0 : Int) != x4)
 (k [(D.val (Value.bool false))])
 (bcase (decide (0 + n11 * 7 ≤ List.length l14))
 ((Says C 10 [(D.agg [(D.sl (n11) 7 (List.take (n11 * 7) (List.drop 0 l14)))])] [(D.agg [(D.sl (n11) 7 (List.take (n11 * 7) (List.drop 0 l14)))])]) ∧
 ((Says C 18 [D.nil] [(D.sl 0 2 [])]) ∧
 (bcase (decide (0 + n11 * 7 ≤ List.length (List.take (n11 * 7) (List.drop 0 l14))))
 (∃ n1 : Int,
 (∃ n3 : Int,
 ((Says C 17 [(D.agg [(D.sl (n11) 7 (List.take (n11 * 7) (List.drop 0 (List.take (n11 * 7) (List.drop 0 l14)))))]), (D.sl 0 2 [])] [(D.val (vI n1)), (D.val (vI n3))]) ∧
 (bcase (n3 != 0)
 (k [(D.val (Value.bool false))])
 (L 4 [(Prod.mk 1 (Go.Value.slice Option.none 0 0)), (Prod.mk 2 (Sl 501 (n2) (c3))), (Prod.mk 3 (Pt 1000 0)), (Prod.mk 7 (vI x4)), (Prod.mk 8 (Sl 1001 (n5) (n5))), (Prod.mk 11 (Go.Value.slice Option.none 0 0)), (Prod.mk 15 (Go.Value.bool (b7))), (Prod.mk 19 (Pt 1002 0)), (Prod.mk 20 (vI (0 : Int)))] [(Prod.mk 501 (AObj.sym (l10) false 1)), (Prod.mk 1000 (AObj.cells [(Sl 500 (n11) (c12))] 24 false 1)), (Prod.mk 1001 (AObj.sym (l13) true 1)), (Prod.mk 1002 (AObj.cells [(Go.Value.slice Option.none 0 0), (Go.Value.slice Option.none 0 0)] 27 false 2)), (Prod.mk 500 (AObj.sym (l14) false 7))])))))
 False)))
 False))) := by kernel_rfl
abbrev zKpn11 (x0 : Int) (n1 : Nat) (n2 : Nat) (x3 : Int) (l4 : List Value) (l5 : List Value) : Slots × Blocks := ([(7, (Value.int .i64 x0)), (11, (Value.slice (some ⟨1000, 0, none⟩) n1 n1)), (22, (Value.slice (some ⟨1001, 0, none⟩) n2 n2)), (24, (Value.int .i64 x3))], [(1000, (AObj.sym l4 true 2)), (1001, (AObj.sym l5 true 1))])
def rKpn11 (C : Ct) (L : AtLoop) (x0 : Int) (n1 : Nat) (n2 : Nat) (x3 : Int) (l4 : List Value) (l5 : List Value) (B : Bx) (X : Xx) (k : List D → Prop) : Prop := wpRound Try.prog (hL C) L 5 6 [(7, (Value.int .i64 x0)), (11, (Value.slice (some ⟨1000, 0, none⟩) n1 n1)), (22, (Value.slice (some ⟨1001, 0, none⟩) n2 n2)), (24, (Value.int .i64 x3))] [(1000, (AObj.sym l4 true 2)), (1001, (AObj.sym l5 true 1))] B X (dataK k)
theorem rKpn11_text (C : Ct) (L : AtLoop) (x0 : Int) (n1 : Nat) (n2 : Nat) (x3 : Int) (l4 : List Go.Value) (l5 : List Go.Value) (B : Bx) (X : Xx) (k : List D → Prop) : rKpn11 C L x0 n1 n2 x3 l4 l5 B X k =
 (bcase (decide (x3 < x0))
 (bcase (decide (0 ≤ x3))
 (bcase (decide (x3 < (↑n2 : Int)))
 (∃ n3 : Int,
 ((At (l5) (0 + Int.toNat x3 * 1) 1 [(vI n3)]) ∧
 (bcase (decide (0 ≤ x3))
 (bcase (decide (x3 < (↑n1 : Int)))
 (∃ n4 : Int,
 ((At (l4) (0 + Int.toNat x3 * 2) 1 [(vI n4)]) ∧
 (bcase (decide (0 ≤ x3))
 (bcase (decide (x3 < (↑n1 : Int)))
 (∃ n5 : Int,
 ((At (l4) (Go.Addr.off { block := 1000, off := 0 + Int.toNat x3 * 2 } + 1) 1 [(vI n5)]) ∧
 (((∃ n6 : Int,
 ((At (l4) (Go.Addr.off { block := 1000, off := 0 + Int.toNat x3 * 2 } + 1) 1 [(vI n6)]) ∧
 ((vI n6) = (vI n5)))) ∧
 ((Qv (Go.Value.pointer (Option.some (Go.Addr.mk 1000 (Go.Addr.off { block := 1000, off := 0 + Int.toNat x3 * 2 } + 1) Option.none)))) ∧
 ((bcase (decide (0 ≤ x3))
 (bcase (decide (x3 < (↑n1 : Int)))
 (Qv (Pt 1000 (0 + Int.toNat x3 * 2)))
 False)
 False) ∧
 ((Qv (vI x3)) ∧
 ((Qv (Sl 1000 (n1) (n1))) ∧
 ((∃ n6 : Int,
 ((At (l4) (0 + Int.toNat x3 * 2) 1 [(vI n6)]) ∧
 ((vI n6) = (vI n4)))) ∧
 ((Qv (Pt 1000 (0 + Int.toNat x3 * 2))) ∧
 ((bcase (decide (0 ≤ x3))
 (bcase (decide (x3 < (↑n1 : Int)))
 (Qv (Pt 1000 (0 + Int.toNat x3 * 2)))
 False)
 False) ∧
 ((Qv (vI x3)) ∧
 ((Qv (Sl 1000 (n1) (n1))) ∧
 ((∃ n6 : Int,
 ((At (l5) (0 + Int.toNat x3 * 1) 1 [(vI n6)]) ∧
 ((vI n6) = (vI n3)))) ∧
 ((bcase (decide (0 ≤ x3))
 (bcase (decide (x3 < (↑n2 : Int)))
 (Qv (Pt 1001 (0 + Int.toNat x3 * 1)))
 False)
 False) ∧
 ((Qv (vI x3)) ∧
 ((Qv (Sl 1001 (n2) (n2))) ∧
 True)))))))))))))) ∧
 (((Says C 26 [(D.val (vI n3)), (D.val (vI n4)), (D.val (vI n5))] [(D.val (Value.bool true))]) ∧
 (((Qv (Value.bool false)) ∧
 ((Qv (Go.Value.pointer (Option.some (Go.Addr.mk 1000 (Go.Addr.off { block := 1000, off := 0 + Int.toNat x3 * 2 } + 1) Option.none)))) ∧
 ((bcase (decide (0 ≤ x3))
 (bcase (decide (x3 < (↑n1 : Int)))
 (Qv (Pt 1000 (0 + Int.toNat x3 * 2)))
 False)
 False) ∧
 ((Qv (vI x3)) ∧
 ((Qv (Sl 1000 (n1) (n1))) ∧
 ((Qv (Pt 1000 (0 + Int.toNat x3 * 2))) ∧
 ((bcase (decide (0 ≤ x3))
 (bcase (decide (x3 < (↑n1 : Int)))
 (Qv (Pt 1000 (0 + Int.toNat x3 * 2)))
 False)
 False) ∧
 ((Qv (vI x3)) ∧
 ((Qv (Sl 1000 (n1) (n1))) ∧
 ((bcase (decide (0 ≤ x3))
 (bcase (decide (x3 < (↑n2 : Int)))
 (Qv (Pt 1001 (0 + Int.toNat x3 * 1)))
 False)
 False) ∧
 ((Qv (vI x3)) ∧
 ((Qv (Sl 1001 (n2) (n2))) ∧
 True)))))))))))) ∧
 (B [(Prod.mk 7 (vI x0)), (Prod.mk 11 (Sl 1000 (n1) (n1))), (Prod.mk 22 (Sl 1001 (n2) (n2))), (Prod.mk 24 (vI (IntKind.wrap .i64 (x3 + 1))))] [(Prod.mk 1000 (AObj.sym (l4) true 2)), (Prod.mk 1001 (AObj.sym (l5) true 1))]))) ∨
 ((Says C 26 [(D.val (vI n3)), (D.val (vI n4)), (D.val (vI n5))] [(D.val (Value.bool false))]) ∧
 (((Qv (Value.bool true)) ∧
 ((Qv (Go.Value.pointer (Option.some (Go.Addr.mk 1000 (Go.Addr.off { block := 1000, off := 0 + Int.toNat x3 * 2 } + 1) Option.none)))) ∧
 ((bcase (decide (0 ≤ x3))
 (bcase (decide (x3 < (↑n1 : Int)))
 (Qv (Pt 1000 (0 + Int.toNat x3 * 2)))
 False)
 False) ∧
 ((Qv (vI x3)) ∧
 ((Qv (Sl 1000 (n1) (n1))) ∧
 ((Qv (Pt 1000 (0 + Int.toNat x3 * 2))) ∧
 ((bcase (decide (0 ≤ x3))
 (bcase (decide (x3 < (↑n1 : Int)))
 (Qv (Pt 1000 (0 + Int.toNat x3 * 2)))
 False)
 False) ∧
 ((Qv (vI x3)) ∧
 ((Qv (Sl 1000 (n1) (n1))) ∧
 ((bcase (decide (0 ≤ x3))
 (bcase (decide (x3 < (↑n2 : Int)))
 (Qv (Pt 1001 (0 + Int.toNat x3 * 1)))
 False)
 False) ∧
 ((Qv (vI x3)) ∧
 ((Qv (Sl 1001 (n2) (n2))) ∧
 True)))))))))))) ∧
 (k [(D.val (Value.bool false))])))))))
 False)
 False)))
 False)
 False)))
 False)
 False)
 (X 6 [] [])) := by kernel_rfl
def nKpn12 (C : Ct) (L : AtLoop) (k : List D → Prop) : Prop := wpNext Try.prog (hL C) L 5 6 .normal [] [] (dataK k)
theorem nKpn12_text (C : Ct) (L : AtLoop) (k : List D → Prop) : nKpn12 C L k =
 (k [(D.val (Value.bool true))]) := by kernel_rfl
end Go.Proofs.G5b

/- GaugeKept in data. -/
namespace Go.Proofs.G5b
open Go Go.Abs Go.Proofs Go.Proofs.G5
set_option maxRecDepth 100000
theorem pk_eq {lo hi : Int} (x : Int) (h1 : hgt lo) (h2 : hgt hi) (h : lo ≤ hi) : IntKind.wrap .i64 (lo + x % IntKind.wrap .i64 (IntKind.wrap .i64 (hi - lo) + 1)) = pick lo hi x ∧ 1 ≤ IntKind.wrap .i64 (IntKind.wrap .i64 (hi - lo) + 1) ∧ IntKind.wrap .i64 (IntKind.wrap .i64 (hi - lo) + 1) ≤ 1000000 := by
  have pk := pick_in (x := x) h
  rw [w64 (z := hi - lo) (by omega) (by omega), w64 (z := hi - lo + 1) (by omega) (by omega)]
  unfold pick at pk
  refine ⟨?_, by omega, by omega⟩
  rw [w64 (by omega) (by omega)]; rfl
theorem bcase_t {x y : Prop} : bcase true x y = x := rfl
theorem bcase_f {x y : Prop} : bcase false x y = y := rfl
/-- heights to begin with, out of numbers -/
def sF (ps : List Sv) (xs : List Int) (j : Nat) : Int := pick (ps.getD j sv0).f (ps.getD j sv0).g (xs.getD j 0)
def sts (ps : List Sv) (xs : List Int) : List Int := (List.range ps.length).map (sF ps xs)
@[simp] theorem sts_length (ps : List Sv) (xs : List Int) : (sts ps xs).length = ps.length := by simp [sts]
def htF (ps : List Sv) (b : Bxs) (xs : List Int) (j : Nat) : Int := pick (b.getD j p0).1 (b.getD j p0).2 (xs.getD (ps.length + j) 0)
def eF (ps : List Sv) (xs : List Int) (j : Nat) : Int := pick (ps.getD j sv0).d (ps.getD j sv0).e (xs.getD (2 * ps.length + j) 0)
structure KF (ps : List Sv) (xs : List Int) (box : Bxs) : Prop where
  b7 : box.length ≤ 7
  c : (chE ps).2 = 0
  x0 : 3 * ps.length ≤ xs.length
  x1 : xs.length ≤ 30
/-- a box that is accepted contains the start -/
structure KI (ps : List Sv) (xs : List Int) (box : Bxs) (i : Nat) : Prop where
  ok : (cbP ps box).2 = 0
  inn : ∀ j, j < i → (box.getD j p0).1 ≤ (sts ps xs).getD j 0 ∧ (sts ps xs).getD j 0 ≤ (box.getD j p0).2
theorem sts_lim {ps : List Sv} (hc : (chE ps).2 = 0) (xs : List Int) : ∀ i, i < ps.length → (ps.getD i sv0).f ≤ (sts ps xs).getD i 0 ∧ (sts ps xs).getD i 0 ≤ (ps.getD i sv0).g := by
  intro i hi
  rw [sts, rg_getI hi]
  exact pick_in ((chE_ok hc).2.2 _ (gd_mem (d := sv0) hi)).fg
theorem ki_min {ps : List Sv} {xs : List Int} {box : Bxs} {r : Option Bxs} (hc : (chE ps).2 = 0) (hg : Grow ps (bxOf (sts ps xs) (sts ps xs)) r) (hk : KI ps xs box ps.length) : box.length = ps.length ∧ ∃ b', r = some b' ∧ subB ps b' box := by
  obtain ⟨_, a2, a3, a4, a5⟩ := cbP_acc hk.ok
  refine ⟨a2, grow_min hg (chE_ok hc).2.2 (by simp) a2 a3 (bxOf_ord ps _) a5 (fun i hi => ?_)⟩
  rw [bxOf_at (by simpa using hi)]
  exact hk.inn i hi
theorem conKs (ps : List Sv) (box : Bxs) (xs : List Int) : C5 5 [.agg [.sl ps.length 7 (vs7 ps)], .sl box.length 2 (vp box), .sl xs.length 1 (vi xs)] [.val (.bool true)] := by
  let st0 : Nat → Nat → Nat → Nat → Slots × Blocks := fun i c1 c2 c3 => match i with
    | 0 => zKp1 box.length c1 xs.length c2 ps.length 0 (vp box) (vi xs) ps.length c3 (vs7 ps)
    | i + 1 => zKp2 box.length c1 xs.length c2 ps.length (i + 1) ((i + 1 : Nat) : Int) (vp box) (vi xs) ps.length c3 (vi ((List.range (i + 1)).map (sF ps xs))) (vs7 ps)
  let inv0 : Nat × Nat × Nat × Nat → Prop := fun y => y.1 ≤ ps.length ∧ KF ps xs box
  let st2 : Option Bxs → Nat → Bool → Nat → Nat → Nat → Slots × Blocks := fun r i q c1 c2 c3 => match r with
    | none => zKp4 box.length c1 xs.length c2 ps.length ps.length 12 q i (vp box) (vi xs) ps.length c3 (vi (sts ps xs)) (vs7 ps)
    | some b => zKp5 box.length c1 xs.length c2 ps.length ps.length ps.length 0 q i (vp box) (vi xs) ps.length c3 (vi (sts ps xs)) (vp b) (vs7 ps)
  let inv2 : (Option Bxs × Nat × Bool) × Nat × Nat × Nat → Prop := fun y => KF ps xs box ∧ Grow ps (bxOf (sts ps xs) (sts ps xs)) y.1.1 ∧ y.1.2.1 ≤ ps.length ∧ (y.1.2.2 = true → KI ps xs box y.1.2.1) ∧ (y.1.2.2 = false → ¬ KI ps xs box ps.length)
  let st4 : Bxs → Nat → Bool → Nat → Nat → Nat → Slots × Blocks := fun b i q c1 c2 c3 => match i with
    | 0 => zKp7 box.length c1 xs.length c2 ps.length ps.length ps.length q 0 (vp box) (vi xs) ps.length c3 (vi (sts ps xs)) (vp b) (vs7 ps)
    | i + 1 => zKp8 box.length c1 xs.length c2 ps.length ps.length ps.length q ((i + 1 : Nat) : Int) (vp box) (vi xs) ps.length c3 (vi (sts ps xs)) (vp b) (i + 1) (i + 1) (vs7 ps) (vi ((List.range (i + 1)).map (htF ps b xs))) (vi ((List.range (i + 1)).map (eF ps xs)))
  let inv4 : (Bxs × Nat × Bool) × Nat × Nat × Nat → Prop := fun y => KF ps xs box ∧ HB ps (sts ps xs) y.1.1 ∧ y.1.2.1 ≤ ps.length ∧ (y.1.2.2 = true → (box : Bxs).length = ps.length ∧ subB ps y.1.1 box)
  let st6 : Bxs → List Int → Nat → Slots × Blocks := fun b hs i => zKp11 ps.length ps.length ps.length (i : Int) (vp b) (vi hs)
  let inv6 : Bxs × List Int × Nat → Prop := fun y => KF ps xs box ∧ y.1.length = ps.length ∧ y.2.1.length = ps.length ∧ inB ps y.1 y.2.1 ∧ y.2.2 ≤ ps.length
  refine con_of (L := fun id s b => match id with | 0 => ∃ y, inv0 y ∧ st0 y.1 y.2.1 y.2.2.1 y.2.2.2 = (s, b) | 2 => ∃ y, inv2 y ∧ st2 y.1.1 y.1.2.1 y.1.2.2 y.2.1 y.2.2.1 y.2.2.2 = (s, b) | 4 => ∃ y, inv4 y ∧ st4 y.1.1 y.1.2.1 y.1.2.2 y.2.1 y.2.2.1 y.2.2.2 = (s, b) | _ => ∃ y, inv6 y ∧ st6 y.1 y.2.1 y.2.2 = (s, b)) hokL mixed Try.func5 rfl (by show 3 ≤ 400; omega) rfl (ids := [0, 2, 4, 6]) (by kernel_rfl) rfl (fun caps => ?_) (fun id hid => ?_)
  · show gKp _ _ ps.length (caps 500) (vs7 ps) box.length (caps 501) (vp box) xs.length (caps 502) (vi xs) _
    rw [gKp_text]
    simp only [bc_t (v7le ps), vs7_whole]
    refine .inl ⟨⟨con6⟩, ?_⟩
    by_cases h7 : ps.length ≤ 7
    case neg =>
      have := conSm ps
      rw [decide_eq_false h7] at this
      exact .inr ⟨⟨this⟩, by first | rfl | trivial⟩
    have cSm := conSm ps
    rw [decide_eq_true h7] at cSm
    refine .inl ⟨⟨cSm⟩, _, ⟨conCE ps (by omega)⟩, bc_bne (fun _ => by first | rfl | trivial) (fun hc => ?_)⟩
    refine bc_dec (fun _ => by first | rfl | trivial) (fun hb7 => ?_)
    rw [w64 (z := 3 * (ps.length : Int)) (by omega) (by omega)]
    refine bc_dec (fun _ => by first | rfl | trivial) (fun hx => bc_dec (fun _ => by first | rfl | trivial) (fun hx2 => ?_))
    exact ⟨(0, caps 501, caps 502, caps 500), ⟨Nat.zero_le _, ⟨by first | omega | simp, hc, by omega, by omega⟩⟩, rfl⟩
  · have hid' : id = 0 ∨ id = 2 ∨ id = 4 ∨ id = 6 := by simpa using hid
    rcases hid' with rfl | rfl | rfl | rfl
    · refine ⟨_, fun y => st0 y.1 y.2.1 y.2.2.1 y.2.2.2, inv0, fun y => ps.length - y.1, ⟨fun s b h => h, by kernel_rfl, ?_⟩⟩
      rintro ⟨i, c1, c2, c3⟩ ⟨hi, hF⟩
      simp only at hi
      have hok := chE_ok hF.c
      have x0 := hF.x0; have x1 := hF.x1; have x7 := hF.b7
      have wi : i < ps.length → IntKind.wrap .i64 ((i : Int) + 1) = ((i + 1 : Nat) : Int) := fun h => by rw [w64 (by omega) (by omega)]; rfl
      have hlb : ∀ {i : Nat}, i < ps.length → (i : Int) < (ps.length : Int) ∧ (i : Int) < (xs.length : Int) := fun h => ⟨by omega, by omega⟩
      have facts : ∀ (h1 : i < ps.length), (At (vs7 ps) (Addr.off ⟨500, 0 + i * 7, none⟩ + 5) 2 [vI (ps.getD i sv0).f, vI (ps.getD i sv0).g]) ∧ (At (vi xs) (0 + i * 1) 1 [vI (xs.getD i 0)]) := by
        intro h1
        refine ⟨?_, ?_⟩
        · rw [gd_at h1]; exact vs7_fg ps i h1 500
        · rw [gd_at (show i < xs.length by omega)]; exact vi_at xs i (by omega)
      have dd : ∀ (h1 : i < ps.length), _ := fun h1 => pk_eq (xs.getD i 0) (hok.2.2 _ (gd_mem (d := sv0) h1)).f (hok.2.2 _ (gd_mem (d := sv0) h1)).g (hok.2.2 _ (gd_mem (d := sv0) h1)).fg
      cases i with
      | zero =>
        show rKp1 _ _ box.length c1 xs.length c2 ps.length ((0 : Nat) : Int) (vp box) (vi xs) ps.length c3 (vs7 ps) _ _ _
        rw [rKp1_text]
        have h1 : 0 < ps.length := hok.1
        obtain ⟨f1, f2⟩ := facts h1
        simp only [bc_t (hlb h1).1, bc_t (hlb h1).2, bc_t (show (0 : Int) ≤ ((0 : Nat) : Int) by omega), Int.toNat_natCast, at2 f1, at1 f2, wi h1, eq_self, true_and, and_true]
        refine ⟨_, ⟨conMo _ _ (dd h1).2.1 (dd h1).2.2⟩, ⟨(1, c1, c2, c3), ⟨h1, hF⟩, by show ps.length - 1 < ps.length - 0; omega, ?_⟩⟩
        rw [(dd h1).1]; rfl
      | succ i =>
        show rKp2 _ _ box.length c1 xs.length c2 ps.length (i + 1) ((i + 1 : Nat) : Int) (vp box) (vi xs) ps.length c3 (vi ((List.range (i + 1)).map (sF ps xs))) (vs7 ps) _ _ _
        rw [rKp2_text]
        refine bc_dec (fun h => ?_) (fun h => ?_)
        · have h1 : i + 1 < ps.length := by omega
          obtain ⟨f1, f2⟩ := facts h1
          have q1 : 0 + (i + 1) * 1 ≤ (vi ((List.range (i + 1)).map (sF ps xs))).length := by simp
          have q2 : 0 + (i + 1) * 1 = (vi ((List.range (i + 1)).map (sF ps xs))).length := by simp
          simp only [bc_t (hlb h1).1, bc_t (hlb h1).2, bc_t (show (0 : Int) ≤ ((i + 1 : Nat) : Int) by omega), Int.toNat_natCast, at2 f1, at1 f2, wi h1, rg_take, bc_t (show i + 1 < i + 1 + 1 by omega), bc_t (show (2 * (i + 1 + 1) + 768) * 8 ≤ 281474976710656 by omega), bc_t (show i + 1 + 1 ≤ 1099511627776 by omega), bc_t q1, bc_t q2, eq_self, true_and, and_true]
          refine ⟨_, ⟨conMo _ _ (dd h1).2.1 (dd h1).2.2⟩, ⟨(i + 2, c1, c2, c3), ⟨h1, hF⟩, by show ps.length - (i + 2) < ps.length - (i + 1); omega, ?_⟩⟩
          have g : vi ((List.range (i + 1)).map (sF ps xs)) ++ [vI (sF ps xs (i + 1))] = vi ((List.range (i + 2)).map (sF ps xs)) := rg_snoc (sF ps xs) (i + 1)
          rw [(dd h1).1]
          show st0 (i + 2) c1 c2 c3 = (_, _)
          rw [show pick (ps.getD (i + 1) sv0).f (ps.getD (i + 1) sv0).g (xs.getD (i + 1) 0) = sF ps xs (i + 1) from rfl, g]
        · show (if 0 = 0 then _ else _)
          rw [if_pos rfl]
          have hip : i + 1 = ps.length := by omega
          show nKp3 _ _ box.length c1 xs.length c2 ps.length (i + 1) (vp box) (vi xs) ps.length c3 (vi ((List.range (i + 1)).map (sF ps xs))) (vs7 ps) _
          rw [nKp3_text, hip]
          have hst := stGo_all (sts_lim hF.c xs) (by simp)
          obtain ⟨r, hg⟩ := grow_all (ps := ps) (slack ps (bxOf (sts ps xs) (sts ps xs))) (b := bxOf (sts ps xs) (sts ps xs)) (Nat.le_refl _) (by simp)
          have c19 := conBF (.grow hF.c (by simp) hst r hg) (by omega)
          have c17 := conCB ps box (by omega)
          have c20 := conCIx (sts ps xs) (by simp; omega)
          rw [sts_length] at c19 c20
          have w1 : List.take (ps.length * 1) (List.drop 0 (vi ((List.range ps.length).map (sF ps xs)))) = vi (sts ps xs) := rg_take _ _
          have w2 : List.take (ps.length * 1) (List.drop 0 (vi (sts ps xs))) = vi (sts ps xs) := rg_take _ _
          simp only [bc_t (v7le ps), vs7_whole, bc_t (vple box), vp_whole, bc_t (show 0 + ps.length * 1 ≤ (vi ((List.range ps.length).map (sF ps xs))).length by simp), w1, bc_t (show 0 + ps.length * 1 ≤ (vi (sts ps xs)).length by simp), w2, eq_self, true_and]
          have k0 : (cbP ps box).2 = 0 → KI ps xs box 0 := fun h => ⟨h, fun j hj => absurd hj (Nat.not_lt_zero j)⟩
          have k1 : (cbP ps box).2 ≠ 0 → ¬ KI ps xs box ps.length := fun h hk => h hk.ok
          refine ⟨⟨conCpC ps (by omega)⟩, ⟨c20⟩, ?_⟩
          cases r with
          | none =>
            refine .inl ⟨_, ⟨c19⟩, ⟨conCpC ps (by omega)⟩, ⟨conCR box (by omega)⟩, _, _, ⟨c17⟩, ?_⟩
            exact bc_beq (fun h0 => bc_beq (fun hl => ⟨((none, 0, true), c1, c2, c3), ⟨hF, hg, Nat.zero_le _, fun _ => k0 h0, (fun h => by cases h)⟩, rfl⟩) (fun hl => ⟨((none, 0, false), c1, c2, c3), ⟨hF, hg, Nat.zero_le _, (fun h => by cases h), fun _ hk => hl (by rw [(cbP_acc hk.ok).2.1])⟩, rfl⟩)) (fun h0 => ⟨((none, 0, false), c1, c2, c3), ⟨hF, hg, Nat.zero_le _, (fun h => by cases h), fun _ => k1 h0⟩, rfl⟩)
          | some b =>
            have hbl := (grow_facts hg (by simp) (stGo_ok (by simp) hst) (bxOf_ord ps _) b rfl).1
            rw [bfOf, hbl] at c19
            refine .inr ⟨_, _, _, ⟨c19⟩, ⟨conCpC ps (by omega)⟩, ⟨conCR box (by omega)⟩, _, _, ⟨c17⟩, ?_⟩
            exact bc_beq (fun h0 => bc_beq (fun hl => ⟨((some b, 0, true), c1, c2, c3), ⟨hF, hg, Nat.zero_le _, fun _ => k0 h0, (fun h => by cases h)⟩, rfl⟩) (fun hl => ⟨((some b, 0, false), c1, c2, c3), ⟨hF, hg, Nat.zero_le _, (fun h => by cases h), fun _ hk => hl (by rw [(cbP_acc hk.ok).2.1])⟩, rfl⟩)) (fun h0 => ⟨((some b, 0, false), c1, c2, c3), ⟨hF, hg, Nat.zero_le _, (fun h => by cases h), fun _ => k1 h0⟩, rfl⟩)
    · refine ⟨_, fun y => st2 y.1.1 y.1.2.1 y.1.2.2 y.2.1 y.2.2.1 y.2.2.2, inv2, fun y => ps.length - y.1.2.1, ⟨fun s b h => h, by kernel_rfl, ?_⟩⟩
      rintro ⟨⟨r, i, q⟩, c1, c2, c3⟩ ⟨hF, hg, hi, hq1, hq2⟩
      simp only at hg hi hq1 hq2
      have hok := chE_ok hF.c
      have x0 := hF.x0; have x1 := hF.x1; have x7 := hF.b7
      have hst := stGo_all (sts_lim hF.c xs) (by simp)
      have wi : i < ps.length → IntKind.wrap .i64 ((i : Int) + 1) = ((i + 1 : Nat) : Int) := fun h => by rw [w64 (by omega) (by omega)]; rfl
      have step : ∀ (h1 : i < ps.length), q = true → ∀ {P : Prop}, (((sts ps xs).getD i 0 < (box.getD i p0).1 ∨ (sts ps xs).getD i 0 > (box.getD i p0).2) → ¬ KI ps xs box ps.length) ∧ (((box.getD i p0).1 ≤ (sts ps xs).getD i 0 ∧ (sts ps xs).getD i 0 ≤ (box.getD i p0).2) → KI ps xs box (i + 1)) ∧ box.length = ps.length := by
        intro h1 hq P
        have hk := hq1 hq
        refine ⟨fun hh hk2 => ?_, fun hh => ⟨hk.ok, fun j hj => ?_⟩, (cbP_acc hk.ok).2.1⟩
        · have := hk2.inn i h1; omega
        · by_cases hji : j < i
          · exact hk.inn j hji
          · obtain rfl : j = i := by omega
            exact hh
      cases r with
      | none =>
        show rKp4 _ _ box.length c1 xs.length c2 ps.length ps.length 12 q (i : Int) (vp box) (vi xs) ps.length c3 (vi (sts ps xs)) (vs7 ps) _ _ _
        rw [rKp4_text]
        refine bc_dec (fun h => ?_) (fun h => ?_)
        · have h1 : i < ps.length := by omega
          cases q with
          | true =>
            have stp := step h1 rfl (P := True)
            have hbl := stp.2.2
            have m1 : At (vp box) (0 + i * 2) 1 [vI (box.getD i p0).1] := by rw [gd_at (show i < box.length by omega)]; exact vp_one box i (by omega)
            have m2 : At (vp box) (Addr.off ⟨501, 0 + i * 2, none⟩ + 1) 1 [vI (box.getD i p0).2] := by rw [gd_at (show i < box.length by omega)]; exact vp_sndA box i (by omega) 501
            have m3 : At (vi (sts ps xs)) (0 + i * 1) 1 [vI ((sts ps xs).getD i 0)] := by rw [gd_at (show i < (sts ps xs).length by simpa using h1)]; exact vi_at _ i (by simpa using h1)
            simp only [bcase_t, bcase_f, bc_t h, bc_t (show (i : Int) < (ps.length : Int) by omega), bc_t (show (i : Int) < (box.length : Int) by omega), bc_t (show (0 : Int) ≤ (i : Int) by omega), Int.toNat_natCast, at1 m1, at1 m2, at1 m3, wi h1, eq_self, true_and, and_true]
            by_cases hh : (box.getD i p0).1 ≤ (sts ps xs).getD i 0 ∧ (sts ps xs).getD i 0 ≤ (box.getD i p0).2
            · exact .inl ⟨sayWt hh, ⟨((none, i + 1, true), c1, c2, c3), ⟨hF, hg, h1, fun _ => stp.2.1 hh, (fun h => by cases h)⟩, by show ps.length - (i + 1) < ps.length - i; omega, rfl⟩⟩
            · exact .inr ⟨sayWf hh, ⟨((none, i + 1, false), c1, c2, c3), ⟨hF, hg, h1, (fun h => by cases h), (fun _ => stp.1 (by omega))⟩, by show ps.length - (i + 1) < ps.length - i; omega, rfl⟩⟩
          | false =>
            rw [bcase_f]
            show (if 2 = 2 then _ else _)
            rw [if_pos rfl]
            show nKp13 _ _ box.length c1 xs.length c2 ps.length ps.length 12 false (vp box) (vi xs) ps.length c3 (vi (sts ps xs)) (vs7 ps) _
            rw [nKp13_text]
            exact bc_bne (fun _ => bc_beq (fun _ => by first | rfl | trivial) (fun h => absurd rfl h)) (fun h => absurd h (by decide))
        · have hii : i = ps.length := by omega
          cases q with
          | true =>
            show (if 2 = 2 then _ else _)
            rw [if_pos rfl]
            show nKp13 _ _ box.length c1 xs.length c2 ps.length ps.length 12 true (vp box) (vi xs) ps.length c3 (vi (sts ps xs)) (vs7 ps) _
            rw [nKp13_text]
            exact absurd (ki_min hF.c hg (by have := hq1 rfl; rwa [hii] at this)).2 (by rintro ⟨b', h, _⟩; cases h)
          | false =>
            show (if 2 = 2 then _ else _)
            rw [if_pos rfl]
            show nKp13 _ _ box.length c1 xs.length c2 ps.length ps.length 12 false (vp box) (vi xs) ps.length c3 (vi (sts ps xs)) (vs7 ps) _
            rw [nKp13_text]
            exact bc_bne (fun _ => bc_beq (fun _ => by first | rfl | trivial) (fun h => absurd rfl h)) (fun h => absurd h (by decide))
      
      | some b =>
        show rKp5 _ _ box.length c1 xs.length c2 ps.length ps.length ps.length 0 q (i : Int) (vp box) (vi xs) ps.length c3 (vi (sts ps xs)) (vp b) (vs7 ps) _ _ _
        rw [rKp5_text]
        refine bc_dec (fun h => ?_) (fun h => ?_)
        · have h1 : i < ps.length := by omega
          cases q with
          | true =>
            have stp := step h1 rfl (P := True)
            have hbl := stp.2.2
            have m1 : At (vp box) (0 + i * 2) 1 [vI (box.getD i p0).1] := by rw [gd_at (show i < box.length by omega)]; exact vp_one box i (by omega)
            have m2 : At (vp box) (Addr.off ⟨501, 0 + i * 2, none⟩ + 1) 1 [vI (box.getD i p0).2] := by rw [gd_at (show i < box.length by omega)]; exact vp_sndA box i (by omega) 501
            have m3 : At (vi (sts ps xs)) (0 + i * 1) 1 [vI ((sts ps xs).getD i 0)] := by rw [gd_at (show i < (sts ps xs).length by simpa using h1)]; exact vi_at _ i (by simpa using h1)
            simp only [bcase_t, bcase_f, bc_t h, bc_t (show (i : Int) < (ps.length : Int) by omega), bc_t (show (i : Int) < (box.length : Int) by omega), bc_t (show (0 : Int) ≤ (i : Int) by omega), Int.toNat_natCast, at1 m1, at1 m2, at1 m3, wi h1, eq_self, true_and, and_true]
            by_cases hh : (box.getD i p0).1 ≤ (sts ps xs).getD i 0 ∧ (sts ps xs).getD i 0 ≤ (box.getD i p0).2
            · exact .inl ⟨sayWt hh, ⟨((some b, i + 1, true), c1, c2, c3), ⟨hF, hg, h1, fun _ => stp.2.1 hh, (fun h => by cases h)⟩, by show ps.length - (i + 1) < ps.length - i; omega, rfl⟩⟩
            · exact .inr ⟨sayWf hh, ⟨((some b, i + 1, false), c1, c2, c3), ⟨hF, hg, h1, (fun h => by cases h), (fun _ => stp.1 (by omega))⟩, by show ps.length - (i + 1) < ps.length - i; omega, rfl⟩⟩
          | false =>
            rw [bcase_f]
            show (if 2 = 2 then _ else _)
            rw [if_pos rfl]
            show nKp6 _ _ box.length c1 xs.length c2 ps.length ps.length ps.length 0 false (vp box) (vi xs) ps.length c3 (vi (sts ps xs)) (vp b) (vs7 ps) _
            rw [nKp6_text]
            have hfx := grow_facts hg (by simp) (stGo_ok (by simp) hst) (bxOf_ord ps _) b rfl
            have hB : HB ps (sts ps xs) b := ⟨sts_lim hF.c xs, hg, hfx.1, hfx.2.1, hfx.2.2.1, hfx.2.2.2.1, bth_fix hfx.1 hfx.2.2.2.2⟩
            have c17 := conCB ps b (by omega)
            have ecb : cbD ps b = [dI 0, dI 0] := by rw [cbD, cbP_ok hF.c hB.l hB.il hB.o hB.k]
            have c18 := conCR b (by rw [hB.l]; omega)
            rw [ecb, hB.l] at c17
            rw [hB.l] at c18
            have w1 : List.take (ps.length * 2) (List.drop 0 (vp b)) = vp b := by rw [← hB.l]; exact vp_whole b
            refine bc_bne (fun h => absurd rfl h) (fun _ => bc_bne (fun h => absurd rfl h) (fun _ => ?_))
            simp only [bc_t (v7le ps), vs7_whole, bc_t (show 0 + ps.length * 2 ≤ (vp b).length by rw [vp_length, hB.l]; omega), w1, eq_self, true_and]
            refine ⟨⟨conCpC ps (by omega)⟩, ⟨c18⟩, _, _, ⟨c17⟩, bc_bne (fun h => absurd rfl h) (fun _ => ?_)⟩
            exact ⟨((b, 0, false), c1, c2, c3), ⟨hF, hB, Nat.zero_le _, (fun h => by cases h)⟩, rfl⟩
        · have hii : i = ps.length := by omega
          cases q with
          | true =>
            show (if 2 = 2 then _ else _)
            rw [if_pos rfl]
            show nKp6 _ _ box.length c1 xs.length c2 ps.length ps.length ps.length 0 true (vp box) (vi xs) ps.length c3 (vi (sts ps xs)) (vp b) (vs7 ps) _
            rw [nKp6_text]
            have hfx := grow_facts hg (by simp) (stGo_ok (by simp) hst) (bxOf_ord ps _) b rfl
            have hB : HB ps (sts ps xs) b := ⟨sts_lim hF.c xs, hg, hfx.1, hfx.2.1, hfx.2.2.1, hfx.2.2.2.1, bth_fix hfx.1 hfx.2.2.2.2⟩
            have c17 := conCB ps b (by omega)
            have ecb : cbD ps b = [dI 0, dI 0] := by rw [cbD, cbP_ok hF.c hB.l hB.il hB.o hB.k]
            have c18 := conCR b (by rw [hB.l]; omega)
            rw [ecb, hB.l] at c17
            rw [hB.l] at c18
            have w1 : List.take (ps.length * 2) (List.drop 0 (vp b)) = vp b := by rw [← hB.l]; exact vp_whole b
            refine bc_bne (fun h => absurd rfl h) (fun _ => bc_bne (fun h => absurd rfl h) (fun _ => ?_))
            simp only [bc_t (v7le ps), vs7_whole, bc_t (show 0 + ps.length * 2 ≤ (vp b).length by rw [vp_length, hB.l]; omega), w1, eq_self, true_and]
            refine ⟨⟨conCpC ps (by omega)⟩, ⟨c18⟩, _, _, ⟨c17⟩, bc_bne (fun h => absurd rfl h) (fun _ => ?_)⟩
            exact ⟨((b, 0, true), c1, c2, c3), ⟨hF, hB, Nat.zero_le _, fun _ => ⟨(ki_min hF.c hg (by have := hq1 rfl; rwa [hii] at this)).1, by obtain ⟨b', h, hs⟩ := (ki_min hF.c hg (by have := hq1 rfl; rwa [hii] at this)).2; cases h; exact hs⟩⟩, rfl⟩
          | false =>
            show (if 2 = 2 then _ else _)
            rw [if_pos rfl]
            show nKp6 _ _ box.length c1 xs.length c2 ps.length ps.length ps.length 0 false (vp box) (vi xs) ps.length c3 (vi (sts ps xs)) (vp b) (vs7 ps) _
            rw [nKp6_text]
            have hfx := grow_facts hg (by simp) (stGo_ok (by simp) hst) (bxOf_ord ps _) b rfl
            have hB : HB ps (sts ps xs) b := ⟨sts_lim hF.c xs, hg, hfx.1, hfx.2.1, hfx.2.2.1, hfx.2.2.2.1, bth_fix hfx.1 hfx.2.2.2.2⟩
            have c17 := conCB ps b (by omega)
            have ecb : cbD ps b = [dI 0, dI 0] := by rw [cbD, cbP_ok hF.c hB.l hB.il hB.o hB.k]
            have c18 := conCR b (by rw [hB.l]; omega)
            rw [ecb, hB.l] at c17
            rw [hB.l] at c18
            have w1 : List.take (ps.length * 2) (List.drop 0 (vp b)) = vp b := by rw [← hB.l]; exact vp_whole b
            refine bc_bne (fun h => absurd rfl h) (fun _ => bc_bne (fun h => absurd rfl h) (fun _ => ?_))
            simp only [bc_t (v7le ps), vs7_whole, bc_t (show 0 + ps.length * 2 ≤ (vp b).length by rw [vp_length, hB.l]; omega), w1, eq_self, true_and]
            refine ⟨⟨conCpC ps (by omega)⟩, ⟨c18⟩, _, _, ⟨c17⟩, bc_bne (fun h => absurd rfl h) (fun _ => ?_)⟩
            exact ⟨((b, 0, false), c1, c2, c3), ⟨hF, hB, Nat.zero_le _, (fun h => by cases h)⟩, rfl⟩
    · refine ⟨_, fun y => st4 y.1.1 y.1.2.1 y.1.2.2 y.2.1 y.2.2.1 y.2.2.2, inv4, fun y => ps.length - y.1.2.1, ⟨fun s b h => h, by kernel_rfl, ?_⟩⟩
      rintro ⟨⟨b, i, q⟩, c1, c2, c3⟩ ⟨hF, hB, hi, hq⟩
      simp only at hB hi hq
      have hok := chE_ok hF.c
      have x0 := hF.x0; have x1 := hF.x1; have x7 := hF.b7
      have hbl := hB.l
      have wi : i < ps.length → IntKind.wrap .i64 ((i : Int) + 1) = ((i + 1 : Nat) : Int) := fun h => by rw [w64 (by omega) (by omega)]; rfl
      have wn : i < ps.length → IntKind.wrap .i64 ((ps.length : Int) + (i : Int)) = ((ps.length + i : Nat) : Int) := fun h => by rw [w64 (by omega) (by omega)]; omega
      have w2n : IntKind.wrap .i64 (2 * (ps.length : Int)) = ((2 * ps.length : Nat) : Int) := by rw [w64 (by omega) (by omega)]; omega
      have w2m : i < ps.length → IntKind.wrap .i64 (((2 * ps.length : Nat) : Int) + (i : Int)) = ((2 * ps.length + i : Nat) : Int) := fun h => by rw [w64 (by omega) (by omega)]; omega
      have hlb : i < ps.length → (i : Int) < (ps.length : Int) ∧ ((ps.length + i : Nat) : Int) < (xs.length : Int) ∧ ((2 * ps.length + i : Nat) : Int) < (xs.length : Int) := fun h => ⟨by omega, by omega, by omega⟩
      have facts : ∀ (h1 : i < ps.length), (At (vs7 ps) (0 + i * 7) 7 (ps.getD i sv0).row) ∧ (At (vi (sts ps xs)) (0 + i * 1) 1 [vI ((sts ps xs).getD i 0)]) ∧ (At (vp b) (0 + i * 2) 1 [vI (b.getD i p0).1]) ∧ (At (vp b) (Addr.off ⟨1002, 0 + i * 2, none⟩ + 1) 1 [vI (b.getD i p0).2]) ∧ (At (vi xs) (0 + (ps.length + i) * 1) 1 [vI (xs.getD (ps.length + i) 0)]) ∧ (At (vi xs) (0 + (2 * ps.length + i) * 1) 1 [vI (xs.getD (2 * ps.length + i) 0)]) ∧ (At (vp b) (Addr.off ⟨1001, 0 + i * 2, none⟩ + 1) 1 [vI (b.getD i p0).2]) := by
        intro h1
        refine ⟨?_, ?_, ?_, ?_, ?_, ?_, ?_⟩
        · rw [gd_at h1]; exact vs7_all ps i h1
        · rw [gd_at (show i < (sts ps xs).length by simpa using h1)]; exact vi_at _ i (by simpa using h1)
        · rw [gd_at (show i < b.length by omega)]; exact vp_one b i (by omega)
        · rw [gd_at (show i < b.length by omega)]; exact vp_sndA b i (by omega) 1002
        · rw [gd_at (show ps.length + i < xs.length by omega)]; exact vi_at xs _ (by omega)
        · rw [gd_at (show 2 * ps.length + i < xs.length by omega)]; exact vi_at xs _ (by omega)
        · rw [gd_at (show i < b.length by omega)]; exact vp_sndA b i (by omega) 1001
      have bnd : ∀ (h1 : i < ps.length), _ ∧ _ ∧ _ := fun h1 => by
        have hp := hok.2.2 _ (gd_mem (d := sv0) h1)
        have q5 := (ilB_iff hB.l).1 hB.il i h1
        unfold lim1 at q5
        have fgt := hp.f; have ggt := hp.g
        exact ⟨pk_eq (lo := (b.getD i p0).1) (hi := (b.getD i p0).2) (xs.getD (ps.length + i) 0) ⟨by omega, by omega⟩ ⟨by omega, by omega⟩ (hB.o i h1), pk_eq (lo := (ps.getD i sv0).d) (hi := (ps.getD i sv0).e) (xs.getD (2 * ps.length + i) 0) hp.d hp.e hp.de, q5⟩
      have ins : ∀ (h1 : i < ps.length), (b.getD i p0).1 ≤ (sts ps xs).getD i 0 ∧ (sts ps xs).getD i 0 ≤ (b.getD i p0).2 := fun h1 => by
        have := hB.s i h1
        rw [bxOf_at (by simpa using h1)] at this
        exact this
      have boxf : ∀ (h1 : i < ps.length), q = true → (At (vp box) (0 + i * 2) 1 [vI (box.getD i p0).1]) ∧ (At (vp box) (Addr.off ⟨501, 0 + i * 2, none⟩ + 1) 1 [vI (box.getD i p0).2]) ∧ (i : Int) < (box.length : Int) ∧ ¬ (b.getD i p0).1 < (box.getD i p0).1 ∧ ¬ (b.getD i p0).2 > (box.getD i p0).2 := by
        intro h1 hq0
        have h := hq hq0
        have hs := h.2 i h1
        refine ⟨?_, ?_, by omega, by omega, by omega⟩
        · rw [gd_at (show i < box.length by omega)]; exact vp_one box i (by omega)
        · rw [gd_at (show i < box.length by omega)]; exact vp_sndA box i (by omega) 501
      cases i with
      | zero =>
        show rKp7 _ _ box.length c1 xs.length c2 ps.length ps.length ps.length q ((0 : Nat) : Int) (vp box) (vi xs) ps.length c3 (vi (sts ps xs)) (vp b) (vs7 ps) _ _ _
        rw [rKp7_text]
        have h1 : 0 < ps.length := hok.1
        obtain ⟨f1, f2, f3, f4, f5, f6, f7⟩ := facts h1
        obtain ⟨e1, e2, e3⟩ := bnd h1
        cases q with
        | true =>
          obtain ⟨g1, g2, g3, g4, g5⟩ := boxf h1 rfl
          simp only [bc_t (hlb h1).1, bc_t (hlb h1).2.1, bc_t (hlb h1).2.2, bc_t (show (0 : Int) ≤ ((0 : Nat) : Int) by omega), wn h1, w2n, w2m h1, bc_t (show (0 : Int) ≤ ((ps.length + 0 : Nat) : Int) by omega), bc_t (show (0 : Int) ≤ ((2 * ps.length + 0 : Nat) : Int) by omega), Int.toNat_natCast, at7 f1, at1 f2, at1 f3, at1 f4, at1 f5, at1 f6, at1 f7, wi h1, eq_self, true_and, and_true, bcase_t, bcase_f, at1 g1, at1 g2, bc_t g3, bc_f g4, bc_f g5]
          refine .inl ⟨sayWt (ins h1), .inl ⟨sayWt e3.1, .inl ⟨sayWt e3.2, ⟨_, ⟨conMo _ _ e1.2.1 e1.2.2⟩, _, ⟨conMo _ _ e2.2.1 e2.2.2⟩, ?_⟩⟩⟩⟩
          rw [e1.1, e2.1]
          exact ⟨((b, 1, true), c1, c2, c3), ⟨hF, hB, h1, hq⟩, by show ps.length - 1 < ps.length - 0; omega, rfl⟩
        | false =>
          simp only [bc_t (hlb h1).1, bc_t (hlb h1).2.1, bc_t (hlb h1).2.2, bc_t (show (0 : Int) ≤ ((0 : Nat) : Int) by omega), wn h1, w2n, w2m h1, bc_t (show (0 : Int) ≤ ((ps.length + 0 : Nat) : Int) by omega), bc_t (show (0 : Int) ≤ ((2 * ps.length + 0 : Nat) : Int) by omega), Int.toNat_natCast, at7 f1, at1 f2, at1 f3, at1 f4, at1 f5, at1 f6, at1 f7, wi h1, eq_self, true_and, and_true, bcase_t, bcase_f]
          refine .inl ⟨sayWt (ins h1), .inl ⟨sayWt e3.1, .inl ⟨sayWt e3.2, ⟨_, ⟨conMo _ _ e1.2.1 e1.2.2⟩, _, ⟨conMo _ _ e2.2.1 e2.2.2⟩, ?_⟩⟩⟩⟩
          rw [e1.1, e2.1]
          exact ⟨((b, 1, false), c1, c2, c3), ⟨hF, hB, h1, hq⟩, by show ps.length - 1 < ps.length - 0; omega, rfl⟩
      | succ i =>
        show rKp8 _ _ box.length c1 xs.length c2 ps.length ps.length ps.length q ((i + 1 : Nat) : Int) (vp box) (vi xs) ps.length c3 (vi (sts ps xs)) (vp b) (i + 1) (i + 1) (vs7 ps) (vi ((List.range (i + 1)).map (htF ps b xs))) (vi ((List.range (i + 1)).map (eF ps xs))) _ _ _
        rw [rKp8_text]
        refine bc_dec (fun h => ?_) (fun h => ?_)
        · have h1 : i + 1 < ps.length := by omega
          have q1 : ∀ f : Nat → Int, 0 + (i + 1) * 1 ≤ (vi ((List.range (i + 1)).map f)).length := fun f => by simp
          have q2 : ∀ f : Nat → Int, 0 + (i + 1) * 1 = (vi ((List.range (i + 1)).map f)).length := fun f => by simp
          have g1 : vi ((List.range (i + 1)).map (htF ps b xs)) ++ [vI (pick (b.getD (i + 1) p0).1 (b.getD (i + 1) p0).2 (xs.getD (ps.length + (i + 1)) 0))] = vi ((List.range (i + 2)).map (htF ps b xs)) := rg_snoc (htF ps b xs) (i + 1)
          have g2 : vi ((List.range (i + 1)).map (eF ps xs)) ++ [vI (pick (ps.getD (i + 1) sv0).d (ps.getD (i + 1) sv0).e (xs.getD (2 * ps.length + (i + 1)) 0))] = vi ((List.range (i + 2)).map (eF ps xs)) := rg_snoc (eF ps xs) (i + 1)
          have hst8 : ∀ q : Bool, st4 b (i + 2) q c1 c2 c3 = zKp8 box.length c1 xs.length c2 ps.length ps.length ps.length q ((i + 2 : Nat) : Int) (vp box) (vi xs) ps.length c3 (vi (sts ps xs)) (vp b) (i + 2) (i + 2) (vs7 ps) (vi ((List.range (i + 1)).map (htF ps b xs)) ++ [vI (pick (b.getD (i + 1) p0).1 (b.getD (i + 1) p0).2 (xs.getD (ps.length + (i + 1)) 0))]) (vi ((List.range (i + 1)).map (eF ps xs)) ++ [vI (pick (ps.getD (i + 1) sv0).d (ps.getD (i + 1) sv0).e (xs.getD (2 * ps.length + (i + 1)) 0))]) := fun q => by rw [g1, g2]
          obtain ⟨f1, f2, f3, f4, f5, f6, f7⟩ := facts h1
          obtain ⟨e1, e2, e3⟩ := bnd h1
          cases q with
          | true =>
            obtain ⟨g1, g2, g3, g4, g5⟩ := boxf h1 rfl
            simp only [bc_t (hlb h1).1, bc_t (hlb h1).2.1, bc_t (hlb h1).2.2, bc_t (show (0 : Int) ≤ ((i + 1 : Nat) : Int) by omega), wn h1, w2n, w2m h1, bc_t (show (0 : Int) ≤ ((ps.length + (i + 1) : Nat) : Int) by omega), bc_t (show (0 : Int) ≤ ((2 * ps.length + (i + 1) : Nat) : Int) by omega), Int.toNat_natCast, at7 f1, at1 f2, at1 f3, at1 f4, at1 f5, at1 f6, at1 f7, wi h1, eq_self, true_and, and_true, bcase_t, bcase_f, rg_take, bc_t (show i + 1 < i + 1 + 1 by omega), bc_t (show (2 * (i + 1 + 1) + 768) * 8 ≤ 281474976710656 by omega), bc_t (show i + 1 + 1 ≤ 1099511627776 by omega), bc_t (q1 (htF ps b xs)), bc_t (q2 (htF ps b xs)), bc_t (q1 (eF ps xs)), bc_t (q2 (eF ps xs)), at1 g1, at1 g2, bc_t g3, bc_f g4, bc_f g5]
            refine .inl ⟨sayWt (ins h1), .inl ⟨sayWt e3.1, .inl ⟨sayWt e3.2, ⟨_, ⟨conMo _ _ e1.2.1 e1.2.2⟩, _, ⟨conMo _ _ e2.2.1 e2.2.2⟩, ?_⟩⟩⟩⟩
            rw [e1.1, e2.1]
            exact ⟨((b, i + 2, true), c1, c2, c3), ⟨hF, hB, h1, hq⟩, by show ps.length - (i + 2) < ps.length - (i + 1); omega, hst8 _⟩
          | false =>
            simp only [bc_t (hlb h1).1, bc_t (hlb h1).2.1, bc_t (hlb h1).2.2, bc_t (show (0 : Int) ≤ ((i + 1 : Nat) : Int) by omega), wn h1, w2n, w2m h1, bc_t (show (0 : Int) ≤ ((ps.length + (i + 1) : Nat) : Int) by omega), bc_t (show (0 : Int) ≤ ((2 * ps.length + (i + 1) : Nat) : Int) by omega), Int.toNat_natCast, at7 f1, at1 f2, at1 f3, at1 f4, at1 f5, at1 f6, at1 f7, wi h1, eq_self, true_and, and_true, bcase_t, bcase_f, rg_take, bc_t (show i + 1 < i + 1 + 1 by omega), bc_t (show (2 * (i + 1 + 1) + 768) * 8 ≤ 281474976710656 by omega), bc_t (show i + 1 + 1 ≤ 1099511627776 by omega), bc_t (q1 (htF ps b xs)), bc_t (q2 (htF ps b xs)), bc_t (q1 (eF ps xs)), bc_t (q2 (eF ps xs))]
            refine .inl ⟨sayWt (ins h1), .inl ⟨sayWt e3.1, .inl ⟨sayWt e3.2, ⟨_, ⟨conMo _ _ e1.2.1 e1.2.2⟩, _, ⟨conMo _ _ e2.2.1 e2.2.2⟩, ?_⟩⟩⟩⟩
            rw [e1.1, e2.1]
            exact ⟨((b, i + 2, false), c1, c2, c3), ⟨hF, hB, h1, hq⟩, by show ps.length - (i + 2) < ps.length - (i + 1); omega, hst8 _⟩
        · show (if 4 = 4 then _ else _)
          rw [if_pos rfl]
          have hip : i + 1 = ps.length := by omega
          show nKp9 _ _ ps.length ps.length ps.length c3 (vp b) (i + 1) (i + 1) (vs7 ps) (vi ((List.range (i + 1)).map (htF ps b xs))) (vi ((List.range (i + 1)).map (eF ps xs))) _
          rw [nKp9_text, hip]
          have hin : inB ps b ((List.range ps.length).map (htF ps b xs)) := fun j hj => by
            rw [rg_getI hj]; exact pick_in (hB.o j hj)
          have hlims : ∀ j, j < ps.length → (ps.getD j sv0).f ≤ ((List.range ps.length).map (htF ps b xs)).getD j 0 ∧ ((List.range ps.length).map (htF ps b xs)).getD j 0 ≤ (ps.getD j sv0).g := fun j hj => by
            have q5 := (ilB_iff hB.l).1 hB.il j hj
            have q2 := hin j hj
            unfold lim1 at q5
            omega
          have dlims : ∀ j, j < ps.length → (ps.getD j sv0).d ≤ ((List.range ps.length).map (eF ps xs)).getD j 0 ∧ ((List.range ps.length).map (eF ps xs)).getD j 0 ≤ (ps.getD j sv0).e := fun j hj => by
            rw [rg_getI hj]; exact pick_in (hok.2.2 _ (gd_mem (d := sv0) hj)).de
          have hmv : mvE ps ((List.range ps.length).map (htF ps b xs)) ((List.range ps.length).map (eF ps xs)) = 0 := by
            rw [mvE, if_neg (by simp)]
            exact mvGo_all hlims dlims (by simp) (by simp)
          have c11 := conSt ps ((List.range ps.length).map (htF ps b xs)) ((List.range ps.length).map (eF ps xs)) (by omega)
          rw [stD, if_neg (fun x => x hF.c), if_neg (fun x => x hmv)] at c11
          simp only [List.length_map, List.length_range] at c11
          simp only [bc_t (v7le ps), vs7_whole, bc_t (show 0 + ps.length * 1 ≤ (vi ((List.range ps.length).map (htF ps b xs))).length by simp), bc_t (show 0 + ps.length * 1 ≤ (vi ((List.range ps.length).map (eF ps xs))).length by simp), rg_take, eq_self, true_and]
          refine ⟨⟨conCpC ps (by omega)⟩, .inr ⟨_, _, _, ⟨c11⟩, bc_bne (fun h => absurd rfl h) (fun _ => bc_bne (fun h => absurd rfl h) (fun _ => ?_))⟩⟩
          exact ⟨(b, aft ps ((List.range ps.length).map (htF ps b xs)) ((List.range ps.length).map (eF ps xs)), 0), ⟨hF, hB.l, aft_length _ _ _, keep_in hok.2.2 hB.k hin dlims, Nat.zero_le _⟩, rfl⟩
    · refine ⟨_, fun y => st6 y.1 y.2.1 y.2.2, inv6, fun y => ps.length - y.2.2, ⟨fun s b h => h, by kernel_rfl, ?_⟩⟩
      rintro ⟨b, hs, i⟩ ⟨hF, hbl, hhl, hin, hi⟩
      simp only at hbl hhl hin hi
      show rKp11 _ _ ps.length ps.length ps.length (i : Int) (vp b) (vi hs) _ _ _
      rw [rKp11_text]
      have hok := chE_ok hF.c
      refine bc_dec (fun h => ?_) (fun h => ?_)
      · have h1 : i < ps.length := by omega
        have m1 : At (vp b) (0 + i * 2) 1 [vI (b.getD i p0).1] := by rw [gd_at (show i < b.length by omega)]; exact vp_one b i (by omega)
        have m2 : At (vp b) (Addr.off ⟨1000, 0 + i * 2, none⟩ + 1) 1 [vI (b.getD i p0).2] := by rw [gd_at (show i < b.length by omega)]; exact vp_sndA b i (by omega) 1000
        have m3 : At (vi hs) (0 + i * 1) 1 [vI (hs.getD i 0)] := by rw [gd_at (show i < hs.length by omega)]; exact vi_at hs i (by omega)
        simp only [bc_t h, bc_t (show (0 : Int) ≤ (i : Int) by omega), Int.toNat_natCast, at1 m1, at1 m2, at1 m3, eq_self, true_and, and_true]
        refine .inl ⟨sayWt (hin i h1), ⟨(b, hs, i + 1), ⟨hF, hbl, hhl, hin, h1⟩, by show ps.length - (i + 1) < ps.length - i; omega, ?_⟩⟩
        rw [w64 (by omega) (by omega)]; rfl
      · show (if 6 = 6 then _ else _)
        rw [if_pos rfl]
        show nKp12 _ _ _
        rw [nKp12_text]
theorem conKn (ps : List Sv) (xs : List Int) : C5 5 [.agg [.sl ps.length 7 (vs7 ps)], .nil, .sl xs.length 1 (vi xs)] [.val (.bool true)] := by
  let st0 : Nat → Nat → Nat → Nat → Slots × Blocks := fun i c1 c2 c3 => match i with
    | 0 => zKpn1 xs.length c2 ps.length 0 (vi xs) ps.length c3 (vs7 ps)
    | i + 1 => zKpn2 xs.length c2 ps.length (i + 1) ((i + 1 : Nat) : Int) (vi xs) ps.length c3 (vi ((List.range (i + 1)).map (sF ps xs))) (vs7 ps)
  let inv0 : Nat × Nat × Nat × Nat → Prop := fun y => y.1 ≤ ps.length ∧ KF ps xs []
  let st2 : Option Bxs → Nat → Bool → Nat → Nat → Nat → Slots × Blocks := fun r i q c1 c2 c3 => match r with
    | none => zKpn4 xs.length c2 ps.length ps.length 12 q i (vi xs) ps.length c3 (vi (sts ps xs)) (vs7 ps)
    | some b => zKpn5 xs.length c2 ps.length ps.length ps.length 0 q i (vi xs) ps.length c3 (vi (sts ps xs)) (vp b) (vs7 ps)
  let inv2 : (Option Bxs × Nat × Bool) × Nat × Nat × Nat → Prop := fun y => KF ps xs [] ∧ Grow ps (bxOf (sts ps xs) (sts ps xs)) y.1.1 ∧ y.1.2.1 ≤ ps.length ∧ (y.1.2.2 = true → KI ps xs [] y.1.2.1) ∧ (y.1.2.2 = false → ¬ KI ps xs [] ps.length)
  let st4 : Bxs → Nat → Bool → Nat → Nat → Nat → Slots × Blocks := fun b i q c1 c2 c3 => match i with
    | 0 => zKpn7 xs.length c2 ps.length ps.length ps.length q 0 (vi xs) ps.length c3 (vi (sts ps xs)) (vp b) (vs7 ps)
    | i + 1 => zKpn8 xs.length c2 ps.length ps.length ps.length q ((i + 1 : Nat) : Int) (vi xs) ps.length c3 (vi (sts ps xs)) (vp b) (i + 1) (i + 1) (vs7 ps) (vi ((List.range (i + 1)).map (htF ps b xs))) (vi ((List.range (i + 1)).map (eF ps xs)))
  let inv4 : (Bxs × Nat × Bool) × Nat × Nat × Nat → Prop := fun y => KF ps xs [] ∧ HB ps (sts ps xs) y.1.1 ∧ y.1.2.1 ≤ ps.length ∧ (y.1.2.2 = true → ([] : Bxs).length = ps.length ∧ subB ps y.1.1 [])
  let st6 : Bxs → List Int → Nat → Slots × Blocks := fun b hs i => zKpn11 ps.length ps.length ps.length (i : Int) (vp b) (vi hs)
  let inv6 : Bxs × List Int × Nat → Prop := fun y => KF ps xs [] ∧ y.1.length = ps.length ∧ y.2.1.length = ps.length ∧ inB ps y.1 y.2.1 ∧ y.2.2 ≤ ps.length
  refine con_of (L := fun id s b => match id with | 0 => ∃ y, inv0 y ∧ st0 y.1 y.2.1 y.2.2.1 y.2.2.2 = (s, b) | 2 => ∃ y, inv2 y ∧ st2 y.1.1 y.1.2.1 y.1.2.2 y.2.1 y.2.2.1 y.2.2.2 = (s, b) | 4 => ∃ y, inv4 y ∧ st4 y.1.1 y.1.2.1 y.1.2.2 y.2.1 y.2.2.1 y.2.2.2 = (s, b) | _ => ∃ y, inv6 y ∧ st6 y.1 y.2.1 y.2.2 = (s, b)) hokL mixed Try.func5 rfl (by show 2 ≤ 400; omega) rfl (ids := [0, 2, 4, 6]) (by kernel_rfl) rfl (fun caps => ?_) (fun id hid => ?_)
  · show gKpn _ _ ps.length (caps 500) (vs7 ps) xs.length (caps 501) (vi xs) _
    rw [gKpn_text]
    simp only [bc_t (v7le ps), vs7_whole]
    refine .inl ⟨⟨con6⟩, ?_⟩
    by_cases h7 : ps.length ≤ 7
    case neg =>
      have := conSm ps
      rw [decide_eq_false h7] at this
      exact .inr ⟨⟨this⟩, by first | rfl | trivial⟩
    have cSm := conSm ps
    rw [decide_eq_true h7] at cSm
    refine .inl ⟨⟨cSm⟩, _, ⟨conCE ps (by omega)⟩, bc_bne (fun _ => by first | rfl | trivial) (fun hc => ?_)⟩
    rw [w64 (z := 3 * (ps.length : Int)) (by omega) (by omega)]
    refine bc_dec (fun _ => by first | rfl | trivial) (fun hx => bc_dec (fun _ => by first | rfl | trivial) (fun hx2 => ?_))
    exact ⟨(0, 0, caps 501, caps 500), ⟨Nat.zero_le _, ⟨by first | omega | simp, hc, by omega, by omega⟩⟩, rfl⟩
  · have hid' : id = 0 ∨ id = 2 ∨ id = 4 ∨ id = 6 := by simpa using hid
    rcases hid' with rfl | rfl | rfl | rfl
    · refine ⟨_, fun y => st0 y.1 y.2.1 y.2.2.1 y.2.2.2, inv0, fun y => ps.length - y.1, ⟨fun s b h => h, by kernel_rfl, ?_⟩⟩
      rintro ⟨i, c1, c2, c3⟩ ⟨hi, hF⟩
      simp only at hi
      have hok := chE_ok hF.c
      have x0 := hF.x0; have x1 := hF.x1; have x7 := hF.b7
      have wi : i < ps.length → IntKind.wrap .i64 ((i : Int) + 1) = ((i + 1 : Nat) : Int) := fun h => by rw [w64 (by omega) (by omega)]; rfl
      have hlb : ∀ {i : Nat}, i < ps.length → (i : Int) < (ps.length : Int) ∧ (i : Int) < (xs.length : Int) := fun h => ⟨by omega, by omega⟩
      have facts : ∀ (h1 : i < ps.length), (At (vs7 ps) (Addr.off ⟨500, 0 + i * 7, none⟩ + 5) 2 [vI (ps.getD i sv0).f, vI (ps.getD i sv0).g]) ∧ (At (vi xs) (0 + i * 1) 1 [vI (xs.getD i 0)]) := by
        intro h1
        refine ⟨?_, ?_⟩
        · rw [gd_at h1]; exact vs7_fg ps i h1 500
        · rw [gd_at (show i < xs.length by omega)]; exact vi_at xs i (by omega)
      have dd : ∀ (h1 : i < ps.length), _ := fun h1 => pk_eq (xs.getD i 0) (hok.2.2 _ (gd_mem (d := sv0) h1)).f (hok.2.2 _ (gd_mem (d := sv0) h1)).g (hok.2.2 _ (gd_mem (d := sv0) h1)).fg
      cases i with
      | zero =>
        show rKpn1 _ _ xs.length c2 ps.length ((0 : Nat) : Int) (vi xs) ps.length c3 (vs7 ps) _ _ _
        rw [rKpn1_text]
        have h1 : 0 < ps.length := hok.1
        obtain ⟨f1, f2⟩ := facts h1
        simp only [bc_t (hlb h1).1, bc_t (hlb h1).2, bc_t (show (0 : Int) ≤ ((0 : Nat) : Int) by omega), Int.toNat_natCast, at2 f1, at1 f2, wi h1, eq_self, true_and, and_true]
        refine ⟨_, ⟨conMo _ _ (dd h1).2.1 (dd h1).2.2⟩, ⟨(1, c1, c2, c3), ⟨h1, hF⟩, by show ps.length - 1 < ps.length - 0; omega, ?_⟩⟩
        rw [(dd h1).1]; rfl
      | succ i =>
        show rKpn2 _ _ xs.length c2 ps.length (i + 1) ((i + 1 : Nat) : Int) (vi xs) ps.length c3 (vi ((List.range (i + 1)).map (sF ps xs))) (vs7 ps) _ _ _
        rw [rKpn2_text]
        refine bc_dec (fun h => ?_) (fun h => ?_)
        · have h1 : i + 1 < ps.length := by omega
          obtain ⟨f1, f2⟩ := facts h1
          have q1 : 0 + (i + 1) * 1 ≤ (vi ((List.range (i + 1)).map (sF ps xs))).length := by simp
          have q2 : 0 + (i + 1) * 1 = (vi ((List.range (i + 1)).map (sF ps xs))).length := by simp
          simp only [bc_t (hlb h1).1, bc_t (hlb h1).2, bc_t (show (0 : Int) ≤ ((i + 1 : Nat) : Int) by omega), Int.toNat_natCast, at2 f1, at1 f2, wi h1, rg_take, bc_t (show i + 1 < i + 1 + 1 by omega), bc_t (show (2 * (i + 1 + 1) + 768) * 8 ≤ 281474976710656 by omega), bc_t (show i + 1 + 1 ≤ 1099511627776 by omega), bc_t q1, bc_t q2, eq_self, true_and, and_true]
          refine ⟨_, ⟨conMo _ _ (dd h1).2.1 (dd h1).2.2⟩, ⟨(i + 2, c1, c2, c3), ⟨h1, hF⟩, by show ps.length - (i + 2) < ps.length - (i + 1); omega, ?_⟩⟩
          have g : vi ((List.range (i + 1)).map (sF ps xs)) ++ [vI (sF ps xs (i + 1))] = vi ((List.range (i + 2)).map (sF ps xs)) := rg_snoc (sF ps xs) (i + 1)
          rw [(dd h1).1]
          show st0 (i + 2) c1 c2 c3 = (_, _)
          rw [show pick (ps.getD (i + 1) sv0).f (ps.getD (i + 1) sv0).g (xs.getD (i + 1) 0) = sF ps xs (i + 1) from rfl, g]
        · show (if 0 = 0 then _ else _)
          rw [if_pos rfl]
          have hip : i + 1 = ps.length := by omega
          show nKpn3 _ _ xs.length c2 ps.length (i + 1) (vi xs) ps.length c3 (vi ((List.range (i + 1)).map (sF ps xs))) (vs7 ps) _
          rw [nKpn3_text, hip]
          have hst := stGo_all (sts_lim hF.c xs) (by simp)
          obtain ⟨r, hg⟩ := grow_all (ps := ps) (slack ps (bxOf (sts ps xs) (sts ps xs))) (b := bxOf (sts ps xs) (sts ps xs)) (Nat.le_refl _) (by simp)
          have c19 := conBF (.grow hF.c (by simp) hst r hg) (by omega)
          have c17 := conCB ps [] (by omega)
          have c20 := conCIx (sts ps xs) (by simp; omega)
          rw [sts_length] at c19 c20
          have w1 : List.take (ps.length * 1) (List.drop 0 (vi ((List.range ps.length).map (sF ps xs)))) = vi (sts ps xs) := rg_take _ _
          have w2 : List.take (ps.length * 1) (List.drop 0 (vi (sts ps xs))) = vi (sts ps xs) := rg_take _ _
          simp only [bc_t (v7le ps), vs7_whole, bc_t (show 0 + ps.length * 1 ≤ (vi ((List.range ps.length).map (sF ps xs))).length by simp), w1, bc_t (show 0 + ps.length * 1 ≤ (vi (sts ps xs)).length by simp), w2, eq_self, true_and]
          have k0 : (cbP ps []).2 = 0 → KI ps xs [] 0 := fun h => ⟨h, fun j hj => absurd hj (Nat.not_lt_zero j)⟩
          have k1 : (cbP ps []).2 ≠ 0 → ¬ KI ps xs [] ps.length := fun h hk => h hk.ok
          refine ⟨⟨conCpC ps (by omega)⟩, ⟨c20⟩, ?_⟩
          cases r with
          | none =>
            refine .inl ⟨_, ⟨c19⟩, ⟨conCpC ps (by omega)⟩, ⟨conCRn⟩, _, _, ⟨c17⟩, ?_⟩
            have hne : (cbP ps []).2 ≠ 0 := by
              have := (cbP_nil hF.c)
              simp only [cbD, List.cons.injEq, D.val.injEq, Value.int.injEq, true_and, and_true] at this
              rw [this.2]; decide
            refine bc_beq (fun h0 => absurd h0 hne) (fun h0 => ?_)
            exact ⟨((none, 0, false), c1, c2, c3), ⟨hF, hg, Nat.zero_le _, (fun h => by cases h), fun _ => k1 h0⟩, rfl⟩
          | some b =>
            have hbl := (grow_facts hg (by simp) (stGo_ok (by simp) hst) (bxOf_ord ps _) b rfl).1
            rw [bfOf, hbl] at c19
            refine .inr ⟨_, _, _, ⟨c19⟩, ⟨conCpC ps (by omega)⟩, ⟨conCRn⟩, _, _, ⟨c17⟩, ?_⟩
            have hne : (cbP ps []).2 ≠ 0 := by
              have := (cbP_nil hF.c)
              simp only [cbD, List.cons.injEq, D.val.injEq, Value.int.injEq, true_and, and_true] at this
              rw [this.2]; decide
            refine bc_beq (fun h0 => absurd h0 hne) (fun h0 => ?_)
            exact ⟨((some b, 0, false), c1, c2, c3), ⟨hF, hg, Nat.zero_le _, (fun h => by cases h), fun _ => k1 h0⟩, rfl⟩
    · refine ⟨_, fun y => st2 y.1.1 y.1.2.1 y.1.2.2 y.2.1 y.2.2.1 y.2.2.2, inv2, fun y => ps.length - y.1.2.1, ⟨fun s b h => h, by kernel_rfl, ?_⟩⟩
      rintro ⟨⟨r, i, q⟩, c1, c2, c3⟩ ⟨hF, hg, hi, hq1, hq2⟩
      simp only at hg hi hq1 hq2
      have hok := chE_ok hF.c
      have x0 := hF.x0; have x1 := hF.x1; have x7 := hF.b7
      have hst := stGo_all (sts_lim hF.c xs) (by simp)
      have wi : i < ps.length → IntKind.wrap .i64 ((i : Int) + 1) = ((i + 1 : Nat) : Int) := fun h => by rw [w64 (by omega) (by omega)]; rfl
      cases r with
      | none =>
        show rKpn4 _ _ xs.length c2 ps.length ps.length 12 q (i : Int) (vi xs) ps.length c3 (vi (sts ps xs)) (vs7 ps) _ _ _
        rw [rKpn4_text]
        cases q with
        | true => exact absurd (hq1 rfl).ok (by
            have := (cbP_nil hF.c)
            simp only [cbD, List.cons.injEq, D.val.injEq, Value.int.injEq, true_and, and_true] at this
            rw [this.2]; decide)
        | false =>
          refine bc_dec (fun h => ?_) (fun h => ?_)
          · rw [bcase_f]
            show (if 2 = 2 then _ else _)
            rw [if_pos rfl]
            show nKpn13 _ _ xs.length c2 ps.length ps.length 12 false (vi xs) ps.length c3 (vi (sts ps xs)) (vs7 ps) _
            rw [nKpn13_text]
            exact bc_bne (fun _ => bc_beq (fun _ => by first | rfl | trivial) (fun h => absurd rfl h)) (fun h => absurd h (by decide))
          · skip
            show (if 2 = 2 then _ else _)
            rw [if_pos rfl]
            show nKpn13 _ _ xs.length c2 ps.length ps.length 12 false (vi xs) ps.length c3 (vi (sts ps xs)) (vs7 ps) _
            rw [nKpn13_text]
            exact bc_bne (fun _ => bc_beq (fun _ => by first | rfl | trivial) (fun h => absurd rfl h)) (fun h => absurd h (by decide))
      
      | some b =>
        show rKpn5 _ _ xs.length c2 ps.length ps.length ps.length 0 q (i : Int) (vi xs) ps.length c3 (vi (sts ps xs)) (vp b) (vs7 ps) _ _ _
        rw [rKpn5_text]
        cases q with
        | true => exact absurd (hq1 rfl).ok (by
            have := (cbP_nil hF.c)
            simp only [cbD, List.cons.injEq, D.val.injEq, Value.int.injEq, true_and, and_true] at this
            rw [this.2]; decide)
        | false =>
          refine bc_dec (fun h => ?_) (fun h => ?_)
          · rw [bcase_f]
            show (if 2 = 2 then _ else _)
            rw [if_pos rfl]
            show nKpn6 _ _ xs.length c2 ps.length ps.length ps.length 0 false (vi xs) ps.length c3 (vi (sts ps xs)) (vp b) (vs7 ps) _
            rw [nKpn6_text]
            have hfx := grow_facts hg (by simp) (stGo_ok (by simp) hst) (bxOf_ord ps _) b rfl
            have hB : HB ps (sts ps xs) b := ⟨sts_lim hF.c xs, hg, hfx.1, hfx.2.1, hfx.2.2.1, hfx.2.2.2.1, bth_fix hfx.1 hfx.2.2.2.2⟩
            have c17 := conCB ps b (by omega)
            have ecb : cbD ps b = [dI 0, dI 0] := by rw [cbD, cbP_ok hF.c hB.l hB.il hB.o hB.k]
            have c18 := conCR b (by rw [hB.l]; omega)
            rw [ecb, hB.l] at c17
            rw [hB.l] at c18
            have w1 : List.take (ps.length * 2) (List.drop 0 (vp b)) = vp b := by rw [← hB.l]; exact vp_whole b
            refine bc_bne (fun h => absurd rfl h) (fun _ => bc_bne (fun h => absurd rfl h) (fun _ => ?_))
            simp only [bc_t (v7le ps), vs7_whole, bc_t (show 0 + ps.length * 2 ≤ (vp b).length by rw [vp_length, hB.l]; omega), w1, eq_self, true_and]
            refine ⟨⟨conCpC ps (by omega)⟩, ⟨c18⟩, _, _, ⟨c17⟩, bc_bne (fun h => absurd rfl h) (fun _ => ?_)⟩
            exact ⟨((b, 0, false), c1, c2, c3), ⟨hF, hB, Nat.zero_le _, (fun h => by cases h)⟩, rfl⟩
          · skip
            show (if 2 = 2 then _ else _)
            rw [if_pos rfl]
            show nKpn6 _ _ xs.length c2 ps.length ps.length ps.length 0 false (vi xs) ps.length c3 (vi (sts ps xs)) (vp b) (vs7 ps) _
            rw [nKpn6_text]
            have hfx := grow_facts hg (by simp) (stGo_ok (by simp) hst) (bxOf_ord ps _) b rfl
            have hB : HB ps (sts ps xs) b := ⟨sts_lim hF.c xs, hg, hfx.1, hfx.2.1, hfx.2.2.1, hfx.2.2.2.1, bth_fix hfx.1 hfx.2.2.2.2⟩
            have c17 := conCB ps b (by omega)
            have ecb : cbD ps b = [dI 0, dI 0] := by rw [cbD, cbP_ok hF.c hB.l hB.il hB.o hB.k]
            have c18 := conCR b (by rw [hB.l]; omega)
            rw [ecb, hB.l] at c17
            rw [hB.l] at c18
            have w1 : List.take (ps.length * 2) (List.drop 0 (vp b)) = vp b := by rw [← hB.l]; exact vp_whole b
            refine bc_bne (fun h => absurd rfl h) (fun _ => bc_bne (fun h => absurd rfl h) (fun _ => ?_))
            simp only [bc_t (v7le ps), vs7_whole, bc_t (show 0 + ps.length * 2 ≤ (vp b).length by rw [vp_length, hB.l]; omega), w1, eq_self, true_and]
            refine ⟨⟨conCpC ps (by omega)⟩, ⟨c18⟩, _, _, ⟨c17⟩, bc_bne (fun h => absurd rfl h) (fun _ => ?_)⟩
            exact ⟨((b, 0, false), c1, c2, c3), ⟨hF, hB, Nat.zero_le _, (fun h => by cases h)⟩, rfl⟩
    · refine ⟨_, fun y => st4 y.1.1 y.1.2.1 y.1.2.2 y.2.1 y.2.2.1 y.2.2.2, inv4, fun y => ps.length - y.1.2.1, ⟨fun s b h => h, by kernel_rfl, ?_⟩⟩
      rintro ⟨⟨b, i, q⟩, c1, c2, c3⟩ ⟨hF, hB, hi, hq⟩
      simp only at hB hi hq
      have hok := chE_ok hF.c
      have x0 := hF.x0; have x1 := hF.x1; have x7 := hF.b7
      have hbl := hB.l
      have wi : i < ps.length → IntKind.wrap .i64 ((i : Int) + 1) = ((i + 1 : Nat) : Int) := fun h => by rw [w64 (by omega) (by omega)]; rfl
      have wn : i < ps.length → IntKind.wrap .i64 ((ps.length : Int) + (i : Int)) = ((ps.length + i : Nat) : Int) := fun h => by rw [w64 (by omega) (by omega)]; omega
      have w2n : IntKind.wrap .i64 (2 * (ps.length : Int)) = ((2 * ps.length : Nat) : Int) := by rw [w64 (by omega) (by omega)]; omega
      have w2m : i < ps.length → IntKind.wrap .i64 (((2 * ps.length : Nat) : Int) + (i : Int)) = ((2 * ps.length + i : Nat) : Int) := fun h => by rw [w64 (by omega) (by omega)]; omega
      have hlb : i < ps.length → (i : Int) < (ps.length : Int) ∧ ((ps.length + i : Nat) : Int) < (xs.length : Int) ∧ ((2 * ps.length + i : Nat) : Int) < (xs.length : Int) := fun h => ⟨by omega, by omega, by omega⟩
      have facts : ∀ (h1 : i < ps.length), (At (vs7 ps) (0 + i * 7) 7 (ps.getD i sv0).row) ∧ (At (vi (sts ps xs)) (0 + i * 1) 1 [vI ((sts ps xs).getD i 0)]) ∧ (At (vp b) (0 + i * 2) 1 [vI (b.getD i p0).1]) ∧ (At (vp b) (Addr.off ⟨1002, 0 + i * 2, none⟩ + 1) 1 [vI (b.getD i p0).2]) ∧ (At (vi xs) (0 + (ps.length + i) * 1) 1 [vI (xs.getD (ps.length + i) 0)]) ∧ (At (vi xs) (0 + (2 * ps.length + i) * 1) 1 [vI (xs.getD (2 * ps.length + i) 0)]) ∧ (At (vp b) (Addr.off ⟨1001, 0 + i * 2, none⟩ + 1) 1 [vI (b.getD i p0).2]) := by
        intro h1
        refine ⟨?_, ?_, ?_, ?_, ?_, ?_, ?_⟩
        · rw [gd_at h1]; exact vs7_all ps i h1
        · rw [gd_at (show i < (sts ps xs).length by simpa using h1)]; exact vi_at _ i (by simpa using h1)
        · rw [gd_at (show i < b.length by omega)]; exact vp_one b i (by omega)
        · rw [gd_at (show i < b.length by omega)]; exact vp_sndA b i (by omega) 1002
        · rw [gd_at (show ps.length + i < xs.length by omega)]; exact vi_at xs _ (by omega)
        · rw [gd_at (show 2 * ps.length + i < xs.length by omega)]; exact vi_at xs _ (by omega)
        · rw [gd_at (show i < b.length by omega)]; exact vp_sndA b i (by omega) 1001
      have bnd : ∀ (h1 : i < ps.length), _ ∧ _ ∧ _ := fun h1 => by
        have hp := hok.2.2 _ (gd_mem (d := sv0) h1)
        have q5 := (ilB_iff hB.l).1 hB.il i h1
        unfold lim1 at q5
        have fgt := hp.f; have ggt := hp.g
        exact ⟨pk_eq (lo := (b.getD i p0).1) (hi := (b.getD i p0).2) (xs.getD (ps.length + i) 0) ⟨by omega, by omega⟩ ⟨by omega, by omega⟩ (hB.o i h1), pk_eq (lo := (ps.getD i sv0).d) (hi := (ps.getD i sv0).e) (xs.getD (2 * ps.length + i) 0) hp.d hp.e hp.de, q5⟩
      have ins : ∀ (h1 : i < ps.length), (b.getD i p0).1 ≤ (sts ps xs).getD i 0 ∧ (sts ps xs).getD i 0 ≤ (b.getD i p0).2 := fun h1 => by
        have := hB.s i h1
        rw [bxOf_at (by simpa using h1)] at this
        exact this
      cases i with
      | zero =>
        show rKpn7 _ _ xs.length c2 ps.length ps.length ps.length q ((0 : Nat) : Int) (vi xs) ps.length c3 (vi (sts ps xs)) (vp b) (vs7 ps) _ _ _
        rw [rKpn7_text]
        have h1 : 0 < ps.length := hok.1
        obtain ⟨f1, f2, f3, f4, f5, f6, f7⟩ := facts h1
        obtain ⟨e1, e2, e3⟩ := bnd h1
        cases q with
        | true =>
          have := (hq rfl).1
          simp only [List.length_nil] at this
          omega
        | false =>
          simp only [bc_t (hlb h1).1, bc_t (hlb h1).2.1, bc_t (hlb h1).2.2, bc_t (show (0 : Int) ≤ ((0 : Nat) : Int) by omega), wn h1, w2n, w2m h1, bc_t (show (0 : Int) ≤ ((ps.length + 0 : Nat) : Int) by omega), bc_t (show (0 : Int) ≤ ((2 * ps.length + 0 : Nat) : Int) by omega), Int.toNat_natCast, at7 f1, at1 f2, at1 f3, at1 f4, at1 f5, at1 f6, at1 f7, wi h1, eq_self, true_and, and_true, bcase_t, bcase_f]
          refine .inl ⟨sayWt (ins h1), .inl ⟨sayWt e3.1, .inl ⟨sayWt e3.2, ⟨_, ⟨conMo _ _ e1.2.1 e1.2.2⟩, _, ⟨conMo _ _ e2.2.1 e2.2.2⟩, ?_⟩⟩⟩⟩
          rw [e1.1, e2.1]
          exact ⟨((b, 1, false), c1, c2, c3), ⟨hF, hB, h1, hq⟩, by show ps.length - 1 < ps.length - 0; omega, rfl⟩
      | succ i =>
        show rKpn8 _ _ xs.length c2 ps.length ps.length ps.length q ((i + 1 : Nat) : Int) (vi xs) ps.length c3 (vi (sts ps xs)) (vp b) (i + 1) (i + 1) (vs7 ps) (vi ((List.range (i + 1)).map (htF ps b xs))) (vi ((List.range (i + 1)).map (eF ps xs))) _ _ _
        rw [rKpn8_text]
        refine bc_dec (fun h => ?_) (fun h => ?_)
        · have h1 : i + 1 < ps.length := by omega
          have q1 : ∀ f : Nat → Int, 0 + (i + 1) * 1 ≤ (vi ((List.range (i + 1)).map f)).length := fun f => by simp
          have q2 : ∀ f : Nat → Int, 0 + (i + 1) * 1 = (vi ((List.range (i + 1)).map f)).length := fun f => by simp
          have g1 : vi ((List.range (i + 1)).map (htF ps b xs)) ++ [vI (pick (b.getD (i + 1) p0).1 (b.getD (i + 1) p0).2 (xs.getD (ps.length + (i + 1)) 0))] = vi ((List.range (i + 2)).map (htF ps b xs)) := rg_snoc (htF ps b xs) (i + 1)
          have g2 : vi ((List.range (i + 1)).map (eF ps xs)) ++ [vI (pick (ps.getD (i + 1) sv0).d (ps.getD (i + 1) sv0).e (xs.getD (2 * ps.length + (i + 1)) 0))] = vi ((List.range (i + 2)).map (eF ps xs)) := rg_snoc (eF ps xs) (i + 1)
          have hst8 : ∀ q : Bool, st4 b (i + 2) q c1 c2 c3 = zKpn8 xs.length c2 ps.length ps.length ps.length q ((i + 2 : Nat) : Int) (vi xs) ps.length c3 (vi (sts ps xs)) (vp b) (i + 2) (i + 2) (vs7 ps) (vi ((List.range (i + 1)).map (htF ps b xs)) ++ [vI (pick (b.getD (i + 1) p0).1 (b.getD (i + 1) p0).2 (xs.getD (ps.length + (i + 1)) 0))]) (vi ((List.range (i + 1)).map (eF ps xs)) ++ [vI (pick (ps.getD (i + 1) sv0).d (ps.getD (i + 1) sv0).e (xs.getD (2 * ps.length + (i + 1)) 0))]) := fun q => by rw [g1, g2]
          obtain ⟨f1, f2, f3, f4, f5, f6, f7⟩ := facts h1
          obtain ⟨e1, e2, e3⟩ := bnd h1
          cases q with
          | true =>
            have := (hq rfl).1
            simp only [List.length_nil] at this
            omega
          | false =>
            simp only [bc_t (hlb h1).1, bc_t (hlb h1).2.1, bc_t (hlb h1).2.2, bc_t (show (0 : Int) ≤ ((i + 1 : Nat) : Int) by omega), wn h1, w2n, w2m h1, bc_t (show (0 : Int) ≤ ((ps.length + (i + 1) : Nat) : Int) by omega), bc_t (show (0 : Int) ≤ ((2 * ps.length + (i + 1) : Nat) : Int) by omega), Int.toNat_natCast, at7 f1, at1 f2, at1 f3, at1 f4, at1 f5, at1 f6, at1 f7, wi h1, eq_self, true_and, and_true, bcase_t, bcase_f, rg_take, bc_t (show i + 1 < i + 1 + 1 by omega), bc_t (show (2 * (i + 1 + 1) + 768) * 8 ≤ 281474976710656 by omega), bc_t (show i + 1 + 1 ≤ 1099511627776 by omega), bc_t (q1 (htF ps b xs)), bc_t (q2 (htF ps b xs)), bc_t (q1 (eF ps xs)), bc_t (q2 (eF ps xs))]
            refine .inl ⟨sayWt (ins h1), .inl ⟨sayWt e3.1, .inl ⟨sayWt e3.2, ⟨_, ⟨conMo _ _ e1.2.1 e1.2.2⟩, _, ⟨conMo _ _ e2.2.1 e2.2.2⟩, ?_⟩⟩⟩⟩
            rw [e1.1, e2.1]
            exact ⟨((b, i + 2, false), c1, c2, c3), ⟨hF, hB, h1, hq⟩, by show ps.length - (i + 2) < ps.length - (i + 1); omega, hst8 _⟩
        · show (if 4 = 4 then _ else _)
          rw [if_pos rfl]
          have hip : i + 1 = ps.length := by omega
          show nKpn9 _ _ ps.length ps.length ps.length c3 (vp b) (i + 1) (i + 1) (vs7 ps) (vi ((List.range (i + 1)).map (htF ps b xs))) (vi ((List.range (i + 1)).map (eF ps xs))) _
          rw [nKpn9_text, hip]
          have hin : inB ps b ((List.range ps.length).map (htF ps b xs)) := fun j hj => by
            rw [rg_getI hj]; exact pick_in (hB.o j hj)
          have hlims : ∀ j, j < ps.length → (ps.getD j sv0).f ≤ ((List.range ps.length).map (htF ps b xs)).getD j 0 ∧ ((List.range ps.length).map (htF ps b xs)).getD j 0 ≤ (ps.getD j sv0).g := fun j hj => by
            have q5 := (ilB_iff hB.l).1 hB.il j hj
            have q2 := hin j hj
            unfold lim1 at q5
            omega
          have dlims : ∀ j, j < ps.length → (ps.getD j sv0).d ≤ ((List.range ps.length).map (eF ps xs)).getD j 0 ∧ ((List.range ps.length).map (eF ps xs)).getD j 0 ≤ (ps.getD j sv0).e := fun j hj => by
            rw [rg_getI hj]; exact pick_in (hok.2.2 _ (gd_mem (d := sv0) hj)).de
          have hmv : mvE ps ((List.range ps.length).map (htF ps b xs)) ((List.range ps.length).map (eF ps xs)) = 0 := by
            rw [mvE, if_neg (by simp)]
            exact mvGo_all hlims dlims (by simp) (by simp)
          have c11 := conSt ps ((List.range ps.length).map (htF ps b xs)) ((List.range ps.length).map (eF ps xs)) (by omega)
          rw [stD, if_neg (fun x => x hF.c), if_neg (fun x => x hmv)] at c11
          simp only [List.length_map, List.length_range] at c11
          simp only [bc_t (v7le ps), vs7_whole, bc_t (show 0 + ps.length * 1 ≤ (vi ((List.range ps.length).map (htF ps b xs))).length by simp), bc_t (show 0 + ps.length * 1 ≤ (vi ((List.range ps.length).map (eF ps xs))).length by simp), rg_take, eq_self, true_and]
          refine ⟨⟨conCpC ps (by omega)⟩, .inr ⟨_, _, _, ⟨c11⟩, bc_bne (fun h => absurd rfl h) (fun _ => bc_bne (fun h => absurd rfl h) (fun _ => ?_))⟩⟩
          exact ⟨(b, aft ps ((List.range ps.length).map (htF ps b xs)) ((List.range ps.length).map (eF ps xs)), 0), ⟨hF, hB.l, aft_length _ _ _, keep_in hok.2.2 hB.k hin dlims, Nat.zero_le _⟩, rfl⟩
    · refine ⟨_, fun y => st6 y.1 y.2.1 y.2.2, inv6, fun y => ps.length - y.2.2, ⟨fun s b h => h, by kernel_rfl, ?_⟩⟩
      rintro ⟨b, hs, i⟩ ⟨hF, hbl, hhl, hin, hi⟩
      simp only at hbl hhl hin hi
      show rKpn11 _ _ ps.length ps.length ps.length (i : Int) (vp b) (vi hs) _ _ _
      rw [rKpn11_text]
      have hok := chE_ok hF.c
      refine bc_dec (fun h => ?_) (fun h => ?_)
      · have h1 : i < ps.length := by omega
        have m1 : At (vp b) (0 + i * 2) 1 [vI (b.getD i p0).1] := by rw [gd_at (show i < b.length by omega)]; exact vp_one b i (by omega)
        have m2 : At (vp b) (Addr.off ⟨1000, 0 + i * 2, none⟩ + 1) 1 [vI (b.getD i p0).2] := by rw [gd_at (show i < b.length by omega)]; exact vp_sndA b i (by omega) 1000
        have m3 : At (vi hs) (0 + i * 1) 1 [vI (hs.getD i 0)] := by rw [gd_at (show i < hs.length by omega)]; exact vi_at hs i (by omega)
        simp only [bc_t h, bc_t (show (0 : Int) ≤ (i : Int) by omega), Int.toNat_natCast, at1 m1, at1 m2, at1 m3, eq_self, true_and, and_true]
        refine .inl ⟨sayWt (hin i h1), ⟨(b, hs, i + 1), ⟨hF, hbl, hhl, hin, h1⟩, by show ps.length - (i + 1) < ps.length - i; omega, ?_⟩⟩
        rw [w64 (by omega) (by omega)]; rfl
      · show (if 6 = 6 then _ else _)
        rw [if_pos rfl]
        show nKpn12 _ _ _
        rw [nKpn12_text]
end Go.Proofs.G5b

/- GaugeKept in data: where something is nil. -/
namespace Go.Proofs.G5b
open Go Go.Abs Go.Proofs Go.Proofs.G5
set_option maxRecDepth 100000
theorem conQssn (ps : List Sv) (box : Bxs) : C5 5 [.agg [.sl ps.length 7 (vs7 ps)], .sl box.length 2 (vp box), .nil] [.val (.bool true)] := by
  refine con_of (L := fun _ _ _ => False) hokL mixed Try.func5 rfl (by show 2 ≤ 400; omega) rfl (ids := [0, 2, 4, 6]) (by kernel_rfl) rfl (fun caps => ?_) (fun id hid => ?_)
  · show gKqssn _ _ ps.length (caps 500) (vs7 ps) box.length (caps 501) (vp box) _
    rw [gKqssn_text]
    simp only [bc_t (v7le ps), vs7_whole]
    refine .inl ⟨⟨con6⟩, ?_⟩
    by_cases h7 : ps.length ≤ 7
    case neg =>
      have := conSm ps
      rw [decide_eq_false h7] at this
      exact .inr ⟨⟨this⟩, by first | rfl | trivial⟩
    have cSm := conSm ps
    rw [decide_eq_true h7] at cSm
    refine .inl ⟨⟨cSm⟩, _, ⟨conCE ps (by omega)⟩, bc_bne (fun _ => by first | rfl | trivial) (fun hc => ?_)⟩
    refine bc_dec (fun _ => by first | rfl | trivial) (fun hb7 => ?_)
    rw [w64 (z := 3 * (ps.length : Int)) (by omega) (by omega)]
    exact bc_dec (fun _ => by first | rfl | trivial) (fun hx => absurd (chE_ok hc).1 (by omega))
  · have hid' : id = 0 ∨ id = 2 ∨ id = 4 ∨ id = 6 := by simpa using hid
    rcases hid' with rfl | rfl | rfl | rfl
    all_goals exact ⟨Unit, fun _ => ([], []), fun _ => False, fun _ => 0, ⟨fun s b h => h.elim, by kernel_rfl, fun _ h => h.elim⟩⟩
theorem conQsnn (ps : List Sv) : C5 5 [.agg [.sl ps.length 7 (vs7 ps)], .nil, .nil] [.val (.bool true)] := by
  refine con_of (L := fun _ _ _ => False) hokL mixed Try.func5 rfl (by show 1 ≤ 400; omega) rfl (ids := [0, 2, 4, 6]) (by kernel_rfl) rfl (fun caps => ?_) (fun id hid => ?_)
  · show gKqsnn _ _ ps.length (caps 500) (vs7 ps) _
    rw [gKqsnn_text]
    simp only [bc_t (v7le ps), vs7_whole]
    refine .inl ⟨⟨con6⟩, ?_⟩
    by_cases h7 : ps.length ≤ 7
    case neg =>
      have := conSm ps
      rw [decide_eq_false h7] at this
      exact .inr ⟨⟨this⟩, by first | rfl | trivial⟩
    have cSm := conSm ps
    rw [decide_eq_true h7] at cSm
    refine .inl ⟨⟨cSm⟩, _, ⟨conCE ps (by omega)⟩, bc_bne (fun _ => by first | rfl | trivial) (fun hc => ?_)⟩
    rw [w64 (z := 3 * (ps.length : Int)) (by omega) (by omega)]
    exact bc_dec (fun _ => by first | rfl | trivial) (fun hx => absurd (chE_ok hc).1 (by omega))
  · have hid' : id = 0 ∨ id = 2 ∨ id = 4 ∨ id = 6 := by simpa using hid
    rcases hid' with rfl | rfl | rfl | rfl
    all_goals exact ⟨Unit, fun _ => ([], []), fun _ => False, fun _ => 0, ⟨fun s b h => h.elim, by kernel_rfl, fun _ h => h.elim⟩⟩
theorem conQnss (box : Bxs) (xs : List Int) : C5 5 [.agg [.nil], .sl box.length 2 (vp box), .sl xs.length 1 (vi xs)] [.val (.bool true)] := by
  refine con_of (L := fun _ _ _ => False) hokL mixed Try.func5 rfl (by show 2 ≤ 400; omega) rfl (ids := [0, 2, 4, 6]) (by kernel_rfl) rfl (fun caps => ?_) (fun id hid => ?_)
  · show gKqnss _ _ box.length (caps 500) (vp box) xs.length (caps 501) (vi xs) _
    rw [gKqnss_text]
    exact .inl ⟨⟨con6⟩, .inl ⟨⟨conSmn⟩, _, ⟨conCEn⟩, bc_bne (fun _ => by first | rfl | trivial) (fun hc => absurd hc (by decide))⟩⟩
  · have hid' : id = 0 ∨ id = 2 ∨ id = 4 ∨ id = 6 := by simpa using hid
    rcases hid' with rfl | rfl | rfl | rfl
    all_goals exact ⟨Unit, fun _ => ([], []), fun _ => False, fun _ => 0, ⟨fun s b h => h.elim, by kernel_rfl, fun _ h => h.elim⟩⟩
theorem conQnsn (box : Bxs) : C5 5 [.agg [.nil], .sl box.length 2 (vp box), .nil] [.val (.bool true)] := by
  refine con_of (L := fun _ _ _ => False) hokL mixed Try.func5 rfl (by show 1 ≤ 400; omega) rfl (ids := [0, 2, 4, 6]) (by kernel_rfl) rfl (fun caps => ?_) (fun id hid => ?_)
  · show gKqnsn _ _ box.length (caps 500) (vp box) _
    rw [gKqnsn_text]
    exact .inl ⟨⟨con6⟩, .inl ⟨⟨conSmn⟩, _, ⟨conCEn⟩, bc_bne (fun _ => by first | rfl | trivial) (fun hc => absurd hc (by decide))⟩⟩
  · have hid' : id = 0 ∨ id = 2 ∨ id = 4 ∨ id = 6 := by simpa using hid
    rcases hid' with rfl | rfl | rfl | rfl
    all_goals exact ⟨Unit, fun _ => ([], []), fun _ => False, fun _ => 0, ⟨fun s b h => h.elim, by kernel_rfl, fun _ h => h.elim⟩⟩
theorem conQnns (xs : List Int) : C5 5 [.agg [.nil], .nil, .sl xs.length 1 (vi xs)] [.val (.bool true)] := by
  refine con_of (L := fun _ _ _ => False) hokL mixed Try.func5 rfl (by show 1 ≤ 400; omega) rfl (ids := [0, 2, 4, 6]) (by kernel_rfl) rfl (fun caps => ?_) (fun id hid => ?_)
  · show gKqnns _ _ xs.length (caps 500) (vi xs) _
    rw [gKqnns_text]
    exact .inl ⟨⟨con6⟩, .inl ⟨⟨conSmn⟩, _, ⟨conCEn⟩, bc_bne (fun _ => by first | rfl | trivial) (fun hc => absurd hc (by decide))⟩⟩
  · have hid' : id = 0 ∨ id = 2 ∨ id = 4 ∨ id = 6 := by simpa using hid
    rcases hid' with rfl | rfl | rfl | rfl
    all_goals exact ⟨Unit, fun _ => ([], []), fun _ => False, fun _ => 0, ⟨fun s b h => h.elim, by kernel_rfl, fun _ h => h.elim⟩⟩
theorem conQnnn : C5 5 [.agg [.nil], .nil, .nil] [.val (.bool true)] := by
  refine con_of (L := fun _ _ _ => False) hokL mixed Try.func5 rfl (by show 0 ≤ 400; omega) rfl (ids := [0, 2, 4, 6]) (by kernel_rfl) rfl (fun caps => ?_) (fun id hid => ?_)
  · show gKqnnn _ _ _
    rw [gKqnnn_text]
    exact .inl ⟨⟨con6⟩, .inl ⟨⟨conSmn⟩, _, ⟨conCEn⟩, bc_bne (fun _ => by first | rfl | trivial) (fun hc => absurd hc (by decide))⟩⟩
  · have hid' : id = 0 ∨ id = 2 ∨ id = 4 ∨ id = 6 := by simpa using hid
    rcases hid' with rfl | rfl | rfl | rfl
    all_goals exact ⟨Unit, fun _ => ([], []), fun _ => False, fun _ => 0, ⟨fun s b h => h.elim, by kernel_rfl, fun _ h => h.elim⟩⟩
end Go.Proofs.G5b

/- GaugeKept: whatever the input, it returns true, and the input reads as it did. No condition. -/
namespace Go.Proofs.Ytekodcjnlkfipaa.K
open Go Go.Abs Go.RowKit Go.ChangeShapes Go.WideShapes Go.ChangeAt Go.Proofs Go.Flat Go.Proofs.G5b
set_option maxRecDepth 100000
theorem shapes5 : Try.f5.params.toList.mapM (argSh Try.prog) = some [.agg [22], .one 43, .one 25] := by kernel_rfl
theorem kept_args {ds : List D} (h : ShDs Try.prog [.agg [22], .one 43, .one 25] ds) : ∃ a b c : D, ds = [.agg [a], b, c] ∧ (a = .nil ∨ ∃ l : List Sv, a = .sl l.length 7 (vs7 l)) ∧ (b = .nil ∨ ∃ l : List (Int × Int), b = .sl l.length 2 (vp l)) ∧ (c = .nil ∨ ∃ l : List Int, c = .sl l.length 1 (vi l)) := by
  cases h with | cons h1 t => cases t with | cons h2 t => cases t with | cons h3 t =>
  cases t
  obtain ⟨d1, rfl, h1⟩ := h1
  cases h1 with | cons h1 t =>
  cases t
  exact ⟨_, _, _, rfl, leaf_svs Try.underlying22 (by kernel_rfl) h1, leaf_prs Try.underlying43 (by kernel_rfl) h2, leaf_ints Try.underlying25 (by kernel_rfl) h3⟩
theorem all5 (ds : List D) (h : ShDs Try.prog [.agg [22], .one 43, .one 25] ds) : Con Try.prog 5 ds [.val (.bool true)] := by
  obtain ⟨a, b, c, rfl, ha, hb, hc⟩ := kept_args h
  rcases ha with rfl | ⟨l, rfl⟩ <;> rcases hb with rfl | ⟨m, rfl⟩ <;> rcases hc with rfl | ⟨o, rfl⟩
  · exact conQnnn
  · exact conQnns o
  · exact conQnsn m
  · exact conQnss m o
  · exact conQsnn l
  · exact conKn l o
  · exact conQssn l m
  · exact conKs l m o
theorem lifted5 (os : Os) (started : os.Started) (H : Type) (enc : TypeId × Value → H) :
    ReturnsInHanded {} Try.checked os 5 .any (Rows.gaugeKeptSpec.pre6 enc Try.prog Try.f5 Rows.gaugeKeptRow.domain false) (Rows.gaugeKeptSpec.post enc Try.prog Try.f5 false true false false) := by
  refine returnsInHanded_of_change (C := Try.checked) own started (by kernel_rfl) Try.func5
    (ChangeSpec.witness6 (enc := enc) (C := Try.checked) false ⟨#[], #[.agg #[.slice none 0 0], .slice none 0 0, .slice none 0 0], []⟩ 8 (by kernel_rfl) (by kernel_rfl) (by kernel_rfl) (by kernel_rfl)) ?_
  intro W base args ds gs before hval hW _ _
  exact law_shapes (tb := 4) (s := Rows.gaugeKeptSpec) shapes5 all5 laidP mapsP slicesP (tsP (by kernel_rfl)) rfl Try.underlying4 rfl (fun ds h => by
    match ds, h with
    | [_, _, _], _ => exact ⟨rfl, rfl, rfl⟩) hval hW
theorem gaugeKept_holds : Rows.GaugeKeptSaid :=
  OpenClaim.holds_of_wide 5 Try.f5 rfl rfl rfl rfl rfl rfl rfl ⟨rfl, rfl, rfl, rfl, rfl⟩ rfl rfl rfl rfl rfl (by kernel_rfl) Try.func5 (by kernel_rfl)
    (of_decide_eq_true (by kernel_rfl)) (by unfold Func.isWrapper; first | (rw [if_pos (by decide +kernel)]; kernel_rfl) | (rw [if_neg (by decide +kernel)]; exact ⟨rfl, rfl⟩))
    (fun os started H enc _ => lifted5 os started H enc)
#print axioms gaugeKept_holds
end Go.Proofs.Ytekodcjnlkfipaa.K
