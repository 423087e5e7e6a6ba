/- What is left to show of each function, written out; the kernel reckons it. -/
import Derived.Test.YtekodcjnlkfipaaP8
namespace Go.Proofs.G5b
open Go Go.Abs Go.Proofs
set_option maxRecDepth 100000
set_option linter.unusedVariables false
def gKp (C : Ct) (L : AtLoop) (n0 : Nat) (c0 : Nat) (l0 : List Value) (n1 : Nat) (c1 : Nat) (l1 : List Value) (n2 : Nat) (c2 : Nat) (l2 : List Value) (k : List D → Prop) : Prop := wpFn Try.prog (hL C) L 0 5 #[.agg #[.slice (some ⟨500, 0, none⟩) n0 c0], .slice (some ⟨501, 0, none⟩) n1 c1, .slice (some ⟨502, 0, none⟩) n2 c2] (heapOf [(500, .sym l0 false 7), (501, .sym l1 false 2), (502, .sym l2 false 1)]) (dataK k)
theorem gKp_text (C : Ct) (L : AtLoop) (n0 : Nat) (c0 : Nat) (l0 : List Go.Value) (n1 : Nat) (c1 : Nat) (l1 : List Go.Value) (n2 : Nat) (c2 : Nat) (l2 : List Go.Value) (k : List D → Prop) : gKp C L n0 c0 l0 n1 c1 l1 n2 c2 l2 k =
 (((Says C 7 [] [(D.val (Value.bool true))]) ∧
 (bcase (decide (0 + n0 * 7 ≤ List.length l0))
 (((Says C 8 [(D.agg [(D.sl (n0) 7 (List.take (n0 * 7) (List.drop 0 l0)))])] [(D.val (Value.bool true))]) ∧
 (bcase (decide (0 + n0 * 7 ≤ List.length l0))
 (∃ n3 : Int,
 ((Says C 21 [(D.agg [(D.sl (n0) 7 (List.take (n0 * 7) (List.drop 0 l0)))])] [(D.val (vI n3))]) ∧
 (bcase (n3 != 0)
 (k [(D.val (Value.bool true))])
 (bcase (decide ((↑n1 : Int) > 7))
 (k [(D.val (Value.bool true))])
 (bcase (decide ((↑n2 : Int) < IntKind.wrap .i64 (3 * (↑n0 : Int))))
 (k [(D.val (Value.bool true))])
 (bcase (decide ((↑n2 : Int) > 30))
 (k [(D.val (Value.bool true))])
 (L 0 [(Prod.mk 1 (Sl 501 (n1) (c1))), (Prod.mk 2 (Sl 502 (n2) (c2))), (Prod.mk 3 (Pt 1000 0)), (Prod.mk 7 (vI ((↑n0 : Int)))), (Prod.mk 8 (Go.Value.slice Option.none 0 0)), (Prod.mk 9 (vI (0 : Int)))] [(Prod.mk 501 (AObj.sym (l1) false 2)), (Prod.mk 502 (AObj.sym (l2) false 1)), (Prod.mk 1000 (AObj.cells [(Sl 500 (n0) (c0))] 24 false 1)), (Prod.mk 500 (AObj.sym (l0) false 7))])))))))
 False)) ∨
 ((Says C 8 [(D.agg [(D.sl (n0) 7 (List.take (n0 * 7) (List.drop 0 l0)))])] [(D.val (Value.bool false))]) ∧
 (k [(D.val (Value.bool true))])))
 False)) ∨
 ((Says C 7 [] [(D.val (Value.bool false))]) ∧
 (k [(D.val (Value.bool false))]))) := by kernel_rfl
abbrev zKp1 (n0 : Nat) (c1 : Nat) (n2 : Nat) (c3 : Nat) (x4 : Int) (x5 : Int) (l6 : List Value) (l7 : List Value) (n8 : Nat) (c9 : Nat) (l10 : List Value) : Slots × Blocks := ([(1, (Value.slice (some ⟨501, 0, none⟩) n0 c1)), (2, (Value.slice (some ⟨502, 0, none⟩) n2 c3)), (3, (Value.pointer (some ⟨1000, 0, none⟩))), (7, (Value.int .i64 x4)), (8, (Value.slice none 0 0)), (9, (Value.int .i64 x5))], [(501, (AObj.sym l6 false 2)), (502, (AObj.sym l7 false 1)), (1000, (AObj.cells [(Value.slice (some ⟨500, 0, none⟩) n8 c9)] 24 false 1)), (500, (AObj.sym l10 false 7))])
def rKp1 (C : Ct) (L : AtLoop) (n0 : Nat) (c1 : Nat) (n2 : Nat) (c3 : Nat) (x4 : Int) (x5 : Int) (l6 : List Value) (l7 : List Value) (n8 : Nat) (c9 : Nat) (l10 : List Value) (B : Bx) (X : Xx) (k : List D → Prop) : Prop := wpRound Try.prog (hL C) L 5 0 [(1, (Value.slice (some ⟨501, 0, none⟩) n0 c1)), (2, (Value.slice (some ⟨502, 0, none⟩) n2 c3)), (3, (Value.pointer (some ⟨1000, 0, none⟩))), (7, (Value.int .i64 x4)), (8, (Value.slice none 0 0)), (9, (Value.int .i64 x5))] [(501, (AObj.sym l6 false 2)), (502, (AObj.sym l7 false 1)), (1000, (AObj.cells [(Value.slice (some ⟨500, 0, none⟩) n8 c9)] 24 false 1)), (500, (AObj.sym l10 false 7))] B X (dataK k)
theorem rKp1_text (C : Ct) (L : AtLoop) (n0 : Nat) (c1 : Nat) (n2 : Nat) (c3 : Nat) (x4 : Int) (x5 : Int) (l6 : List Go.Value) (l7 : List Go.Value) (n8 : Nat) (c9 : Nat) (l10 : List Go.Value) (B : Bx) (X : Xx) (k : List D → Prop) : rKp1 C L n0 c1 n2 c3 x4 x5 l6 l7 n8 c9 l10 B X k =
 (bcase (decide (x5 < x4))
 (bcase (decide (0 ≤ x5))
 (bcase (decide (x5 < (↑n8 : Int)))
 (∃ n1 : Int,
 (∃ n3 : Int,
 ((At (l10) (Go.Addr.off { block := 500, off := 0 + Int.toNat x5 * 7 } + 5) 2 [(vI n1), (vI n3)]) ∧
 (bcase (decide (0 ≤ x5))
 (bcase (decide (x5 < (↑n2 : Int)))
 (∃ n4 : Int,
 ((At (l7) (0 + Int.toNat x5 * 1) 1 [(vI n4)]) ∧
 (((Qv (vI (IntKind.wrap .i64 (IntKind.wrap .i64 (n3 - n1) + 1)))) ∧
 ((Qv (vI (IntKind.wrap .i64 (n3 - n1)))) ∧
 ((Qv (vI n1)) ∧
 ((Qv (Pt 1001 0)) ∧
 ((Qv (vI n3)) ∧
 ((Qv (Pt 1001 1)) ∧
 ((∃ n5 : Int,
 ((At (l7) (0 + Int.toNat x5 * 1) 1 [(vI n5)]) ∧
 ((vI n5) = (vI n4)))) ∧
 ((bcase (decide (0 ≤ x5))
 (bcase (decide (x5 < (↑n2 : Int)))
 (Qv (Pt 502 (0 + Int.toNat x5 * 1)))
 False)
 False) ∧
 ((Qv (vI x5)) ∧
 ((Qv (Sl 502 (n2) (c3))) ∧
 ((Qv (vI n1)) ∧
 ((Qv (Pt 1001 0)) ∧
 ((Qv (Go.Value.slice Option.none 0 0)) ∧
 True))))))))))))) ∧
 (∃ n5 : Int,
 ((Says C 25 [(D.val (vI n4)), (D.val (vI (IntKind.wrap .i64 (IntKind.wrap .i64 (n3 - n1) + 1))))] [(D.val (vI n5))]) ∧
 ((((Qv (Sl 1002 1 1)) ∧
 (Qv (Option.some (AObj.cells [(vI (IntKind.wrap .i64 (n1 + n5)))] 3 false 1)))) ∧
 ((Qv (vI (IntKind.wrap .i64 (n1 + n5)))) ∧
 ((Qv (vI (IntKind.wrap .i64 (n3 - n1)))) ∧
 ((Qv (vI n1)) ∧
 ((Qv (Pt 1001 0)) ∧
 ((Qv (vI n3)) ∧
 ((Qv (Pt 1001 1)) ∧
 ((bcase (decide (0 ≤ x5))
 (bcase (decide (x5 < (↑n2 : Int)))
 (Qv (Pt 502 (0 + Int.toNat x5 * 1)))
 False)
 False) ∧
 ((Qv (vI x5)) ∧
 ((Qv (Sl 502 (n2) (c3))) ∧
 ((Qv (vI n1)) ∧
 ((Qv (Pt 1001 0)) ∧
 ((Qv (Go.Value.slice Option.none 0 0)) ∧
 True))))))))))))) ∧
 (((Qv (vI (IntKind.wrap .i64 (n1 + n5)))) ∧
 ((Qv (vI (IntKind.wrap .i64 (n3 - n1)))) ∧
 ((Qv (vI n1)) ∧
 ((Qv (Pt 1001 0)) ∧
 ((Qv (vI n3)) ∧
 ((Qv (Pt 1001 1)) ∧
 ((bcase (decide (0 ≤ x5))
 (bcase (decide (x5 < (↑n2 : Int)))
 (Qv (Pt 502 (0 + Int.toNat x5 * 1)))
 False)
 False) ∧
 ((Qv (vI x5)) ∧
 ((Qv (Sl 502 (n2) (c3))) ∧
 ((Qv (vI n1)) ∧
 ((Qv (Pt 1001 0)) ∧
 True))))))))))) ∧
 (True ∧
 (B [(Prod.mk 1 (Sl 501 (n0) (c1))), (Prod.mk 2 (Sl 502 (n2) (c3))), (Prod.mk 3 (Pt 1000 0)), (Prod.mk 7 (vI x4)), (Prod.mk 8 (Sl 1001 1 1)), (Prod.mk 9 (vI (IntKind.wrap .i64 (x5 + 1))))] [(Prod.mk 501 (AObj.sym (l6) false 2)), (Prod.mk 502 (AObj.sym (l7) false 1)), (Prod.mk 1000 (AObj.cells [(Sl 500 (n8) (c9))] 24 false 1)), (Prod.mk 1001 (AObj.sym [(vI (IntKind.wrap .i64 (n1 + n5)))] true 1)), (Prod.mk 500 (AObj.sym (l10) false 7))])))))))))
 False)
 False))))
 False)
 False)
 (X 0 [(Prod.mk 1 (Sl 501 (n0) (c1))), (Prod.mk 2 (Sl 502 (n2) (c3))), (Prod.mk 3 (Pt 1000 0)), (Prod.mk 7 (vI x4)), (Prod.mk 8 (Go.Value.slice Option.none 0 0))] [(Prod.mk 501 (AObj.sym (l6) false 2)), (Prod.mk 502 (AObj.sym (l7) false 1)), (Prod.mk 1000 (AObj.cells [(Sl 500 (n8) (c9))] 24 false 1)), (Prod.mk 500 (AObj.sym (l10) false 7))])) := by kernel_rfl
abbrev zKp2 (n0 : Nat) (c1 : Nat) (n2 : Nat) (c3 : Nat) (x4 : Int) (n5 : Nat) (x6 : Int) (l7 : List Value) (l8 : List Value) (n9 : Nat) (c10 : Nat) (l11 : List Value) (l12 : List Value) : Slots × Blocks := ([(1, (Value.slice (some ⟨501, 0, none⟩) n0 c1)), (2, (Value.slice (some ⟨502, 0, none⟩) n2 c3)), (3, (Value.pointer (some ⟨1000, 0, none⟩))), (7, (Value.int .i64 x4)), (8, (Value.slice (some ⟨1001, 0, none⟩) n5 n5)), (9, (Value.int .i64 x6))], [(501, (AObj.sym l7 false 2)), (502, (AObj.sym l8 false 1)), (1000, (AObj.cells [(Value.slice (some ⟨500, 0, none⟩) n9 c10)] 24 false 1)), (1001, (AObj.sym l11 true 1)), (500, (AObj.sym l12 false 7))])
def rKp2 (C : Ct) (L : AtLoop) (n0 : Nat) (c1 : Nat) (n2 : Nat) (c3 : Nat) (x4 : Int) (n5 : Nat) (x6 : Int) (l7 : List Value) (l8 : List Value) (n9 : Nat) (c10 : Nat) (l11 : List Value) (l12 : List Value) (B : Bx) (X : Xx) (k : List D → Prop) : Prop := wpRound Try.prog (hL C) L 5 0 [(1, (Value.slice (some ⟨501, 0, none⟩) n0 c1)), (2, (Value.slice (some ⟨502, 0, none⟩) n2 c3)), (3, (Value.pointer (some ⟨1000, 0, none⟩))), (7, (Value.int .i64 x4)), (8, (Value.slice (some ⟨1001, 0, none⟩) n5 n5)), (9, (Value.int .i64 x6))] [(501, (AObj.sym l7 false 2)), (502, (AObj.sym l8 false 1)), (1000, (AObj.cells [(Value.slice (some ⟨500, 0, none⟩) n9 c10)] 24 false 1)), (1001, (AObj.sym l11 true 1)), (500, (AObj.sym l12 false 7))] B X (dataK k)
theorem rKp2_text (C : Ct) (L : AtLoop) (n0 : Nat) (c1 : Nat) (n2 : Nat) (c3 : Nat) (x4 : Int) (n5 : Nat) (x6 : Int) (l7 : List Go.Value) (l8 : List Go.Value) (n9 : Nat) (c10 : Nat) (l11 : List Go.Value) (l12 : List Go.Value) (B : Bx) (X : Xx) (k : List D → Prop) : rKp2 C L n0 c1 n2 c3 x4 n5 x6 l7 l8 n9 c10 l11 l12 B X k =
 (bcase (decide (x6 < x4))
 (bcase (decide (0 ≤ x6))
 (bcase (decide (x6 < (↑n9 : Int)))
 (∃ n1 : Int,
 (∃ n3 : Int,
 ((At (l12) (Go.Addr.off { block := 500, off := 0 + Int.toNat x6 * 7 } + 5) 2 [(vI n1), (vI n3)]) ∧
 (bcase (decide (0 ≤ x6))
 (bcase (decide (x6 < (↑n2 : Int)))
 (∃ n4 : Int,
 ((At (l8) (0 + Int.toNat x6 * 1) 1 [(vI n4)]) ∧
 (((Qv (vI (IntKind.wrap .i64 (IntKind.wrap .i64 (n3 - n1) + 1)))) ∧
 ((Qv (vI (IntKind.wrap .i64 (n3 - n1)))) ∧
 ((Qv (vI n1)) ∧
 ((Qv (Pt 1002 0)) ∧
 ((Qv (vI n3)) ∧
 ((Qv (Pt 1002 1)) ∧
 ((∃ n6 : Int,
 ((At (l8) (0 + Int.toNat x6 * 1) 1 [(vI n6)]) ∧
 ((vI n6) = (vI n4)))) ∧
 ((bcase (decide (0 ≤ x6))
 (bcase (decide (x6 < (↑n2 : Int)))
 (Qv (Pt 502 (0 + Int.toNat x6 * 1)))
 False)
 False) ∧
 ((Qv (vI x6)) ∧
 ((Qv (Sl 502 (n2) (c3))) ∧
 ((Qv (vI n1)) ∧
 ((Qv (Pt 1002 0)) ∧
 ((Qv (Sl 1001 (n5) (n5))) ∧
 True))))))))))))) ∧
 (∃ n6 : Int,
 ((Says C 25 [(D.val (vI n4)), (D.val (vI (IntKind.wrap .i64 (IntKind.wrap .i64 (n3 - n1) + 1))))] [(D.val (vI n6))]) ∧
 ((((Qv (Sl 1003 1 1)) ∧
 (Qv (Option.some (AObj.cells [(vI (IntKind.wrap .i64 (n1 + n6)))] 3 false 1)))) ∧
 ((Qv (vI (IntKind.wrap .i64 (n1 + n6)))) ∧
 ((Qv (vI (IntKind.wrap .i64 (n3 - n1)))) ∧
 ((Qv (vI n1)) ∧
 ((Qv (Pt 1002 0)) ∧
 ((Qv (vI n3)) ∧
 ((Qv (Pt 1002 1)) ∧
 ((bcase (decide (0 ≤ x6))
 (bcase (decide (x6 < (↑n2 : Int)))
 (Qv (Pt 502 (0 + Int.toNat x6 * 1)))
 False)
 False) ∧
 ((Qv (vI x6)) ∧
 ((Qv (Sl 502 (n2) (c3))) ∧
 ((Qv (vI n1)) ∧
 ((Qv (Pt 1002 0)) ∧
 ((Qv (Sl 1001 (n5) (n5))) ∧
 True))))))))))))) ∧
 (bcase (decide (n5 < n5 + 1))
 (bcase (decide ((2 * (n5 + 1) + 768) * 8 ≤ 281474976710656))
 (bcase (decide (n5 + 1 ≤ 1099511627776))
 (bcase (decide (0 + n5 * 1 ≤ List.length l11))
 (bcase (decide (0 + n5 * 1 = List.length l11))
 (((Qv (vI (IntKind.wrap .i64 (n1 + n6)))) ∧
 ((Qv (vI (IntKind.wrap .i64 (n3 - n1)))) ∧
 ((Qv (vI n1)) ∧
 ((Qv (Pt 1002 0)) ∧
 ((Qv (vI n3)) ∧
 ((Qv (Pt 1002 1)) ∧
 ((bcase (decide (0 ≤ x6))
 (bcase (decide (x6 < (↑n2 : Int)))
 (Qv (Pt 502 (0 + Int.toNat x6 * 1)))
 False)
 False) ∧
 ((Qv (vI x6)) ∧
 ((Qv (Sl 502 (n2) (c3))) ∧
 ((Qv (vI n1)) ∧
 ((Qv (Pt 1002 0)) ∧
 True))))))))))) ∧
 (True ∧
 (B [(Prod.mk 1 (Sl 501 (n0) (c1))), (Prod.mk 2 (Sl 502 (n2) (c3))), (Prod.mk 3 (Pt 1000 0)), (Prod.mk 7 (vI x4)), (Prod.mk 8 (Sl 1001 (n5 + 1) (n5 + 1))), (Prod.mk 9 (vI (IntKind.wrap .i64 (x6 + 1))))] [(Prod.mk 501 (AObj.sym (l7) false 2)), (Prod.mk 502 (AObj.sym (l8) false 1)), (Prod.mk 1000 (AObj.cells [(Sl 500 (n9) (c10))] 24 false 1)), (Prod.mk 1001 (AObj.sym ((List.take (n5 * 1) (List.drop 0 l11)) ++ [(vI (IntKind.wrap .i64 (n1 + n6)))]) true 1)), (Prod.mk 500 (AObj.sym (l12) false 7))])))
 False)
 False)
 False)
 False)
 False)))))))
 False)
 False))))
 False)
 False)
 (X 0 [(Prod.mk 1 (Sl 501 (n0) (c1))), (Prod.mk 2 (Sl 502 (n2) (c3))), (Prod.mk 3 (Pt 1000 0)), (Prod.mk 7 (vI x4)), (Prod.mk 8 (Sl 1001 (n5) (n5)))] [(Prod.mk 501 (AObj.sym (l7) false 2)), (Prod.mk 502 (AObj.sym (l8) false 1)), (Prod.mk 1000 (AObj.cells [(Sl 500 (n9) (c10))] 24 false 1)), (Prod.mk 1001 (AObj.sym (l11) true 1)), (Prod.mk 500 (AObj.sym (l12) false 7))])) := by kernel_rfl
def nKp3 (C : Ct) (L : AtLoop) (n0 : Nat) (c1 : Nat) (n2 : Nat) (c3 : Nat) (x4 : Int) (n5 : Nat) (l6 : List Value) (l7 : List Value) (n8 : Nat) (c9 : Nat) (l10 : List Value) (l11 : List Value) (k : List D → Prop) : Prop := wpNext Try.prog (hL C) L 5 0 .normal [(1, (Value.slice (some ⟨501, 0, none⟩) n0 c1)), (2, (Value.slice (some ⟨502, 0, none⟩) n2 c3)), (3, (Value.pointer (some ⟨1000, 0, none⟩))), (7, (Value.int .i64 x4)), (8, (Value.slice (some ⟨1001, 0, none⟩) n5 n5))] [(501, (AObj.sym l6 false 2)), (502, (AObj.sym l7 false 1)), (1000, (AObj.cells [(Value.slice (some ⟨500, 0, none⟩) n8 c9)] 24 false 1)), (1001, (AObj.sym l10 true 1)), (500, (AObj.sym l11 false 7))] (dataK k)
theorem nKp3_text (C : Ct) (L : AtLoop) (n0 : Nat) (c1 : Nat) (n2 : Nat) (c3 : Nat) (x4 : Int) (n5 : Nat) (l6 : List Go.Value) (l7 : List Go.Value) (n8 : Nat) (c9 : Nat) (l10 : List Go.Value) (l11 : List Go.Value) (k : List D → Prop) : nKp3 C L n0 c1 n2 c3 x4 n5 l6 l7 n8 c9 l10 l11 k =
 (bcase (decide (0 + n8 * 7 ≤ List.length l11))
 ((Says C 10 [(D.agg [(D.sl (n8) 7 (List.take (n8 * 7) (List.drop 0 l11)))])] [(D.agg [(D.sl (n8) 7 (List.take (n8 * 7) (List.drop 0 l11)))])]) ∧
 (bcase (decide (0 + n5 * 1 ≤ List.length l10))
 ((Says C 20 [(D.sl (n5) 1 (List.take (n5 * 1) (List.drop 0 l10)))] [(D.sl (n5) 1 (List.take (n5 * 1) (List.drop 0 l10)))]) ∧
 (bcase (decide (0 + n8 * 7 ≤ List.length (List.take (n8 * 7) (List.drop 0 l11))))
 (bcase (decide (0 + n5 * 1 ≤ List.length (List.take (n5 * 1) (List.drop 0 l10))))
 ((∃ n1 : Int,
 ((Says C 19 [(D.agg [(D.sl (n8) 7 (List.take (n8 * 7) (List.drop 0 (List.take (n8 * 7) (List.drop 0 l11)))))]), (D.sl (n5) 1 (List.take (n5 * 1) (List.drop 0 (List.take (n5 * 1) (List.drop 0 l10)))))] [D.nil, (D.val (vI n1))]) ∧
 (bcase (decide (0 + n8 * 7 ≤ List.length l11))
 ((Says C 10 [(D.agg [(D.sl (n8) 7 (List.take (n8 * 7) (List.drop 0 l11)))])] [(D.agg [(D.sl (n8) 7 (List.take (n8 * 7) (List.drop 0 l11)))])]) ∧
 (bcase (decide (0 + n0 * 2 ≤ List.length l6))
 ((Says C 18 [(D.sl (n0) 2 (List.take (n0 * 2) (List.drop 0 l6)))] [(D.sl (n0) 2 (List.take (n0 * 2) (List.drop 0 l6)))]) ∧
 (bcase (decide (0 + n8 * 7 ≤ List.length (List.take (n8 * 7) (List.drop 0 l11))))
 (bcase (decide (0 + n0 * 2 ≤ List.length (List.take (n0 * 2) (List.drop 0 l6))))
 (∃ n3 : Int,
 (∃ n4 : Int,
 ((Says C 17 [(D.agg [(D.sl (n8) 7 (List.take (n8 * 7) (List.drop 0 (List.take (n8 * 7) (List.drop 0 l11)))))]), (D.sl (n0) 2 (List.take (n0 * 2) (List.drop 0 (List.take (n0 * 2) (List.drop 0 l6)))))] [(D.val (vI n3)), (D.val (vI n4))]) ∧
 (bcase (n4 == 0)
 (bcase ((↑n0 : Int) == x4)
 (L 2 [(Prod.mk 1 (Sl 501 (n0) (c1))), (Prod.mk 2 (Sl 502 (n2) (c3))), (Prod.mk 3 (Pt 1000 0)), (Prod.mk 7 (vI x4)), (Prod.mk 8 (Sl 1001 (n5) (n5))), (Prod.mk 11 (Go.Value.slice Option.none 0 0)), (Prod.mk 12 (vI n1)), (Prod.mk 15 (Value.bool true)), (Prod.mk 16 (vI (0 : Int)))] [(Prod.mk 501 (AObj.sym (l6) false 2)), (Prod.mk 502 (AObj.sym (l7) false 1)), (Prod.mk 1000 (AObj.cells [(Sl 500 (n8) (c9))] 24 false 1)), (Prod.mk 1001 (AObj.sym (l10) true 1)), (Prod.mk 500 (AObj.sym (l11) false 7))])
 (L 2 [(Prod.mk 1 (Sl 501 (n0) (c1))), (Prod.mk 2 (Sl 502 (n2) (c3))), (Prod.mk 3 (Pt 1000 0)), (Prod.mk 7 (vI x4)), (Prod.mk 8 (Sl 1001 (n5) (n5))), (Prod.mk 11 (Go.Value.slice Option.none 0 0)), (Prod.mk 12 (vI n1)), (Prod.mk 15 (Value.bool false)), (Prod.mk 16 (vI (0 : Int)))] [(Prod.mk 501 (AObj.sym (l6) false 2)), (Prod.mk 502 (AObj.sym (l7) false 1)), (Prod.mk 1000 (AObj.cells [(Sl 500 (n8) (c9))] 24 false 1)), (Prod.mk 1001 (AObj.sym (l10) true 1)), (Prod.mk 500 (AObj.sym (l11) false 7))]))
 (L 2 [(Prod.mk 1 (Sl 501 (n0) (c1))), (Prod.mk 2 (Sl 502 (n2) (c3))), (Prod.mk 3 (Pt 1000 0)), (Prod.mk 7 (vI x4)), (Prod.mk 8 (Sl 1001 (n5) (n5))), (Prod.mk 11 (Go.Value.slice Option.none 0 0)), (Prod.mk 12 (vI n1)), (Prod.mk 15 (Value.bool false)), (Prod.mk 16 (vI (0 : Int)))] [(Prod.mk 501 (AObj.sym (l6) false 2)), (Prod.mk 502 (AObj.sym (l7) false 1)), (Prod.mk 1000 (AObj.cells [(Sl 500 (n8) (c9))] 24 false 1)), (Prod.mk 1001 (AObj.sym (l10) true 1)), (Prod.mk 500 (AObj.sym (l11) false 7))])))))
 False)
 False))
 False))
 False))) ∨
 (∃ n1 : Nat,
 (∃ cs1 : List Go.Value,
 (∃ n3 : Int,
 ((Says C 19 [(D.agg [(D.sl (n8) 7 (List.take (n8 * 7) (List.drop 0 (List.take (n8 * 7) (List.drop 0 l11)))))]), (D.sl (n5) 1 (List.take (n5 * 1) (List.drop 0 (List.take (n5 * 1) (List.drop 0 l10)))))] [(D.sl (n1) 2 (cs1)), (D.val (vI n3))]) ∧
 (bcase (decide (0 + n8 * 7 ≤ List.length l11))
 ((Says C 10 [(D.agg [(D.sl (n8) 7 (List.take (n8 * 7) (List.drop 0 l11)))])] [(D.agg [(D.sl (n8) 7 (List.take (n8 * 7) (List.drop 0 l11)))])]) ∧
 (bcase (decide (0 + n0 * 2 ≤ List.length l6))
 ((Says C 18 [(D.sl (n0) 2 (List.take (n0 * 2) (List.drop 0 l6)))] [(D.sl (n0) 2 (List.take (n0 * 2) (List.drop 0 l6)))]) ∧
 (bcase (decide (0 + n8 * 7 ≤ List.length (List.take (n8 * 7) (List.drop 0 l11))))
 (bcase (decide (0 + n0 * 2 ≤ List.length (List.take (n0 * 2) (List.drop 0 l6))))
 (∃ n4 : Int,
 (∃ n6 : Int,
 ((Says C 17 [(D.agg [(D.sl (n8) 7 (List.take (n8 * 7) (List.drop 0 (List.take (n8 * 7) (List.drop 0 l11)))))]), (D.sl (n0) 2 (List.take (n0 * 2) (List.drop 0 (List.take (n0 * 2) (List.drop 0 l6)))))] [(D.val (vI n4)), (D.val (vI n6))]) ∧
 (bcase (n6 == 0)
 (bcase ((↑n0 : Int) == x4)
 (L 2 [(Prod.mk 1 (Sl 501 (n0) (c1))), (Prod.mk 2 (Sl 502 (n2) (c3))), (Prod.mk 3 (Pt 1000 0)), (Prod.mk 7 (vI x4)), (Prod.mk 8 (Sl 1001 (n5) (n5))), (Prod.mk 11 (Sl 1002 (n1) (n1))), (Prod.mk 12 (vI n3)), (Prod.mk 15 (Value.bool true)), (Prod.mk 16 (vI (0 : Int)))] [(Prod.mk 501 (AObj.sym (l6) false 2)), (Prod.mk 502 (AObj.sym (l7) false 1)), (Prod.mk 1000 (AObj.cells [(Sl 500 (n8) (c9))] 24 false 1)), (Prod.mk 1001 (AObj.sym (l10) true 1)), (Prod.mk 1002 (AObj.sym (cs1) true 2)), (Prod.mk 500 (AObj.sym (l11) false 7))])
 (L 2 [(Prod.mk 1 (Sl 501 (n0) (c1))), (Prod.mk 2 (Sl 502 (n2) (c3))), (Prod.mk 3 (Pt 1000 0)), (Prod.mk 7 (vI x4)), (Prod.mk 8 (Sl 1001 (n5) (n5))), (Prod.mk 11 (Sl 1002 (n1) (n1))), (Prod.mk 12 (vI n3)), (Prod.mk 15 (Value.bool false)), (Prod.mk 16 (vI (0 : Int)))] [(Prod.mk 501 (AObj.sym (l6) false 2)), (Prod.mk 502 (AObj.sym (l7) false 1)), (Prod.mk 1000 (AObj.cells [(Sl 500 (n8) (c9))] 24 false 1)), (Prod.mk 1001 (AObj.sym (l10) true 1)), (Prod.mk 1002 (AObj.sym (cs1) true 2)), (Prod.mk 500 (AObj.sym (l11) false 7))]))
 (L 2 [(Prod.mk 1 (Sl 501 (n0) (c1))), (Prod.mk 2 (Sl 502 (n2) (c3))), (Prod.mk 3 (Pt 1000 0)), (Prod.mk 7 (vI x4)), (Prod.mk 8 (Sl 1001 (n5) (n5))), (Prod.mk 11 (Sl 1002 (n1) (n1))), (Prod.mk 12 (vI n3)), (Prod.mk 15 (Value.bool false)), (Prod.mk 16 (vI (0 : Int)))] [(Prod.mk 501 (AObj.sym (l6) false 2)), (Prod.mk 502 (AObj.sym (l7) false 1)), (Prod.mk 1000 (AObj.cells [(Sl 500 (n8) (c9))] 24 false 1)), (Prod.mk 1001 (AObj.sym (l10) true 1)), (Prod.mk 1002 (AObj.sym (cs1) true 2)), (Prod.mk 500 (AObj.sym (l11) false 7))])))))
 False)
 False))
 False))
 False))))))
 False)
 False))
 False))
 False) := by kernel_rfl
abbrev zKp4 (n0 : Nat) (c1 : Nat) (n2 : Nat) (c3 : Nat) (x4 : Int) (n5 : Nat) (x6 : Int) (b7 : Bool) (x8 : Int) (l9 : List Value) (l10 : List Value) (n11 : Nat) (c12 : Nat) (l13 : List Value) (l14 : List Value) : Slots × Blocks := ([(1, (Value.slice (some ⟨501, 0, none⟩) n0 c1)), (2, (Value.slice (some ⟨502, 0, none⟩) n2 c3)), (3, (Value.pointer (some ⟨1000, 0, none⟩))), (7, (Value.int .i64 x4)), (8, (Value.slice (some ⟨1001, 0, none⟩) n5 n5)), (11, (Value.slice none 0 0)), (12, (Value.int .i64 x6)), (15, (Value.bool b7)), (16, (Value.int .i64 x8))], [(501, (AObj.sym l9 false 2)), (502, (AObj.sym l10 false 1)), (1000, (AObj.cells [(Value.slice (some ⟨500, 0, none⟩) n11 c12)] 24 false 1)), (1001, (AObj.sym l13 true 1)), (500, (AObj.sym l14 false 7))])
def rKp4 (C : Ct) (L : AtLoop) (n0 : Nat) (c1 : Nat) (n2 : Nat) (c3 : Nat) (x4 : Int) (n5 : Nat) (x6 : Int) (b7 : Bool) (x8 : Int) (l9 : List Value) (l10 : List Value) (n11 : Nat) (c12 : Nat) (l13 : List Value) (l14 : List Value) (B : Bx) (X : Xx) (k : List D → Prop) : Prop := wpRound Try.prog (hL C) L 5 2 [(1, (Value.slice (some ⟨501, 0, none⟩) n0 c1)), (2, (Value.slice (some ⟨502, 0, none⟩) n2 c3)), (3, (Value.pointer (some ⟨1000, 0, none⟩))), (7, (Value.int .i64 x4)), (8, (Value.slice (some ⟨1001, 0, none⟩) n5 n5)), (11, (Value.slice none 0 0)), (12, (Value.int .i64 x6)), (15, (Value.bool b7)), (16, (Value.int .i64 x8))] [(501, (AObj.sym l9 false 2)), (502, (AObj.sym l10 false 1)), (1000, (AObj.cells [(Value.slice (some ⟨500, 0, none⟩) n11 c12)] 24 false 1)), (1001, (AObj.sym l13 true 1)), (500, (AObj.sym l14 false 7))] B X (dataK k)
theorem rKp4_text (C : Ct) (L : AtLoop) (n0 : Nat) (c1 : Nat) (n2 : Nat) (c3 : Nat) (x4 : Int) (n5 : Nat) (x6 : Int) (b7 : Bool) (x8 : Int) (l9 : List Go.Value) (l10 : List Go.Value) (n11 : Nat) (c12 : Nat) (l13 : List Go.Value) (l14 : List Go.Value) (B : Bx) (X : Xx) (k : List D → Prop) : rKp4 C L n0 c1 n2 c3 x4 n5 x6 b7 x8 l9 l10 n11 c12 l13 l14 B X k =
 (bcase (decide (x8 < x4))
 (bcase (b7)
 (bcase (decide (0 ≤ x8))
 (bcase (decide (x8 < (↑n5 : Int)))
 (∃ n1 : Int,
 ((At (l13) (0 + Int.toNat x8 * 1) 1 [(vI n1)]) ∧
 (bcase (decide (0 ≤ x8))
 (bcase (decide (x8 < (↑n0 : Int)))
 (∃ n3 : Int,
 ((At (l9) (0 + Int.toNat x8 * 2) 1 [(vI n3)]) ∧
 (bcase (decide (0 ≤ x8))
 (bcase (decide (x8 < (↑n0 : Int)))
 (∃ n4 : Int,
 ((At (l9) (Go.Addr.off { block := 501, off := 0 + Int.toNat x8 * 2 } + 1) 1 [(vI n4)]) ∧
 (((∃ n6 : Int,
 ((At (l9) (Go.Addr.off { block := 501, off := 0 + Int.toNat x8 * 2 } + 1) 1 [(vI n6)]) ∧
 ((vI n6) = (vI n4)))) ∧
 ((Qv (Go.Value.pointer (Option.some (Go.Addr.mk 501 (Go.Addr.off { block := 501, off := 0 + Int.toNat x8 * 2 } + 1) Option.none)))) ∧
 ((bcase (decide (0 ≤ x8))
 (bcase (decide (x8 < (↑n0 : Int)))
 (Qv (Pt 501 (0 + Int.toNat x8 * 2)))
 False)
 False) ∧
 ((Qv (vI x8)) ∧
 ((Qv (Sl 501 (n0) (c1))) ∧
 ((∃ n6 : Int,
 ((At (l9) (0 + Int.toNat x8 * 2) 1 [(vI n6)]) ∧
 ((vI n6) = (vI n3)))) ∧
 ((Qv (Pt 501 (0 + Int.toNat x8 * 2))) ∧
 ((bcase (decide (0 ≤ x8))
 (bcase (decide (x8 < (↑n0 : Int)))
 (Qv (Pt 501 (0 + Int.toNat x8 * 2)))
 False)
 False) ∧
 ((Qv (vI x8)) ∧
 ((Qv (Sl 501 (n0) (c1))) ∧
 ((∃ n6 : Int,
 ((At (l13) (0 + Int.toNat x8 * 1) 1 [(vI n6)]) ∧
 ((vI n6) = (vI n1)))) ∧
 ((bcase (decide (0 ≤ x8))
 (bcase (decide (x8 < (↑n5 : Int)))
 (Qv (Pt 1001 (0 + Int.toNat x8 * 1)))
 False)
 False) ∧
 ((Qv (vI x8)) ∧
 ((Qv (Sl 1001 (n5) (n5))) ∧
 True)))))))))))))) ∧
 (((Says C 26 [(D.val (vI n1)), (D.val (vI n3)), (D.val (vI n4))] [(D.val (Value.bool true))]) ∧
 (((Qv (Go.Value.pointer (Option.some (Go.Addr.mk 501 (Go.Addr.off { block := 501, off := 0 + Int.toNat x8 * 2 } + 1) Option.none)))) ∧
 ((bcase (decide (0 ≤ x8))
 (bcase (decide (x8 < (↑n0 : Int)))
 (Qv (Pt 501 (0 + Int.toNat x8 * 2)))
 False)
 False) ∧
 ((Qv (vI x8)) ∧
 ((Qv (Sl 501 (n0) (c1))) ∧
 ((Qv (Pt 501 (0 + Int.toNat x8 * 2))) ∧
 ((bcase (decide (0 ≤ x8))
 (bcase (decide (x8 < (↑n0 : Int)))
 (Qv (Pt 501 (0 + Int.toNat x8 * 2)))
 False)
 False) ∧
 ((Qv (vI x8)) ∧
 ((Qv (Sl 501 (n0) (c1))) ∧
 ((bcase (decide (0 ≤ x8))
 (bcase (decide (x8 < (↑n5 : Int)))
 (Qv (Pt 1001 (0 + Int.toNat x8 * 1)))
 False)
 False) ∧
 ((Qv (vI x8)) ∧
 ((Qv (Sl 1001 (n5) (n5))) ∧
 True))))))))))) ∧
 (True ∧
 (B [(Prod.mk 1 (Sl 501 (n0) (c1))), (Prod.mk 2 (Sl 502 (n2) (c3))), (Prod.mk 3 (Pt 1000 0)), (Prod.mk 7 (vI x4)), (Prod.mk 8 (Sl 1001 (n5) (n5))), (Prod.mk 11 (Go.Value.slice Option.none 0 0)), (Prod.mk 12 (vI x6)), (Prod.mk 15 (Value.bool true)), (Prod.mk 16 (vI (IntKind.wrap .i64 (x8 + 1))))] [(Prod.mk 501 (AObj.sym (l9) false 2)), (Prod.mk 502 (AObj.sym (l10) false 1)), (Prod.mk 1000 (AObj.cells [(Sl 500 (n11) (c12))] 24 false 1)), (Prod.mk 1001 (AObj.sym (l13) true 1)), (Prod.mk 500 (AObj.sym (l14) false 7))])))) ∨
 ((Says C 26 [(D.val (vI n1)), (D.val (vI n3)), (D.val (vI n4))] [(D.val (Value.bool false))]) ∧
 (((Qv (Go.Value.pointer (Option.some (Go.Addr.mk 501 (Go.Addr.off { block := 501, off := 0 + Int.toNat x8 * 2 } + 1) Option.none)))) ∧
 ((bcase (decide (0 ≤ x8))
 (bcase (decide (x8 < (↑n0 : Int)))
 (Qv (Pt 501 (0 + Int.toNat x8 * 2)))
 False)
 False) ∧
 ((Qv (vI x8)) ∧
 ((Qv (Sl 501 (n0) (c1))) ∧
 ((Qv (Pt 501 (0 + Int.toNat x8 * 2))) ∧
 ((bcase (decide (0 ≤ x8))
 (bcase (decide (x8 < (↑n0 : Int)))
 (Qv (Pt 501 (0 + Int.toNat x8 * 2)))
 False)
 False) ∧
 ((Qv (vI x8)) ∧
 ((Qv (Sl 501 (n0) (c1))) ∧
 ((bcase (decide (0 ≤ x8))
 (bcase (decide (x8 < (↑n5 : Int)))
 (Qv (Pt 1001 (0 + Int.toNat x8 * 1)))
 False)
 False) ∧
 ((Qv (vI x8)) ∧
 ((Qv (Sl 1001 (n5) (n5))) ∧
 True))))))))))) ∧
 (True ∧
 (B [(Prod.mk 1 (Sl 501 (n0) (c1))), (Prod.mk 2 (Sl 502 (n2) (c3))), (Prod.mk 3 (Pt 1000 0)), (Prod.mk 7 (vI x4)), (Prod.mk 8 (Sl 1001 (n5) (n5))), (Prod.mk 11 (Go.Value.slice Option.none 0 0)), (Prod.mk 12 (vI x6)), (Prod.mk 15 (Value.bool false)), (Prod.mk 16 (vI (IntKind.wrap .i64 (x8 + 1))))] [(Prod.mk 501 (AObj.sym (l9) false 2)), (Prod.mk 502 (AObj.sym (l10) false 1)), (Prod.mk 1000 (AObj.cells [(Sl 500 (n11) (c12))] 24 false 1)), (Prod.mk 1001 (AObj.sym (l13) true 1)), (Prod.mk 500 (AObj.sym (l14) false 7))]))))))))
 False)
 False)))
 False)
 False)))
 False)
 False)
 (X 2 [(Prod.mk 1 (Sl 501 (n0) (c1))), (Prod.mk 2 (Sl 502 (n2) (c3))), (Prod.mk 3 (Pt 1000 0)), (Prod.mk 7 (vI x4)), (Prod.mk 8 (Sl 1001 (n5) (n5))), (Prod.mk 11 (Go.Value.slice Option.none 0 0)), (Prod.mk 12 (vI x6)), (Prod.mk 15 (Go.Value.bool (b7)))] [(Prod.mk 501 (AObj.sym (l9) false 2)), (Prod.mk 502 (AObj.sym (l10) false 1)), (Prod.mk 1000 (AObj.cells [(Sl 500 (n11) (c12))] 24 false 1)), (Prod.mk 1001 (AObj.sym (l13) true 1)), (Prod.mk 500 (AObj.sym (l14) false 7))]))
 (X 2 [(Prod.mk 1 (Sl 501 (n0) (c1))), (Prod.mk 2 (Sl 502 (n2) (c3))), (Prod.mk 3 (Pt 1000 0)), (Prod.mk 7 (vI x4)), (Prod.mk 8 (Sl 1001 (n5) (n5))), (Prod.mk 11 (Go.Value.slice Option.none 0 0)), (Prod.mk 12 (vI x6)), (Prod.mk 15 (Go.Value.bool (b7)))] [(Prod.mk 501 (AObj.sym (l9) false 2)), (Prod.mk 502 (AObj.sym (l10) false 1)), (Prod.mk 1000 (AObj.cells [(Sl 500 (n11) (c12))] 24 false 1)), (Prod.mk 1001 (AObj.sym (l13) true 1)), (Prod.mk 500 (AObj.sym (l14) false 7))])) := by kernel_rfl
abbrev zKp5 (n0 : Nat) (c1 : Nat) (n2 : Nat) (c3 : Nat) (x4 : Int) (n5 : Nat) (n6 : Nat) (x7 : Int) (b8 : Bool) (x9 : Int) (l10 : List Value) (l11 : List Value) (n12 : Nat) (c13 : Nat) (l14 : List Value) (l15 : List Value) (l16 : List Value) : Slots × Blocks := ([(1, (Value.slice (some ⟨501, 0, none⟩) n0 c1)), (2, (Value.slice (some ⟨502, 0, none⟩) n2 c3)), (3, (Value.pointer (some ⟨1000, 0, none⟩))), (7, (Value.int .i64 x4)), (8, (Value.slice (some ⟨1001, 0, none⟩) n5 n5)), (11, (Value.slice (some ⟨1002, 0, none⟩) n6 n6)), (12, (Value.int .i64 x7)), (15, (Value.bool b8)), (16, (Value.int .i64 x9))], [(501, (AObj.sym l10 false 2)), (502, (AObj.sym l11 false 1)), (1000, (AObj.cells [(Value.slice (some ⟨500, 0, none⟩) n12 c13)] 24 false 1)), (1001, (AObj.sym l14 true 1)), (1002, (AObj.sym l15 true 2)), (500, (AObj.sym l16 false 7))])
def rKp5 (C : Ct) (L : AtLoop) (n0 : Nat) (c1 : Nat) (n2 : Nat) (c3 : Nat) (x4 : Int) (n5 : Nat) (n6 : Nat) (x7 : Int) (b8 : Bool) (x9 : Int) (l10 : List Value) (l11 : List Value) (n12 : Nat) (c13 : Nat) (l14 : List Value) (l15 : List Value) (l16 : List Value) (B : Bx) (X : Xx) (k : List D → Prop) : Prop := wpRound Try.prog (hL C) L 5 2 [(1, (Value.slice (some ⟨501, 0, none⟩) n0 c1)), (2, (Value.slice (some ⟨502, 0, none⟩) n2 c3)), (3, (Value.pointer (some ⟨1000, 0, none⟩))), (7, (Value.int .i64 x4)), (8, (Value.slice (some ⟨1001, 0, none⟩) n5 n5)), (11, (Value.slice (some ⟨1002, 0, none⟩) n6 n6)), (12, (Value.int .i64 x7)), (15, (Value.bool b8)), (16, (Value.int .i64 x9))] [(501, (AObj.sym l10 false 2)), (502, (AObj.sym l11 false 1)), (1000, (AObj.cells [(Value.slice (some ⟨500, 0, none⟩) n12 c13)] 24 false 1)), (1001, (AObj.sym l14 true 1)), (1002, (AObj.sym l15 true 2)), (500, (AObj.sym l16 false 7))] B X (dataK k)
theorem rKp5_text (C : Ct) (L : AtLoop) (n0 : Nat) (c1 : Nat) (n2 : Nat) (c3 : Nat) (x4 : Int) (n5 : Nat) (n6 : Nat) (x7 : Int) (b8 : Bool) (x9 : Int) (l10 : List Go.Value) (l11 : List Go.Value) (n12 : Nat) (c13 : Nat) (l14 : List Go.Value) (l15 : List Go.Value) (l16 : List Go.Value) (B : Bx) (X : Xx) (k : List D → Prop) : rKp5 C L n0 c1 n2 c3 x4 n5 n6 x7 b8 x9 l10 l11 n12 c13 l14 l15 l16 B X k =
 (bcase (decide (x9 < x4))
 (bcase (b8)
 (bcase (decide (0 ≤ x9))
 (bcase (decide (x9 < (↑n5 : Int)))
 (∃ n1 : Int,
 ((At (l14) (0 + Int.toNat x9 * 1) 1 [(vI n1)]) ∧
 (bcase (decide (0 ≤ x9))
 (bcase (decide (x9 < (↑n0 : Int)))
 (∃ n3 : Int,
 ((At (l10) (0 + Int.toNat x9 * 2) 1 [(vI n3)]) ∧
 (bcase (decide (0 ≤ x9))
 (bcase (decide (x9 < (↑n0 : Int)))
 (∃ n4 : Int,
 ((At (l10) (Go.Addr.off { block := 501, off := 0 + Int.toNat x9 * 2 } + 1) 1 [(vI n4)]) ∧
 (((∃ n7 : Int,
 ((At (l10) (Go.Addr.off { block := 501, off := 0 + Int.toNat x9 * 2 } + 1) 1 [(vI n7)]) ∧
 ((vI n7) = (vI n4)))) ∧
 ((Qv (Go.Value.pointer (Option.some (Go.Addr.mk 501 (Go.Addr.off { block := 501, off := 0 + Int.toNat x9 * 2 } + 1) Option.none)))) ∧
 ((bcase (decide (0 ≤ x9))
 (bcase (decide (x9 < (↑n0 : Int)))
 (Qv (Pt 501 (0 + Int.toNat x9 * 2)))
 False)
 False) ∧
 ((Qv (vI x9)) ∧
 ((Qv (Sl 501 (n0) (c1))) ∧
 ((∃ n7 : Int,
 ((At (l10) (0 + Int.toNat x9 * 2) 1 [(vI n7)]) ∧
 ((vI n7) = (vI n3)))) ∧
 ((Qv (Pt 501 (0 + Int.toNat x9 * 2))) ∧
 ((bcase (decide (0 ≤ x9))
 (bcase (decide (x9 < (↑n0 : Int)))
 (Qv (Pt 501 (0 + Int.toNat x9 * 2)))
 False)
 False) ∧
 ((Qv (vI x9)) ∧
 ((Qv (Sl 501 (n0) (c1))) ∧
 ((∃ n7 : Int,
 ((At (l14) (0 + Int.toNat x9 * 1) 1 [(vI n7)]) ∧
 ((vI n7) = (vI n1)))) ∧
 ((bcase (decide (0 ≤ x9))
 (bcase (decide (x9 < (↑n5 : Int)))
 (Qv (Pt 1001 (0 + Int.toNat x9 * 1)))
 False)
 False) ∧
 ((Qv (vI x9)) ∧
 ((Qv (Sl 1001 (n5) (n5))) ∧
 True)))))))))))))) ∧
 (((Says C 26 [(D.val (vI n1)), (D.val (vI n3)), (D.val (vI n4))] [(D.val (Value.bool true))]) ∧
 (((Qv (Go.Value.pointer (Option.some (Go.Addr.mk 501 (Go.Addr.off { block := 501, off := 0 + Int.toNat x9 * 2 } + 1) Option.none)))) ∧
 ((bcase (decide (0 ≤ x9))
 (bcase (decide (x9 < (↑n0 : Int)))
 (Qv (Pt 501 (0 + Int.toNat x9 * 2)))
 False)
 False) ∧
 ((Qv (vI x9)) ∧
 ((Qv (Sl 501 (n0) (c1))) ∧
 ((Qv (Pt 501 (0 + Int.toNat x9 * 2))) ∧
 ((bcase (decide (0 ≤ x9))
 (bcase (decide (x9 < (↑n0 : Int)))
 (Qv (Pt 501 (0 + Int.toNat x9 * 2)))
 False)
 False) ∧
 ((Qv (vI x9)) ∧
 ((Qv (Sl 501 (n0) (c1))) ∧
 ((bcase (decide (0 ≤ x9))
 (bcase (decide (x9 < (↑n5 : Int)))
 (Qv (Pt 1001 (0 + Int.toNat x9 * 1)))
 False)
 False) ∧
 ((Qv (vI x9)) ∧
 ((Qv (Sl 1001 (n5) (n5))) ∧
 True))))))))))) ∧
 (True ∧
 (B [(Prod.mk 1 (Sl 501 (n0) (c1))), (Prod.mk 2 (Sl 502 (n2) (c3))), (Prod.mk 3 (Pt 1000 0)), (Prod.mk 7 (vI x4)), (Prod.mk 8 (Sl 1001 (n5) (n5))), (Prod.mk 11 (Sl 1002 (n6) (n6))), (Prod.mk 12 (vI x7)), (Prod.mk 15 (Value.bool true)), (Prod.mk 16 (vI (IntKind.wrap .i64 (x9 + 1))))] [(Prod.mk 501 (AObj.sym (l10) false 2)), (Prod.mk 502 (AObj.sym (l11) false 1)), (Prod.mk 1000 (AObj.cells [(Sl 500 (n12) (c13))] 24 false 1)), (Prod.mk 1001 (AObj.sym (l14) true 1)), (Prod.mk 1002 (AObj.sym (l15) true 2)), (Prod.mk 500 (AObj.sym (l16) false 7))])))) ∨
 ((Says C 26 [(D.val (vI n1)), (D.val (vI n3)), (D.val (vI n4))] [(D.val (Value.bool false))]) ∧
 (((Qv (Go.Value.pointer (Option.some (Go.Addr.mk 501 (Go.Addr.off { block := 501, off := 0 + Int.toNat x9 * 2 } + 1) Option.none)))) ∧
 ((bcase (decide (0 ≤ x9))
 (bcase (decide (x9 < (↑n0 : Int)))
 (Qv (Pt 501 (0 + Int.toNat x9 * 2)))
 False)
 False) ∧
 ((Qv (vI x9)) ∧
 ((Qv (Sl 501 (n0) (c1))) ∧
 ((Qv (Pt 501 (0 + Int.toNat x9 * 2))) ∧
 ((bcase (decide (0 ≤ x9))
 (bcase (decide (x9 < (↑n0 : Int)))
 (Qv (Pt 501 (0 + Int.toNat x9 * 2)))
 False)
 False) ∧
 ((Qv (vI x9)) ∧
 ((Qv (Sl 501 (n0) (c1))) ∧
 ((bcase (decide (0 ≤ x9))
 (bcase (decide (x9 < (↑n5 : Int)))
 (Qv (Pt 1001 (0 + Int.toNat x9 * 1)))
 False)
 False) ∧
 ((Qv (vI x9)) ∧
 ((Qv (Sl 1001 (n5) (n5))) ∧
 True))))))))))) ∧
 (True ∧
 (B [(Prod.mk 1 (Sl 501 (n0) (c1))), (Prod.mk 2 (Sl 502 (n2) (c3))), (Prod.mk 3 (Pt 1000 0)), (Prod.mk 7 (vI x4)), (Prod.mk 8 (Sl 1001 (n5) (n5))), (Prod.mk 11 (Sl 1002 (n6) (n6))), (Prod.mk 12 (vI x7)), (Prod.mk 15 (Value.bool false)), (Prod.mk 16 (vI (IntKind.wrap .i64 (x9 + 1))))] [(Prod.mk 501 (AObj.sym (l10) false 2)), (Prod.mk 502 (AObj.sym (l11) false 1)), (Prod.mk 1000 (AObj.cells [(Sl 500 (n12) (c13))] 24 false 1)), (Prod.mk 1001 (AObj.sym (l14) true 1)), (Prod.mk 1002 (AObj.sym (l15) true 2)), (Prod.mk 500 (AObj.sym (l16) false 7))]))))))))
 False)
 False)))
 False)
 False)))
 False)
 False)
 (X 2 [(Prod.mk 1 (Sl 501 (n0) (c1))), (Prod.mk 2 (Sl 502 (n2) (c3))), (Prod.mk 3 (Pt 1000 0)), (Prod.mk 7 (vI x4)), (Prod.mk 8 (Sl 1001 (n5) (n5))), (Prod.mk 11 (Sl 1002 (n6) (n6))), (Prod.mk 12 (vI x7)), (Prod.mk 15 (Go.Value.bool (b8)))] [(Prod.mk 501 (AObj.sym (l10) false 2)), (Prod.mk 502 (AObj.sym (l11) false 1)), (Prod.mk 1000 (AObj.cells [(Sl 500 (n12) (c13))] 24 false 1)), (Prod.mk 1001 (AObj.sym (l14) true 1)), (Prod.mk 1002 (AObj.sym (l15) true 2)), (Prod.mk 500 (AObj.sym (l16) false 7))]))
 (X 2 [(Prod.mk 1 (Sl 501 (n0) (c1))), (Prod.mk 2 (Sl 502 (n2) (c3))), (Prod.mk 3 (Pt 1000 0)), (Prod.mk 7 (vI x4)), (Prod.mk 8 (Sl 1001 (n5) (n5))), (Prod.mk 11 (Sl 1002 (n6) (n6))), (Prod.mk 12 (vI x7)), (Prod.mk 15 (Go.Value.bool (b8)))] [(Prod.mk 501 (AObj.sym (l10) false 2)), (Prod.mk 502 (AObj.sym (l11) false 1)), (Prod.mk 1000 (AObj.cells [(Sl 500 (n12) (c13))] 24 false 1)), (Prod.mk 1001 (AObj.sym (l14) true 1)), (Prod.mk 1002 (AObj.sym (l15) true 2)), (Prod.mk 500 (AObj.sym (l16) false 7))])) := by kernel_rfl
def nKp6 (C : Ct) (L : AtLoop) (n0 : Nat) (c1 : Nat) (n2 : Nat) (c3 : Nat) (x4 : Int) (n5 : Nat) (n6 : Nat) (x7 : Int) (b8 : Bool) (l9 : List Value) (l10 : List Value) (n11 : Nat) (c12 : Nat) (l13 : List Value) (l14 : List Value) (l15 : List Value) (k : List D → Prop) : Prop := wpNext Try.prog (hL C) L 5 2 .normal [(1, (Value.slice (some ⟨501, 0, none⟩) n0 c1)), (2, (Value.slice (some ⟨502, 0, none⟩) n2 c3)), (3, (Value.pointer (some ⟨1000, 0, none⟩))), (7, (Value.int .i64 x4)), (8, (Value.slice (some ⟨1001, 0, none⟩) n5 n5)), (11, (Value.slice (some ⟨1002, 0, none⟩) n6 n6)), (12, (Value.int .i64 x7)), (15, (Value.bool b8))] [(501, (AObj.sym l9 false 2)), (502, (AObj.sym l10 false 1)), (1000, (AObj.cells [(Value.slice (some ⟨500, 0, none⟩) n11 c12)] 24 false 1)), (1001, (AObj.sym l13 true 1)), (1002, (AObj.sym l14 true 2)), (500, (AObj.sym l15 false 7))] (dataK k)
theorem nKp6_text (C : Ct) (L : AtLoop) (n0 : Nat) (c1 : Nat) (n2 : Nat) (c3 : Nat) (x4 : Int) (n5 : Nat) (n6 : Nat) (x7 : Int) (b8 : Bool) (l9 : List Go.Value) (l10 : List Go.Value) (n11 : Nat) (c12 : Nat) (l13 : List Go.Value) (l14 : List Go.Value) (l15 : List Go.Value) (k : List D → Prop) : nKp6 C L n0 c1 n2 c3 x4 n5 n6 x7 b8 l9 l10 n11 c12 l13 l14 l15 k =
 (bcase (x7 != 0)
 (bcase (x7 == 12)
 (bcase (b8)
 (k [(D.val (Value.bool false))])
 (k [(D.val (Value.bool true))]))
 (k [(D.val (Value.bool false))]))
 (bcase ((↑n6 : Int) != x4)
 (k [(D.val (Value.bool false))])
 (bcase (decide (0 + n11 * 7 ≤ List.length l15))
 ((Says C 10 [(D.agg [(D.sl (n11) 7 (List.take (n11 * 7) (List.drop 0 l15)))])] [(D.agg [(D.sl (n11) 7 (List.take (n11 * 7) (List.drop 0 l15)))])]) ∧
 (bcase (decide (0 + n6 * 2 ≤ List.length l14))
 ((Says C 18 [(D.sl (n6) 2 (List.take (n6 * 2) (List.drop 0 l14)))] [(D.sl (n6) 2 (List.take (n6 * 2) (List.drop 0 l14)))]) ∧
 (bcase (decide (0 + n11 * 7 ≤ List.length (List.take (n11 * 7) (List.drop 0 l15))))
 (bcase (decide (0 + n6 * 2 ≤ List.length (List.take (n6 * 2) (List.drop 0 l14))))
 (∃ n1 : Int,
 (∃ n3 : Int,
 ((Says C 17 [(D.agg [(D.sl (n11) 7 (List.take (n11 * 7) (List.drop 0 (List.take (n11 * 7) (List.drop 0 l15)))))]), (D.sl (n6) 2 (List.take (n6 * 2) (List.drop 0 (List.take (n6 * 2) (List.drop 0 l14)))))] [(D.val (vI n1)), (D.val (vI n3))]) ∧
 (bcase (n3 != 0)
 (k [(D.val (Value.bool false))])
 (L 4 [(Prod.mk 1 (Sl 501 (n0) (c1))), (Prod.mk 2 (Sl 502 (n2) (c3))), (Prod.mk 3 (Pt 1000 0)), (Prod.mk 7 (vI x4)), (Prod.mk 8 (Sl 1001 (n5) (n5))), (Prod.mk 11 (Sl 1002 (n6) (n6))), (Prod.mk 15 (Go.Value.bool (b8))), (Prod.mk 19 (Pt 1003 0)), (Prod.mk 20 (vI (0 : Int)))] [(Prod.mk 501 (AObj.sym (l9) false 2)), (Prod.mk 502 (AObj.sym (l10) false 1)), (Prod.mk 1000 (AObj.cells [(Sl 500 (n11) (c12))] 24 false 1)), (Prod.mk 1001 (AObj.sym (l13) true 1)), (Prod.mk 1002 (AObj.sym (l14) true 2)), (Prod.mk 1003 (AObj.cells [(Go.Value.slice Option.none 0 0), (Go.Value.slice Option.none 0 0)] 27 false 2)), (Prod.mk 500 (AObj.sym (l15) false 7))])))))
 False)
 False))
 False))
 False))) := by kernel_rfl
abbrev zKp7 (n0 : Nat) (c1 : Nat) (n2 : Nat) (c3 : Nat) (x4 : Int) (n5 : Nat) (n6 : Nat) (b7 : Bool) (x8 : Int) (l9 : List Value) (l10 : List Value) (n11 : Nat) (c12 : Nat) (l13 : List Value) (l14 : List Value) (l15 : List Value) : Slots × Blocks := ([(1, (Value.slice (some ⟨501, 0, none⟩) n0 c1)), (2, (Value.slice (some ⟨502, 0, none⟩) n2 c3)), (3, (Value.pointer (some ⟨1000, 0, none⟩))), (7, (Value.int .i64 x4)), (8, (Value.slice (some ⟨1001, 0, none⟩) n5 n5)), (11, (Value.slice (some ⟨1002, 0, none⟩) n6 n6)), (15, (Value.bool b7)), (19, (Value.pointer (some ⟨1003, 0, none⟩))), (20, (Value.int .i64 x8))], [(501, (AObj.sym l9 false 2)), (502, (AObj.sym l10 false 1)), (1000, (AObj.cells [(Value.slice (some ⟨500, 0, none⟩) n11 c12)] 24 false 1)), (1001, (AObj.sym l13 true 1)), (1002, (AObj.sym l14 true 2)), (1003, (AObj.cells [(Value.slice none 0 0), (Value.slice none 0 0)] 27 false 2)), (500, (AObj.sym l15 false 7))])
def rKp7 (C : Ct) (L : AtLoop) (n0 : Nat) (c1 : Nat) (n2 : Nat) (c3 : Nat) (x4 : Int) (n5 : Nat) (n6 : Nat) (b7 : Bool) (x8 : Int) (l9 : List Value) (l10 : List Value) (n11 : Nat) (c12 : Nat) (l13 : List Value) (l14 : List Value) (l15 : List Value) (B : Bx) (X : Xx) (k : List D → Prop) : Prop := wpRound Try.prog (hL C) L 5 4 [(1, (Value.slice (some ⟨501, 0, none⟩) n0 c1)), (2, (Value.slice (some ⟨502, 0, none⟩) n2 c3)), (3, (Value.pointer (some ⟨1000, 0, none⟩))), (7, (Value.int .i64 x4)), (8, (Value.slice (some ⟨1001, 0, none⟩) n5 n5)), (11, (Value.slice (some ⟨1002, 0, none⟩) n6 n6)), (15, (Value.bool b7)), (19, (Value.pointer (some ⟨1003, 0, none⟩))), (20, (Value.int .i64 x8))] [(501, (AObj.sym l9 false 2)), (502, (AObj.sym l10 false 1)), (1000, (AObj.cells [(Value.slice (some ⟨500, 0, none⟩) n11 c12)] 24 false 1)), (1001, (AObj.sym l13 true 1)), (1002, (AObj.sym l14 true 2)), (1003, (AObj.cells [(Value.slice none 0 0), (Value.slice none 0 0)] 27 false 2)), (500, (AObj.sym l15 false 7))] B X (dataK k)
theorem rKp7_text (C : Ct) (L : AtLoop) (n0 : Nat) (c1 : Nat) (n2 : Nat) (c3 : Nat) (x4 : Int) (n5 : Nat) (n6 : Nat) (b7 : Bool) (x8 : Int) (l9 : List Go.Value) (l10 : List Go.Value) (n11 : Nat) (c12 : Nat) (l13 : List Go.Value) (l14 : List Go.Value) (l15 : List Go.Value) (B : Bx) (X : Xx) (k : List D → Prop) : rKp7 C L n0 c1 n2 c3 x4 n5 n6 b7 x8 l9 l10 n11 c12 l13 l14 l15 B X k =
 (bcase (decide (x8 < x4))
 (bcase (decide (0 ≤ x8))
 (bcase (decide (x8 < (↑n11 : Int)))
 (∃ n1 : Int,
 (∃ n3 : Int,
 (∃ n4 : Int,
 (∃ n7 : Int,
 (∃ n8 : Int,
 (∃ n9 : Int,
 (∃ n10 : Int,
 ((At (l15) (0 + Int.toNat x8 * 7) 7 [(vI n1), (vI n3), (vI n4), (vI n7), (vI n8), (vI n9), (vI n10)]) ∧
 (bcase (decide (0 ≤ x8))
 (bcase (decide (x8 < (↑n5 : Int)))
 (∃ n12 : Int,
 ((At (l13) (0 + Int.toNat x8 * 1) 1 [(vI n12)]) ∧
 (bcase (decide (0 ≤ x8))
 (bcase (decide (x8 < (↑n6 : Int)))
 (∃ n13 : Int,
 ((At (l14) (0 + Int.toNat x8 * 2) 1 [(vI n13)]) ∧
 (bcase (decide (0 ≤ x8))
 (bcase (decide (x8 < (↑n6 : Int)))
 (∃ n14 : Int,
 ((At (l14) (Go.Addr.off { block := 1002, off := 0 + Int.toNat x8 * 2 } + 1) 1 [(vI n14)]) ∧
 (((∃ n15 : Int,
 ((At (l14) (Go.Addr.off { block := 1002, off := 0 + Int.toNat x8 * 2 } + 1) 1 [(vI n15)]) ∧
 ((vI n15) = (vI n14)))) ∧
 ((Qv (Go.Value.pointer (Option.some (Go.Addr.mk 1002 (Go.Addr.off { block := 1002, off := 0 + Int.toNat x8 * 2 } + 1) Option.none)))) ∧
 ((bcase (decide (0 ≤ x8))
 (bcase (decide (x8 < (↑n6 : Int)))
 (Qv (Pt 1002 (0 + Int.toNat x8 * 2)))
 False)
 False) ∧
 ((Qv (vI x8)) ∧
 ((Qv (Sl 1002 (n6) (n6))) ∧
 ((∃ n15 : Int,
 ((At (l14) (0 + Int.toNat x8 * 2) 1 [(vI n15)]) ∧
 ((vI n15) = (vI n13)))) ∧
 ((Qv (Pt 1002 (0 + Int.toNat x8 * 2))) ∧
 ((bcase (decide (0 ≤ x8))
 (bcase (decide (x8 < (↑n6 : Int)))
 (Qv (Pt 1002 (0 + Int.toNat x8 * 2)))
 False)
 False) ∧
 ((Qv (vI x8)) ∧
 ((Qv (Sl 1002 (n6) (n6))) ∧
 ((∃ n15 : Int,
 ((At (l13) (0 + Int.toNat x8 * 1) 1 [(vI n15)]) ∧
 ((vI n15) = (vI n12)))) ∧
 ((bcase (decide (0 ≤ x8))
 (bcase (decide (x8 < (↑n5 : Int)))
 (Qv (Pt 1001 (0 + Int.toNat x8 * 1)))
 False)
 False) ∧
 ((Qv (vI x8)) ∧
 ((Qv (Sl 1001 (n5) (n5))) ∧
 True)))))))))))))) ∧
 (((Says C 26 [(D.val (vI n12)), (D.val (vI n13)), (D.val (vI n14))] [(D.val (Value.bool true))]) ∧
 (bcase (decide (0 ≤ x8))
 (bcase (decide (x8 < (↑n6 : Int)))
 (∃ n15 : Int,
 ((At (l14) (0 + Int.toNat x8 * 2) 1 [(vI n15)]) ∧
 (((Qv (vI n10)) ∧
 ((Qv (Pt 1004 6)) ∧
 ((Qv (Pt 1004 5)) ∧
 ((Qv (vI n9)) ∧
 ((Qv (Pt 1004 5)) ∧
 ((Qv (Pt 1004 5)) ∧
 ((∃ n16 : Int,
 ((At (l14) (0 + Int.toNat x8 * 2) 1 [(vI n16)]) ∧
 ((vI n16) = (vI n15)))) ∧
 ((Qv (Pt 1002 (0 + Int.toNat x8 * 2))) ∧
 ((bcase (decide (0 ≤ x8))
 (bcase (decide (x8 < (↑n6 : Int)))
 (Qv (Pt 1002 (0 + Int.toNat x8 * 2)))
 False)
 False) ∧
 ((Qv (vI x8)) ∧
 ((Qv (Sl 1002 (n6) (n6))) ∧
 ((Qv (Value.bool false)) ∧
 ((Qv (Value.bool false)) ∧
 ((Qv (Go.Value.pointer (Option.some (Go.Addr.mk 1002 (Go.Addr.off { block := 1002, off := 0 + Int.toNat x8 * 2 } + 1) Option.none)))) ∧
 ((bcase (decide (0 ≤ x8))
 (bcase (decide (x8 < (↑n6 : Int)))
 (Qv (Pt 1002 (0 + Int.toNat x8 * 2)))
 False)
 False) ∧
 ((Qv (vI x8)) ∧
 ((Qv (Sl 1002 (n6) (n6))) ∧
 ((Qv (Pt 1002 (0 + Int.toNat x8 * 2))) ∧
 ((bcase (decide (0 ≤ x8))
 (bcase (decide (x8 < (↑n6 : Int)))
 (Qv (Pt 1002 (0 + Int.toNat x8 * 2)))
 False)
 False) ∧
 ((Qv (vI x8)) ∧
 ((Qv (Sl 1002 (n6) (n6))) ∧
 ((bcase (decide (0 ≤ x8))
 (bcase (decide (x8 < (↑n5 : Int)))
 (Qv (Pt 1001 (0 + Int.toNat x8 * 1)))
 False)
 False) ∧
 ((Qv (vI x8)) ∧
 ((Qv (Sl 1001 (n5) (n5))) ∧
 True)))))))))))))))))))))))) ∧
 (((Says C 26 [(D.val (vI n15)), (D.val (vI n9)), (D.val (vI n10))] [(D.val (Value.bool true))]) ∧
 (bcase (decide (0 ≤ x8))
 (bcase (decide (x8 < (↑n6 : Int)))
 (∃ n16 : Int,
 ((At (l14) (Go.Addr.off { block := 1002, off := 0 + Int.toNat x8 * 2 } + 1) 1 [(vI n16)]) ∧
 (((Qv (vI n10)) ∧
 ((Qv (Pt 1004 6)) ∧
 ((Qv (Pt 1004 5)) ∧
 ((Qv (vI n9)) ∧
 ((Qv (Pt 1004 5)) ∧
 ((Qv (Pt 1004 5)) ∧
 ((∃ n17 : Int,
 ((At (l14) (Go.Addr.off { block := 1002, off := 0 + Int.toNat x8 * 2 } + 1) 1 [(vI n17)]) ∧
 ((vI n17) = (vI n16)))) ∧
 ((Qv (Go.Value.pointer (Option.some (Go.Addr.mk 1002 (Go.Addr.off { block := 1002, off := 0 + Int.toNat x8 * 2 } + 1) Option.none)))) ∧
 ((bcase (decide (0 ≤ x8))
 (bcase (decide (x8 < (↑n6 : Int)))
 (Qv (Pt 1002 (0 + Int.toNat x8 * 2)))
 False)
 False) ∧
 ((Qv (vI x8)) ∧
 ((Qv (Sl 1002 (n6) (n6))) ∧
 ((Qv (Value.bool false)) ∧
 ((Qv (Value.bool false)) ∧
 ((Qv (Value.bool false)) ∧
 ((Qv (Pt 1004 6)) ∧
 ((Qv (Pt 1004 5)) ∧
 ((Qv (Pt 1004 5)) ∧
 ((Qv (Pt 1004 5)) ∧
 ((Qv (Pt 1002 (0 + Int.toNat x8 * 2))) ∧
 ((bcase (decide (0 ≤ x8))
 (bcase (decide (x8 < (↑n6 : Int)))
 (Qv (Pt 1002 (0 + Int.toNat x8 * 2)))
 False)
 False) ∧
 ((Qv (vI x8)) ∧
 ((Qv (Sl 1002 (n6) (n6))) ∧
 ((Qv (Value.bool false)) ∧
 ((Qv (Go.Value.pointer (Option.some (Go.Addr.mk 1002 (Go.Addr.off { block := 1002, off := 0 + Int.toNat x8 * 2 } + 1) Option.none)))) ∧
 ((bcase (decide (0 ≤ x8))
 (bcase (decide (x8 < (↑n6 : Int)))
 (Qv (Pt 1002 (0 + Int.toNat x8 * 2)))
 False)
 False) ∧
 ((Qv (vI x8)) ∧
 ((Qv (Sl 1002 (n6) (n6))) ∧
 ((Qv (Pt 1002 (0 + Int.toNat x8 * 2))) ∧
 ((bcase (decide (0 ≤ x8))
 (bcase (decide (x8 < (↑n6 : Int)))
 (Qv (Pt 1002 (0 + Int.toNat x8 * 2)))
 False)
 False) ∧
 ((Qv (vI x8)) ∧
 ((Qv (Sl 1002 (n6) (n6))) ∧
 ((bcase (decide (0 ≤ x8))
 (bcase (decide (x8 < (↑n5 : Int)))
 (Qv (Pt 1001 (0 + Int.toNat x8 * 1)))
 False)
 False) ∧
 ((Qv (vI x8)) ∧
 ((Qv (Sl 1001 (n5) (n5))) ∧
 True)))))))))))))))))))))))))))))))))) ∧
 (((Says C 26 [(D.val (vI n16)), (D.val (vI n9)), (D.val (vI n10))] [(D.val (Value.bool true))]) ∧
 (bcase (b7)
 (bcase (decide (0 ≤ x8))
 (bcase (decide (x8 < (↑n6 : Int)))
 (∃ n17 : Int,
 ((At (l14) (0 + Int.toNat x8 * 2) 1 [(vI n17)]) ∧
 (bcase (decide (0 ≤ x8))
 (bcase (decide (x8 < (↑n0 : Int)))
 (∃ n18 : Int,
 ((At (l9) (0 + Int.toNat x8 * 2) 1 [(vI n18)]) ∧
 (bcase (decide (n17 < n18))
 (((Qv (Value.bool true)) ∧
 ((Qv (Value.bool true)) ∧
 ((Qv (Value.bool true)) ∧
 ((Qv (Go.Value.tuple [].toArray)) ∧
 ((Qv (Go.Value.tuple [].toArray)) ∧
 ((Qv (Go.Value.tuple [].toArray)) ∧
 ((Qv (Go.Value.tuple [].toArray)) ∧
 ((Qv (Go.Value.tuple [].toArray)) ∧
 ((Qv (Go.Value.tuple [].toArray)) ∧
 ((Qv (Go.Value.tuple [].toArray)) ∧
 ((Qv (Go.Value.tuple [].toArray)) ∧
 ((Qv (Go.Value.tuple [].toArray)) ∧
 ((Qv (Go.Value.tuple [].toArray)) ∧
 ((Qv (Go.Value.tuple [].toArray)) ∧
 ((Qv (Value.bool true)) ∧
 ((bcase (decide (n17 < n18))
 (Qv (Value.bool true))
 ((Value.bool false) = (Value.bool true))) ∧
 ((∃ n19 : Int,
 ((At (l9) (0 + Int.toNat x8 * 2) 1 [(vI n19)]) ∧
 ((vI n19) = (vI n18)))) ∧
 ((Qv (Pt 501 (0 + Int.toNat x8 * 2))) ∧
 ((bcase (decide (0 ≤ x8))
 (bcase (decide (x8 < (↑n0 : Int)))
 (Qv (Pt 501 (0 + Int.toNat x8 * 2)))
 False)
 False) ∧
 ((Qv (vI x8)) ∧
 ((Qv (Sl 501 (n0) (c1))) ∧
 ((∃ n19 : Int,
 ((At (l14) (0 + Int.toNat x8 * 2) 1 [(vI n19)]) ∧
 ((vI n19) = (vI n17)))) ∧
 ((Qv (Pt 1002 (0 + Int.toNat x8 * 2))) ∧
 ((bcase (decide (0 ≤ x8))
 (bcase (decide (x8 < (↑n6 : Int)))
 (Qv (Pt 1002 (0 + Int.toNat x8 * 2)))
 False)
 False) ∧
 ((Qv (vI x8)) ∧
 ((Qv (Sl 1002 (n6) (n6))) ∧
 ((Qv (Value.bool true)) ∧
 ((bcase (b7)
 (Qv (Value.bool true))
 ((Value.bool false) = (Value.bool true))) ∧
 ((Qv (Value.bool false)) ∧
 ((Qv (Value.bool false)) ∧
 ((Qv (Value.bool false)) ∧
 ((Qv (Pt 1004 6)) ∧
 ((Qv (Pt 1004 5)) ∧
 ((Qv (Pt 1004 5)) ∧
 ((Qv (Pt 1004 5)) ∧
 ((Qv (Go.Value.pointer (Option.some (Go.Addr.mk 1002 (Go.Addr.off { block := 1002, off := 0 + Int.toNat x8 * 2 } + 1) Option.none)))) ∧
 ((bcase (decide (0 ≤ x8))
 (bcase (decide (x8 < (↑n6 : Int)))
 (Qv (Pt 1002 (0 + Int.toNat x8 * 2)))
 False)
 False) ∧
 ((Qv (vI x8)) ∧
 ((Qv (Sl 1002 (n6) (n6))) ∧
 ((Qv (Value.bool false)) ∧
 ((Qv (Value.bool false)) ∧
 ((Qv (Pt 1004 6)) ∧
 ((Qv (Pt 1004 5)) ∧
 ((Qv (Pt 1004 5)) ∧
 ((Qv (Pt 1004 5)) ∧
 ((Qv (Pt 1002 (0 + Int.toNat x8 * 2))) ∧
 ((bcase (decide (0 ≤ x8))
 (bcase (decide (x8 < (↑n6 : Int)))
 (Qv (Pt 1002 (0 + Int.toNat x8 * 2)))
 False)
 False) ∧
 ((Qv (vI x8)) ∧
 ((Qv (Sl 1002 (n6) (n6))) ∧
 ((Qv (Value.bool false)) ∧
 ((Qv (Go.Value.pointer (Option.some (Go.Addr.mk 1002 (Go.Addr.off { block := 1002, off := 0 + Int.toNat x8 * 2 } + 1) Option.none)))) ∧
 ((bcase (decide (0 ≤ x8))
 (bcase (decide (x8 < (↑n6 : Int)))
 (Qv (Pt 1002 (0 + Int.toNat x8 * 2)))
 False)
 False) ∧
 ((Qv (vI x8)) ∧
 ((Qv (Sl 1002 (n6) (n6))) ∧
 ((Qv (Pt 1002 (0 + Int.toNat x8 * 2))) ∧
 ((bcase (decide (0 ≤ x8))
 (bcase (decide (x8 < (↑n6 : Int)))
 (Qv (Pt 1002 (0 + Int.toNat x8 * 2)))
 False)
 False) ∧
 ((Qv (vI x8)) ∧
 ((Qv (Sl 1002 (n6) (n6))) ∧
 ((bcase (decide (0 ≤ x8))
 (bcase (decide (x8 < (↑n5 : Int)))
 (Qv (Pt 1001 (0 + Int.toNat x8 * 1)))
 False)
 False) ∧
 ((Qv (vI x8)) ∧
 ((Qv (Sl 1001 (n5) (n5))) ∧
 True))))))))))))))))))))))))))))))))))))))))))))))))))))))))))))) ∧
 (k [(D.val (Value.bool false))]))
 (bcase (decide (0 ≤ x8))
 (bcase (decide (x8 < (↑n6 : Int)))
 (∃ n19 : Int,
 ((At (l14) (Go.Addr.off { block := 1002, off := 0 + Int.toNat x8 * 2 } + 1) 1 [(vI n19)]) ∧
 (bcase (decide (0 ≤ x8))
 (bcase (decide (x8 < (↑n0 : Int)))
 (∃ n20 : Int,
 ((At (l9) (Go.Addr.off { block := 501, off := 0 + Int.toNat x8 * 2 } + 1) 1 [(vI n20)]) ∧
 (bcase (decide (n19 > n20))
 (((Qv (Value.bool true)) ∧
 ((Qv (Value.bool true)) ∧
 ((Qv (Value.bool true)) ∧
 ((bcase (decide (n19 > n20))
 (Qv (Value.bool true))
 ((Value.bool false) = (Value.bool true))) ∧
 ((∃ n21 : Int,
 ((At (l9) (Go.Addr.off { block := 501, off := 0 + Int.toNat x8 * 2 } + 1) 1 [(vI n21)]) ∧
 ((vI n21) = (vI n20)))) ∧
 ((Qv (Go.Value.pointer (Option.some (Go.Addr.mk 501 (Go.Addr.off { block := 501, off := 0 + Int.toNat x8 * 2 } + 1) Option.none)))) ∧
 ((bcase (decide (0 ≤ x8))
 (bcase (decide (x8 < (↑n0 : Int)))
 (Qv (Pt 501 (0 + Int.toNat x8 * 2)))
 False)
 False) ∧
 ((Qv (vI x8)) ∧
 ((Qv (Sl 501 (n0) (c1))) ∧
 ((∃ n21 : Int,
 ((At (l14) (Go.Addr.off { block := 1002, off := 0 + Int.toNat x8 * 2 } + 1) 1 [(vI n21)]) ∧
 ((vI n21) = (vI n19)))) ∧
 ((Qv (Go.Value.pointer (Option.some (Go.Addr.mk 1002 (Go.Addr.off { block := 1002, off := 0 + Int.toNat x8 * 2 } + 1) Option.none)))) ∧
 ((bcase (decide (0 ≤ x8))
 (bcase (decide (x8 < (↑n6 : Int)))
 (Qv (Pt 1002 (0 + Int.toNat x8 * 2)))
 False)
 False) ∧
 ((Qv (vI x8)) ∧
 ((Qv (Sl 1002 (n6) (n6))) ∧
 ((Qv (Value.bool false)) ∧
 ((bcase (decide (n17 < n18))
 ((Value.bool true) = (Value.bool false))
 (Qv (Value.bool false))) ∧
 ((∃ n21 : Int,
 ((At (l9) (0 + Int.toNat x8 * 2) 1 [(vI n21)]) ∧
 ((vI n21) = (vI n18)))) ∧
 ((Qv (Pt 501 (0 + Int.toNat x8 * 2))) ∧
 ((bcase (decide (0 ≤ x8))
 (bcase (decide (x8 < (↑n0 : Int)))
 (Qv (Pt 501 (0 + Int.toNat x8 * 2)))
 False)
 False) ∧
 ((Qv (vI x8)) ∧
 ((Qv (Sl 501 (n0) (c1))) ∧
 ((∃ n21 : Int,
 ((At (l14) (0 + Int.toNat x8 * 2) 1 [(vI n21)]) ∧
 ((vI n21) = (vI n17)))) ∧
 ((Qv (Pt 1002 (0 + Int.toNat x8 * 2))) ∧
 ((bcase (decide (0 ≤ x8))
 (bcase (decide (x8 < (↑n6 : Int)))
 (Qv (Pt 1002 (0 + Int.toNat x8 * 2)))
 False)
 False) ∧
 ((Qv (vI x8)) ∧
 ((Qv (Sl 1002 (n6) (n6))) ∧
 ((Qv (Value.bool true)) ∧
 ((bcase (b7)
 (Qv (Value.bool true))
 ((Value.bool false) = (Value.bool true))) ∧
 ((Qv (Value.bool false)) ∧
 ((Qv (Value.bool false)) ∧
 ((Qv (Value.bool false)) ∧
 ((Qv (Pt 1004 6)) ∧
 ((Qv (Pt 1004 5)) ∧
 ((Qv (Pt 1004 5)) ∧
 ((Qv (Pt 1004 5)) ∧
 ((Qv (Go.Value.pointer (Option.some (Go.Addr.mk 1002 (Go.Addr.off { block := 1002, off := 0 + Int.toNat x8 * 2 } + 1) Option.none)))) ∧
 ((bcase (decide (0 ≤ x8))
 (bcase (decide (x8 < (↑n6 : Int)))
 (Qv (Pt 1002 (0 + Int.toNat x8 * 2)))
 False)
 False) ∧
 ((Qv (vI x8)) ∧
 ((Qv (Sl 1002 (n6) (n6))) ∧
 ((Qv (Value.bool false)) ∧
 ((Qv (Value.bool false)) ∧
 ((Qv (Pt 1004 6)) ∧
 ((Qv (Pt 1004 5)) ∧
 ((Qv (Pt 1004 5)) ∧
 ((Qv (Pt 1004 5)) ∧
 ((Qv (Pt 1002 (0 + Int.toNat x8 * 2))) ∧
 ((bcase (decide (0 ≤ x8))
 (bcase (decide (x8 < (↑n6 : Int)))
 (Qv (Pt 1002 (0 + Int.toNat x8 * 2)))
 False)
 False) ∧
 ((Qv (vI x8)) ∧
 ((Qv (Sl 1002 (n6) (n6))) ∧
 ((Qv (Value.bool false)) ∧
 ((Qv (Go.Value.pointer (Option.some (Go.Addr.mk 1002 (Go.Addr.off { block := 1002, off := 0 + Int.toNat x8 * 2 } + 1) Option.none)))) ∧
 ((bcase (decide (0 ≤ x8))
 (bcase (decide (x8 < (↑n6 : Int)))
 (Qv (Pt 1002 (0 + Int.toNat x8 * 2)))
 False)
 False) ∧
 ((Qv (vI x8)) ∧
 ((Qv (Sl 1002 (n6) (n6))) ∧
 ((Qv (Pt 1002 (0 + Int.toNat x8 * 2))) ∧
 ((bcase (decide (0 ≤ x8))
 (bcase (decide (x8 < (↑n6 : Int)))
 (Qv (Pt 1002 (0 + Int.toNat x8 * 2)))
 False)
 False) ∧
 ((Qv (vI x8)) ∧
 ((Qv (Sl 1002 (n6) (n6))) ∧
 ((bcase (decide (0 ≤ x8))
 (bcase (decide (x8 < (↑n5 : Int)))
 (Qv (Pt 1001 (0 + Int.toNat x8 * 1)))
 False)
 False) ∧
 ((Qv (vI x8)) ∧
 ((Qv (Sl 1001 (n5) (n5))) ∧
 True))))))))))))))))))))))))))))))))))))))))))))))))))))))))))))) ∧
 (k [(D.val (Value.bool false))]))
 (((Qv (Value.bool false)) ∧
 ((Qv (Value.bool false)) ∧
 ((Qv (Value.bool false)) ∧
 ((bcase (decide (n19 > n20))
 ((Value.bool true) = (Value.bool false))
 (Qv (Value.bool false))) ∧
 ((∃ n21 : Int,
 ((At (l9) (Go.Addr.off { block := 501, off := 0 + Int.toNat x8 * 2 } + 1) 1 [(vI n21)]) ∧
 ((vI n21) = (vI n20)))) ∧
 ((Qv (Go.Value.pointer (Option.some (Go.Addr.mk 501 (Go.Addr.off { block := 501, off := 0 + Int.toNat x8 * 2 } + 1) Option.none)))) ∧
 ((bcase (decide (0 ≤ x8))
 (bcase (decide (x8 < (↑n0 : Int)))
 (Qv (Pt 501 (0 + Int.toNat x8 * 2)))
 False)
 False) ∧
 ((Qv (vI x8)) ∧
 ((Qv (Sl 501 (n0) (c1))) ∧
 ((∃ n21 : Int,
 ((At (l14) (Go.Addr.off { block := 1002, off := 0 + Int.toNat x8 * 2 } + 1) 1 [(vI n21)]) ∧
 ((vI n21) = (vI n19)))) ∧
 ((Qv (Go.Value.pointer (Option.some (Go.Addr.mk 1002 (Go.Addr.off { block := 1002, off := 0 + Int.toNat x8 * 2 } + 1) Option.none)))) ∧
 ((bcase (decide (0 ≤ x8))
 (bcase (decide (x8 < (↑n6 : Int)))
 (Qv (Pt 1002 (0 + Int.toNat x8 * 2)))
 False)
 False) ∧
 ((Qv (vI x8)) ∧
 ((Qv (Sl 1002 (n6) (n6))) ∧
 ((Qv (Value.bool false)) ∧
 ((bcase (decide (n17 < n18))
 ((Value.bool true) = (Value.bool false))
 (Qv (Value.bool false))) ∧
 ((∃ n21 : Int,
 ((At (l9) (0 + Int.toNat x8 * 2) 1 [(vI n21)]) ∧
 ((vI n21) = (vI n18)))) ∧
 ((Qv (Pt 501 (0 + Int.toNat x8 * 2))) ∧
 ((bcase (decide (0 ≤ x8))
 (bcase (decide (x8 < (↑n0 : Int)))
 (Qv (Pt 501 (0 + Int.toNat x8 * 2)))
 False)
 False) ∧
 ((Qv (vI x8)) ∧
 ((Qv (Sl 501 (n0) (c1))) ∧
 ((∃ n21 : Int,
 ((At (l14) (0 + Int.toNat x8 * 2) 1 [(vI n21)]) ∧
 ((vI n21) = (vI n17)))) ∧
 ((Qv (Pt 1002 (0 + Int.toNat x8 * 2))) ∧
 ((bcase (decide (0 ≤ x8))
 (bcase (decide (x8 < (↑n6 : Int)))
 (Qv (Pt 1002 (0 + Int.toNat x8 * 2)))
 False)
 False) ∧
 ((Qv (vI x8)) ∧
 ((Qv (Sl 1002 (n6) (n6))) ∧
 ((Qv (Value.bool true)) ∧
 ((bcase (b7)
 (Qv (Value.bool true))
 ((Value.bool false) = (Value.bool true))) ∧
 ((Qv (Value.bool false)) ∧
 ((Qv (Value.bool false)) ∧
 ((Qv (Value.bool false)) ∧
 ((Qv (Pt 1004 6)) ∧
 ((Qv (Pt 1004 5)) ∧
 ((Qv (Pt 1004 5)) ∧
 ((Qv (Pt 1004 5)) ∧
 ((Qv (Go.Value.pointer (Option.some (Go.Addr.mk 1002 (Go.Addr.off { block := 1002, off := 0 + Int.toNat x8 * 2 } + 1) Option.none)))) ∧
 ((bcase (decide (0 ≤ x8))
 (bcase (decide (x8 < (↑n6 : Int)))
 (Qv (Pt 1002 (0 + Int.toNat x8 * 2)))
 False)
 False) ∧
 ((Qv (vI x8)) ∧
 ((Qv (Sl 1002 (n6) (n6))) ∧
 ((Qv (Value.bool false)) ∧
 ((Qv (Value.bool false)) ∧
 ((Qv (Pt 1004 6)) ∧
 ((Qv (Pt 1004 5)) ∧
 ((Qv (Pt 1004 5)) ∧
 ((Qv (Pt 1004 5)) ∧
 ((Qv (Pt 1002 (0 + Int.toNat x8 * 2))) ∧
 ((bcase (decide (0 ≤ x8))
 (bcase (decide (x8 < (↑n6 : Int)))
 (Qv (Pt 1002 (0 + Int.toNat x8 * 2)))
 False)
 False) ∧
 ((Qv (vI x8)) ∧
 ((Qv (Sl 1002 (n6) (n6))) ∧
 ((Qv (Value.bool false)) ∧
 ((Qv (Go.Value.pointer (Option.some (Go.Addr.mk 1002 (Go.Addr.off { block := 1002, off := 0 + Int.toNat x8 * 2 } + 1) Option.none)))) ∧
 ((bcase (decide (0 ≤ x8))
 (bcase (decide (x8 < (↑n6 : Int)))
 (Qv (Pt 1002 (0 + Int.toNat x8 * 2)))
 False)
 False) ∧
 ((Qv (vI x8)) ∧
 ((Qv (Sl 1002 (n6) (n6))) ∧
 ((Qv (Pt 1002 (0 + Int.toNat x8 * 2))) ∧
 ((bcase (decide (0 ≤ x8))
 (bcase (decide (x8 < (↑n6 : Int)))
 (Qv (Pt 1002 (0 + Int.toNat x8 * 2)))
 False)
 False) ∧
 ((Qv (vI x8)) ∧
 ((Qv (Sl 1002 (n6) (n6))) ∧
 ((bcase (decide (0 ≤ x8))
 (bcase (decide (x8 < (↑n5 : Int)))
 (Qv (Pt 1001 (0 + Int.toNat x8 * 1)))
 False)
 False) ∧
 ((Qv (vI x8)) ∧
 ((Qv (Sl 1001 (n5) (n5))) ∧
 True))))))))))))))))))))))))))))))))))))))))))))))))))))))))))))) ∧
 (bcase (decide (0 ≤ x8))
 (bcase (decide (x8 < (↑n6 : Int)))
 (∃ n21 : Int,
 ((At (l14) (0 + Int.toNat x8 * 2) 1 [(vI n21)]) ∧
 (bcase (decide (0 ≤ IntKind.wrap .i64 (x4 + x8)))
 (bcase (decide (IntKind.wrap .i64 (x4 + x8) < (↑n2 : Int)))
 (∃ n22 : Int,
 ((At (l10) (0 + Int.toNat (IntKind.wrap .i64 (x4 + x8)) * 1) 1 [(vI n22)]) ∧
 (bcase (decide (0 ≤ x8))
 (bcase (decide (x8 < (↑n6 : Int)))
 (∃ n23 : Int,
 ((At (l14) (Go.Addr.off { block := 1002, off := 0 + Int.toNat x8 * 2 } + 1) 1 [(vI n23)]) ∧
 (bcase (decide (0 ≤ x8))
 (bcase (decide (x8 < (↑n6 : Int)))
 (∃ n24 : Int,
 ((At (l14) (0 + Int.toNat x8 * 2) 1 [(vI n24)]) ∧
 (((Qv (vI (IntKind.wrap .i64 (IntKind.wrap .i64 (n23 - n24) + 1)))) ∧
 ((Qv (vI (IntKind.wrap .i64 (n23 - n24)))) ∧
 ((∃ n25 : Int,
 ((At (l14) (0 + Int.toNat x8 * 2) 1 [(vI n25)]) ∧
 ((vI n25) = (vI n24)))) ∧
 ((Qv (Pt 1002 (0 + Int.toNat x8 * 2))) ∧
 ((bcase (decide (0 ≤ x8))
 (bcase (decide (x8 < (↑n6 : Int)))
 (Qv (Pt 1002 (0 + Int.toNat x8 * 2)))
 False)
 False) ∧
 ((Qv (vI x8)) ∧
 ((Qv (Sl 1002 (n6) (n6))) ∧
 ((∃ n25 : Int,
 ((At (l14) (Go.Addr.off { block := 1002, off := 0 + Int.toNat x8 * 2 } + 1) 1 [(vI n25)]) ∧
 ((vI n25) = (vI n23)))) ∧
 ((Qv (Go.Value.pointer (Option.some (Go.Addr.mk 1002 (Go.Addr.off { block := 1002, off := 0 + Int.toNat x8 * 2 } + 1) Option.none)))) ∧
 ((bcase (decide (0 ≤ x8))
 (bcase (decide (x8 < (↑n6 : Int)))
 (Qv (Pt 1002 (0 + Int.toNat x8 * 2)))
 False)
 False) ∧
 ((Qv (vI x8)) ∧
 ((Qv (Sl 1002 (n6) (n6))) ∧
 ((∃ n25 : Int,
 ((At (l10) (0 + Int.toNat (IntKind.wrap .i64 (x4 + x8)) * 1) 1 [(vI n25)]) ∧
 ((vI n25) = (vI n22)))) ∧
 ((bcase (decide (0 ≤ IntKind.wrap .i64 (x4 + x8)))
 (bcase (decide (IntKind.wrap .i64 (x4 + x8) < (↑n2 : Int)))
 (Qv (Pt 502 (0 + Int.toNat (IntKind.wrap .i64 (x4 + x8)) * 1)))
 False)
 False) ∧
 ((Qv (vI (IntKind.wrap .i64 (x4 + x8)))) ∧
 ((Qv (vI x8)) ∧
 ((Qv (vI x4)) ∧
 ((Qv (Sl 502 (n2) (c3))) ∧
 ((∃ n25 : Int,
 ((At (l14) (0 + Int.toNat x8 * 2) 1 [(vI n25)]) ∧
 ((vI n25) = (vI n21)))) ∧
 ((Qv (Pt 1002 (0 + Int.toNat x8 * 2))) ∧
 ((bcase (decide (0 ≤ x8))
 (bcase (decide (x8 < (↑n6 : Int)))
 (Qv (Pt 1002 (0 + Int.toNat x8 * 2)))
 False)
 False) ∧
 ((Qv (vI x8)) ∧
 ((Qv (Sl 1002 (n6) (n6))) ∧
 ((Qv (Go.Value.slice Option.none 0 0)) ∧
 ((Qv (Pt 1003 0)) ∧
 True))))))))))))))))))))))))) ∧
 (∃ n25 : Int,
 ((Says C 25 [(D.val (vI n22)), (D.val (vI (IntKind.wrap .i64 (IntKind.wrap .i64 (n23 - n24) + 1))))] [(D.val (vI n25))]) ∧
 ((((Qv (Sl 1005 1 1)) ∧
 (Qv (Option.some (AObj.cells [(vI (IntKind.wrap .i64 (n21 + n25)))] 3 false 1)))) ∧
 ((Qv (vI (IntKind.wrap .i64 (n21 + n25)))) ∧
 ((Qv (vI (IntKind.wrap .i64 (n23 - n24)))) ∧
 ((∃ n26 : Int,
 ((At (l14) (0 + Int.toNat x8 * 2) 1 [(vI n26)]) ∧
 ((vI n26) = (vI n24)))) ∧
 ((Qv (Pt 1002 (0 + Int.toNat x8 * 2))) ∧
 ((bcase (decide (0 ≤ x8))
 (bcase (decide (x8 < (↑n6 : Int)))
 (Qv (Pt 1002 (0 + Int.toNat x8 * 2)))
 False)
 False) ∧
 ((Qv (vI x8)) ∧
 ((Qv (Sl 1002 (n6) (n6))) ∧
 ((∃ n26 : Int,
 ((At (l14) (Go.Addr.off { block := 1002, off := 0 + Int.toNat x8 * 2 } + 1) 1 [(vI n26)]) ∧
 ((vI n26) = (vI n23)))) ∧
 ((Qv (Go.Value.pointer (Option.some (Go.Addr.mk 1002 (Go.Addr.off { block := 1002, off := 0 + Int.toNat x8 * 2 } + 1) Option.none)))) ∧
 ((bcase (decide (0 ≤ x8))
 (bcase (decide (x8 < (↑n6 : Int)))
 (Qv (Pt 1002 (0 + Int.toNat x8 * 2)))
 False)
 False) ∧
 ((Qv (vI x8)) ∧
 ((Qv (Sl 1002 (n6) (n6))) ∧
 ((bcase (decide (0 ≤ IntKind.wrap .i64 (x4 + x8)))
 (bcase (decide (IntKind.wrap .i64 (x4 + x8) < (↑n2 : Int)))
 (Qv (Pt 502 (0 + Int.toNat (IntKind.wrap .i64 (x4 + x8)) * 1)))
 False)
 False) ∧
 ((Qv (vI (IntKind.wrap .i64 (x4 + x8)))) ∧
 ((Qv (vI x8)) ∧
 ((Qv (vI x4)) ∧
 ((Qv (Sl 502 (n2) (c3))) ∧
 ((∃ n26 : Int,
 ((At (l14) (0 + Int.toNat x8 * 2) 1 [(vI n26)]) ∧
 ((vI n26) = (vI n21)))) ∧
 ((Qv (Pt 1002 (0 + Int.toNat x8 * 2))) ∧
 ((bcase (decide (0 ≤ x8))
 (bcase (decide (x8 < (↑n6 : Int)))
 (Qv (Pt 1002 (0 + Int.toNat x8 * 2)))
 False)
 False) ∧
 ((Qv (vI x8)) ∧
 ((Qv (Sl 1002 (n6) (n6))) ∧
 ((Qv (Go.Value.slice Option.none 0 0)) ∧
 ((Qv (Pt 1003 0)) ∧
 True))))))))))))))))))))))))) ∧
 (((Qv (Pt 1003 0)) ∧
 ((Qv (vI (IntKind.wrap .i64 (n21 + n25)))) ∧
 ((Qv (vI (IntKind.wrap .i64 (n23 - n24)))) ∧
 ((∃ n26 : Int,
 ((At (l14) (0 + Int.toNat x8 * 2) 1 [(vI n26)]) ∧
 ((vI n26) = (vI n24)))) ∧
 ((Qv (Pt 1002 (0 + Int.toNat x8 * 2))) ∧
 ((bcase (decide (0 ≤ x8))
 (bcase (decide (x8 < (↑n6 : Int)))
 (Qv (Pt 1002 (0 + Int.toNat x8 * 2)))
 False)
 False) ∧
 ((Qv (vI x8)) ∧
 ((Qv (Sl 1002 (n6) (n6))) ∧
 ((∃ n26 : Int,
 ((At (l14) (Go.Addr.off { block := 1002, off := 0 + Int.toNat x8 * 2 } + 1) 1 [(vI n26)]) ∧
 ((vI n26) = (vI n23)))) ∧
 ((Qv (Go.Value.pointer (Option.some (Go.Addr.mk 1002 (Go.Addr.off { block := 1002, off := 0 + Int.toNat x8 * 2 } + 1) Option.none)))) ∧
 ((bcase (decide (0 ≤ x8))
 (bcase (decide (x8 < (↑n6 : Int)))
 (Qv (Pt 1002 (0 + Int.toNat x8 * 2)))
 False)
 False) ∧
 ((Qv (vI x8)) ∧
 ((Qv (Sl 1002 (n6) (n6))) ∧
 ((bcase (decide (0 ≤ IntKind.wrap .i64 (x4 + x8)))
 (bcase (decide (IntKind.wrap .i64 (x4 + x8) < (↑n2 : Int)))
 (Qv (Pt 502 (0 + Int.toNat (IntKind.wrap .i64 (x4 + x8)) * 1)))
 False)
 False) ∧
 ((Qv (vI (IntKind.wrap .i64 (x4 + x8)))) ∧
 ((Qv (vI x8)) ∧
 ((Qv (vI x4)) ∧
 ((Qv (Sl 502 (n2) (c3))) ∧
 ((∃ n26 : Int,
 ((At (l14) (0 + Int.toNat x8 * 2) 1 [(vI n26)]) ∧
 ((vI n26) = (vI n21)))) ∧
 ((Qv (Pt 1002 (0 + Int.toNat x8 * 2))) ∧
 ((bcase (decide (0 ≤ x8))
 (bcase (decide (x8 < (↑n6 : Int)))
 (Qv (Pt 1002 (0 + Int.toNat x8 * 2)))
 False)
 False) ∧
 ((Qv (vI x8)) ∧
 ((Qv (Sl 1002 (n6) (n6))) ∧
 ((Qv (Pt 1003 0)) ∧
 True)))))))))))))))))))))))) ∧
 (True ∧
 (bcase (decide (0 ≤ IntKind.wrap .i64 (IntKind.wrap .i64 (2 * x4) + x8)))
 (bcase (decide (IntKind.wrap .i64 (IntKind.wrap .i64 (2 * x4) + x8) < (↑n2 : Int)))
 (∃ n26 : Int,
 ((At (l10) (0 + Int.toNat (IntKind.wrap .i64 (IntKind.wrap .i64 (2 * x4) + x8)) * 1) 1 [(vI n26)]) ∧
 (((Qv (vI (IntKind.wrap .i64 (IntKind.wrap .i64 (n8 - n7) + 1)))) ∧
 ((Qv (vI (IntKind.wrap .i64 (n8 - n7)))) ∧
 ((Qv (vI n7)) ∧
 ((Qv (Pt 1004 3)) ∧
 ((Qv (Pt 1004 3)) ∧
 ((Qv (vI n8)) ∧
 ((Qv (Pt 1004 4)) ∧
 ((Qv (Pt 1004 3)) ∧
 ((∃ n27 : Int,
 ((At (l10) (0 + Int.toNat (IntKind.wrap .i64 (IntKind.wrap .i64 (2 * x4) + x8)) * 1) 1 [(vI n27)]) ∧
 ((vI n27) = (vI n26)))) ∧
 ((bcase (decide (0 ≤ IntKind.wrap .i64 (IntKind.wrap .i64 (2 * x4) + x8)))
 (bcase (decide (IntKind.wrap .i64 (IntKind.wrap .i64 (2 * x4) + x8) < (↑n2 : Int)))
 (Qv (Pt 502 (0 + Int.toNat (IntKind.wrap .i64 (IntKind.wrap .i64 (2 * x4) + x8)) * 1)))
 False)
 False) ∧
 ((Qv (vI (IntKind.wrap .i64 (IntKind.wrap .i64 (2 * x4) + x8)))) ∧
 ((Qv (vI x8)) ∧
 ((Qv (vI (IntKind.wrap .i64 (2 * x4)))) ∧
 ((Qv (vI x4)) ∧
 ((Qv (Sl 502 (n2) (c3))) ∧
 ((Qv (vI n7)) ∧
 ((Qv (Pt 1004 3)) ∧
 ((Qv (Pt 1004 3)) ∧
 ((Qv (Go.Value.slice Option.none 0 0)) ∧
 ((Qv (Pt 1003 1)) ∧
 True)))))))))))))))))))) ∧
 (∃ n27 : Int,
 ((Says C 25 [(D.val (vI n26)), (D.val (vI (IntKind.wrap .i64 (IntKind.wrap .i64 (n8 - n7) + 1))))] [(D.val (vI n27))]) ∧
 ((((Qv (Sl 1007 1 1)) ∧
 (Qv (Option.some (AObj.cells [(vI (IntKind.wrap .i64 (n7 + n27)))] 3 false 1)))) ∧
 ((Qv (vI (IntKind.wrap .i64 (n7 + n27)))) ∧
 ((Qv (vI (IntKind.wrap .i64 (n8 - n7)))) ∧
 ((Qv (vI n7)) ∧
 ((Qv (Pt 1004 3)) ∧
 ((Qv (Pt 1004 3)) ∧
 ((Qv (vI n8)) ∧
 ((Qv (Pt 1004 4)) ∧
 ((Qv (Pt 1004 3)) ∧
 ((bcase (decide (0 ≤ IntKind.wrap .i64 (IntKind.wrap .i64 (2 * x4) + x8)))
 (bcase (decide (IntKind.wrap .i64 (IntKind.wrap .i64 (2 * x4) + x8) < (↑n2 : Int)))
 (Qv (Pt 502 (0 + Int.toNat (IntKind.wrap .i64 (IntKind.wrap .i64 (2 * x4) + x8)) * 1)))
 False)
 False) ∧
 ((Qv (vI (IntKind.wrap .i64 (IntKind.wrap .i64 (2 * x4) + x8)))) ∧
 ((Qv (vI x8)) ∧
 ((Qv (vI (IntKind.wrap .i64 (2 * x4)))) ∧
 ((Qv (vI x4)) ∧
 ((Qv (Sl 502 (n2) (c3))) ∧
 ((Qv (vI n7)) ∧
 ((Qv (Pt 1004 3)) ∧
 ((Qv (Pt 1004 3)) ∧
 ((Qv (Go.Value.slice Option.none 0 0)) ∧
 ((Qv (Pt 1003 1)) ∧
 True)))))))))))))))))))) ∧
 (((Qv (Pt 1003 1)) ∧
 ((Qv (vI (IntKind.wrap .i64 (n7 + n27)))) ∧
 ((Qv (vI (IntKind.wrap .i64 (n8 - n7)))) ∧
 ((Qv (vI n7)) ∧
 ((Qv (Pt 1004 3)) ∧
 ((Qv (Pt 1004 3)) ∧
 ((Qv (vI n8)) ∧
 ((Qv (Pt 1004 4)) ∧
 ((Qv (Pt 1004 3)) ∧
 ((bcase (decide (0 ≤ IntKind.wrap .i64 (IntKind.wrap .i64 (2 * x4) + x8)))
 (bcase (decide (IntKind.wrap .i64 (IntKind.wrap .i64 (2 * x4) + x8) < (↑n2 : Int)))
 (Qv (Pt 502 (0 + Int.toNat (IntKind.wrap .i64 (IntKind.wrap .i64 (2 * x4) + x8)) * 1)))
 False)
 False) ∧
 ((Qv (vI (IntKind.wrap .i64 (IntKind.wrap .i64 (2 * x4) + x8)))) ∧
 ((Qv (vI x8)) ∧
 ((Qv (vI (IntKind.wrap .i64 (2 * x4)))) ∧
 ((Qv (vI x4)) ∧
 ((Qv (Sl 502 (n2) (c3))) ∧
 ((Qv (vI n7)) ∧
 ((Qv (Pt 1004 3)) ∧
 ((Qv (Pt 1004 3)) ∧
 ((Qv (Pt 1003 1)) ∧
 True))))))))))))))))))) ∧
 (True ∧
 (B [(Prod.mk 1 (Sl 501 (n0) (c1))), (Prod.mk 2 (Sl 502 (n2) (c3))), (Prod.mk 3 (Pt 1000 0)), (Prod.mk 7 (vI x4)), (Prod.mk 8 (Sl 1001 (n5) (n5))), (Prod.mk 11 (Sl 1002 (n6) (n6))), (Prod.mk 15 (Go.Value.bool (b7))), (Prod.mk 19 (Pt 1003 0)), (Prod.mk 20 (vI (IntKind.wrap .i64 (x8 + 1))))] [(Prod.mk 501 (AObj.sym (l9) false 2)), (Prod.mk 502 (AObj.sym (l10) false 1)), (Prod.mk 1000 (AObj.cells [(Sl 500 (n11) (c12))] 24 false 1)), (Prod.mk 1001 (AObj.sym (l13) true 1)), (Prod.mk 1002 (AObj.sym (l14) true 2)), (Prod.mk 1003 (AObj.cells [(Sl 1004 1 1), (Sl 1005 1 1)] 27 false 2)), (Prod.mk 500 (AObj.sym (l15) false 7)), (Prod.mk 1004 (AObj.sym [(vI (IntKind.wrap .i64 (n21 + n25)))] true 1)), (Prod.mk 1005 (AObj.sym [(vI (IntKind.wrap .i64 (n7 + n27)))] true 1))])))))))))
 False)
 False)))))))))
 False)
 False)))
 False)
 False)))
 False)
 False)))
 False)
 False)))))
 False)
 False)))
 False)
 False))))
 False)
 False)))
 False)
 False)
 (((Qv (Value.bool false)) ∧
 ((Qv (Value.bool false)) ∧
 ((Qv (Go.Value.tuple [].toArray)) ∧
 ((Qv (Go.Value.tuple [].toArray)) ∧
 ((Qv (Go.Value.tuple [].toArray)) ∧
 ((Qv (Go.Value.tuple [].toArray)) ∧
 ((Qv (Go.Value.tuple [].toArray)) ∧
 ((Qv (Go.Value.tuple [].toArray)) ∧
 ((Qv (Go.Value.tuple [].toArray)) ∧
 ((Qv (Go.Value.tuple [].toArray)) ∧
 ((Qv (Go.Value.tuple [].toArray)) ∧
 ((Qv (Go.Value.tuple [].toArray)) ∧
 ((Qv (Go.Value.tuple [].toArray)) ∧
 ((Qv (Go.Value.tuple [].toArray)) ∧
 ((Qv (Go.Value.tuple [].toArray)) ∧
 ((Qv (Go.Value.tuple [].toArray)) ∧
 ((Qv (Go.Value.tuple [].toArray)) ∧
 ((Qv (Go.Value.tuple [].toArray)) ∧
 ((Qv (Go.Value.tuple [].toArray)) ∧
 ((Qv (Go.Value.tuple [].toArray)) ∧
 ((Qv (Go.Value.tuple [].toArray)) ∧
 ((Qv (Go.Value.tuple [].toArray)) ∧
 ((Qv (Go.Value.tuple [].toArray)) ∧
 ((Qv (Go.Value.tuple [].toArray)) ∧
 ((Qv (Go.Value.tuple [].toArray)) ∧
 ((Qv (Go.Value.tuple [].toArray)) ∧
 ((Qv (Value.bool false)) ∧
 ((bcase (b7)
 ((Value.bool true) = (Value.bool false))
 (Qv (Value.bool false))) ∧
 ((Qv (Value.bool false)) ∧
 ((Qv (Value.bool false)) ∧
 ((Qv (Value.bool false)) ∧
 ((Qv (Pt 1004 6)) ∧
 ((Qv (Pt 1004 5)) ∧
 ((Qv (Pt 1004 5)) ∧
 ((Qv (Pt 1004 5)) ∧
 ((Qv (Go.Value.pointer (Option.some (Go.Addr.mk 1002 (Go.Addr.off { block := 1002, off := 0 + Int.toNat x8 * 2 } + 1) Option.none)))) ∧
 ((bcase (decide (0 ≤ x8))
 (bcase (decide (x8 < (↑n6 : Int)))
 (Qv (Pt 1002 (0 + Int.toNat x8 * 2)))
 False)
 False) ∧
 ((Qv (vI x8)) ∧
 ((Qv (Sl 1002 (n6) (n6))) ∧
 ((Qv (Value.bool false)) ∧
 ((Qv (Value.bool false)) ∧
 ((Qv (Pt 1004 6)) ∧
 ((Qv (Pt 1004 5)) ∧
 ((Qv (Pt 1004 5)) ∧
 ((Qv (Pt 1004 5)) ∧
 ((Qv (Pt 1002 (0 + Int.toNat x8 * 2))) ∧
 ((bcase (decide (0 ≤ x8))
 (bcase (decide (x8 < (↑n6 : Int)))
 (Qv (Pt 1002 (0 + Int.toNat x8 * 2)))
 False)
 False) ∧
 ((Qv (vI x8)) ∧
 ((Qv (Sl 1002 (n6) (n6))) ∧
 ((Qv (Value.bool false)) ∧
 ((Qv (Go.Value.pointer (Option.some (Go.Addr.mk 1002 (Go.Addr.off { block := 1002, off := 0 + Int.toNat x8 * 2 } + 1) Option.none)))) ∧
 ((bcase (decide (0 ≤ x8))
 (bcase (decide (x8 < (↑n6 : Int)))
 (Qv (Pt 1002 (0 + Int.toNat x8 * 2)))
 False)
 False) ∧
 ((Qv (vI x8)) ∧
 ((Qv (Sl 1002 (n6) (n6))) ∧
 ((Qv (Pt 1002 (0 + Int.toNat x8 * 2))) ∧
 ((bcase (decide (0 ≤ x8))
 (bcase (decide (x8 < (↑n6 : Int)))
 (Qv (Pt 1002 (0 + Int.toNat x8 * 2)))
 False)
 False) ∧
 ((Qv (vI x8)) ∧
 ((Qv (Sl 1002 (n6) (n6))) ∧
 ((bcase (decide (0 ≤ x8))
 (bcase (decide (x8 < (↑n5 : Int)))
 (Qv (Pt 1001 (0 + Int.toNat x8 * 1)))
 False)
 False) ∧
 ((Qv (vI x8)) ∧
 ((Qv (Sl 1001 (n5) (n5))) ∧
 True))))))))))))))))))))))))))))))))))))))))))))))))))))))))))))) ∧
 (bcase (decide (0 ≤ x8))
 (bcase (decide (x8 < (↑n6 : Int)))
 (∃ n17 : Int,
 ((At (l14) (0 + Int.toNat x8 * 2) 1 [(vI n17)]) ∧
 (bcase (decide (0 ≤ IntKind.wrap .i64 (x4 + x8)))
 (bcase (decide (IntKind.wrap .i64 (x4 + x8) < (↑n2 : Int)))
 (∃ n18 : Int,
 ((At (l10) (0 + Int.toNat (IntKind.wrap .i64 (x4 + x8)) * 1) 1 [(vI n18)]) ∧
 (bcase (decide (0 ≤ x8))
 (bcase (decide (x8 < (↑n6 : Int)))
 (∃ n19 : Int,
 ((At (l14) (Go.Addr.off { block := 1002, off := 0 + Int.toNat x8 * 2 } + 1) 1 [(vI n19)]) ∧
 (bcase (decide (0 ≤ x8))
 (bcase (decide (x8 < (↑n6 : Int)))
 (∃ n20 : Int,
 ((At (l14) (0 + Int.toNat x8 * 2) 1 [(vI n20)]) ∧
 (((Qv (vI (IntKind.wrap .i64 (IntKind.wrap .i64 (n19 - n20) + 1)))) ∧
 ((Qv (vI (IntKind.wrap .i64 (n19 - n20)))) ∧
 ((∃ n21 : Int,
 ((At (l14) (0 + Int.toNat x8 * 2) 1 [(vI n21)]) ∧
 ((vI n21) = (vI n20)))) ∧
 ((Qv (Pt 1002 (0 + Int.toNat x8 * 2))) ∧
 ((bcase (decide (0 ≤ x8))
 (bcase (decide (x8 < (↑n6 : Int)))
 (Qv (Pt 1002 (0 + Int.toNat x8 * 2)))
 False)
 False) ∧
 ((Qv (vI x8)) ∧
 ((Qv (Sl 1002 (n6) (n6))) ∧
 ((∃ n21 : Int,
 ((At (l14) (Go.Addr.off { block := 1002, off := 0 + Int.toNat x8 * 2 } + 1) 1 [(vI n21)]) ∧
 ((vI n21) = (vI n19)))) ∧
 ((Qv (Go.Value.pointer (Option.some (Go.Addr.mk 1002 (Go.Addr.off { block := 1002, off := 0 + Int.toNat x8 * 2 } + 1) Option.none)))) ∧
 ((bcase (decide (0 ≤ x8))
 (bcase (decide (x8 < (↑n6 : Int)))
 (Qv (Pt 1002 (0 + Int.toNat x8 * 2)))
 False)
 False) ∧
 ((Qv (vI x8)) ∧
 ((Qv (Sl 1002 (n6) (n6))) ∧
 ((∃ n21 : Int,
 ((At (l10) (0 + Int.toNat (IntKind.wrap .i64 (x4 + x8)) * 1) 1 [(vI n21)]) ∧
 ((vI n21) = (vI n18)))) ∧
 ((bcase (decide (0 ≤ IntKind.wrap .i64 (x4 + x8)))
 (bcase (decide (IntKind.wrap .i64 (x4 + x8) < (↑n2 : Int)))
 (Qv (Pt 502 (0 + Int.toNat (IntKind.wrap .i64 (x4 + x8)) * 1)))
 False)
 False) ∧
 ((Qv (vI (IntKind.wrap .i64 (x4 + x8)))) ∧
 ((Qv (vI x8)) ∧
 ((Qv (vI x4)) ∧
 ((Qv (Sl 502 (n2) (c3))) ∧
 ((∃ n21 : Int,
 ((At (l14) (0 + Int.toNat x8 * 2) 1 [(vI n21)]) ∧
 ((vI n21) = (vI n17)))) ∧
 ((Qv (Pt 1002 (0 + Int.toNat x8 * 2))) ∧
 ((bcase (decide (0 ≤ x8))
 (bcase (decide (x8 < (↑n6 : Int)))
 (Qv (Pt 1002 (0 + Int.toNat x8 * 2)))
 False)
 False) ∧
 ((Qv (vI x8)) ∧
 ((Qv (Sl 1002 (n6) (n6))) ∧
 ((Qv (Go.Value.slice Option.none 0 0)) ∧
 ((Qv (Pt 1003 0)) ∧
 True))))))))))))))))))))))))) ∧
 (∃ n21 : Int,
 ((Says C 25 [(D.val (vI n18)), (D.val (vI (IntKind.wrap .i64 (IntKind.wrap .i64 (n19 - n20) + 1))))] [(D.val (vI n21))]) ∧
 ((((Qv (Sl 1005 1 1)) ∧
 (Qv (Option.some (AObj.cells [(vI (IntKind.wrap .i64 (n17 + n21)))] 3 false 1)))) ∧
 ((Qv (vI (IntKind.wrap .i64 (n17 + n21)))) ∧
 ((Qv (vI (IntKind.wrap .i64 (n19 - n20)))) ∧
 ((∃ n22 : Int,
 ((At (l14) (0 + Int.toNat x8 * 2) 1 [(vI n22)]) ∧
 ((vI n22) = (vI n20)))) ∧
 ((Qv (Pt 1002 (0 + Int.toNat x8 * 2))) ∧
 ((bcase (decide (0 ≤ x8))
 (bcase (decide (x8 < (↑n6 : Int)))
 (Qv (Pt 1002 (0 + Int.toNat x8 * 2)))
 False)
 False) ∧
 ((Qv (vI x8)) ∧
 ((Qv (Sl 1002 (n6) (n6))) ∧
 ((∃ n22 : Int,
 ((At (l14) (Go.Addr.off { block := 1002, off := 0 + Int.toNat x8 * 2 } + 1) 1 [(vI n22)]) ∧
 ((vI n22) = (vI n19)))) ∧
 ((Qv (Go.Value.pointer (Option.some (Go.Addr.mk 1002 (Go.Addr.off { block := 1002, off := 0 + Int.toNat x8 * 2 } + 1) Option.none)))) ∧
 ((bcase (decide (0 ≤ x8))
 (bcase (decide (x8 < (↑n6 : Int)))
 (Qv (Pt 1002 (0 + Int.toNat x8 * 2)))
 False)
 False) ∧
 ((Qv (vI x8)) ∧
 ((Qv (Sl 1002 (n6) (n6))) ∧
 ((bcase (decide (0 ≤ IntKind.wrap .i64 (x4 + x8)))
 (bcase (decide (IntKind.wrap .i64 (x4 + x8) < (↑n2 : Int)))
 (Qv (Pt 502 (0 + Int.toNat (IntKind.wrap .i64 (x4 + x8)) * 1)))
 False)
 False) ∧
 ((Qv (vI (IntKind.wrap .i64 (x4 + x8)))) ∧
 ((Qv (vI x8)) ∧
 ((Qv (vI x4)) ∧
 ((Qv (Sl 502 (n2) (c3))) ∧
 ((∃ n22 : Int,
 ((At (l14) (0 + Int.toNat x8 * 2) 1 [(vI n22)]) ∧
 ((vI n22) = (vI n17)))) ∧
 ((Qv (Pt 1002 (0 + Int.toNat x8 * 2))) ∧
 ((bcase (decide (0 ≤ x8))
 (bcase (decide (x8 < (↑n6 : Int)))
 (Qv (Pt 1002 (0 + Int.toNat x8 * 2)))
 False)
 False) ∧
 ((Qv (vI x8)) ∧
 ((Qv (Sl 1002 (n6) (n6))) ∧
 ((Qv (Go.Value.slice Option.none 0 0)) ∧
 ((Qv (Pt 1003 0)) ∧
 True))))))))))))))))))))))))) ∧
 (((Qv (Pt 1003 0)) ∧
 ((Qv (vI (IntKind.wrap .i64 (n17 + n21)))) ∧
 ((Qv (vI (IntKind.wrap .i64 (n19 - n20)))) ∧
 ((∃ n22 : Int,
 ((At (l14) (0 + Int.toNat x8 * 2) 1 [(vI n22)]) ∧
 ((vI n22) = (vI n20)))) ∧
 ((Qv (Pt 1002 (0 + Int.toNat x8 * 2))) ∧
 ((bcase (decide (0 ≤ x8))
 (bcase (decide (x8 < (↑n6 : Int)))
 (Qv (Pt 1002 (0 + Int.toNat x8 * 2)))
 False)
 False) ∧
 ((Qv (vI x8)) ∧
 ((Qv (Sl 1002 (n6) (n6))) ∧
 ((∃ n22 : Int,
 ((At (l14) (Go.Addr.off { block := 1002, off := 0 + Int.toNat x8 * 2 } + 1) 1 [(vI n22)]) ∧
 ((vI n22) = (vI n19)))) ∧
 ((Qv (Go.Value.pointer (Option.some (Go.Addr.mk 1002 (Go.Addr.off { block := 1002, off := 0 + Int.toNat x8 * 2 } + 1) Option.none)))) ∧
 ((bcase (decide (0 ≤ x8))
 (bcase (decide (x8 < (↑n6 : Int)))
 (Qv (Pt 1002 (0 + Int.toNat x8 * 2)))
 False)
 False) ∧
 ((Qv (vI x8)) ∧
 ((Qv (Sl 1002 (n6) (n6))) ∧
 ((bcase (decide (0 ≤ IntKind.wrap .i64 (x4 + x8)))
 (bcase (decide (IntKind.wrap .i64 (x4 + x8) < (↑n2 : Int)))
 (Qv (Pt 502 (0 + Int.toNat (IntKind.wrap .i64 (x4 + x8)) * 1)))
 False)
 False) ∧
 ((Qv (vI (IntKind.wrap .i64 (x4 + x8)))) ∧
 ((Qv (vI x8)) ∧
 ((Qv (vI x4)) ∧
 ((Qv (Sl 502 (n2) (c3))) ∧
 ((∃ n22 : Int,
 ((At (l14) (0 + Int.toNat x8 * 2) 1 [(vI n22)]) ∧
 ((vI n22) = (vI n17)))) ∧
 ((Qv (Pt 1002 (0 + Int.toNat x8 * 2))) ∧
 ((bcase (decide (0 ≤ x8))
 (bcase (decide (x8 < (↑n6 : Int)))
 (Qv (Pt 1002 (0 + Int.toNat x8 * 2)))
 False)
 False) ∧
 ((Qv (vI x8)) ∧
 ((Qv (Sl 1002 (n6) (n6))) ∧
 ((Qv (Pt 1003 0)) ∧
 True)))))))))))))))))))))))) ∧
 (True ∧
 (bcase (decide (0 ≤ IntKind.wrap .i64 (IntKind.wrap .i64 (2 * x4) + x8)))
 (bcase (decide (IntKind.wrap .i64 (IntKind.wrap .i64 (2 * x4) + x8) < (↑n2 : Int)))
 (∃ n22 : Int,
 ((At (l10) (0 + Int.toNat (IntKind.wrap .i64 (IntKind.wrap .i64 (2 * x4) + x8)) * 1) 1 [(vI n22)]) ∧
 (((Qv (vI (IntKind.wrap .i64 (IntKind.wrap .i64 (n8 - n7) + 1)))) ∧
 ((Qv (vI (IntKind.wrap .i64 (n8 - n7)))) ∧
 ((Qv (vI n7)) ∧
 ((Qv (Pt 1004 3)) ∧
 ((Qv (Pt 1004 3)) ∧
 ((Qv (vI n8)) ∧
 ((Qv (Pt 1004 4)) ∧
 ((Qv (Pt 1004 3)) ∧
 ((∃ n23 : Int,
 ((At (l10) (0 + Int.toNat (IntKind.wrap .i64 (IntKind.wrap .i64 (2 * x4) + x8)) * 1) 1 [(vI n23)]) ∧
 ((vI n23) = (vI n22)))) ∧
 ((bcase (decide (0 ≤ IntKind.wrap .i64 (IntKind.wrap .i64 (2 * x4) + x8)))
 (bcase (decide (IntKind.wrap .i64 (IntKind.wrap .i64 (2 * x4) + x8) < (↑n2 : Int)))
 (Qv (Pt 502 (0 + Int.toNat (IntKind.wrap .i64 (IntKind.wrap .i64 (2 * x4) + x8)) * 1)))
 False)
 False) ∧
 ((Qv (vI (IntKind.wrap .i64 (IntKind.wrap .i64 (2 * x4) + x8)))) ∧
 ((Qv (vI x8)) ∧
 ((Qv (vI (IntKind.wrap .i64 (2 * x4)))) ∧
 ((Qv (vI x4)) ∧
 ((Qv (Sl 502 (n2) (c3))) ∧
 ((Qv (vI n7)) ∧
 ((Qv (Pt 1004 3)) ∧
 ((Qv (Pt 1004 3)) ∧
 ((Qv (Go.Value.slice Option.none 0 0)) ∧
 ((Qv (Pt 1003 1)) ∧
 True)))))))))))))))))))) ∧
 (∃ n23 : Int,
 ((Says C 25 [(D.val (vI n22)), (D.val (vI (IntKind.wrap .i64 (IntKind.wrap .i64 (n8 - n7) + 1))))] [(D.val (vI n23))]) ∧
 ((((Qv (Sl 1007 1 1)) ∧
 (Qv (Option.some (AObj.cells [(vI (IntKind.wrap .i64 (n7 + n23)))] 3 false 1)))) ∧
 ((Qv (vI (IntKind.wrap .i64 (n7 + n23)))) ∧
 ((Qv (vI (IntKind.wrap .i64 (n8 - n7)))) ∧
 ((Qv (vI n7)) ∧
 ((Qv (Pt 1004 3)) ∧
 ((Qv (Pt 1004 3)) ∧
 ((Qv (vI n8)) ∧
 ((Qv (Pt 1004 4)) ∧
 ((Qv (Pt 1004 3)) ∧
 ((bcase (decide (0 ≤ IntKind.wrap .i64 (IntKind.wrap .i64 (2 * x4) + x8)))
 (bcase (decide (IntKind.wrap .i64 (IntKind.wrap .i64 (2 * x4) + x8) < (↑n2 : Int)))
 (Qv (Pt 502 (0 + Int.toNat (IntKind.wrap .i64 (IntKind.wrap .i64 (2 * x4) + x8)) * 1)))
 False)
 False) ∧
 ((Qv (vI (IntKind.wrap .i64 (IntKind.wrap .i64 (2 * x4) + x8)))) ∧
 ((Qv (vI x8)) ∧
 ((Qv (vI (IntKind.wrap .i64 (2 * x4)))) ∧
 ((Qv (vI x4)) ∧
 ((Qv (Sl 502 (n2) (c3))) ∧
 ((Qv (vI n7)) ∧
 ((Qv (Pt 1004 3)) ∧
 ((Qv (Pt 1004 3)) ∧
 ((Qv (Go.Value.slice Option.none 0 0)) ∧
 ((Qv (Pt 1003 1)) ∧
 True)))))))))))))))))))) ∧
 (((Qv (Pt 1003 1)) ∧
 ((Qv (vI (IntKind.wrap .i64 (n7 + n23)))) ∧
 ((Qv (vI (IntKind.wrap .i64 (n8 - n7)))) ∧
 ((Qv (vI n7)) ∧
 ((Qv (Pt 1004 3)) ∧
 ((Qv (Pt 1004 3)) ∧
 ((Qv (vI n8)) ∧
 ((Qv (Pt 1004 4)) ∧
 ((Qv (Pt 1004 3)) ∧
 ((bcase (decide (0 ≤ IntKind.wrap .i64 (IntKind.wrap .i64 (2 * x4) + x8)))
 (bcase (decide (IntKind.wrap .i64 (IntKind.wrap .i64 (2 * x4) + x8) < (↑n2 : Int)))
 (Qv (Pt 502 (0 + Int.toNat (IntKind.wrap .i64 (IntKind.wrap .i64 (2 * x4) + x8)) * 1)))
 False)
 False) ∧
 ((Qv (vI (IntKind.wrap .i64 (IntKind.wrap .i64 (2 * x4) + x8)))) ∧
 ((Qv (vI x8)) ∧
 ((Qv (vI (IntKind.wrap .i64 (2 * x4)))) ∧
 ((Qv (vI x4)) ∧
 ((Qv (Sl 502 (n2) (c3))) ∧
 ((Qv (vI n7)) ∧
 ((Qv (Pt 1004 3)) ∧
 ((Qv (Pt 1004 3)) ∧
 ((Qv (Pt 1003 1)) ∧
 True))))))))))))))))))) ∧
 (True ∧
 (B [(Prod.mk 1 (Sl 501 (n0) (c1))), (Prod.mk 2 (Sl 502 (n2) (c3))), (Prod.mk 3 (Pt 1000 0)), (Prod.mk 7 (vI x4)), (Prod.mk 8 (Sl 1001 (n5) (n5))), (Prod.mk 11 (Sl 1002 (n6) (n6))), (Prod.mk 15 (Go.Value.bool (b7))), (Prod.mk 19 (Pt 1003 0)), (Prod.mk 20 (vI (IntKind.wrap .i64 (x8 + 1))))] [(Prod.mk 501 (AObj.sym (l9) false 2)), (Prod.mk 502 (AObj.sym (l10) false 1)), (Prod.mk 1000 (AObj.cells [(Sl 500 (n11) (c12))] 24 false 1)), (Prod.mk 1001 (AObj.sym (l13) true 1)), (Prod.mk 1002 (AObj.sym (l14) true 2)), (Prod.mk 1003 (AObj.cells [(Sl 1004 1 1), (Sl 1005 1 1)] 27 false 2)), (Prod.mk 500 (AObj.sym (l15) false 7)), (Prod.mk 1004 (AObj.sym [(vI (IntKind.wrap .i64 (n17 + n21)))] true 1)), (Prod.mk 1005 (AObj.sym [(vI (IntKind.wrap .i64 (n7 + n23)))] true 1))])))))))))
 False)
 False)))))))))
 False)
 False)))
 False)
 False)))
 False)
 False)))
 False)
 False)))) ∨
 ((Says C 26 [(D.val (vI n16)), (D.val (vI n9)), (D.val (vI n10))] [(D.val (Value.bool false))]) ∧
 (((Qv (Value.bool true)) ∧
 ((Qv (Go.Value.tuple [].toArray)) ∧
 ((Qv (Go.Value.tuple [].toArray)) ∧
 ((Qv (Go.Value.tuple [].toArray)) ∧
 ((Qv (Go.Value.tuple [].toArray)) ∧
 ((Qv (Go.Value.tuple [].toArray)) ∧
 ((Qv (Go.Value.tuple [].toArray)) ∧
 ((Qv (Go.Value.tuple [].toArray)) ∧
 ((Qv (Go.Value.tuple [].toArray)) ∧
 ((Qv (Go.Value.tuple [].toArray)) ∧
 ((Qv (Go.Value.tuple [].toArray)) ∧
 ((Qv (Go.Value.tuple [].toArray)) ∧
 ((Qv (Go.Value.tuple [].toArray)) ∧
 ((Qv (Go.Value.tuple [].toArray)) ∧
 ((Qv (Go.Value.tuple [].toArray)) ∧
 ((Qv (Go.Value.tuple [].toArray)) ∧
 ((Qv (Go.Value.tuple [].toArray)) ∧
 ((Qv (Go.Value.tuple [].toArray)) ∧
 ((Qv (Go.Value.tuple [].toArray)) ∧
 ((Qv (Go.Value.tuple [].toArray)) ∧
 ((Qv (Go.Value.tuple [].toArray)) ∧
 ((Qv (Go.Value.tuple [].toArray)) ∧
 ((Qv (Go.Value.tuple [].toArray)) ∧
 ((Qv (Go.Value.tuple [].toArray)) ∧
 ((Qv (Go.Value.tuple [].toArray)) ∧
 ((Qv (Go.Value.tuple [].toArray)) ∧
 ((Qv (Go.Value.tuple [].toArray)) ∧
 ((Qv (Go.Value.tuple [].toArray)) ∧
 ((Qv (Value.bool true)) ∧
 ((Qv (Value.bool true)) ∧
 ((Qv (Value.bool true)) ∧
 ((Qv (Pt 1004 6)) ∧
 ((Qv (Pt 1004 5)) ∧
 ((Qv (Pt 1004 5)) ∧
 ((Qv (Pt 1004 5)) ∧
 ((Qv (Go.Value.pointer (Option.some (Go.Addr.mk 1002 (Go.Addr.off { block := 1002, off := 0 + Int.toNat x8 * 2 } + 1) Option.none)))) ∧
 ((bcase (decide (0 ≤ x8))
 (bcase (decide (x8 < (↑n6 : Int)))
 (Qv (Pt 1002 (0 + Int.toNat x8 * 2)))
 False)
 False) ∧
 ((Qv (vI x8)) ∧
 ((Qv (Sl 1002 (n6) (n6))) ∧
 ((Qv (Value.bool false)) ∧
 ((Qv (Value.bool false)) ∧
 ((Qv (Pt 1004 6)) ∧
 ((Qv (Pt 1004 5)) ∧
 ((Qv (Pt 1004 5)) ∧
 ((Qv (Pt 1004 5)) ∧
 ((Qv (Pt 1002 (0 + Int.toNat x8 * 2))) ∧
 ((bcase (decide (0 ≤ x8))
 (bcase (decide (x8 < (↑n6 : Int)))
 (Qv (Pt 1002 (0 + Int.toNat x8 * 2)))
 False)
 False) ∧
 ((Qv (vI x8)) ∧
 ((Qv (Sl 1002 (n6) (n6))) ∧
 ((Qv (Value.bool false)) ∧
 ((Qv (Go.Value.pointer (Option.some (Go.Addr.mk 1002 (Go.Addr.off { block := 1002, off := 0 + Int.toNat x8 * 2 } + 1) Option.none)))) ∧
 ((bcase (decide (0 ≤ x8))
 (bcase (decide (x8 < (↑n6 : Int)))
 (Qv (Pt 1002 (0 + Int.toNat x8 * 2)))
 False)
 False) ∧
 ((Qv (vI x8)) ∧
 ((Qv (Sl 1002 (n6) (n6))) ∧
 ((Qv (Pt 1002 (0 + Int.toNat x8 * 2))) ∧
 ((bcase (decide (0 ≤ x8))
 (bcase (decide (x8 < (↑n6 : Int)))
 (Qv (Pt 1002 (0 + Int.toNat x8 * 2)))
 False)
 False) ∧
 ((Qv (vI x8)) ∧
 ((Qv (Sl 1002 (n6) (n6))) ∧
 ((bcase (decide (0 ≤ x8))
 (bcase (decide (x8 < (↑n5 : Int)))
 (Qv (Pt 1001 (0 + Int.toNat x8 * 1)))
 False)
 False) ∧
 ((Qv (vI x8)) ∧
 ((Qv (Sl 1001 (n5) (n5))) ∧
 True))))))))))))))))))))))))))))))))))))))))))))))))))))))))))))) ∧
 (k [(D.val (Value.bool false))])))))))
 False)
 False)) ∨
 ((Says C 26 [(D.val (vI n15)), (D.val (vI n9)), (D.val (vI n10))] [(D.val (Value.bool false))]) ∧
 (((Qv (Go.Value.tuple [].toArray)) ∧
 ((Qv (Go.Value.tuple [].toArray)) ∧
 ((Qv (Go.Value.tuple [].toArray)) ∧
 ((Qv (Go.Value.tuple [].toArray)) ∧
 ((Qv (Go.Value.tuple [].toArray)) ∧
 ((Qv (Go.Value.tuple [].toArray)) ∧
 ((Qv (Go.Value.tuple [].toArray)) ∧
 ((Qv (Go.Value.tuple [].toArray)) ∧
 ((Qv (Go.Value.tuple [].toArray)) ∧
 ((Qv (Go.Value.tuple [].toArray)) ∧
 ((Qv (Go.Value.tuple [].toArray)) ∧
 ((Qv (Value.bool true)) ∧
 ((Qv (Value.bool true)) ∧
 ((Qv (Value.bool true)) ∧
 ((Qv (Pt 1004 6)) ∧
 ((Qv (Pt 1004 5)) ∧
 ((Qv (Pt 1004 5)) ∧
 ((Qv (Pt 1004 5)) ∧
 ((Qv (Pt 1002 (0 + Int.toNat x8 * 2))) ∧
 ((bcase (decide (0 ≤ x8))
 (bcase (decide (x8 < (↑n6 : Int)))
 (Qv (Pt 1002 (0 + Int.toNat x8 * 2)))
 False)
 False) ∧
 ((Qv (vI x8)) ∧
 ((Qv (Sl 1002 (n6) (n6))) ∧
 ((Qv (Value.bool false)) ∧
 ((Qv (Go.Value.pointer (Option.some (Go.Addr.mk 1002 (Go.Addr.off { block := 1002, off := 0 + Int.toNat x8 * 2 } + 1) Option.none)))) ∧
 ((bcase (decide (0 ≤ x8))
 (bcase (decide (x8 < (↑n6 : Int)))
 (Qv (Pt 1002 (0 + Int.toNat x8 * 2)))
 False)
 False) ∧
 ((Qv (vI x8)) ∧
 ((Qv (Sl 1002 (n6) (n6))) ∧
 ((Qv (Pt 1002 (0 + Int.toNat x8 * 2))) ∧
 ((bcase (decide (0 ≤ x8))
 (bcase (decide (x8 < (↑n6 : Int)))
 (Qv (Pt 1002 (0 + Int.toNat x8 * 2)))
 False)
 False) ∧
 ((Qv (vI x8)) ∧
 ((Qv (Sl 1002 (n6) (n6))) ∧
 ((bcase (decide (0 ≤ x8))
 (bcase (decide (x8 < (↑n5 : Int)))
 (Qv (Pt 1001 (0 + Int.toNat x8 * 1)))
 False)
 False) ∧
 ((Qv (vI x8)) ∧
 ((Qv (Sl 1001 (n5) (n5))) ∧
 True)))))))))))))))))))))))))))))))))) ∧
 (((Qv (Value.bool true)) ∧
 ((Qv (Go.Value.tuple [].toArray)) ∧
 ((Qv (Go.Value.tuple [].toArray)) ∧
 ((Qv (Go.Value.tuple [].toArray)) ∧
 ((Qv (Go.Value.tuple [].toArray)) ∧
 ((Qv (Go.Value.tuple [].toArray)) ∧
 ((Qv (Go.Value.tuple [].toArray)) ∧
 ((Qv (Go.Value.tuple [].toArray)) ∧
 ((Qv (Go.Value.tuple [].toArray)) ∧
 ((Qv (Go.Value.tuple [].toArray)) ∧
 ((Qv (Go.Value.tuple [].toArray)) ∧
 ((Qv (Go.Value.tuple [].toArray)) ∧
 ((Qv (Go.Value.tuple [].toArray)) ∧
 ((Qv (Go.Value.tuple [].toArray)) ∧
 ((Qv (Go.Value.tuple [].toArray)) ∧
 ((Qv (Go.Value.tuple [].toArray)) ∧
 ((Qv (Go.Value.tuple [].toArray)) ∧
 ((Qv (Go.Value.tuple [].toArray)) ∧
 ((Qv (Go.Value.tuple [].toArray)) ∧
 ((Qv (Go.Value.tuple [].toArray)) ∧
 ((Qv (Go.Value.tuple [].toArray)) ∧
 ((Qv (Go.Value.tuple [].toArray)) ∧
 ((Qv (Go.Value.tuple [].toArray)) ∧
 ((Qv (Go.Value.tuple [].toArray)) ∧
 ((Qv (Go.Value.tuple [].toArray)) ∧
 ((Qv (Go.Value.tuple [].toArray)) ∧
 ((Qv (Go.Value.tuple [].toArray)) ∧
 ((Qv (Go.Value.tuple [].toArray)) ∧
 ((Qv (Value.bool true)) ∧
 ((Qv (Value.bool true)) ∧
 ((Qv (Go.Value.tuple [].toArray)) ∧
 ((Qv (Go.Value.tuple [].toArray)) ∧
 ((Qv (Go.Value.tuple [].toArray)) ∧
 ((Qv (Go.Value.tuple [].toArray)) ∧
 ((Qv (Go.Value.tuple [].toArray)) ∧
 ((Qv (Go.Value.tuple [].toArray)) ∧
 ((Qv (Go.Value.tuple [].toArray)) ∧
 ((Qv (Go.Value.tuple [].toArray)) ∧
 ((Qv (Go.Value.tuple [].toArray)) ∧
 ((Qv (Value.bool true)) ∧
 ((Qv (Value.bool true)) ∧
 ((Qv (Pt 1004 6)) ∧
 ((Qv (Pt 1004 5)) ∧
 ((Qv (Pt 1004 5)) ∧
 ((Qv (Pt 1004 5)) ∧
 ((Qv (Pt 1002 (0 + Int.toNat x8 * 2))) ∧
 ((bcase (decide (0 ≤ x8))
 (bcase (decide (x8 < (↑n6 : Int)))
 (Qv (Pt 1002 (0 + Int.toNat x8 * 2)))
 False)
 False) ∧
 ((Qv (vI x8)) ∧
 ((Qv (Sl 1002 (n6) (n6))) ∧
 ((Qv (Value.bool false)) ∧
 ((Qv (Go.Value.pointer (Option.some (Go.Addr.mk 1002 (Go.Addr.off { block := 1002, off := 0 + Int.toNat x8 * 2 } + 1) Option.none)))) ∧
 ((bcase (decide (0 ≤ x8))
 (bcase (decide (x8 < (↑n6 : Int)))
 (Qv (Pt 1002 (0 + Int.toNat x8 * 2)))
 False)
 False) ∧
 ((Qv (vI x8)) ∧
 ((Qv (Sl 1002 (n6) (n6))) ∧
 ((Qv (Pt 1002 (0 + Int.toNat x8 * 2))) ∧
 ((bcase (decide (0 ≤ x8))
 (bcase (decide (x8 < (↑n6 : Int)))
 (Qv (Pt 1002 (0 + Int.toNat x8 * 2)))
 False)
 False) ∧
 ((Qv (vI x8)) ∧
 ((Qv (Sl 1002 (n6) (n6))) ∧
 ((bcase (decide (0 ≤ x8))
 (bcase (decide (x8 < (↑n5 : Int)))
 (Qv (Pt 1001 (0 + Int.toNat x8 * 1)))
 False)
 False) ∧
 ((Qv (vI x8)) ∧
 ((Qv (Sl 1001 (n5) (n5))) ∧
 True))))))))))))))))))))))))))))))))))))))))))))))))))))))))))))) ∧
 (k [(D.val (Value.bool false))]))))))))
 False)
 False)) ∨
 ((Says C 26 [(D.val (vI n12)), (D.val (vI n13)), (D.val (vI n14))] [(D.val (Value.bool false))]) ∧
 (((Qv (Go.Value.tuple [].toArray)) ∧
 ((Qv (Go.Value.tuple [].toArray)) ∧
 ((Qv (Go.Value.tuple [].toArray)) ∧
 ((Qv (Go.Value.tuple [].toArray)) ∧
 ((Qv (Go.Value.tuple [].toArray)) ∧
 ((Qv (Go.Value.tuple [].toArray)) ∧
 ((Qv (Go.Value.tuple [].toArray)) ∧
 ((Qv (Go.Value.tuple [].toArray)) ∧
 ((Qv (Go.Value.tuple [].toArray)) ∧
 ((Qv (Go.Value.tuple [].toArray)) ∧
 ((Qv (Go.Value.tuple [].toArray)) ∧
 ((Qv (Value.bool true)) ∧
 ((Qv (Value.bool true)) ∧
 ((Qv (Go.Value.pointer (Option.some (Go.Addr.mk 1002 (Go.Addr.off { block := 1002, off := 0 + Int.toNat x8 * 2 } + 1) Option.none)))) ∧
 ((bcase (decide (0 ≤ x8))
 (bcase (decide (x8 < (↑n6 : Int)))
 (Qv (Pt 1002 (0 + Int.toNat x8 * 2)))
 False)
 False) ∧
 ((Qv (vI x8)) ∧
 ((Qv (Sl 1002 (n6) (n6))) ∧
 ((Qv (Pt 1002 (0 + Int.toNat x8 * 2))) ∧
 ((bcase (decide (0 ≤ x8))
 (bcase (decide (x8 < (↑n6 : Int)))
 (Qv (Pt 1002 (0 + Int.toNat x8 * 2)))
 False)
 False) ∧
 ((Qv (vI x8)) ∧
 ((Qv (Sl 1002 (n6) (n6))) ∧
 ((bcase (decide (0 ≤ x8))
 (bcase (decide (x8 < (↑n5 : Int)))
 (Qv (Pt 1001 (0 + Int.toNat x8 * 1)))
 False)
 False) ∧
 ((Qv (vI x8)) ∧
 ((Qv (Sl 1001 (n5) (n5))) ∧
 True)))))))))))))))))))))))) ∧
 (((Qv (Go.Value.tuple [].toArray)) ∧
 ((Qv (Go.Value.tuple [].toArray)) ∧
 ((Qv (Go.Value.tuple [].toArray)) ∧
 ((Qv (Go.Value.tuple [].toArray)) ∧
 ((Qv (Go.Value.tuple [].toArray)) ∧
 ((Qv (Go.Value.tuple [].toArray)) ∧
 ((Qv (Go.Value.tuple [].toArray)) ∧
 ((Qv (Go.Value.tuple [].toArray)) ∧
 ((Qv (Go.Value.tuple [].toArray)) ∧
 ((Qv (Go.Value.tuple [].toArray)) ∧
 ((Qv (Go.Value.tuple [].toArray)) ∧
 ((Qv (Value.bool true)) ∧
 ((Qv (Value.bool true)) ∧
 ((Qv (Go.Value.tuple [].toArray)) ∧
 ((Qv (Go.Value.tuple [].toArray)) ∧
 ((Qv (Go.Value.tuple [].toArray)) ∧
 ((Qv (Go.Value.tuple [].toArray)) ∧
 ((Qv (Go.Value.tuple [].toArray)) ∧
 ((Qv (Go.Value.tuple [].toArray)) ∧
 ((Qv (Go.Value.tuple [].toArray)) ∧
 ((Qv (Go.Value.tuple [].toArray)) ∧
 ((Qv (Go.Value.tuple [].toArray)) ∧
 ((Qv (Value.bool true)) ∧
 ((Qv (Go.Value.pointer (Option.some (Go.Addr.mk 1002 (Go.Addr.off { block := 1002, off := 0 + Int.toNat x8 * 2 } + 1) Option.none)))) ∧
 ((bcase (decide (0 ≤ x8))
 (bcase (decide (x8 < (↑n6 : Int)))
 (Qv (Pt 1002 (0 + Int.toNat x8 * 2)))
 False)
 False) ∧
 ((Qv (vI x8)) ∧
 ((Qv (Sl 1002 (n6) (n6))) ∧
 ((Qv (Pt 1002 (0 + Int.toNat x8 * 2))) ∧
 ((bcase (decide (0 ≤ x8))
 (bcase (decide (x8 < (↑n6 : Int)))
 (Qv (Pt 1002 (0 + Int.toNat x8 * 2)))
 False)
 False) ∧
 ((Qv (vI x8)) ∧
 ((Qv (Sl 1002 (n6) (n6))) ∧
 ((bcase (decide (0 ≤ x8))
 (bcase (decide (x8 < (↑n5 : Int)))
 (Qv (Pt 1001 (0 + Int.toNat x8 * 1)))
 False)
 False) ∧
 ((Qv (vI x8)) ∧
 ((Qv (Sl 1001 (n5) (n5))) ∧
 True)))))))))))))))))))))))))))))))))) ∧
 (((Qv (Value.bool true)) ∧
 ((Qv (Go.Value.tuple [].toArray)) ∧
 ((Qv (Go.Value.tuple [].toArray)) ∧
 ((Qv (Go.Value.tuple [].toArray)) ∧
 ((Qv (Go.Value.tuple [].toArray)) ∧
 ((Qv (Go.Value.tuple [].toArray)) ∧
 ((Qv (Go.Value.tuple [].toArray)) ∧
 ((Qv (Go.Value.tuple [].toArray)) ∧
 ((Qv (Go.Value.tuple [].toArray)) ∧
 ((Qv (Go.Value.tuple [].toArray)) ∧
 ((Qv (Go.Value.tuple [].toArray)) ∧
 ((Qv (Go.Value.tuple [].toArray)) ∧
 ((Qv (Go.Value.tuple [].toArray)) ∧
 ((Qv (Go.Value.tuple [].toArray)) ∧
 ((Qv (Go.Value.tuple [].toArray)) ∧
 ((Qv (Go.Value.tuple [].toArray)) ∧
 ((Qv (Go.Value.tuple [].toArray)) ∧
 ((Qv (Go.Value.tuple [].toArray)) ∧
 ((Qv (Go.Value.tuple [].toArray)) ∧
 ((Qv (Go.Value.tuple [].toArray)) ∧
 ((Qv (Go.Value.tuple [].toArray)) ∧
 ((Qv (Go.Value.tuple [].toArray)) ∧
 ((Qv (Go.Value.tuple [].toArray)) ∧
 ((Qv (Go.Value.tuple [].toArray)) ∧
 ((Qv (Go.Value.tuple [].toArray)) ∧
 ((Qv (Go.Value.tuple [].toArray)) ∧
 ((Qv (Go.Value.tuple [].toArray)) ∧
 ((Qv (Go.Value.tuple [].toArray)) ∧
 ((Qv (Value.bool true)) ∧
 ((Qv (Value.bool true)) ∧
 ((Qv (Go.Value.tuple [].toArray)) ∧
 ((Qv (Go.Value.tuple [].toArray)) ∧
 ((Qv (Go.Value.tuple [].toArray)) ∧
 ((Qv (Go.Value.tuple [].toArray)) ∧
 ((Qv (Go.Value.tuple [].toArray)) ∧
 ((Qv (Go.Value.tuple [].toArray)) ∧
 ((Qv (Go.Value.tuple [].toArray)) ∧
 ((Qv (Go.Value.tuple [].toArray)) ∧
 ((Qv (Go.Value.tuple [].toArray)) ∧
 ((Qv (Value.bool true)) ∧
 ((Qv (Go.Value.tuple [].toArray)) ∧
 ((Qv (Go.Value.tuple [].toArray)) ∧
 ((Qv (Go.Value.tuple [].toArray)) ∧
 ((Qv (Go.Value.tuple [].toArray)) ∧
 ((Qv (Go.Value.tuple [].toArray)) ∧
 ((Qv (Go.Value.tuple [].toArray)) ∧
 ((Qv (Go.Value.tuple [].toArray)) ∧
 ((Qv (Go.Value.tuple [].toArray)) ∧
 ((Qv (Go.Value.tuple [].toArray)) ∧
 ((Qv (Value.bool true)) ∧
 ((Qv (Go.Value.pointer (Option.some (Go.Addr.mk 1002 (Go.Addr.off { block := 1002, off := 0 + Int.toNat x8 * 2 } + 1) Option.none)))) ∧
 ((bcase (decide (0 ≤ x8))
 (bcase (decide (x8 < (↑n6 : Int)))
 (Qv (Pt 1002 (0 + Int.toNat x8 * 2)))
 False)
 False) ∧
 ((Qv (vI x8)) ∧
 ((Qv (Sl 1002 (n6) (n6))) ∧
 ((Qv (Pt 1002 (0 + Int.toNat x8 * 2))) ∧
 ((bcase (decide (0 ≤ x8))
 (bcase (decide (x8 < (↑n6 : Int)))
 (Qv (Pt 1002 (0 + Int.toNat x8 * 2)))
 False)
 False) ∧
 ((Qv (vI x8)) ∧
 ((Qv (Sl 1002 (n6) (n6))) ∧
 ((bcase (decide (0 ≤ x8))
 (bcase (decide (x8 < (↑n5 : Int)))
 (Qv (Pt 1001 (0 + Int.toNat x8 * 1)))
 False)
 False) ∧
 ((Qv (vI x8)) ∧
 ((Qv (Sl 1001 (n5) (n5))) ∧
 True))))))))))))))))))))))))))))))))))))))))))))))))))))))))))))) ∧
 (k [(D.val (Value.bool false))])))))))))
 False)
 False)))
 False)
 False)))
 False)
 False)))))))))
 False)
 False)
 (X 4 [(Prod.mk 3 (Pt 1000 0)), (Prod.mk 7 (vI x4)), (Prod.mk 11 (Sl 1001 (n6) (n6))), (Prod.mk 19 (Pt 1002 0))] [(Prod.mk 1000 (AObj.cells [(Sl 500 (n11) (c12))] 24 false 1)), (Prod.mk 1001 (AObj.sym (l14) true 2)), (Prod.mk 1002 (AObj.cells [(Go.Value.slice Option.none 0 0), (Go.Value.slice Option.none 0 0)] 27 false 2)), (Prod.mk 500 (AObj.sym (l15) false 7))])) := by kernel_rfl
abbrev zKp8 (n0 : Nat) (c1 : Nat) (n2 : Nat) (c3 : Nat) (x4 : Int) (n5 : Nat) (n6 : Nat) (b7 : Bool) (x8 : Int) (l9 : List Value) (l10 : List Value) (n11 : Nat) (c12 : Nat) (l13 : List Value) (l14 : List Value) (n15 : Nat) (n16 : Nat) (l17 : List Value) (l18 : List Value) (l19 : List Value) : Slots × Blocks := ([(1, (Value.slice (some ⟨501, 0, none⟩) n0 c1)), (2, (Value.slice (some ⟨502, 0, none⟩) n2 c3)), (3, (Value.pointer (some ⟨1000, 0, none⟩))), (7, (Value.int .i64 x4)), (8, (Value.slice (some ⟨1001, 0, none⟩) n5 n5)), (11, (Value.slice (some ⟨1002, 0, none⟩) n6 n6)), (15, (Value.bool b7)), (19, (Value.pointer (some ⟨1003, 0, none⟩))), (20, (Value.int .i64 x8))], [(501, (AObj.sym l9 false 2)), (502, (AObj.sym l10 false 1)), (1000, (AObj.cells [(Value.slice (some ⟨500, 0, none⟩) n11 c12)] 24 false 1)), (1001, (AObj.sym l13 true 1)), (1002, (AObj.sym l14 true 2)), (1003, (AObj.cells [(Value.slice (some ⟨1004, 0, none⟩) n15 n15), (Value.slice (some ⟨1005, 0, none⟩) n16 n16)] 27 false 2)), (500, (AObj.sym l17 false 7)), (1004, (AObj.sym l18 true 1)), (1005, (AObj.sym l19 true 1))])
def rKp8 (C : Ct) (L : AtLoop) (n0 : Nat) (c1 : Nat) (n2 : Nat) (c3 : Nat) (x4 : Int) (n5 : Nat) (n6 : Nat) (b7 : Bool) (x8 : Int) (l9 : List Value) (l10 : List Value) (n11 : Nat) (c12 : Nat) (l13 : List Value) (l14 : List Value) (n15 : Nat) (n16 : Nat) (l17 : List Value) (l18 : List Value) (l19 : List Value) (B : Bx) (X : Xx) (k : List D → Prop) : Prop := wpRound Try.prog (hL C) L 5 4 [(1, (Value.slice (some ⟨501, 0, none⟩) n0 c1)), (2, (Value.slice (some ⟨502, 0, none⟩) n2 c3)), (3, (Value.pointer (some ⟨1000, 0, none⟩))), (7, (Value.int .i64 x4)), (8, (Value.slice (some ⟨1001, 0, none⟩) n5 n5)), (11, (Value.slice (some ⟨1002, 0, none⟩) n6 n6)), (15, (Value.bool b7)), (19, (Value.pointer (some ⟨1003, 0, none⟩))), (20, (Value.int .i64 x8))] [(501, (AObj.sym l9 false 2)), (502, (AObj.sym l10 false 1)), (1000, (AObj.cells [(Value.slice (some ⟨500, 0, none⟩) n11 c12)] 24 false 1)), (1001, (AObj.sym l13 true 1)), (1002, (AObj.sym l14 true 2)), (1003, (AObj.cells [(Value.slice (some ⟨1004, 0, none⟩) n15 n15), (Value.slice (some ⟨1005, 0, none⟩) n16 n16)] 27 false 2)), (500, (AObj.sym l17 false 7)), (1004, (AObj.sym l18 true 1)), (1005, (AObj.sym l19 true 1))] B X (dataK k)
theorem rKp8_text (C : Ct) (L : AtLoop) (n0 : Nat) (c1 : Nat) (n2 : Nat) (c3 : Nat) (x4 : Int) (n5 : Nat) (n6 : Nat) (b7 : Bool) (x8 : Int) (l9 : List Go.Value) (l10 : List Go.Value) (n11 : Nat) (c12 : Nat) (l13 : List Go.Value) (l14 : List Go.Value) (n15 : Nat) (n16 : Nat) (l17 : List Go.Value) (l18 : List Go.Value) (l19 : List Go.Value) (B : Bx) (X : Xx) (k : List D → Prop) : rKp8 C L n0 c1 n2 c3 x4 n5 n6 b7 x8 l9 l10 n11 c12 l13 l14 n15 n16 l17 l18 l19 B X k =
 (bcase (decide (x8 < x4))
 (bcase (decide (0 ≤ x8))
 (bcase (decide (x8 < (↑n11 : Int)))
 (∃ n1 : Int,
 (∃ n3 : Int,
 (∃ n4 : Int,
 (∃ n7 : Int,
 (∃ n8 : Int,
 (∃ n9 : Int,
 (∃ n10 : Int,
 ((At (l17) (0 + Int.toNat x8 * 7) 7 [(vI n1), (vI n3), (vI n4), (vI n7), (vI n8), (vI n9), (vI n10)]) ∧
 (bcase (decide (0 ≤ x8))
 (bcase (decide (x8 < (↑n5 : Int)))
 (∃ n12 : Int,
 ((At (l13) (0 + Int.toNat x8 * 1) 1 [(vI n12)]) ∧
 (bcase (decide (0 ≤ x8))
 (bcase (decide (x8 < (↑n6 : Int)))
 (∃ n13 : Int,
 ((At (l14) (0 + Int.toNat x8 * 2) 1 [(vI n13)]) ∧
 (bcase (decide (0 ≤ x8))
 (bcase (decide (x8 < (↑n6 : Int)))
 (∃ n14 : Int,
 ((At (l14) (Go.Addr.off { block := 1002, off := 0 + Int.toNat x8 * 2 } + 1) 1 [(vI n14)]) ∧
 (((∃ n17 : Int,
 ((At (l14) (Go.Addr.off { block := 1002, off := 0 + Int.toNat x8 * 2 } + 1) 1 [(vI n17)]) ∧
 ((vI n17) = (vI n14)))) ∧
 ((Qv (Go.Value.pointer (Option.some (Go.Addr.mk 1002 (Go.Addr.off { block := 1002, off := 0 + Int.toNat x8 * 2 } + 1) Option.none)))) ∧
 ((bcase (decide (0 ≤ x8))
 (bcase (decide (x8 < (↑n6 : Int)))
 (Qv (Pt 1002 (0 + Int.toNat x8 * 2)))
 False)
 False) ∧
 ((Qv (vI x8)) ∧
 ((Qv (Sl 1002 (n6) (n6))) ∧
 ((∃ n17 : Int,
 ((At (l14) (0 + Int.toNat x8 * 2) 1 [(vI n17)]) ∧
 ((vI n17) = (vI n13)))) ∧
 ((Qv (Pt 1002 (0 + Int.toNat x8 * 2))) ∧
 ((bcase (decide (0 ≤ x8))
 (bcase (decide (x8 < (↑n6 : Int)))
 (Qv (Pt 1002 (0 + Int.toNat x8 * 2)))
 False)
 False) ∧
 ((Qv (vI x8)) ∧
 ((Qv (Sl 1002 (n6) (n6))) ∧
 ((∃ n17 : Int,
 ((At (l13) (0 + Int.toNat x8 * 1) 1 [(vI n17)]) ∧
 ((vI n17) = (vI n12)))) ∧
 ((bcase (decide (0 ≤ x8))
 (bcase (decide (x8 < (↑n5 : Int)))
 (Qv (Pt 1001 (0 + Int.toNat x8 * 1)))
 False)
 False) ∧
 ((Qv (vI x8)) ∧
 ((Qv (Sl 1001 (n5) (n5))) ∧
 True)))))))))))))) ∧
 (((Says C 26 [(D.val (vI n12)), (D.val (vI n13)), (D.val (vI n14))] [(D.val (Value.bool true))]) ∧
 (bcase (decide (0 ≤ x8))
 (bcase (decide (x8 < (↑n6 : Int)))
 (∃ n17 : Int,
 ((At (l14) (0 + Int.toNat x8 * 2) 1 [(vI n17)]) ∧
 (((Qv (vI n10)) ∧
 ((Qv (Pt 1006 6)) ∧
 ((Qv (Pt 1006 5)) ∧
 ((Qv (vI n9)) ∧
 ((Qv (Pt 1006 5)) ∧
 ((Qv (Pt 1006 5)) ∧
 ((∃ n18 : Int,
 ((At (l14) (0 + Int.toNat x8 * 2) 1 [(vI n18)]) ∧
 ((vI n18) = (vI n17)))) ∧
 ((Qv (Pt 1002 (0 + Int.toNat x8 * 2))) ∧
 ((bcase (decide (0 ≤ x8))
 (bcase (decide (x8 < (↑n6 : Int)))
 (Qv (Pt 1002 (0 + Int.toNat x8 * 2)))
 False)
 False) ∧
 ((Qv (vI x8)) ∧
 ((Qv (Sl 1002 (n6) (n6))) ∧
 ((Qv (Value.bool false)) ∧
 ((Qv (Value.bool false)) ∧
 ((Qv (Go.Value.pointer (Option.some (Go.Addr.mk 1002 (Go.Addr.off { block := 1002, off := 0 + Int.toNat x8 * 2 } + 1) Option.none)))) ∧
 ((bcase (decide (0 ≤ x8))
 (bcase (decide (x8 < (↑n6 : Int)))
 (Qv (Pt 1002 (0 + Int.toNat x8 * 2)))
 False)
 False) ∧
 ((Qv (vI x8)) ∧
 ((Qv (Sl 1002 (n6) (n6))) ∧
 ((Qv (Pt 1002 (0 + Int.toNat x8 * 2))) ∧
 ((bcase (decide (0 ≤ x8))
 (bcase (decide (x8 < (↑n6 : Int)))
 (Qv (Pt 1002 (0 + Int.toNat x8 * 2)))
 False)
 False) ∧
 ((Qv (vI x8)) ∧
 ((Qv (Sl 1002 (n6) (n6))) ∧
 ((bcase (decide (0 ≤ x8))
 (bcase (decide (x8 < (↑n5 : Int)))
 (Qv (Pt 1001 (0 + Int.toNat x8 * 1)))
 False)
 False) ∧
 ((Qv (vI x8)) ∧
 ((Qv (Sl 1001 (n5) (n5))) ∧
 True)))))))))))))))))))))))) ∧
 (((Says C 26 [(D.val (vI n17)), (D.val (vI n9)), (D.val (vI n10))] [(D.val (Value.bool true))]) ∧
 (bcase (decide (0 ≤ x8))
 (bcase (decide (x8 < (↑n6 : Int)))
 (∃ n18 : Int,
 ((At (l14) (Go.Addr.off { block := 1002, off := 0 + Int.toNat x8 * 2 } + 1) 1 [(vI n18)]) ∧
 (((Qv (vI n10)) ∧
 ((Qv (Pt 1006 6)) ∧
 ((Qv (Pt 1006 5)) ∧
 ((Qv (vI n9)) ∧
 ((Qv (Pt 1006 5)) ∧
 ((Qv (Pt 1006 5)) ∧
 ((∃ n19 : Int,
 ((At (l14) (Go.Addr.off { block := 1002, off := 0 + Int.toNat x8 * 2 } + 1) 1 [(vI n19)]) ∧
 ((vI n19) = (vI n18)))) ∧
 ((Qv (Go.Value.pointer (Option.some (Go.Addr.mk 1002 (Go.Addr.off { block := 1002, off := 0 + Int.toNat x8 * 2 } + 1) Option.none)))) ∧
 ((bcase (decide (0 ≤ x8))
 (bcase (decide (x8 < (↑n6 : Int)))
 (Qv (Pt 1002 (0 + Int.toNat x8 * 2)))
 False)
 False) ∧
 ((Qv (vI x8)) ∧
 ((Qv (Sl 1002 (n6) (n6))) ∧
 ((Qv (Value.bool false)) ∧
 ((Qv (Value.bool false)) ∧
 ((Qv (Value.bool false)) ∧
 ((Qv (Pt 1006 6)) ∧
 ((Qv (Pt 1006 5)) ∧
 ((Qv (Pt 1006 5)) ∧
 ((Qv (Pt 1006 5)) ∧
 ((Qv (Pt 1002 (0 + Int.toNat x8 * 2))) ∧
 ((bcase (decide (0 ≤ x8))
 (bcase (decide (x8 < (↑n6 : Int)))
 (Qv (Pt 1002 (0 + Int.toNat x8 * 2)))
 False)
 False) ∧
 ((Qv (vI x8)) ∧
 ((Qv (Sl 1002 (n6) (n6))) ∧
 ((Qv (Value.bool false)) ∧
 ((Qv (Go.Value.pointer (Option.some (Go.Addr.mk 1002 (Go.Addr.off { block := 1002, off := 0 + Int.toNat x8 * 2 } + 1) Option.none)))) ∧
 ((bcase (decide (0 ≤ x8))
 (bcase (decide (x8 < (↑n6 : Int)))
 (Qv (Pt 1002 (0 + Int.toNat x8 * 2)))
 False)
 False) ∧
 ((Qv (vI x8)) ∧
 ((Qv (Sl 1002 (n6) (n6))) ∧
 ((Qv (Pt 1002 (0 + Int.toNat x8 * 2))) ∧
 ((bcase (decide (0 ≤ x8))
 (bcase (decide (x8 < (↑n6 : Int)))
 (Qv (Pt 1002 (0 + Int.toNat x8 * 2)))
 False)
 False) ∧
 ((Qv (vI x8)) ∧
 ((Qv (Sl 1002 (n6) (n6))) ∧
 ((bcase (decide (0 ≤ x8))
 (bcase (decide (x8 < (↑n5 : Int)))
 (Qv (Pt 1001 (0 + Int.toNat x8 * 1)))
 False)
 False) ∧
 ((Qv (vI x8)) ∧
 ((Qv (Sl 1001 (n5) (n5))) ∧
 True)))))))))))))))))))))))))))))))))) ∧
 (((Says C 26 [(D.val (vI n18)), (D.val (vI n9)), (D.val (vI n10))] [(D.val (Value.bool true))]) ∧
 (bcase (b7)
 (bcase (decide (0 ≤ x8))
 (bcase (decide (x8 < (↑n6 : Int)))
 (∃ n19 : Int,
 ((At (l14) (0 + Int.toNat x8 * 2) 1 [(vI n19)]) ∧
 (bcase (decide (0 ≤ x8))
 (bcase (decide (x8 < (↑n0 : Int)))
 (∃ n20 : Int,
 ((At (l9) (0 + Int.toNat x8 * 2) 1 [(vI n20)]) ∧
 (bcase (decide (n19 < n20))
 (((Qv (Value.bool true)) ∧
 ((Qv (Value.bool true)) ∧
 ((Qv (Value.bool true)) ∧
 ((Qv (Go.Value.tuple [].toArray)) ∧
 ((Qv (Go.Value.tuple [].toArray)) ∧
 ((Qv (Go.Value.tuple [].toArray)) ∧
 ((Qv (Go.Value.tuple [].toArray)) ∧
 ((Qv (Go.Value.tuple [].toArray)) ∧
 ((Qv (Go.Value.tuple [].toArray)) ∧
 ((Qv (Go.Value.tuple [].toArray)) ∧
 ((Qv (Go.Value.tuple [].toArray)) ∧
 ((Qv (Go.Value.tuple [].toArray)) ∧
 ((Qv (Go.Value.tuple [].toArray)) ∧
 ((Qv (Go.Value.tuple [].toArray)) ∧
 ((Qv (Value.bool true)) ∧
 ((bcase (decide (n19 < n20))
 (Qv (Value.bool true))
 ((Value.bool false) = (Value.bool true))) ∧
 ((∃ n21 : Int,
 ((At (l9) (0 + Int.toNat x8 * 2) 1 [(vI n21)]) ∧
 ((vI n21) = (vI n20)))) ∧
 ((Qv (Pt 501 (0 + Int.toNat x8 * 2))) ∧
 ((bcase (decide (0 ≤ x8))
 (bcase (decide (x8 < (↑n0 : Int)))
 (Qv (Pt 501 (0 + Int.toNat x8 * 2)))
 False)
 False) ∧
 ((Qv (vI x8)) ∧
 ((Qv (Sl 501 (n0) (c1))) ∧
 ((∃ n21 : Int,
 ((At (l14) (0 + Int.toNat x8 * 2) 1 [(vI n21)]) ∧
 ((vI n21) = (vI n19)))) ∧
 ((Qv (Pt 1002 (0 + Int.toNat x8 * 2))) ∧
 ((bcase (decide (0 ≤ x8))
 (bcase (decide (x8 < (↑n6 : Int)))
 (Qv (Pt 1002 (0 + Int.toNat x8 * 2)))
 False)
 False) ∧
 ((Qv (vI x8)) ∧
 ((Qv (Sl 1002 (n6) (n6))) ∧
 ((Qv (Value.bool true)) ∧
 ((bcase (b7)
 (Qv (Value.bool true))
 ((Value.bool false) = (Value.bool true))) ∧
 ((Qv (Value.bool false)) ∧
 ((Qv (Value.bool false)) ∧
 ((Qv (Value.bool false)) ∧
 ((Qv (Pt 1006 6)) ∧
 ((Qv (Pt 1006 5)) ∧
 ((Qv (Pt 1006 5)) ∧
 ((Qv (Pt 1006 5)) ∧
 ((Qv (Go.Value.pointer (Option.some (Go.Addr.mk 1002 (Go.Addr.off { block := 1002, off := 0 + Int.toNat x8 * 2 } + 1) Option.none)))) ∧
 ((bcase (decide (0 ≤ x8))
 (bcase (decide (x8 < (↑n6 : Int)))
 (Qv (Pt 1002 (0 + Int.toNat x8 * 2)))
 False)
 False) ∧
 ((Qv (vI x8)) ∧
 ((Qv (Sl 1002 (n6) (n6))) ∧
 ((Qv (Value.bool false)) ∧
 ((Qv (Value.bool false)) ∧
 ((Qv (Pt 1006 6)) ∧
 ((Qv (Pt 1006 5)) ∧
 ((Qv (Pt 1006 5)) ∧
 ((Qv (Pt 1006 5)) ∧
 ((Qv (Pt 1002 (0 + Int.toNat x8 * 2))) ∧
 ((bcase (decide (0 ≤ x8))
 (bcase (decide (x8 < (↑n6 : Int)))
 (Qv (Pt 1002 (0 + Int.toNat x8 * 2)))
 False)
 False) ∧
 ((Qv (vI x8)) ∧
 ((Qv (Sl 1002 (n6) (n6))) ∧
 ((Qv (Value.bool false)) ∧
 ((Qv (Go.Value.pointer (Option.some (Go.Addr.mk 1002 (Go.Addr.off { block := 1002, off := 0 + Int.toNat x8 * 2 } + 1) Option.none)))) ∧
 ((bcase (decide (0 ≤ x8))
 (bcase (decide (x8 < (↑n6 : Int)))
 (Qv (Pt 1002 (0 + Int.toNat x8 * 2)))
 False)
 False) ∧
 ((Qv (vI x8)) ∧
 ((Qv (Sl 1002 (n6) (n6))) ∧
 ((Qv (Pt 1002 (0 + Int.toNat x8 * 2))) ∧
 ((bcase (decide (0 ≤ x8))
 (bcase (decide (x8 < (↑n6 : Int)))
 (Qv (Pt 1002 (0 + Int.toNat x8 * 2)))
 False)
 False) ∧
 ((Qv (vI x8)) ∧
 ((Qv (Sl 1002 (n6) (n6))) ∧
 ((bcase (decide (0 ≤ x8))
 (bcase (decide (x8 < (↑n5 : Int)))
 (Qv (Pt 1001 (0 + Int.toNat x8 * 1)))
 False)
 False) ∧
 ((Qv (vI x8)) ∧
 ((Qv (Sl 1001 (n5) (n5))) ∧
 True))))))))))))))))))))))))))))))))))))))))))))))))))))))))))))) ∧
 (k [(D.val (Value.bool false))]))
 (bcase (decide (0 ≤ x8))
 (bcase (decide (x8 < (↑n6 : Int)))
 (∃ n21 : Int,
 ((At (l14) (Go.Addr.off { block := 1002, off := 0 + Int.toNat x8 * 2 } + 1) 1 [(vI n21)]) ∧
 (bcase (decide (0 ≤ x8))
 (bcase (decide (x8 < (↑n0 : Int)))
 (∃ n22 : Int,
 ((At (l9) (Go.Addr.off { block := 501, off := 0 + Int.toNat x8 * 2 } + 1) 1 [(vI n22)]) ∧
 (bcase (decide (n21 > n22))
 (((Qv (Value.bool true)) ∧
 ((Qv (Value.bool true)) ∧
 ((Qv (Value.bool true)) ∧
 ((bcase (decide (n21 > n22))
 (Qv (Value.bool true))
 ((Value.bool false) = (Value.bool true))) ∧
 ((∃ n23 : Int,
 ((At (l9) (Go.Addr.off { block := 501, off := 0 + Int.toNat x8 * 2 } + 1) 1 [(vI n23)]) ∧
 ((vI n23) = (vI n22)))) ∧
 ((Qv (Go.Value.pointer (Option.some (Go.Addr.mk 501 (Go.Addr.off { block := 501, off := 0 + Int.toNat x8 * 2 } + 1) Option.none)))) ∧
 ((bcase (decide (0 ≤ x8))
 (bcase (decide (x8 < (↑n0 : Int)))
 (Qv (Pt 501 (0 + Int.toNat x8 * 2)))
 False)
 False) ∧
 ((Qv (vI x8)) ∧
 ((Qv (Sl 501 (n0) (c1))) ∧
 ((∃ n23 : Int,
 ((At (l14) (Go.Addr.off { block := 1002, off := 0 + Int.toNat x8 * 2 } + 1) 1 [(vI n23)]) ∧
 ((vI n23) = (vI n21)))) ∧
 ((Qv (Go.Value.pointer (Option.some (Go.Addr.mk 1002 (Go.Addr.off { block := 1002, off := 0 + Int.toNat x8 * 2 } + 1) Option.none)))) ∧
 ((bcase (decide (0 ≤ x8))
 (bcase (decide (x8 < (↑n6 : Int)))
 (Qv (Pt 1002 (0 + Int.toNat x8 * 2)))
 False)
 False) ∧
 ((Qv (vI x8)) ∧
 ((Qv (Sl 1002 (n6) (n6))) ∧
 ((Qv (Value.bool false)) ∧
 ((bcase (decide (n19 < n20))
 ((Value.bool true) = (Value.bool false))
 (Qv (Value.bool false))) ∧
 ((∃ n23 : Int,
 ((At (l9) (0 + Int.toNat x8 * 2) 1 [(vI n23)]) ∧
 ((vI n23) = (vI n20)))) ∧
 ((Qv (Pt 501 (0 + Int.toNat x8 * 2))) ∧
 ((bcase (decide (0 ≤ x8))
 (bcase (decide (x8 < (↑n0 : Int)))
 (Qv (Pt 501 (0 + Int.toNat x8 * 2)))
 False)
 False) ∧
 ((Qv (vI x8)) ∧
 ((Qv (Sl 501 (n0) (c1))) ∧
 ((∃ n23 : Int,
 ((At (l14) (0 + Int.toNat x8 * 2) 1 [(vI n23)]) ∧
 ((vI n23) = (vI n19)))) ∧
 ((Qv (Pt 1002 (0 + Int.toNat x8 * 2))) ∧
 ((bcase (decide (0 ≤ x8))
 (bcase (decide (x8 < (↑n6 : Int)))
 (Qv (Pt 1002 (0 + Int.toNat x8 * 2)))
 False)
 False) ∧
 ((Qv (vI x8)) ∧
 ((Qv (Sl 1002 (n6) (n6))) ∧
 ((Qv (Value.bool true)) ∧
 ((bcase (b7)
 (Qv (Value.bool true))
 ((Value.bool false) = (Value.bool true))) ∧
 ((Qv (Value.bool false)) ∧
 ((Qv (Value.bool false)) ∧
 ((Qv (Value.bool false)) ∧
 ((Qv (Pt 1006 6)) ∧
 ((Qv (Pt 1006 5)) ∧
 ((Qv (Pt 1006 5)) ∧
 ((Qv (Pt 1006 5)) ∧
 ((Qv (Go.Value.pointer (Option.some (Go.Addr.mk 1002 (Go.Addr.off { block := 1002, off := 0 + Int.toNat x8 * 2 } + 1) Option.none)))) ∧
 ((bcase (decide (0 ≤ x8))
 (bcase (decide (x8 < (↑n6 : Int)))
 (Qv (Pt 1002 (0 + Int.toNat x8 * 2)))
 False)
 False) ∧
 ((Qv (vI x8)) ∧
 ((Qv (Sl 1002 (n6) (n6))) ∧
 ((Qv (Value.bool false)) ∧
 ((Qv (Value.bool false)) ∧
 ((Qv (Pt 1006 6)) ∧
 ((Qv (Pt 1006 5)) ∧
 ((Qv (Pt 1006 5)) ∧
 ((Qv (Pt 1006 5)) ∧
 ((Qv (Pt 1002 (0 + Int.toNat x8 * 2))) ∧
 ((bcase (decide (0 ≤ x8))
 (bcase (decide (x8 < (↑n6 : Int)))
 (Qv (Pt 1002 (0 + Int.toNat x8 * 2)))
 False)
 False) ∧
 ((Qv (vI x8)) ∧
 ((Qv (Sl 1002 (n6) (n6))) ∧
 ((Qv (Value.bool false)) ∧
 ((Qv (Go.Value.pointer (Option.some (Go.Addr.mk 1002 (Go.Addr.off { block := 1002, off := 0 + Int.toNat x8 * 2 } + 1) Option.none)))) ∧
 ((bcase (decide (0 ≤ x8))
 (bcase (decide (x8 < (↑n6 : Int)))
 (Qv (Pt 1002 (0 + Int.toNat x8 * 2)))
 False)
 False) ∧
 ((Qv (vI x8)) ∧
 ((Qv (Sl 1002 (n6) (n6))) ∧
 ((Qv (Pt 1002 (0 + Int.toNat x8 * 2))) ∧
 ((bcase (decide (0 ≤ x8))
 (bcase (decide (x8 < (↑n6 : Int)))
 (Qv (Pt 1002 (0 + Int.toNat x8 * 2)))
 False)
 False) ∧
 ((Qv (vI x8)) ∧
 ((Qv (Sl 1002 (n6) (n6))) ∧
 ((bcase (decide (0 ≤ x8))
 (bcase (decide (x8 < (↑n5 : Int)))
 (Qv (Pt 1001 (0 + Int.toNat x8 * 1)))
 False)
 False) ∧
 ((Qv (vI x8)) ∧
 ((Qv (Sl 1001 (n5) (n5))) ∧
 True))))))))))))))))))))))))))))))))))))))))))))))))))))))))))))) ∧
 (k [(D.val (Value.bool false))]))
 (((Qv (Value.bool false)) ∧
 ((Qv (Value.bool false)) ∧
 ((Qv (Value.bool false)) ∧
 ((bcase (decide (n21 > n22))
 ((Value.bool true) = (Value.bool false))
 (Qv (Value.bool false))) ∧
 ((∃ n23 : Int,
 ((At (l9) (Go.Addr.off { block := 501, off := 0 + Int.toNat x8 * 2 } + 1) 1 [(vI n23)]) ∧
 ((vI n23) = (vI n22)))) ∧
 ((Qv (Go.Value.pointer (Option.some (Go.Addr.mk 501 (Go.Addr.off { block := 501, off := 0 + Int.toNat x8 * 2 } + 1) Option.none)))) ∧
 ((bcase (decide (0 ≤ x8))
 (bcase (decide (x8 < (↑n0 : Int)))
 (Qv (Pt 501 (0 + Int.toNat x8 * 2)))
 False)
 False) ∧
 ((Qv (vI x8)) ∧
 ((Qv (Sl 501 (n0) (c1))) ∧
 ((∃ n23 : Int,
 ((At (l14) (Go.Addr.off { block := 1002, off := 0 + Int.toNat x8 * 2 } + 1) 1 [(vI n23)]) ∧
 ((vI n23) = (vI n21)))) ∧
 ((Qv (Go.Value.pointer (Option.some (Go.Addr.mk 1002 (Go.Addr.off { block := 1002, off := 0 + Int.toNat x8 * 2 } + 1) Option.none)))) ∧
 ((bcase (decide (0 ≤ x8))
 (bcase (decide (x8 < (↑n6 : Int)))
 (Qv (Pt 1002 (0 + Int.toNat x8 * 2)))
 False)
 False) ∧
 ((Qv (vI x8)) ∧
 ((Qv (Sl 1002 (n6) (n6))) ∧
 ((Qv (Value.bool false)) ∧
 ((bcase (decide (n19 < n20))
 ((Value.bool true) = (Value.bool false))
 (Qv (Value.bool false))) ∧
 ((∃ n23 : Int,
 ((At (l9) (0 + Int.toNat x8 * 2) 1 [(vI n23)]) ∧
 ((vI n23) = (vI n20)))) ∧
 ((Qv (Pt 501 (0 + Int.toNat x8 * 2))) ∧
 ((bcase (decide (0 ≤ x8))
 (bcase (decide (x8 < (↑n0 : Int)))
 (Qv (Pt 501 (0 + Int.toNat x8 * 2)))
 False)
 False) ∧
 ((Qv (vI x8)) ∧
 ((Qv (Sl 501 (n0) (c1))) ∧
 ((∃ n23 : Int,
 ((At (l14) (0 + Int.toNat x8 * 2) 1 [(vI n23)]) ∧
 ((vI n23) = (vI n19)))) ∧
 ((Qv (Pt 1002 (0 + Int.toNat x8 * 2))) ∧
 ((bcase (decide (0 ≤ x8))
 (bcase (decide (x8 < (↑n6 : Int)))
 (Qv (Pt 1002 (0 + Int.toNat x8 * 2)))
 False)
 False) ∧
 ((Qv (vI x8)) ∧
 ((Qv (Sl 1002 (n6) (n6))) ∧
 ((Qv (Value.bool true)) ∧
 ((bcase (b7)
 (Qv (Value.bool true))
 ((Value.bool false) = (Value.bool true))) ∧
 ((Qv (Value.bool false)) ∧
 ((Qv (Value.bool false)) ∧
 ((Qv (Value.bool false)) ∧
 ((Qv (Pt 1006 6)) ∧
 ((Qv (Pt 1006 5)) ∧
 ((Qv (Pt 1006 5)) ∧
 ((Qv (Pt 1006 5)) ∧
 ((Qv (Go.Value.pointer (Option.some (Go.Addr.mk 1002 (Go.Addr.off { block := 1002, off := 0 + Int.toNat x8 * 2 } + 1) Option.none)))) ∧
 ((bcase (decide (0 ≤ x8))
 (bcase (decide (x8 < (↑n6 : Int)))
 (Qv (Pt 1002 (0 + Int.toNat x8 * 2)))
 False)
 False) ∧
 ((Qv (vI x8)) ∧
 ((Qv (Sl 1002 (n6) (n6))) ∧
 ((Qv (Value.bool false)) ∧
 ((Qv (Value.bool false)) ∧
 ((Qv (Pt 1006 6)) ∧
 ((Qv (Pt 1006 5)) ∧
 ((Qv (Pt 1006 5)) ∧
 ((Qv (Pt 1006 5)) ∧
 ((Qv (Pt 1002 (0 + Int.toNat x8 * 2))) ∧
 ((bcase (decide (0 ≤ x8))
 (bcase (decide (x8 < (↑n6 : Int)))
 (Qv (Pt 1002 (0 + Int.toNat x8 * 2)))
 False)
 False) ∧
 ((Qv (vI x8)) ∧
 ((Qv (Sl 1002 (n6) (n6))) ∧
 ((Qv (Value.bool false)) ∧
 ((Qv (Go.Value.pointer (Option.some (Go.Addr.mk 1002 (Go.Addr.off { block := 1002, off := 0 + Int.toNat x8 * 2 } + 1) Option.none)))) ∧
 ((bcase (decide (0 ≤ x8))
 (bcase (decide (x8 < (↑n6 : Int)))
 (Qv (Pt 1002 (0 + Int.toNat x8 * 2)))
 False)
 False) ∧
 ((Qv (vI x8)) ∧
 ((Qv (Sl 1002 (n6) (n6))) ∧
 ((Qv (Pt 1002 (0 + Int.toNat x8 * 2))) ∧
 ((bcase (decide (0 ≤ x8))
 (bcase (decide (x8 < (↑n6 : Int)))
 (Qv (Pt 1002 (0 + Int.toNat x8 * 2)))
 False)
 False) ∧
 ((Qv (vI x8)) ∧
 ((Qv (Sl 1002 (n6) (n6))) ∧
 ((bcase (decide (0 ≤ x8))
 (bcase (decide (x8 < (↑n5 : Int)))
 (Qv (Pt 1001 (0 + Int.toNat x8 * 1)))
 False)
 False) ∧
 ((Qv (vI x8)) ∧
 ((Qv (Sl 1001 (n5) (n5))) ∧
 True))))))))))))))))))))))))))))))))))))))))))))))))))))))))))))) ∧
 (bcase (decide (0 ≤ x8))
 (bcase (decide (x8 < (↑n6 : Int)))
 (∃ n23 : Int,
 ((At (l14) (0 + Int.toNat x8 * 2) 1 [(vI n23)]) ∧
 (bcase (decide (0 ≤ IntKind.wrap .i64 (x4 + x8)))
 (bcase (decide (IntKind.wrap .i64 (x4 + x8) < (↑n2 : Int)))
 (∃ n24 : Int,
 ((At (l10) (0 + Int.toNat (IntKind.wrap .i64 (x4 + x8)) * 1) 1 [(vI n24)]) ∧
 (bcase (decide (0 ≤ x8))
 (bcase (decide (x8 < (↑n6 : Int)))
 (∃ n25 : Int,
 ((At (l14) (Go.Addr.off { block := 1002, off := 0 + Int.toNat x8 * 2 } + 1) 1 [(vI n25)]) ∧
 (bcase (decide (0 ≤ x8))
 (bcase (decide (x8 < (↑n6 : Int)))
 (∃ n26 : Int,
 ((At (l14) (0 + Int.toNat x8 * 2) 1 [(vI n26)]) ∧
 (((Qv (vI (IntKind.wrap .i64 (IntKind.wrap .i64 (n25 - n26) + 1)))) ∧
 ((Qv (vI (IntKind.wrap .i64 (n25 - n26)))) ∧
 ((∃ n27 : Int,
 ((At (l14) (0 + Int.toNat x8 * 2) 1 [(vI n27)]) ∧
 ((vI n27) = (vI n26)))) ∧
 ((Qv (Pt 1002 (0 + Int.toNat x8 * 2))) ∧
 ((bcase (decide (0 ≤ x8))
 (bcase (decide (x8 < (↑n6 : Int)))
 (Qv (Pt 1002 (0 + Int.toNat x8 * 2)))
 False)
 False) ∧
 ((Qv (vI x8)) ∧
 ((Qv (Sl 1002 (n6) (n6))) ∧
 ((∃ n27 : Int,
 ((At (l14) (Go.Addr.off { block := 1002, off := 0 + Int.toNat x8 * 2 } + 1) 1 [(vI n27)]) ∧
 ((vI n27) = (vI n25)))) ∧
 ((Qv (Go.Value.pointer (Option.some (Go.Addr.mk 1002 (Go.Addr.off { block := 1002, off := 0 + Int.toNat x8 * 2 } + 1) Option.none)))) ∧
 ((bcase (decide (0 ≤ x8))
 (bcase (decide (x8 < (↑n6 : Int)))
 (Qv (Pt 1002 (0 + Int.toNat x8 * 2)))
 False)
 False) ∧
 ((Qv (vI x8)) ∧
 ((Qv (Sl 1002 (n6) (n6))) ∧
 ((∃ n27 : Int,
 ((At (l10) (0 + Int.toNat (IntKind.wrap .i64 (x4 + x8)) * 1) 1 [(vI n27)]) ∧
 ((vI n27) = (vI n24)))) ∧
 ((bcase (decide (0 ≤ IntKind.wrap .i64 (x4 + x8)))
 (bcase (decide (IntKind.wrap .i64 (x4 + x8) < (↑n2 : Int)))
 (Qv (Pt 502 (0 + Int.toNat (IntKind.wrap .i64 (x4 + x8)) * 1)))
 False)
 False) ∧
 ((Qv (vI (IntKind.wrap .i64 (x4 + x8)))) ∧
 ((Qv (vI x8)) ∧
 ((Qv (vI x4)) ∧
 ((Qv (Sl 502 (n2) (c3))) ∧
 ((∃ n27 : Int,
 ((At (l14) (0 + Int.toNat x8 * 2) 1 [(vI n27)]) ∧
 ((vI n27) = (vI n23)))) ∧
 ((Qv (Pt 1002 (0 + Int.toNat x8 * 2))) ∧
 ((bcase (decide (0 ≤ x8))
 (bcase (decide (x8 < (↑n6 : Int)))
 (Qv (Pt 1002 (0 + Int.toNat x8 * 2)))
 False)
 False) ∧
 ((Qv (vI x8)) ∧
 ((Qv (Sl 1002 (n6) (n6))) ∧
 ((Qv (Sl 1004 (n15) (n15))) ∧
 ((Qv (Pt 1003 0)) ∧
 True))))))))))))))))))))))))) ∧
 (∃ n27 : Int,
 ((Says C 25 [(D.val (vI n24)), (D.val (vI (IntKind.wrap .i64 (IntKind.wrap .i64 (n25 - n26) + 1))))] [(D.val (vI n27))]) ∧
 ((((Qv (Sl 1007 1 1)) ∧
 (Qv (Option.some (AObj.cells [(vI (IntKind.wrap .i64 (n23 + n27)))] 3 false 1)))) ∧
 ((Qv (vI (IntKind.wrap .i64 (n23 + n27)))) ∧
 ((Qv (vI (IntKind.wrap .i64 (n25 - n26)))) ∧
 ((∃ n28 : Int,
 ((At (l14) (0 + Int.toNat x8 * 2) 1 [(vI n28)]) ∧
 ((vI n28) = (vI n26)))) ∧
 ((Qv (Pt 1002 (0 + Int.toNat x8 * 2))) ∧
 ((bcase (decide (0 ≤ x8))
 (bcase (decide (x8 < (↑n6 : Int)))
 (Qv (Pt 1002 (0 + Int.toNat x8 * 2)))
 False)
 False) ∧
 ((Qv (vI x8)) ∧
 ((Qv (Sl 1002 (n6) (n6))) ∧
 ((∃ n28 : Int,
 ((At (l14) (Go.Addr.off { block := 1002, off := 0 + Int.toNat x8 * 2 } + 1) 1 [(vI n28)]) ∧
 ((vI n28) = (vI n25)))) ∧
 ((Qv (Go.Value.pointer (Option.some (Go.Addr.mk 1002 (Go.Addr.off { block := 1002, off := 0 + Int.toNat x8 * 2 } + 1) Option.none)))) ∧
 ((bcase (decide (0 ≤ x8))
 (bcase (decide (x8 < (↑n6 : Int)))
 (Qv (Pt 1002 (0 + Int.toNat x8 * 2)))
 False)
 False) ∧
 ((Qv (vI x8)) ∧
 ((Qv (Sl 1002 (n6) (n6))) ∧
 ((bcase (decide (0 ≤ IntKind.wrap .i64 (x4 + x8)))
 (bcase (decide (IntKind.wrap .i64 (x4 + x8) < (↑n2 : Int)))
 (Qv (Pt 502 (0 + Int.toNat (IntKind.wrap .i64 (x4 + x8)) * 1)))
 False)
 False) ∧
 ((Qv (vI (IntKind.wrap .i64 (x4 + x8)))) ∧
 ((Qv (vI x8)) ∧
 ((Qv (vI x4)) ∧
 ((Qv (Sl 502 (n2) (c3))) ∧
 ((∃ n28 : Int,
 ((At (l14) (0 + Int.toNat x8 * 2) 1 [(vI n28)]) ∧
 ((vI n28) = (vI n23)))) ∧
 ((Qv (Pt 1002 (0 + Int.toNat x8 * 2))) ∧
 ((bcase (decide (0 ≤ x8))
 (bcase (decide (x8 < (↑n6 : Int)))
 (Qv (Pt 1002 (0 + Int.toNat x8 * 2)))
 False)
 False) ∧
 ((Qv (vI x8)) ∧
 ((Qv (Sl 1002 (n6) (n6))) ∧
 ((Qv (Sl 1004 (n15) (n15))) ∧
 ((Qv (Pt 1003 0)) ∧
 True))))))))))))))))))))))))) ∧
 (bcase (decide (n15 < n15 + 1))
 (bcase (decide ((2 * (n15 + 1) + 768) * 8 ≤ 281474976710656))
 (bcase (decide (n15 + 1 ≤ 1099511627776))
 (bcase (decide (0 + n15 * 1 ≤ List.length l18))
 (bcase (decide (0 + n15 * 1 = List.length l18))
 (((Qv (Pt 1003 0)) ∧
 ((Qv (vI (IntKind.wrap .i64 (n23 + n27)))) ∧
 ((Qv (vI (IntKind.wrap .i64 (n25 - n26)))) ∧
 ((∃ n28 : Int,
 ((At (l14) (0 + Int.toNat x8 * 2) 1 [(vI n28)]) ∧
 ((vI n28) = (vI n26)))) ∧
 ((Qv (Pt 1002 (0 + Int.toNat x8 * 2))) ∧
 ((bcase (decide (0 ≤ x8))
 (bcase (decide (x8 < (↑n6 : Int)))
 (Qv (Pt 1002 (0 + Int.toNat x8 * 2)))
 False)
 False) ∧
 ((Qv (vI x8)) ∧
 ((Qv (Sl 1002 (n6) (n6))) ∧
 ((∃ n28 : Int,
 ((At (l14) (Go.Addr.off { block := 1002, off := 0 + Int.toNat x8 * 2 } + 1) 1 [(vI n28)]) ∧
 ((vI n28) = (vI n25)))) ∧
 ((Qv (Go.Value.pointer (Option.some (Go.Addr.mk 1002 (Go.Addr.off { block := 1002, off := 0 + Int.toNat x8 * 2 } + 1) Option.none)))) ∧
 ((bcase (decide (0 ≤ x8))
 (bcase (decide (x8 < (↑n6 : Int)))
 (Qv (Pt 1002 (0 + Int.toNat x8 * 2)))
 False)
 False) ∧
 ((Qv (vI x8)) ∧
 ((Qv (Sl 1002 (n6) (n6))) ∧
 ((bcase (decide (0 ≤ IntKind.wrap .i64 (x4 + x8)))
 (bcase (decide (IntKind.wrap .i64 (x4 + x8) < (↑n2 : Int)))
 (Qv (Pt 502 (0 + Int.toNat (IntKind.wrap .i64 (x4 + x8)) * 1)))
 False)
 False) ∧
 ((Qv (vI (IntKind.wrap .i64 (x4 + x8)))) ∧
 ((Qv (vI x8)) ∧
 ((Qv (vI x4)) ∧
 ((Qv (Sl 502 (n2) (c3))) ∧
 ((∃ n28 : Int,
 ((At (l14) (0 + Int.toNat x8 * 2) 1 [(vI n28)]) ∧
 ((vI n28) = (vI n23)))) ∧
 ((Qv (Pt 1002 (0 + Int.toNat x8 * 2))) ∧
 ((bcase (decide (0 ≤ x8))
 (bcase (decide (x8 < (↑n6 : Int)))
 (Qv (Pt 1002 (0 + Int.toNat x8 * 2)))
 False)
 False) ∧
 ((Qv (vI x8)) ∧
 ((Qv (Sl 1002 (n6) (n6))) ∧
 ((Qv (Pt 1003 0)) ∧
 True)))))))))))))))))))))))) ∧
 (True ∧
 (bcase (decide (0 ≤ IntKind.wrap .i64 (IntKind.wrap .i64 (2 * x4) + x8)))
 (bcase (decide (IntKind.wrap .i64 (IntKind.wrap .i64 (2 * x4) + x8) < (↑n2 : Int)))
 (∃ n28 : Int,
 ((At (l10) (0 + Int.toNat (IntKind.wrap .i64 (IntKind.wrap .i64 (2 * x4) + x8)) * 1) 1 [(vI n28)]) ∧
 (((Qv (vI (IntKind.wrap .i64 (IntKind.wrap .i64 (n8 - n7) + 1)))) ∧
 ((Qv (vI (IntKind.wrap .i64 (n8 - n7)))) ∧
 ((Qv (vI n7)) ∧
 ((Qv (Pt 1006 3)) ∧
 ((Qv (Pt 1006 3)) ∧
 ((Qv (vI n8)) ∧
 ((Qv (Pt 1006 4)) ∧
 ((Qv (Pt 1006 3)) ∧
 ((∃ n29 : Int,
 ((At (l10) (0 + Int.toNat (IntKind.wrap .i64 (IntKind.wrap .i64 (2 * x4) + x8)) * 1) 1 [(vI n29)]) ∧
 ((vI n29) = (vI n28)))) ∧
 ((bcase (decide (0 ≤ IntKind.wrap .i64 (IntKind.wrap .i64 (2 * x4) + x8)))
 (bcase (decide (IntKind.wrap .i64 (IntKind.wrap .i64 (2 * x4) + x8) < (↑n2 : Int)))
 (Qv (Pt 502 (0 + Int.toNat (IntKind.wrap .i64 (IntKind.wrap .i64 (2 * x4) + x8)) * 1)))
 False)
 False) ∧
 ((Qv (vI (IntKind.wrap .i64 (IntKind.wrap .i64 (2 * x4) + x8)))) ∧
 ((Qv (vI x8)) ∧
 ((Qv (vI (IntKind.wrap .i64 (2 * x4)))) ∧
 ((Qv (vI x4)) ∧
 ((Qv (Sl 502 (n2) (c3))) ∧
 ((Qv (vI n7)) ∧
 ((Qv (Pt 1006 3)) ∧
 ((Qv (Pt 1006 3)) ∧
 ((Qv (Sl 1005 (n16) (n16))) ∧
 ((Qv (Pt 1003 1)) ∧
 True)))))))))))))))))))) ∧
 (∃ n29 : Int,
 ((Says C 25 [(D.val (vI n28)), (D.val (vI (IntKind.wrap .i64 (IntKind.wrap .i64 (n8 - n7) + 1))))] [(D.val (vI n29))]) ∧
 ((((Qv (Sl 1009 1 1)) ∧
 (Qv (Option.some (AObj.cells [(vI (IntKind.wrap .i64 (n7 + n29)))] 3 false 1)))) ∧
 ((Qv (vI (IntKind.wrap .i64 (n7 + n29)))) ∧
 ((Qv (vI (IntKind.wrap .i64 (n8 - n7)))) ∧
 ((Qv (vI n7)) ∧
 ((Qv (Pt 1006 3)) ∧
 ((Qv (Pt 1006 3)) ∧
 ((Qv (vI n8)) ∧
 ((Qv (Pt 1006 4)) ∧
 ((Qv (Pt 1006 3)) ∧
 ((bcase (decide (0 ≤ IntKind.wrap .i64 (IntKind.wrap .i64 (2 * x4) + x8)))
 (bcase (decide (IntKind.wrap .i64 (IntKind.wrap .i64 (2 * x4) + x8) < (↑n2 : Int)))
 (Qv (Pt 502 (0 + Int.toNat (IntKind.wrap .i64 (IntKind.wrap .i64 (2 * x4) + x8)) * 1)))
 False)
 False) ∧
 ((Qv (vI (IntKind.wrap .i64 (IntKind.wrap .i64 (2 * x4) + x8)))) ∧
 ((Qv (vI x8)) ∧
 ((Qv (vI (IntKind.wrap .i64 (2 * x4)))) ∧
 ((Qv (vI x4)) ∧
 ((Qv (Sl 502 (n2) (c3))) ∧
 ((Qv (vI n7)) ∧
 ((Qv (Pt 1006 3)) ∧
 ((Qv (Pt 1006 3)) ∧
 ((Qv (Sl 1005 (n16) (n16))) ∧
 ((Qv (Pt 1003 1)) ∧
 True)))))))))))))))))))) ∧
 (bcase (decide (n16 < n16 + 1))
 (bcase (decide ((2 * (n16 + 1) + 768) * 8 ≤ 281474976710656))
 (bcase (decide (n16 + 1 ≤ 1099511627776))
 (bcase (decide (0 + n16 * 1 ≤ List.length l19))
 (bcase (decide (0 + n16 * 1 = List.length l19))
 (((Qv (Pt 1003 1)) ∧
 ((Qv (vI (IntKind.wrap .i64 (n7 + n29)))) ∧
 ((Qv (vI (IntKind.wrap .i64 (n8 - n7)))) ∧
 ((Qv (vI n7)) ∧
 ((Qv (Pt 1006 3)) ∧
 ((Qv (Pt 1006 3)) ∧
 ((Qv (vI n8)) ∧
 ((Qv (Pt 1006 4)) ∧
 ((Qv (Pt 1006 3)) ∧
 ((bcase (decide (0 ≤ IntKind.wrap .i64 (IntKind.wrap .i64 (2 * x4) + x8)))
 (bcase (decide (IntKind.wrap .i64 (IntKind.wrap .i64 (2 * x4) + x8) < (↑n2 : Int)))
 (Qv (Pt 502 (0 + Int.toNat (IntKind.wrap .i64 (IntKind.wrap .i64 (2 * x4) + x8)) * 1)))
 False)
 False) ∧
 ((Qv (vI (IntKind.wrap .i64 (IntKind.wrap .i64 (2 * x4) + x8)))) ∧
 ((Qv (vI x8)) ∧
 ((Qv (vI (IntKind.wrap .i64 (2 * x4)))) ∧
 ((Qv (vI x4)) ∧
 ((Qv (Sl 502 (n2) (c3))) ∧
 ((Qv (vI n7)) ∧
 ((Qv (Pt 1006 3)) ∧
 ((Qv (Pt 1006 3)) ∧
 ((Qv (Pt 1003 1)) ∧
 True))))))))))))))))))) ∧
 (True ∧
 (B [(Prod.mk 1 (Sl 501 (n0) (c1))), (Prod.mk 2 (Sl 502 (n2) (c3))), (Prod.mk 3 (Pt 1000 0)), (Prod.mk 7 (vI x4)), (Prod.mk 8 (Sl 1001 (n5) (n5))), (Prod.mk 11 (Sl 1002 (n6) (n6))), (Prod.mk 15 (Go.Value.bool (b7))), (Prod.mk 19 (Pt 1003 0)), (Prod.mk 20 (vI (IntKind.wrap .i64 (x8 + 1))))] [(Prod.mk 501 (AObj.sym (l9) false 2)), (Prod.mk 502 (AObj.sym (l10) false 1)), (Prod.mk 1000 (AObj.cells [(Sl 500 (n11) (c12))] 24 false 1)), (Prod.mk 1001 (AObj.sym (l13) true 1)), (Prod.mk 1002 (AObj.sym (l14) true 2)), (Prod.mk 1003 (AObj.cells [(Sl 1004 (n15 + 1) (n15 + 1)), (Sl 1005 (n16 + 1) (n16 + 1))] 27 false 2)), (Prod.mk 500 (AObj.sym (l17) false 7)), (Prod.mk 1004 (AObj.sym ((List.take (n15 * 1) (List.drop 0 l18)) ++ [(vI (IntKind.wrap .i64 (n23 + n27)))]) true 1)), (Prod.mk 1005 (AObj.sym ((List.take (n16 * 1) (List.drop 0 l19)) ++ [(vI (IntKind.wrap .i64 (n7 + n29)))]) true 1))])))
 False)
 False)
 False)
 False)
 False)))))))
 False)
 False)))
 False)
 False)
 False)
 False)
 False)))))))
 False)
 False)))
 False)
 False)))
 False)
 False)))
 False)
 False)))))
 False)
 False)))
 False)
 False))))
 False)
 False)))
 False)
 False)
 (((Qv (Value.bool false)) ∧
 ((Qv (Value.bool false)) ∧
 ((Qv (Go.Value.tuple [].toArray)) ∧
 ((Qv (Go.Value.tuple [].toArray)) ∧
 ((Qv (Go.Value.tuple [].toArray)) ∧
 ((Qv (Go.Value.tuple [].toArray)) ∧
 ((Qv (Go.Value.tuple [].toArray)) ∧
 ((Qv (Go.Value.tuple [].toArray)) ∧
 ((Qv (Go.Value.tuple [].toArray)) ∧
 ((Qv (Go.Value.tuple [].toArray)) ∧
 ((Qv (Go.Value.tuple [].toArray)) ∧
 ((Qv (Go.Value.tuple [].toArray)) ∧
 ((Qv (Go.Value.tuple [].toArray)) ∧
 ((Qv (Go.Value.tuple [].toArray)) ∧
 ((Qv (Go.Value.tuple [].toArray)) ∧
 ((Qv (Go.Value.tuple [].toArray)) ∧
 ((Qv (Go.Value.tuple [].toArray)) ∧
 ((Qv (Go.Value.tuple [].toArray)) ∧
 ((Qv (Go.Value.tuple [].toArray)) ∧
 ((Qv (Go.Value.tuple [].toArray)) ∧
 ((Qv (Go.Value.tuple [].toArray)) ∧
 ((Qv (Go.Value.tuple [].toArray)) ∧
 ((Qv (Go.Value.tuple [].toArray)) ∧
 ((Qv (Go.Value.tuple [].toArray)) ∧
 ((Qv (Go.Value.tuple [].toArray)) ∧
 ((Qv (Go.Value.tuple [].toArray)) ∧
 ((Qv (Value.bool false)) ∧
 ((bcase (b7)
 ((Value.bool true) = (Value.bool false))
 (Qv (Value.bool false))) ∧
 ((Qv (Value.bool false)) ∧
 ((Qv (Value.bool false)) ∧
 ((Qv (Value.bool false)) ∧
 ((Qv (Pt 1006 6)) ∧
 ((Qv (Pt 1006 5)) ∧
 ((Qv (Pt 1006 5)) ∧
 ((Qv (Pt 1006 5)) ∧
 ((Qv (Go.Value.pointer (Option.some (Go.Addr.mk 1002 (Go.Addr.off { block := 1002, off := 0 + Int.toNat x8 * 2 } + 1) Option.none)))) ∧
 ((bcase (decide (0 ≤ x8))
 (bcase (decide (x8 < (↑n6 : Int)))
 (Qv (Pt 1002 (0 + Int.toNat x8 * 2)))
 False)
 False) ∧
 ((Qv (vI x8)) ∧
 ((Qv (Sl 1002 (n6) (n6))) ∧
 ((Qv (Value.bool false)) ∧
 ((Qv (Value.bool false)) ∧
 ((Qv (Pt 1006 6)) ∧
 ((Qv (Pt 1006 5)) ∧
 ((Qv (Pt 1006 5)) ∧
 ((Qv (Pt 1006 5)) ∧
 ((Qv (Pt 1002 (0 + Int.toNat x8 * 2))) ∧
 ((bcase (decide (0 ≤ x8))
 (bcase (decide (x8 < (↑n6 : Int)))
 (Qv (Pt 1002 (0 + Int.toNat x8 * 2)))
 False)
 False) ∧
 ((Qv (vI x8)) ∧
 ((Qv (Sl 1002 (n6) (n6))) ∧
 ((Qv (Value.bool false)) ∧
 ((Qv (Go.Value.pointer (Option.some (Go.Addr.mk 1002 (Go.Addr.off { block := 1002, off := 0 + Int.toNat x8 * 2 } + 1) Option.none)))) ∧
 ((bcase (decide (0 ≤ x8))
 (bcase (decide (x8 < (↑n6 : Int)))
 (Qv (Pt 1002 (0 + Int.toNat x8 * 2)))
 False)
 False) ∧
 ((Qv (vI x8)) ∧
 ((Qv (Sl 1002 (n6) (n6))) ∧
 ((Qv (Pt 1002 (0 + Int.toNat x8 * 2))) ∧
 ((bcase (decide (0 ≤ x8))
 (bcase (decide (x8 < (↑n6 : Int)))
 (Qv (Pt 1002 (0 + Int.toNat x8 * 2)))
 False)
 False) ∧
 ((Qv (vI x8)) ∧
 ((Qv (Sl 1002 (n6) (n6))) ∧
 ((bcase (decide (0 ≤ x8))
 (bcase (decide (x8 < (↑n5 : Int)))
 (Qv (Pt 1001 (0 + Int.toNat x8 * 1)))
 False)
 False) ∧
 ((Qv (vI x8)) ∧
 ((Qv (Sl 1001 (n5) (n5))) ∧
 True))))))))))))))))))))))))))))))))))))))))))))))))))))))))))))) ∧
 (bcase (decide (0 ≤ x8))
 (bcase (decide (x8 < (↑n6 : Int)))
 (∃ n19 : Int,
 ((At (l14) (0 + Int.toNat x8 * 2) 1 [(vI n19)]) ∧
 (bcase (decide (0 ≤ IntKind.wrap .i64 (x4 + x8)))
 (bcase (decide (IntKind.wrap .i64 (x4 + x8) < (↑n2 : Int)))
 (∃ n20 : Int,
 ((At (l10) (0 + Int.toNat (IntKind.wrap .i64 (x4 + x8)) * 1) 1 [(vI n20)]) ∧
 (bcase (decide (0 ≤ x8))
 (bcase (decide (x8 < (↑n6 : Int)))
 (∃ n21 : Int,
 ((At (l14) (Go.Addr.off { block := 1002, off := 0 + Int.toNat x8 * 2 } + 1) 1 [(vI n21)]) ∧
 (bcase (decide (0 ≤ x8))
 (bcase (decide (x8 < (↑n6 : Int)))
 (∃ n22 : Int,
 ((At (l14) (0 + Int.toNat x8 * 2) 1 [(vI n22)]) ∧
 (((Qv (vI (IntKind.wrap .i64 (IntKind.wrap .i64 (n21 - n22) + 1)))) ∧
 ((Qv (vI (IntKind.wrap .i64 (n21 - n22)))) ∧
 ((∃ n23 : Int,
 ((At (l14) (0 + Int.toNat x8 * 2) 1 [(vI n23)]) ∧
 ((vI n23) = (vI n22)))) ∧
 ((Qv (Pt 1002 (0 + Int.toNat x8 * 2))) ∧
 ((bcase (decide (0 ≤ x8))
 (bcase (decide (x8 < (↑n6 : Int)))
 (Qv (Pt 1002 (0 + Int.toNat x8 * 2)))
 False)
 False) ∧
 ((Qv (vI x8)) ∧
 ((Qv (Sl 1002 (n6) (n6))) ∧
 ((∃ n23 : Int,
 ((At (l14) (Go.Addr.off { block := 1002, off := 0 + Int.toNat x8 * 2 } + 1) 1 [(vI n23)]) ∧
 ((vI n23) = (vI n21)))) ∧
 ((Qv (Go.Value.pointer (Option.some (Go.Addr.mk 1002 (Go.Addr.off { block := 1002, off := 0 + Int.toNat x8 * 2 } + 1) Option.none)))) ∧
 ((bcase (decide (0 ≤ x8))
 (bcase (decide (x8 < (↑n6 : Int)))
 (Qv (Pt 1002 (0 + Int.toNat x8 * 2)))
 False)
 False) ∧
 ((Qv (vI x8)) ∧
 ((Qv (Sl 1002 (n6) (n6))) ∧
 ((∃ n23 : Int,
 ((At (l10) (0 + Int.toNat (IntKind.wrap .i64 (x4 + x8)) * 1) 1 [(vI n23)]) ∧
 ((vI n23) = (vI n20)))) ∧
 ((bcase (decide (0 ≤ IntKind.wrap .i64 (x4 + x8)))
 (bcase (decide (IntKind.wrap .i64 (x4 + x8) < (↑n2 : Int)))
 (Qv (Pt 502 (0 + Int.toNat (IntKind.wrap .i64 (x4 + x8)) * 1)))
 False)
 False) ∧
 ((Qv (vI (IntKind.wrap .i64 (x4 + x8)))) ∧
 ((Qv (vI x8)) ∧
 ((Qv (vI x4)) ∧
 ((Qv (Sl 502 (n2) (c3))) ∧
 ((∃ n23 : Int,
 ((At (l14) (0 + Int.toNat x8 * 2) 1 [(vI n23)]) ∧
 ((vI n23) = (vI n19)))) ∧
 ((Qv (Pt 1002 (0 + Int.toNat x8 * 2))) ∧
 ((bcase (decide (0 ≤ x8))
 (bcase (decide (x8 < (↑n6 : Int)))
 (Qv (Pt 1002 (0 + Int.toNat x8 * 2)))
 False)
 False) ∧
 ((Qv (vI x8)) ∧
 ((Qv (Sl 1002 (n6) (n6))) ∧
 ((Qv (Sl 1004 (n15) (n15))) ∧
 ((Qv (Pt 1003 0)) ∧
 True))))))))))))))))))))))))) ∧
 (∃ n23 : Int,
 ((Says C 25 [(D.val (vI n20)), (D.val (vI (IntKind.wrap .i64 (IntKind.wrap .i64 (n21 - n22) + 1))))] [(D.val (vI n23))]) ∧
 ((((Qv (Sl 1007 1 1)) ∧
 (Qv (Option.some (AObj.cells [(vI (IntKind.wrap .i64 (n19 + n23)))] 3 false 1)))) ∧
 ((Qv (vI (IntKind.wrap .i64 (n19 + n23)))) ∧
 ((Qv (vI (IntKind.wrap .i64 (n21 - n22)))) ∧
 ((∃ n24 : Int,
 ((At (l14) (0 + Int.toNat x8 * 2) 1 [(vI n24)]) ∧
 ((vI n24) = (vI n22)))) ∧
 ((Qv (Pt 1002 (0 + Int.toNat x8 * 2))) ∧
 ((bcase (decide (0 ≤ x8))
 (bcase (decide (x8 < (↑n6 : Int)))
 (Qv (Pt 1002 (0 + Int.toNat x8 * 2)))
 False)
 False) ∧
 ((Qv (vI x8)) ∧
 ((Qv (Sl 1002 (n6) (n6))) ∧
 ((∃ n24 : Int,
 ((At (l14) (Go.Addr.off { block := 1002, off := 0 + Int.toNat x8 * 2 } + 1) 1 [(vI n24)]) ∧
 ((vI n24) = (vI n21)))) ∧
 ((Qv (Go.Value.pointer (Option.some (Go.Addr.mk 1002 (Go.Addr.off { block := 1002, off := 0 + Int.toNat x8 * 2 } + 1) Option.none)))) ∧
 ((bcase (decide (0 ≤ x8))
 (bcase (decide (x8 < (↑n6 : Int)))
 (Qv (Pt 1002 (0 + Int.toNat x8 * 2)))
 False)
 False) ∧
 ((Qv (vI x8)) ∧
 ((Qv (Sl 1002 (n6) (n6))) ∧
 ((bcase (decide (0 ≤ IntKind.wrap .i64 (x4 + x8)))
 (bcase (decide (IntKind.wrap .i64 (x4 + x8) < (↑n2 : Int)))
 (Qv (Pt 502 (0 + Int.toNat (IntKind.wrap .i64 (x4 + x8)) * 1)))
 False)
 False) ∧
 ((Qv (vI (IntKind.wrap .i64 (x4 + x8)))) ∧
 ((Qv (vI x8)) ∧
 ((Qv (vI x4)) ∧
 ((Qv (Sl 502 (n2) (c3))) ∧
 ((∃ n24 : Int,
 ((At (l14) (0 + Int.toNat x8 * 2) 1 [(vI n24)]) ∧
 ((vI n24) = (vI n19)))) ∧
 ((Qv (Pt 1002 (0 + Int.toNat x8 * 2))) ∧
 ((bcase (decide (0 ≤ x8))
 (bcase (decide (x8 < (↑n6 : Int)))
 (Qv (Pt 1002 (0 + Int.toNat x8 * 2)))
 False)
 False) ∧
 ((Qv (vI x8)) ∧
 ((Qv (Sl 1002 (n6) (n6))) ∧
 ((Qv (Sl 1004 (n15) (n15))) ∧
 ((Qv (Pt 1003 0)) ∧
 True))))))))))))))))))))))))) ∧
 (bcase (decide (n15 < n15 + 1))
 (bcase (decide ((2 * (n15 + 1) + 768) * 8 ≤ 281474976710656))
 (bcase (decide (n15 + 1 ≤ 1099511627776))
 (bcase (decide (0 + n15 * 1 ≤ List.length l18))
 (bcase (decide (0 + n15 * 1 = List.length l18))
 (((Qv (Pt 1003 0)) ∧
 ((Qv (vI (IntKind.wrap .i64 (n19 + n23)))) ∧
 ((Qv (vI (IntKind.wrap .i64 (n21 - n22)))) ∧
 ((∃ n24 : Int,
 ((At (l14) (0 + Int.toNat x8 * 2) 1 [(vI n24)]) ∧
 ((vI n24) = (vI n22)))) ∧
 ((Qv (Pt 1002 (0 + Int.toNat x8 * 2))) ∧
 ((bcase (decide (0 ≤ x8))
 (bcase (decide (x8 < (↑n6 : Int)))
 (Qv (Pt 1002 (0 + Int.toNat x8 * 2)))
 False)
 False) ∧
 ((Qv (vI x8)) ∧
 ((Qv (Sl 1002 (n6) (n6))) ∧
 ((∃ n24 : Int,
 ((At (l14) (Go.Addr.off { block := 1002, off := 0 + Int.toNat x8 * 2 } + 1) 1 [(vI n24)]) ∧
 ((vI n24) = (vI n21)))) ∧
 ((Qv (Go.Value.pointer (Option.some (Go.Addr.mk 1002 (Go.Addr.off { block := 1002, off := 0 + Int.toNat x8 * 2 } + 1) Option.none)))) ∧
 ((bcase (decide (0 ≤ x8))
 (bcase (decide (x8 < (↑n6 : Int)))
 (Qv (Pt 1002 (0 + Int.toNat x8 * 2)))
 False)
 False) ∧
 ((Qv (vI x8)) ∧
 ((Qv (Sl 1002 (n6) (n6))) ∧
 ((bcase (decide (0 ≤ IntKind.wrap .i64 (x4 + x8)))
 (bcase (decide (IntKind.wrap .i64 (x4 + x8) < (↑n2 : Int)))
 (Qv (Pt 502 (0 + Int.toNat (IntKind.wrap .i64 (x4 + x8)) * 1)))
 False)
 False) ∧
 ((Qv (vI (IntKind.wrap .i64 (x4 + x8)))) ∧
 ((Qv (vI x8)) ∧
 ((Qv (vI x4)) ∧
 ((Qv (Sl 502 (n2) (c3))) ∧
 ((∃ n24 : Int,
 ((At (l14) (0 + Int.toNat x8 * 2) 1 [(vI n24)]) ∧
 ((vI n24) = (vI n19)))) ∧
 ((Qv (Pt 1002 (0 + Int.toNat x8 * 2))) ∧
 ((bcase (decide (0 ≤ x8))
 (bcase (decide (x8 < (↑n6 : Int)))
 (Qv (Pt 1002 (0 + Int.toNat x8 * 2)))
 False)
 False) ∧
 ((Qv (vI x8)) ∧
 ((Qv (Sl 1002 (n6) (n6))) ∧
 ((Qv (Pt 1003 0)) ∧
 True)))))))))))))))))))))))) ∧
 (True ∧
 (bcase (decide (0 ≤ IntKind.wrap .i64 (IntKind.wrap .i64 (2 * x4) + x8)))
 (bcase (decide (IntKind.wrap .i64 (IntKind.wrap .i64 (2 * x4) + x8) < (↑n2 : Int)))
 (∃ n24 : Int,
 ((At (l10) (0 + Int.toNat (IntKind.wrap .i64 (IntKind.wrap .i64 (2 * x4) + x8)) * 1) 1 [(vI n24)]) ∧
 (((Qv (vI (IntKind.wrap .i64 (IntKind.wrap .i64 (n8 - n7) + 1)))) ∧
 ((Qv (vI (IntKind.wrap .i64 (n8 - n7)))) ∧
 ((Qv (vI n7)) ∧
 ((Qv (Pt 1006 3)) ∧
 ((Qv (Pt 1006 3)) ∧
 ((Qv (vI n8)) ∧
 ((Qv (Pt 1006 4)) ∧
 ((Qv (Pt 1006 3)) ∧
 ((∃ n25 : Int,
 ((At (l10) (0 + Int.toNat (IntKind.wrap .i64 (IntKind.wrap .i64 (2 * x4) + x8)) * 1) 1 [(vI n25)]) ∧
 ((vI n25) = (vI n24)))) ∧
 ((bcase (decide (0 ≤ IntKind.wrap .i64 (IntKind.wrap .i64 (2 * x4) + x8)))
 (bcase (decide (IntKind.wrap .i64 (IntKind.wrap .i64 (2 * x4) + x8) < (↑n2 : Int)))
 (Qv (Pt 502 (0 + Int.toNat (IntKind.wrap .i64 (IntKind.wrap .i64 (2 * x4) + x8)) * 1)))
 False)
 False) ∧
 ((Qv (vI (IntKind.wrap .i64 (IntKind.wrap .i64 (2 * x4) + x8)))) ∧
 ((Qv (vI x8)) ∧
 ((Qv (vI (IntKind.wrap .i64 (2 * x4)))) ∧
 ((Qv (vI x4)) ∧
 ((Qv (Sl 502 (n2) (c3))) ∧
 ((Qv (vI n7)) ∧
 ((Qv (Pt 1006 3)) ∧
 ((Qv (Pt 1006 3)) ∧
 ((Qv (Sl 1005 (n16) (n16))) ∧
 ((Qv (Pt 1003 1)) ∧
 True)))))))))))))))))))) ∧
 (∃ n25 : Int,
 ((Says C 25 [(D.val (vI n24)), (D.val (vI (IntKind.wrap .i64 (IntKind.wrap .i64 (n8 - n7) + 1))))] [(D.val (vI n25))]) ∧
 ((((Qv (Sl 1009 1 1)) ∧
 (Qv (Option.some (AObj.cells [(vI (IntKind.wrap .i64 (n7 + n25)))] 3 false 1)))) ∧
 ((Qv (vI (IntKind.wrap .i64 (n7 + n25)))) ∧
 ((Qv (vI (IntKind.wrap .i64 (n8 - n7)))) ∧
 ((Qv (vI n7)) ∧
 ((Qv (Pt 1006 3)) ∧
 ((Qv (Pt 1006 3)) ∧
 ((Qv (vI n8)) ∧
 ((Qv (Pt 1006 4)) ∧
 ((Qv (Pt 1006 3)) ∧
 ((bcase (decide (0 ≤ IntKind.wrap .i64 (IntKind.wrap .i64 (2 * x4) + x8)))
 (bcase (decide (IntKind.wrap .i64 (IntKind.wrap .i64 (2 * x4) + x8) < (↑n2 : Int)))
 (Qv (Pt 502 (0 + Int.toNat (IntKind.wrap .i64 (IntKind.wrap .i64 (2 * x4) + x8)) * 1)))
 False)
 False) ∧
 ((Qv (vI (IntKind.wrap .i64 (IntKind.wrap .i64 (2 * x4) + x8)))) ∧
 ((Qv (vI x8)) ∧
 ((Qv (vI (IntKind.wrap .i64 (2 * x4)))) ∧
 ((Qv (vI x4)) ∧
 ((Qv (Sl 502 (n2) (c3))) ∧
 ((Qv (vI n7)) ∧
 ((Qv (Pt 1006 3)) ∧
 ((Qv (Pt 1006 3)) ∧
 ((Qv (Sl 1005 (n16) (n16))) ∧
 ((Qv (Pt 1003 1)) ∧
 True)))))))))))))))))))) ∧
 (bcase (decide (n16 < n16 + 1))
 (bcase (decide ((2 * (n16 + 1) + 768) * 8 ≤ 281474976710656))
 (bcase (decide (n16 + 1 ≤ 1099511627776))
 (bcase (decide (0 + n16 * 1 ≤ List.length l19))
 (bcase (decide (0 + n16 * 1 = List.length l19))
 (((Qv (Pt 1003 1)) ∧
 ((Qv (vI (IntKind.wrap .i64 (n7 + n25)))) ∧
 ((Qv (vI (IntKind.wrap .i64 (n8 - n7)))) ∧
 ((Qv (vI n7)) ∧
 ((Qv (Pt 1006 3)) ∧
 ((Qv (Pt 1006 3)) ∧
 ((Qv (vI n8)) ∧
 ((Qv (Pt 1006 4)) ∧
 ((Qv (Pt 1006 3)) ∧
 ((bcase (decide (0 ≤ IntKind.wrap .i64 (IntKind.wrap .i64 (2 * x4) + x8)))
 (bcase (decide (IntKind.wrap .i64 (IntKind.wrap .i64 (2 * x4) + x8) < (↑n2 : Int)))
 (Qv (Pt 502 (0 + Int.toNat (IntKind.wrap .i64 (IntKind.wrap .i64 (2 * x4) + x8)) * 1)))
 False)
 False) ∧
 ((Qv (vI (IntKind.wrap .i64 (IntKind.wrap .i64 (2 * x4) + x8)))) ∧
 ((Qv (vI x8)) ∧
 ((Qv (vI (IntKind.wrap .i64 (2 * x4)))) ∧
 ((Qv (vI x4)) ∧
 ((Qv (Sl 502 (n2) (c3))) ∧
 ((Qv (vI n7)) ∧
 ((Qv (Pt 1006 3)) ∧
 ((Qv (Pt 1006 3)) ∧
 ((Qv (Pt 1003 1)) ∧
 True))))))))))))))))))) ∧
 (True ∧
 (B [(Prod.mk 1 (Sl 501 (n0) (c1))), (Prod.mk 2 (Sl 502 (n2) (c3))), (Prod.mk 3 (Pt 1000 0)), (Prod.mk 7 (vI x4)), (Prod.mk 8 (Sl 1001 (n5) (n5))), (Prod.mk 11 (Sl 1002 (n6) (n6))), (Prod.mk 15 (Go.Value.bool (b7))), (Prod.mk 19 (Pt 1003 0)), (Prod.mk 20 (vI (IntKind.wrap .i64 (x8 + 1))))] [(Prod.mk 501 (AObj.sym (l9) false 2)), (Prod.mk 502 (AObj.sym (l10) false 1)), (Prod.mk 1000 (AObj.cells [(Sl 500 (n11) (c12))] 24 false 1)), (Prod.mk 1001 (AObj.sym (l13) true 1)), (Prod.mk 1002 (AObj.sym (l14) true 2)), (Prod.mk 1003 (AObj.cells [(Sl 1004 (n15 + 1) (n15 + 1)), (Sl 1005 (n16 + 1) (n16 + 1))] 27 false 2)), (Prod.mk 500 (AObj.sym (l17) false 7)), (Prod.mk 1004 (AObj.sym ((List.take (n15 * 1) (List.drop 0 l18)) ++ [(vI (IntKind.wrap .i64 (n19 + n23)))]) true 1)), (Prod.mk 1005 (AObj.sym ((List.take (n16 * 1) (List.drop 0 l19)) ++ [(vI (IntKind.wrap .i64 (n7 + n25)))]) true 1))])))
 False)
 False)
 False)
 False)
 False)))))))
 False)
 False)))
 False)
 False)
 False)
 False)
 False)))))))
 False)
 False)))
 False)
 False)))
 False)
 False)))
 False)
 False)))) ∨
 ((Says C 26 [(D.val (vI n18)), (D.val (vI n9)), (D.val (vI n10))] [(D.val (Value.bool false))]) ∧
 (((Qv (Value.bool true)) ∧
 ((Qv (Go.Value.tuple [].toArray)) ∧
 ((Qv (Go.Value.tuple [].toArray)) ∧
 ((Qv (Go.Value.tuple [].toArray)) ∧
 ((Qv (Go.Value.tuple [].toArray)) ∧
 ((Qv (Go.Value.tuple [].toArray)) ∧
 ((Qv (Go.Value.tuple [].toArray)) ∧
 ((Qv (Go.Value.tuple [].toArray)) ∧
 ((Qv (Go.Value.tuple [].toArray)) ∧
 ((Qv (Go.Value.tuple [].toArray)) ∧
 ((Qv (Go.Value.tuple [].toArray)) ∧
 ((Qv (Go.Value.tuple [].toArray)) ∧
 ((Qv (Go.Value.tuple [].toArray)) ∧
 ((Qv (Go.Value.tuple [].toArray)) ∧
 ((Qv (Go.Value.tuple [].toArray)) ∧
 ((Qv (Go.Value.tuple [].toArray)) ∧
 ((Qv (Go.Value.tuple [].toArray)) ∧
 ((Qv (Go.Value.tuple [].toArray)) ∧
 ((Qv (Go.Value.tuple [].toArray)) ∧
 ((Qv (Go.Value.tuple [].toArray)) ∧
 ((Qv (Go.Value.tuple [].toArray)) ∧
 ((Qv (Go.Value.tuple [].toArray)) ∧
 ((Qv (Go.Value.tuple [].toArray)) ∧
 ((Qv (Go.Value.tuple [].toArray)) ∧
 ((Qv (Go.Value.tuple [].toArray)) ∧
 ((Qv (Go.Value.tuple [].toArray)) ∧
 ((Qv (Go.Value.tuple [].toArray)) ∧
 ((Qv (Go.Value.tuple [].toArray)) ∧
 ((Qv (Value.bool true)) ∧
 ((Qv (Value.bool true)) ∧
 ((Qv (Value.bool true)) ∧
 ((Qv (Pt 1006 6)) ∧
 ((Qv (Pt 1006 5)) ∧
 ((Qv (Pt 1006 5)) ∧
 ((Qv (Pt 1006 5)) ∧
 ((Qv (Go.Value.pointer (Option.some (Go.Addr.mk 1002 (Go.Addr.off { block := 1002, off := 0 + Int.toNat x8 * 2 } + 1) Option.none)))) ∧
 ((bcase (decide (0 ≤ x8))
 (bcase (decide (x8 < (↑n6 : Int)))
 (Qv (Pt 1002 (0 + Int.toNat x8 * 2)))
 False)
 False) ∧
 ((Qv (vI x8)) ∧
 ((Qv (Sl 1002 (n6) (n6))) ∧
 ((Qv (Value.bool false)) ∧
 ((Qv (Value.bool false)) ∧
 ((Qv (Pt 1006 6)) ∧
 ((Qv (Pt 1006 5)) ∧
 ((Qv (Pt 1006 5)) ∧
 ((Qv (Pt 1006 5)) ∧
 ((Qv (Pt 1002 (0 + Int.toNat x8 * 2))) ∧
 ((bcase (decide (0 ≤ x8))
 (bcase (decide (x8 < (↑n6 : Int)))
 (Qv (Pt 1002 (0 + Int.toNat x8 * 2)))
 False)
 False) ∧
 ((Qv (vI x8)) ∧
 ((Qv (Sl 1002 (n6) (n6))) ∧
 ((Qv (Value.bool false)) ∧
 ((Qv (Go.Value.pointer (Option.some (Go.Addr.mk 1002 (Go.Addr.off { block := 1002, off := 0 + Int.toNat x8 * 2 } + 1) Option.none)))) ∧
 ((bcase (decide (0 ≤ x8))
 (bcase (decide (x8 < (↑n6 : Int)))
 (Qv (Pt 1002 (0 + Int.toNat x8 * 2)))
 False)
 False) ∧
 ((Qv (vI x8)) ∧
 ((Qv (Sl 1002 (n6) (n6))) ∧
 ((Qv (Pt 1002 (0 + Int.toNat x8 * 2))) ∧
 ((bcase (decide (0 ≤ x8))
 (bcase (decide (x8 < (↑n6 : Int)))
 (Qv (Pt 1002 (0 + Int.toNat x8 * 2)))
 False)
 False) ∧
 ((Qv (vI x8)) ∧
 ((Qv (Sl 1002 (n6) (n6))) ∧
 ((bcase (decide (0 ≤ x8))
 (bcase (decide (x8 < (↑n5 : Int)))
 (Qv (Pt 1001 (0 + Int.toNat x8 * 1)))
 False)
 False) ∧
 ((Qv (vI x8)) ∧
 ((Qv (Sl 1001 (n5) (n5))) ∧
 True))))))))))))))))))))))))))))))))))))))))))))))))))))))))))))) ∧
 (k [(D.val (Value.bool false))])))))))
 False)
 False)) ∨
 ((Says C 26 [(D.val (vI n17)), (D.val (vI n9)), (D.val (vI n10))] [(D.val (Value.bool false))]) ∧
 (((Qv (Go.Value.tuple [].toArray)) ∧
 ((Qv (Go.Value.tuple [].toArray)) ∧
 ((Qv (Go.Value.tuple [].toArray)) ∧
 ((Qv (Go.Value.tuple [].toArray)) ∧
 ((Qv (Go.Value.tuple [].toArray)) ∧
 ((Qv (Go.Value.tuple [].toArray)) ∧
 ((Qv (Go.Value.tuple [].toArray)) ∧
 ((Qv (Go.Value.tuple [].toArray)) ∧
 ((Qv (Go.Value.tuple [].toArray)) ∧
 ((Qv (Go.Value.tuple [].toArray)) ∧
 ((Qv (Go.Value.tuple [].toArray)) ∧
 ((Qv (Value.bool true)) ∧
 ((Qv (Value.bool true)) ∧
 ((Qv (Value.bool true)) ∧
 ((Qv (Pt 1006 6)) ∧
 ((Qv (Pt 1006 5)) ∧
 ((Qv (Pt 1006 5)) ∧
 ((Qv (Pt 1006 5)) ∧
 ((Qv (Pt 1002 (0 + Int.toNat x8 * 2))) ∧
 ((bcase (decide (0 ≤ x8))
 (bcase (decide (x8 < (↑n6 : Int)))
 (Qv (Pt 1002 (0 + Int.toNat x8 * 2)))
 False)
 False) ∧
 ((Qv (vI x8)) ∧
 ((Qv (Sl 1002 (n6) (n6))) ∧
 ((Qv (Value.bool false)) ∧
 ((Qv (Go.Value.pointer (Option.some (Go.Addr.mk 1002 (Go.Addr.off { block := 1002, off := 0 + Int.toNat x8 * 2 } + 1) Option.none)))) ∧
 ((bcase (decide (0 ≤ x8))
 (bcase (decide (x8 < (↑n6 : Int)))
 (Qv (Pt 1002 (0 + Int.toNat x8 * 2)))
 False)
 False) ∧
 ((Qv (vI x8)) ∧
 ((Qv (Sl 1002 (n6) (n6))) ∧
 ((Qv (Pt 1002 (0 + Int.toNat x8 * 2))) ∧
 ((bcase (decide (0 ≤ x8))
 (bcase (decide (x8 < (↑n6 : Int)))
 (Qv (Pt 1002 (0 + Int.toNat x8 * 2)))
 False)
 False) ∧
 ((Qv (vI x8)) ∧
 ((Qv (Sl 1002 (n6) (n6))) ∧
 ((bcase (decide (0 ≤ x8))
 (bcase (decide (x8 < (↑n5 : Int)))
 (Qv (Pt 1001 (0 + Int.toNat x8 * 1)))
 False)
 False) ∧
 ((Qv (vI x8)) ∧
 ((Qv (Sl 1001 (n5) (n5))) ∧
 True)))))))))))))))))))))))))))))))))) ∧
 (((Qv (Value.bool true)) ∧
 ((Qv (Go.Value.tuple [].toArray)) ∧
 ((Qv (Go.Value.tuple [].toArray)) ∧
 ((Qv (Go.Value.tuple [].toArray)) ∧
 ((Qv (Go.Value.tuple [].toArray)) ∧
 ((Qv (Go.Value.tuple [].toArray)) ∧
 ((Qv (Go.Value.tuple [].toArray)) ∧
 ((Qv (Go.Value.tuple [].toArray)) ∧
 ((Qv (Go.Value.tuple [].toArray)) ∧
 ((Qv (Go.Value.tuple [].toArray)) ∧
 ((Qv (Go.Value.tuple [].toArray)) ∧
 ((Qv (Go.Value.tuple [].toArray)) ∧
 ((Qv (Go.Value.tuple [].toArray)) ∧
 ((Qv (Go.Value.tuple [].toArray)) ∧
 ((Qv (Go.Value.tuple [].toArray)) ∧
 ((Qv (Go.Value.tuple [].toArray)) ∧
 ((Qv (Go.Value.tuple [].toArray)) ∧
 ((Qv (Go.Value.tuple [].toArray)) ∧
 ((Qv (Go.Value.tuple [].toArray)) ∧
 ((Qv (Go.Value.tuple [].toArray)) ∧
 ((Qv (Go.Value.tuple [].toArray)) ∧
 ((Qv (Go.Value.tuple [].toArray)) ∧
 ((Qv (Go.Value.tuple [].toArray)) ∧
 ((Qv (Go.Value.tuple [].toArray)) ∧
 ((Qv (Go.Value.tuple [].toArray)) ∧
 ((Qv (Go.Value.tuple [].toArray)) ∧
 ((Qv (Go.Value.tuple [].toArray)) ∧
 ((Qv (Go.Value.tuple [].toArray)) ∧
 ((Qv (Value.bool true)) ∧
 ((Qv (Value.bool true)) ∧
 ((Qv (Go.Value.tuple [].toArray)) ∧
 ((Qv (Go.Value.tuple [].toArray)) ∧
 ((Qv (Go.Value.tuple [].toArray)) ∧
 ((Qv (Go.Value.tuple [].toArray)) ∧
 ((Qv (Go.Value.tuple [].toArray)) ∧
 ((Qv (Go.Value.tuple [].toArray)) ∧
 ((Qv (Go.Value.tuple [].toArray)) ∧
 ((Qv (Go.Value.tuple [].toArray)) ∧
 ((Qv (Go.Value.tuple [].toArray)) ∧
 ((Qv (Value.bool true)) ∧
 ((Qv (Value.bool true)) ∧
 ((Qv (Pt 1006 6)) ∧
 ((Qv (Pt 1006 5)) ∧
 ((Qv (Pt 1006 5)) ∧
 ((Qv (Pt 1006 5)) ∧
 ((Qv (Pt 1002 (0 + Int.toNat x8 * 2))) ∧
 ((bcase (decide (0 ≤ x8))
 (bcase (decide (x8 < (↑n6 : Int)))
 (Qv (Pt 1002 (0 + Int.toNat x8 * 2)))
 False)
 False) ∧
 ((Qv (vI x8)) ∧
 ((Qv (Sl 1002 (n6) (n6))) ∧
 ((Qv (Value.bool false)) ∧
 ((Qv (Go.Value.pointer (Option.some (Go.Addr.mk 1002 (Go.Addr.off { block := 1002, off := 0 + Int.toNat x8 * 2 } + 1) Option.none)))) ∧
 ((bcase (decide (0 ≤ x8))
 (bcase (decide (x8 < (↑n6 : Int)))
 (Qv (Pt 1002 (0 + Int.toNat x8 * 2)))
 False)
 False) ∧
 ((Qv (vI x8)) ∧
 ((Qv (Sl 1002 (n6) (n6))) ∧
 ((Qv (Pt 1002 (0 + Int.toNat x8 * 2))) ∧
 ((bcase (decide (0 ≤ x8))
 (bcase (decide (x8 < (↑n6 : Int)))
 (Qv (Pt 1002 (0 + Int.toNat x8 * 2)))
 False)
 False) ∧
 ((Qv (vI x8)) ∧
 ((Qv (Sl 1002 (n6) (n6))) ∧
 ((bcase (decide (0 ≤ x8))
 (bcase (decide (x8 < (↑n5 : Int)))
 (Qv (Pt 1001 (0 + Int.toNat x8 * 1)))
 False)
 False) ∧
 ((Qv (vI x8)) ∧
 ((Qv (Sl 1001 (n5) (n5))) ∧
 True))))))))))))))))))))))))))))))))))))))))))))))))))))))))))))) ∧
 (k [(D.val (Value.bool false))]))))))))
 False)
 False)) ∨
 ((Says C 26 [(D.val (vI n12)), (D.val (vI n13)), (D.val (vI n14))] [(D.val (Value.bool false))]) ∧
 (((Qv (Go.Value.tuple [].toArray)) ∧
 ((Qv (Go.Value.tuple [].toArray)) ∧
 ((Qv (Go.Value.tuple [].toArray)) ∧
 ((Qv (Go.Value.tuple [].toArray)) ∧
 ((Qv (Go.Value.tuple [].toArray)) ∧
 ((Qv (Go.Value.tuple [].toArray)) ∧
 ((Qv (Go.Value.tuple [].toArray)) ∧
 ((Qv (Go.Value.tuple [].toArray)) ∧
 ((Qv (Go.Value.tuple [].toArray)) ∧
 ((Qv (Go.Value.tuple [].toArray)) ∧
 ((Qv (Go.Value.tuple [].toArray)) ∧
 ((Qv (Value.bool true)) ∧
 ((Qv (Value.bool true)) ∧
 ((Qv (Go.Value.pointer (Option.some (Go.Addr.mk 1002 (Go.Addr.off { block := 1002, off := 0 + Int.toNat x8 * 2 } + 1) Option.none)))) ∧
 ((bcase (decide (0 ≤ x8))
 (bcase (decide (x8 < (↑n6 : Int)))
 (Qv (Pt 1002 (0 + Int.toNat x8 * 2)))
 False)
 False) ∧
 ((Qv (vI x8)) ∧
 ((Qv (Sl 1002 (n6) (n6))) ∧
 ((Qv (Pt 1002 (0 + Int.toNat x8 * 2))) ∧
 ((bcase (decide (0 ≤ x8))
 (bcase (decide (x8 < (↑n6 : Int)))
 (Qv (Pt 1002 (0 + Int.toNat x8 * 2)))
 False)
 False) ∧
 ((Qv (vI x8)) ∧
 ((Qv (Sl 1002 (n6) (n6))) ∧
 ((bcase (decide (0 ≤ x8))
 (bcase (decide (x8 < (↑n5 : Int)))
 (Qv (Pt 1001 (0 + Int.toNat x8 * 1)))
 False)
 False) ∧
 ((Qv (vI x8)) ∧
 ((Qv (Sl 1001 (n5) (n5))) ∧
 True)))))))))))))))))))))))) ∧
 (((Qv (Go.Value.tuple [].toArray)) ∧
 ((Qv (Go.Value.tuple [].toArray)) ∧
 ((Qv (Go.Value.tuple [].toArray)) ∧
 ((Qv (Go.Value.tuple [].toArray)) ∧
 ((Qv (Go.Value.tuple [].toArray)) ∧
 ((Qv (Go.Value.tuple [].toArray)) ∧
 ((Qv (Go.Value.tuple [].toArray)) ∧
 ((Qv (Go.Value.tuple [].toArray)) ∧
 ((Qv (Go.Value.tuple [].toArray)) ∧
 ((Qv (Go.Value.tuple [].toArray)) ∧
 ((Qv (Go.Value.tuple [].toArray)) ∧
 ((Qv (Value.bool true)) ∧
 ((Qv (Value.bool true)) ∧
 ((Qv (Go.Value.tuple [].toArray)) ∧
 ((Qv (Go.Value.tuple [].toArray)) ∧
 ((Qv (Go.Value.tuple [].toArray)) ∧
 ((Qv (Go.Value.tuple [].toArray)) ∧
 ((Qv (Go.Value.tuple [].toArray)) ∧
 ((Qv (Go.Value.tuple [].toArray)) ∧
 ((Qv (Go.Value.tuple [].toArray)) ∧
 ((Qv (Go.Value.tuple [].toArray)) ∧
 ((Qv (Go.Value.tuple [].toArray)) ∧
 ((Qv (Value.bool true)) ∧
 ((Qv (Go.Value.pointer (Option.some (Go.Addr.mk 1002 (Go.Addr.off { block := 1002, off := 0 + Int.toNat x8 * 2 } + 1) Option.none)))) ∧
 ((bcase (decide (0 ≤ x8))
 (bcase (decide (x8 < (↑n6 : Int)))
 (Qv (Pt 1002 (0 + Int.toNat x8 * 2)))
 False)
 False) ∧
 ((Qv (vI x8)) ∧
 ((Qv (Sl 1002 (n6) (n6))) ∧
 ((Qv (Pt 1002 (0 + Int.toNat x8 * 2))) ∧
 ((bcase (decide (0 ≤ x8))
 (bcase (decide (x8 < (↑n6 : Int)))
 (Qv (Pt 1002 (0 + Int.toNat x8 * 2)))
 False)
 False) ∧
 ((Qv (vI x8)) ∧
 ((Qv (Sl 1002 (n6) (n6))) ∧
 ((bcase (decide (0 ≤ x8))
 (bcase (decide (x8 < (↑n5 : Int)))
 (Qv (Pt 1001 (0 + Int.toNat x8 * 1)))
 False)
 False) ∧
 ((Qv (vI x8)) ∧
 ((Qv (Sl 1001 (n5) (n5))) ∧
 True)))))))))))))))))))))))))))))))))) ∧
 (((Qv (Value.bool true)) ∧
 ((Qv (Go.Value.tuple [].toArray)) ∧
 ((Qv (Go.Value.tuple [].toArray)) ∧
 ((Qv (Go.Value.tuple [].toArray)) ∧
 ((Qv (Go.Value.tuple [].toArray)) ∧
 ((Qv (Go.Value.tuple [].toArray)) ∧
 ((Qv (Go.Value.tuple [].toArray)) ∧
 ((Qv (Go.Value.tuple [].toArray)) ∧
 ((Qv (Go.Value.tuple [].toArray)) ∧
 ((Qv (Go.Value.tuple [].toArray)) ∧
 ((Qv (Go.Value.tuple [].toArray)) ∧
 ((Qv (Go.Value.tuple [].toArray)) ∧
 ((Qv (Go.Value.tuple [].toArray)) ∧
 ((Qv (Go.Value.tuple [].toArray)) ∧
 ((Qv (Go.Value.tuple [].toArray)) ∧
 ((Qv (Go.Value.tuple [].toArray)) ∧
 ((Qv (Go.Value.tuple [].toArray)) ∧
 ((Qv (Go.Value.tuple [].toArray)) ∧
 ((Qv (Go.Value.tuple [].toArray)) ∧
 ((Qv (Go.Value.tuple [].toArray)) ∧
 ((Qv (Go.Value.tuple [].toArray)) ∧
 ((Qv (Go.Value.tuple [].toArray)) ∧
 ((Qv (Go.Value.tuple [].toArray)) ∧
 ((Qv (Go.Value.tuple [].toArray)) ∧
 ((Qv (Go.Value.tuple [].toArray)) ∧
 ((Qv (Go.Value.tuple [].toArray)) ∧
 ((Qv (Go.Value.tuple [].toArray)) ∧
 ((Qv (Go.Value.tuple [].toArray)) ∧
 ((Qv (Value.bool true)) ∧
 ((Qv (Value.bool true)) ∧
 ((Qv (Go.Value.tuple [].toArray)) ∧
 ((Qv (Go.Value.tuple [].toArray)) ∧
 ((Qv (Go.Value.tuple [].toArray)) ∧
 ((Qv (Go.Value.tuple [].toArray)) ∧
 ((Qv (Go.Value.tuple [].toArray)) ∧
 ((Qv (Go.Value.tuple [].toArray)) ∧
 ((Qv (Go.Value.tuple [].toArray)) ∧
 ((Qv (Go.Value.tuple [].toArray)) ∧
 ((Qv (Go.Value.tuple [].toArray)) ∧
 ((Qv (Value.bool true)) ∧
 ((Qv (Go.Value.tuple [].toArray)) ∧
 ((Qv (Go.Value.tuple [].toArray)) ∧
 ((Qv (Go.Value.tuple [].toArray)) ∧
 ((Qv (Go.Value.tuple [].toArray)) ∧
 ((Qv (Go.Value.tuple [].toArray)) ∧
 ((Qv (Go.Value.tuple [].toArray)) ∧
 ((Qv (Go.Value.tuple [].toArray)) ∧
 ((Qv (Go.Value.tuple [].toArray)) ∧
 ((Qv (Go.Value.tuple [].toArray)) ∧
 ((Qv (Value.bool true)) ∧
 ((Qv (Go.Value.pointer (Option.some (Go.Addr.mk 1002 (Go.Addr.off { block := 1002, off := 0 + Int.toNat x8 * 2 } + 1) Option.none)))) ∧
 ((bcase (decide (0 ≤ x8))
 (bcase (decide (x8 < (↑n6 : Int)))
 (Qv (Pt 1002 (0 + Int.toNat x8 * 2)))
 False)
 False) ∧
 ((Qv (vI x8)) ∧
 ((Qv (Sl 1002 (n6) (n6))) ∧
 ((Qv (Pt 1002 (0 + Int.toNat x8 * 2))) ∧
 ((bcase (decide (0 ≤ x8))
 (bcase (decide (x8 < (↑n6 : Int)))
 (Qv (Pt 1002 (0 + Int.toNat x8 * 2)))
 False)
 False) ∧
 ((Qv (vI x8)) ∧
 ((Qv (Sl 1002 (n6) (n6))) ∧
 ((bcase (decide (0 ≤ x8))
 (bcase (decide (x8 < (↑n5 : Int)))
 (Qv (Pt 1001 (0 + Int.toNat x8 * 1)))
 False)
 False) ∧
 ((Qv (vI x8)) ∧
 ((Qv (Sl 1001 (n5) (n5))) ∧
 True))))))))))))))))))))))))))))))))))))))))))))))))))))))))))))) ∧
 (k [(D.val (Value.bool false))])))))))))
 False)
 False)))
 False)
 False)))
 False)
 False)))))))))
 False)
 False)
 (X 4 [(Prod.mk 3 (Pt 1000 0)), (Prod.mk 7 (vI x4)), (Prod.mk 11 (Sl 1001 (n6) (n6))), (Prod.mk 19 (Pt 1002 0))] [(Prod.mk 1000 (AObj.cells [(Sl 500 (n11) (c12))] 24 false 1)), (Prod.mk 1001 (AObj.sym (l14) true 2)), (Prod.mk 1002 (AObj.cells [(Sl 1003 (n15) (n15)), (Sl 1004 (n16) (n16))] 27 false 2)), (Prod.mk 500 (AObj.sym (l17) false 7)), (Prod.mk 1003 (AObj.sym (l18) true 1)), (Prod.mk 1004 (AObj.sym (l19) true 1))])) := by kernel_rfl
def nKp9 (C : Ct) (L : AtLoop) (x0 : Int) (n1 : Nat) (n2 : Nat) (c3 : Nat) (l4 : List Value) (n5 : Nat) (n6 : Nat) (l7 : List Value) (l8 : List Value) (l9 : List Value) (k : List D → Prop) : Prop := wpNext Try.prog (hL C) L 5 4 .normal [(3, (Value.pointer (some ⟨1000, 0, none⟩))), (7, (Value.int .i64 x0)), (11, (Value.slice (some ⟨1001, 0, none⟩) n1 n1)), (19, (Value.pointer (some ⟨1002, 0, none⟩)))] [(1000, (AObj.cells [(Value.slice (some ⟨500, 0, none⟩) n2 c3)] 24 false 1)), (1001, (AObj.sym l4 true 2)), (1002, (AObj.cells [(Value.slice (some ⟨1003, 0, none⟩) n5 n5), (Value.slice (some ⟨1004, 0, none⟩) n6 n6)] 27 false 2)), (500, (AObj.sym l7 false 7)), (1003, (AObj.sym l8 true 1)), (1004, (AObj.sym l9 true 1))] (dataK k)
theorem nKp9_text (C : Ct) (L : AtLoop) (x0 : Int) (n1 : Nat) (n2 : Nat) (c3 : Nat) (l4 : List Go.Value) (n5 : Nat) (n6 : Nat) (l7 : List Go.Value) (l8 : List Go.Value) (l9 : List Go.Value) (k : List D → Prop) : nKp9 C L x0 n1 n2 c3 l4 n5 n6 l7 l8 l9 k =
 (((Qv (Go.Value.agg [(Sl 1003 (n5) (n5)), (Sl 1004 (n6) (n6))].toArray)) ∧
 ((Qv (Go.Value.agg [(Sl 500 (n2) (c3))].toArray)) ∧
 True)) ∧
 (bcase (decide (0 + n2 * 7 ≤ List.length l7))
 ((Says C 10 [(D.agg [(D.sl (n2) 7 (List.take (n2 * 7) (List.drop 0 l7)))])] [(D.agg [(D.sl (n2) 7 (List.take (n2 * 7) (List.drop 0 l7)))])]) ∧
 (((Qv (Go.Value.agg [(Sl 1003 (n5) (n5)), (Sl 1004 (n6) (n6))].toArray)) ∧
 True) ∧
 (bcase (decide (0 + n2 * 7 ≤ List.length (List.take (n2 * 7) (List.drop 0 l7))))
 (bcase (decide (0 + n5 * 1 ≤ List.length l8))
 (bcase (decide (0 + n6 * 1 ≤ List.length l9))
 ((∃ n3 : Int,
 ((Says C 11 [(D.agg [(D.sl (n2) 7 (List.take (n2 * 7) (List.drop 0 (List.take (n2 * 7) (List.drop 0 l7)))))]), (D.agg [(D.sl (n5) 1 (List.take (n5 * 1) (List.drop 0 l8))), (D.sl (n6) 1 (List.take (n6 * 1) (List.drop 0 l9)))])] [D.nil, (D.val (vI n3))]) ∧
 (((Qv (vI n3)) ∧
 ((Qv (Go.Value.slice Option.none 0 0)) ∧
 ((Qv (Go.Value.tuple [(Go.Value.slice Option.none 0 0), (vI n3)].toArray)) ∧
 True))) ∧
 (((Qv (vI n3)) ∧
 True) ∧
 (True ∧
 (bcase (n3 != 0)
 (k [(D.val (Value.bool false))])
 (bcase ((↑0 : Int) != x0)
 (k [(D.val (Value.bool false))])
 (L 6 [(Prod.mk 7 (vI x0)), (Prod.mk 11 (Sl 1000 (n1) (n1))), (Prod.mk 22 (Go.Value.slice Option.none 0 0)), (Prod.mk 24 (vI (0 : Int)))] [(Prod.mk 1000 (AObj.sym (l4) true 2))])))))))) ∨
 (∃ n3 : Nat,
 (∃ cs1 : List Go.Value,
 (∃ n4 : Int,
 ((Says C 11 [(D.agg [(D.sl (n2) 7 (List.take (n2 * 7) (List.drop 0 (List.take (n2 * 7) (List.drop 0 l7)))))]), (D.agg [(D.sl (n5) 1 (List.take (n5 * 1) (List.drop 0 l8))), (D.sl (n6) 1 (List.take (n6 * 1) (List.drop 0 l9)))])] [(D.sl (n3) 1 (cs1)), (D.val (vI n4))]) ∧
 (((Qv (vI n4)) ∧
 ((Qv (Sl 1006 (n3) (n3))) ∧
 ((Qv (Go.Value.tuple [(Sl 1006 (n3) (n3)), (vI n4)].toArray)) ∧
 True))) ∧
 (((Qv (vI n4)) ∧
 True) ∧
 (True ∧
 (bcase (n4 != 0)
 (k [(D.val (Value.bool false))])
 (bcase ((↑n3 : Int) != x0)
 (k [(D.val (Value.bool false))])
 (L 6 [(Prod.mk 7 (vI x0)), (Prod.mk 11 (Sl 1000 (n1) (n1))), (Prod.mk 22 (Sl 1001 (n3) (n3))), (Prod.mk 24 (vI (0 : Int)))] [(Prod.mk 1000 (AObj.sym (l4) true 2)), (Prod.mk 1001 (AObj.sym (cs1) true 1))])))))))))))
 False)
 False)
 False)))
 False)) := by kernel_rfl
end Go.Proofs.G5b
