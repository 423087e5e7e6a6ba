/- Texts of the proof, put together: GmXY, GmMX4. -/
import Derived.Test.YtocehmejiaelcaaGreatDoorP5
import Derived.Test.YtocehmejiaelcaaGreatDoorP6
/- What is left to show of each function, written out; the kernel reckons it. -/
namespace Go.Proofs.G5m
open Go Go.Abs Go.Proofs
set_option maxRecDepth 100000
set_option linter.unusedVariables false
def grPR (C : Ct) (L : AtLoop) (s0 : ByteArray) (k : List D → Prop) : Prop := wpFn Tryz.prog (hX C) L 0 8 #[.string s0] (heapOf []) (dataK k)
theorem grPR_text (C : Ct) (L : AtLoop) (s0 : ByteArray) (k : List D → Prop) : grPR C L s0 k =
 (((Says C 31 [(D.val (Value.string (s0))), (D.val (Value.int IntKind.u8 (32 : Int)))] [D.nil]) ∧
 (L 0 [(Prod.mk 2 (Pt 1000 0)), (Prod.mk 4 (Pt 1001 0)), (Prod.mk 5 (vI 7)), (Prod.mk 6 (Value.slice none 0 0)), (Prod.mk 7 (Pt 1002 0)), (Prod.mk 8 (vI 0)), (Prod.mk 9 (vI 0))] [(Prod.mk 1000 (AObj.cells [(vI 0), (vI 0), (vI 0), (vI 0), (vI 0), (vI 0), (Value.slice none 0 0), (vI 0), (vI 0), (vI 0), (vI 0)] 33 false 11)), (Prod.mk 1001 (AObj.cells [(vI 0), (vI 0), (vI 0), (vI 0), (vI 0), (vI 0), (Value.slice none 0 0), (vI 0), (vI 0), (vI 0), (vI 0)] 33 false 11)), (Prod.mk 1002 (AObj.cells [(vI 0), (vI 0), (vI 0), (vI 0), (vI 0), (vI 0), (Value.slice none 0 0), (vI 0), (vI 0), (vI 0), (vI 0)] 33 false 11))])) ∨
 (∃ n1 : Nat,
 (∃ cs1 : List Go.Value,
 ((Says C 31 [(D.val (Value.string (s0))), (D.val (Value.int IntKind.u8 (32 : Int)))] [(D.sl (n1) 1 (cs1))]) ∧
 (L 0 [(Prod.mk 2 (Pt 1000 0)), (Prod.mk 4 (Pt 1001 0)), (Prod.mk 5 (vI 7)), (Prod.mk 6 (Sl 1002 (n1) (n1))), (Prod.mk 7 (Pt 1003 0)), (Prod.mk 8 (vI 0)), (Prod.mk 9 (vI 0))] [(Prod.mk 1000 (AObj.cells [(vI 0), (vI 0), (vI 0), (vI 0), (vI 0), (vI 0), (Value.slice none 0 0), (vI 0), (vI 0), (vI 0), (vI 0)] 33 false 11)), (Prod.mk 1001 (AObj.cells [(vI 0), (vI 0), (vI 0), (vI 0), (vI 0), (vI 0), (Value.slice none 0 0), (vI 0), (vI 0), (vI 0), (vI 0)] 33 false 11)), (Prod.mk 1002 (AObj.sym (cs1) true 1)), (Prod.mk 1003 (AObj.cells [(vI 0), (vI 0), (vI 0), (vI 0), (vI 0), (vI 0), (Value.slice none 0 0), (vI 0), (vI 0), (vI 0), (vI 0)] 33 false 11))]))))) := by kernel_rfl
abbrev zrPR2 (x0 : Int) (n1 : Nat) (x2 : Int) (x3 : Int) (x4 : Int) (x5 : Int) (x6 : Int) (x7 : Int) (x8 : Int) (x9 : Int) (x10 : Int) (x11 : Int) (x12 : Int) (x13 : Int) (x14 : Int) (x15 : Int) (x16 : Int) (x17 : Int) (x18 : Int) (x19 : Int) (x20 : Int) (x21 : Int) (x22 : Int) (x23 : Int) (l24 : List Value) (x25 : Int) (x26 : Int) (x27 : Int) (x28 : Int) (x29 : Int) (x30 : Int) (x31 : Int) (x32 : Int) (x33 : Int) (x34 : Int) : Slots × Blocks := ([(2, (Value.pointer (some ⟨1000, 0, none⟩))), (4, (Value.pointer (some ⟨1001, 0, none⟩))), (5, (Value.int .i64 x0)), (6, (Value.slice (some ⟨1002, 0, none⟩) n1 n1)), (7, (Value.pointer (some ⟨1003, 0, none⟩))), (8, (Value.int .i64 x2)), (9, (Value.int .i64 x3))], [(1000, (AObj.cells [(Value.int .i64 x4), (Value.int .i64 x5), (Value.int .i64 x6), (Value.int .i64 x7), (Value.int .i64 x8), (Value.int .i64 x9), (Value.slice none 0 0), (Value.int .i64 x10), (Value.int .i64 x11), (Value.int .i64 x12), (Value.int .i64 x13)] 33 false 11)), (1001, (AObj.cells [(Value.int .i64 x14), (Value.int .i64 x15), (Value.int .i64 x16), (Value.int .i64 x17), (Value.int .i64 x18), (Value.int .i64 x19), (Value.slice none 0 0), (Value.int .i64 x20), (Value.int .i64 x21), (Value.int .i64 x22), (Value.int .i64 x23)] 33 false 11)), (1002, (AObj.sym l24 true 1)), (1003, (AObj.cells [(Value.int .i64 x25), (Value.int .i64 x26), (Value.int .i64 x27), (Value.int .i64 x28), (Value.int .i64 x29), (Value.int .i64 x30), (Value.slice none 0 0), (Value.int .i64 x31), (Value.int .i64 x32), (Value.int .i64 x33), (Value.int .i64 x34)] 33 false 11))])
def rrPR2 (C : Ct) (L : AtLoop) (x0 : Int) (n1 : Nat) (x2 : Int) (x3 : Int) (x4 : Int) (x5 : Int) (x6 : Int) (x7 : Int) (x8 : Int) (x9 : Int) (x10 : Int) (x11 : Int) (x12 : Int) (x13 : Int) (x14 : Int) (x15 : Int) (x16 : Int) (x17 : Int) (x18 : Int) (x19 : Int) (x20 : Int) (x21 : Int) (x22 : Int) (x23 : Int) (l24 : List Value) (x25 : Int) (x26 : Int) (x27 : Int) (x28 : Int) (x29 : Int) (x30 : Int) (x31 : Int) (x32 : Int) (x33 : Int) (x34 : Int) (B : Bx) (X : Xx) (k : List D → Prop) : Prop := wpRound Tryz.prog (hX C) L 8 0 [(2, (Value.pointer (some ⟨1000, 0, none⟩))), (4, (Value.pointer (some ⟨1001, 0, none⟩))), (5, (Value.int .i64 x0)), (6, (Value.slice (some ⟨1002, 0, none⟩) n1 n1)), (7, (Value.pointer (some ⟨1003, 0, none⟩))), (8, (Value.int .i64 x2)), (9, (Value.int .i64 x3))] [(1000, (AObj.cells [(Value.int .i64 x4), (Value.int .i64 x5), (Value.int .i64 x6), (Value.int .i64 x7), (Value.int .i64 x8), (Value.int .i64 x9), (Value.slice none 0 0), (Value.int .i64 x10), (Value.int .i64 x11), (Value.int .i64 x12), (Value.int .i64 x13)] 33 false 11)), (1001, (AObj.cells [(Value.int .i64 x14), (Value.int .i64 x15), (Value.int .i64 x16), (Value.int .i64 x17), (Value.int .i64 x18), (Value.int .i64 x19), (Value.slice none 0 0), (Value.int .i64 x20), (Value.int .i64 x21), (Value.int .i64 x22), (Value.int .i64 x23)] 33 false 11)), (1002, (AObj.sym l24 true 1)), (1003, (AObj.cells [(Value.int .i64 x25), (Value.int .i64 x26), (Value.int .i64 x27), (Value.int .i64 x28), (Value.int .i64 x29), (Value.int .i64 x30), (Value.slice none 0 0), (Value.int .i64 x31), (Value.int .i64 x32), (Value.int .i64 x33), (Value.int .i64 x34)] 33 false 11))] B X (dataK k)
theorem rrPR2_text (C : Ct) (L : AtLoop) (x0 : Int) (n1 : Nat) (x2 : Int) (x3 : Int) (x4 : Int) (x5 : Int) (x6 : Int) (x7 : Int) (x8 : Int) (x9 : Int) (x10 : Int) (x11 : Int) (x12 : Int) (x13 : Int) (x14 : Int) (x15 : Int) (x16 : Int) (x17 : Int) (x18 : Int) (x19 : Int) (x20 : Int) (x21 : Int) (x22 : Int) (x23 : Int) (l24 : List Go.Value) (x25 : Int) (x26 : Int) (x27 : Int) (x28 : Int) (x29 : Int) (x30 : Int) (x31 : Int) (x32 : Int) (x33 : Int) (x34 : Int) (B : Bx) (X : Xx) (k : List D → Prop) : rrPR2 C L x0 n1 x2 x3 x4 x5 x6 x7 x8 x9 x10 x11 x12 x13 x14 x15 x16 x17 x18 x19 x20 x21 x22 x23 l24 x25 x26 x27 x28 x29 x30 x31 x32 x33 x34 B X k =
 (bcase (decide (x3 ≤ (↑n1 : Int)))
 (bcase (decide (x3 < (↑n1 : Int)))
 (bcase (decide (0 ≤ x3))
 (bcase (decide (x3 < (↑n1 : Int)))
 (∃ s1 : ByteArray,
 ((At (l24) (0 + Int.toNat x3 * 1) 1 [(Value.string (s1))]) ∧
 (bcase (!ByteArray.toList s1 == ByteArray.toList { data := #[59] })
 (B [(Prod.mk 2 (Pt 1000 0)), (Prod.mk 4 (Pt 1001 0)), (Prod.mk 5 (vI x0)), (Prod.mk 6 (Sl 1002 (n1) (n1))), (Prod.mk 7 (Pt 1003 0)), (Prod.mk 8 (vI x2)), (Prod.mk 9 (vI (IntKind.wrap .i64 (x3 + 1))))] [(Prod.mk 1000 (AObj.cells [(vI x4), (vI x5), (vI x6), (vI x7), (vI x8), (vI x9), (Value.slice none 0 0), (vI x10), (vI x11), (vI x12), (vI x13)] 33 false 11)), (Prod.mk 1001 (AObj.cells [(vI x14), (vI x15), (vI x16), (vI x17), (vI x18), (vI x19), (Value.slice none 0 0), (vI x20), (vI x21), (vI x22), (vI x23)] 33 false 11)), (Prod.mk 1002 (AObj.sym (l24) true 1)), (Prod.mk 1003 (AObj.cells [(vI x25), (vI x26), (vI x27), (vI x28), (vI x29), (vI x30), (Value.slice none 0 0), (vI x31), (vI x32), (vI x33), (vI x34)] 33 false 11))])
 (bcase (decide (0 ≤ x3))
 (bcase (decide (x3 ≤ (↑n1 : Int)))
 (bcase (decide (0 ≤ x2))
 (bcase (decide (x2 ≤ (↑(Int.toNat x3) : Int)))
 (bcase (decide (Int.toNat x3 ≤ n1))
 (bcase (AObj.isOpen (AObj.sym l24 Bool.true 1) 0 n1)
 (bcase (decide (0 + Int.toNat x2 * 1 + (Int.toNat x3 - Int.toNat x2) * 1 ≤ List.length l24))
 ((((Says C 32 [(D.sl (Int.toNat x3 - Int.toNat x2) 1 (List.take ((Int.toNat x3 - Int.toNat x2) * 1) (List.drop (0 + Int.toNat x2 * 1) l24)))] [D.nil, (D.val (Value.bool true))]) ∧
 (bcase (x2 == 0)
 (k [(D.agg [(D.val (vI x14)), (D.val (vI x15)), (D.val (vI x16)), (D.val (vI x17)), (D.val (vI x18)), (D.val (vI x19)), D.nil, (D.val (vI x20)), (D.val (vI x21)), (D.val (vI x22)), (D.val (vI x23))]), (D.val (vI x0))])
 (bcase (decide (x2 > 0))
 (k [(D.agg [(D.val (vI x14)), (D.val (vI x15)), (D.val (vI x16)), (D.val (vI x17)), (D.val (vI x18)), (D.val (vI x19)), D.nil, (D.val (vI x20)), (D.val (vI x21)), (D.val (vI x22)), (D.val (vI x23))]), (D.val (vI x0))])
 (bcase (x2 == 0)
 False
 False)))) ∨
 ((Says C 32 [(D.sl (Int.toNat x3 - Int.toNat x2) 1 (List.take ((Int.toNat x3 - Int.toNat x2) * 1) (List.drop (0 + Int.toNat x2 * 1) l24)))] [D.nil, (D.val (Value.bool false))]) ∧
 (k [(D.agg [(D.val (vI x14)), (D.val (vI x15)), (D.val (vI x16)), (D.val (vI x17)), (D.val (vI x18)), (D.val (vI x19)), D.nil, (D.val (vI x20)), (D.val (vI x21)), (D.val (vI x22)), (D.val (vI x23))]), (D.val (vI x0))]))) ∨
 (∃ n2 : Nat,
 (∃ cs1 : List Go.Value,
 (((Says C 32 [(D.sl (Int.toNat x3 - Int.toNat x2) 1 (List.take ((Int.toNat x3 - Int.toNat x2) * 1) (List.drop (0 + Int.toNat x2 * 1) l24)))] [(D.sl (n2) 1 (cs1)), (D.val (Value.bool true))]) ∧
 (bcase (x2 == 0)
 (bcase ((↑n2 : Int) != 10)
 (k [(D.agg [(D.val (vI x14)), (D.val (vI x15)), (D.val (vI x16)), (D.val (vI x17)), (D.val (vI x18)), (D.val (vI x19)), D.nil, (D.val (vI x20)), (D.val (vI x21)), (D.val (vI x22)), (D.val (vI x23))]), (D.val (vI x0))])
 (bcase (decide (x2 > 0))
 (bcase ((↑n2 : Int) != 5)
 (k [(D.agg [(D.val (vI x14)), (D.val (vI x15)), (D.val (vI x16)), (D.val (vI x17)), (D.val (vI x18)), (D.val (vI x19)), D.nil, (D.val (vI x20)), (D.val (vI x21)), (D.val (vI x22)), (D.val (vI x23))]), (D.val (vI x0))])
 (bcase (x2 == 0)
 (bcase (decide (0 < (↑n2 : Int)))
 (∃ n3 : Int,
 ((At (cs1) 0 1 [(vI n3)]) ∧
 (bcase (decide (1 < (↑n2 : Int)))
 (∃ n4 : Int,
 ((At (cs1) 1 1 [(vI n4)]) ∧
 (bcase (decide (2 < (↑n2 : Int)))
 (∃ n5 : Int,
 ((At (cs1) 2 1 [(vI n5)]) ∧
 (bcase (decide (3 < (↑n2 : Int)))
 (∃ n6 : Int,
 ((At (cs1) 3 1 [(vI n6)]) ∧
 (bcase (decide (4 < (↑n2 : Int)))
 (∃ n7 : Int,
 ((At (cs1) 4 1 [(vI n7)]) ∧
 (bcase (decide (5 < (↑n2 : Int)))
 (∃ n8 : Int,
 ((At (cs1) 5 1 [(vI n8)]) ∧
 (bcase (decide (6 < (↑n2 : Int)))
 (∃ n9 : Int,
 ((At (cs1) 6 1 [(vI n9)]) ∧
 (bcase (decide (7 < (↑n2 : Int)))
 (∃ n10 : Int,
 ((At (cs1) 7 1 [(vI n10)]) ∧
 (bcase (decide (8 < (↑n2 : Int)))
 (∃ n11 : Int,
 ((At (cs1) 8 1 [(vI n11)]) ∧
 (bcase (decide (9 < (↑n2 : Int)))
 (∃ n12 : Int,
 ((At (cs1) 9 1 [(vI n12)]) ∧
 (((Qv (Value.agg [(vI n3), (vI n4), (vI n5), (vI n6), (vI n7), (vI n8), (Value.slice none 0 0), (vI n9), (vI n10), (vI n11), (vI n12)].toArray)) ∧
 ((Qv (Value.agg [(vI n11), (vI n12)].toArray)) ∧
 ((∃ n13 : Int,
 ((At (cs1) 9 1 [(vI n13)]) ∧
 ((vI n13) = (vI n12)))) ∧
 ((bcase (decide (9 < (↑n2 : Int)))
 (Qv (Pt 1004 9))
 False) ∧
 ((Qv (Sl 1004 (n2) (n2))) ∧
 ((∃ n13 : Int,
 ((At (cs1) 8 1 [(vI n13)]) ∧
 ((vI n13) = (vI n11)))) ∧
 ((bcase (decide (8 < (↑n2 : Int)))
 (Qv (Pt 1004 8))
 False) ∧
 ((Qv (Sl 1004 (n2) (n2))) ∧
 ((Qv (Value.agg [(vI n9), (vI n10)].toArray)) ∧
 ((∃ n13 : Int,
 ((At (cs1) 7 1 [(vI n13)]) ∧
 ((vI n13) = (vI n10)))) ∧
 ((bcase (decide (7 < (↑n2 : Int)))
 (Qv (Pt 1004 7))
 False) ∧
 ((Qv (Sl 1004 (n2) (n2))) ∧
 ((∃ n13 : Int,
 ((At (cs1) 6 1 [(vI n13)]) ∧
 ((vI n13) = (vI n9)))) ∧
 ((bcase (decide (6 < (↑n2 : Int)))
 (Qv (Pt 1004 6))
 False) ∧
 ((Qv (Sl 1004 (n2) (n2))) ∧
 ((∃ n13 : Int,
 ((At (cs1) 5 1 [(vI n13)]) ∧
 ((vI n13) = (vI n8)))) ∧
 ((bcase (decide (5 < (↑n2 : Int)))
 (Qv (Pt 1004 5))
 False) ∧
 ((Qv (Sl 1004 (n2) (n2))) ∧
 ((Qv (Value.agg [(vI n6), (vI n7)].toArray)) ∧
 ((∃ n13 : Int,
 ((At (cs1) 4 1 [(vI n13)]) ∧
 ((vI n13) = (vI n7)))) ∧
 ((bcase (decide (4 < (↑n2 : Int)))
 (Qv (Pt 1004 4))
 False) ∧
 ((Qv (Sl 1004 (n2) (n2))) ∧
 ((∃ n13 : Int,
 ((At (cs1) 3 1 [(vI n13)]) ∧
 ((vI n13) = (vI n6)))) ∧
 ((bcase (decide (3 < (↑n2 : Int)))
 (Qv (Pt 1004 3))
 False) ∧
 ((Qv (Sl 1004 (n2) (n2))) ∧
 ((∃ n13 : Int,
 ((At (cs1) 2 1 [(vI n13)]) ∧
 ((vI n13) = (vI n5)))) ∧
 ((bcase (decide (2 < (↑n2 : Int)))
 (Qv (Pt 1004 2))
 False) ∧
 ((Qv (Sl 1004 (n2) (n2))) ∧
 ((∃ n13 : Int,
 ((At (cs1) 1 1 [(vI n13)]) ∧
 ((vI n13) = (vI n4)))) ∧
 ((bcase (decide (1 < (↑n2 : Int)))
 (Qv (Pt 1004 1))
 False) ∧
 ((Qv (Sl 1004 (n2) (n2))) ∧
 ((∃ n13 : Int,
 ((At (cs1) 0 1 [(vI n13)]) ∧
 ((vI n13) = (vI n3)))) ∧
 ((bcase (decide (0 < (↑n2 : Int)))
 (Qv (Pt 1004 0))
 False) ∧
 ((Qv (Sl 1004 (n2) (n2))) ∧
 True)))))))))))))))))))))))))))))))))) ∧
 (True ∧
 (B [(Prod.mk 2 (Pt 1000 0)), (Prod.mk 4 (Pt 1001 0)), (Prod.mk 5 (vI x0)), (Prod.mk 6 (Sl 1002 (n1) (n1))), (Prod.mk 7 (Pt 1003 0)), (Prod.mk 8 (vI (IntKind.wrap .i64 (x3 + 1)))), (Prod.mk 9 (vI (IntKind.wrap .i64 (x3 + 1))))] [(Prod.mk 1000 (AObj.cells [(vI x4), (vI x5), (vI x6), (vI x7), (vI x8), (vI x9), (Value.slice none 0 0), (vI x10), (vI x11), (vI x12), (vI x13)] 33 false 11)), (Prod.mk 1001 (AObj.cells [(vI x14), (vI x15), (vI x16), (vI x17), (vI x18), (vI x19), (Value.slice none 0 0), (vI x20), (vI x21), (vI x22), (vI x23)] 33 false 11)), (Prod.mk 1002 (AObj.sym (l24) true 1)), (Prod.mk 1003 (AObj.cells [(vI n3), (vI n4), (vI n5), (vI n6), (vI n7), (vI n8), (Value.slice none 0 0), (vI n9), (vI n10), (vI n11), (vI n12)] 33 false 11))])))))
 False)))
 False)))
 False)))
 False)))
 False)))
 False)))
 False)))
 False)))
 False)))
 False)
 (bcase (decide (0 < (↑n2 : Int)))
 (∃ n3 : Int,
 ((At (cs1) 0 1 [(vI n3)]) ∧
 (bcase (decide (1 < (↑n2 : Int)))
 (∃ n4 : Int,
 ((At (cs1) 1 1 [(vI n4)]) ∧
 (bcase (decide (2 < (↑n2 : Int)))
 (∃ n5 : Int,
 ((At (cs1) 2 1 [(vI n5)]) ∧
 (bcase (decide (3 < (↑n2 : Int)))
 (∃ n6 : Int,
 ((At (cs1) 3 1 [(vI n6)]) ∧
 (bcase (decide (4 < (↑n2 : Int)))
 (∃ n7 : Int,
 ((At (cs1) 4 1 [(vI n7)]) ∧
 ((((Qv (Sl 1005 1 1)) ∧
 (Qv (some (AObj.cells [(vI n3), (vI n4), (vI n5), (vI n6), (vI n7)] 79 false 5)))) ∧
 ((Qv (Value.agg [(vI n3), (vI n4), (vI n5), (vI n6), (vI n7)].toArray)) ∧
 ((Qv (Value.agg [(vI n6), (vI n7)].toArray)) ∧
 ((∃ n8 : Int,
 ((At (cs1) 4 1 [(vI n8)]) ∧
 ((vI n8) = (vI n7)))) ∧
 ((bcase (decide (4 < (↑n2 : Int)))
 (Qv (Pt 1004 4))
 False) ∧
 ((Qv (Sl 1004 (n2) (n2))) ∧
 ((∃ n8 : Int,
 ((At (cs1) 3 1 [(vI n8)]) ∧
 ((vI n8) = (vI n6)))) ∧
 ((bcase (decide (3 < (↑n2 : Int)))
 (Qv (Pt 1004 3))
 False) ∧
 ((Qv (Sl 1004 (n2) (n2))) ∧
 ((∃ n8 : Int,
 ((At (cs1) 2 1 [(vI n8)]) ∧
 ((vI n8) = (vI n5)))) ∧
 ((bcase (decide (2 < (↑n2 : Int)))
 (Qv (Pt 1004 2))
 False) ∧
 ((Qv (Sl 1004 (n2) (n2))) ∧
 ((∃ n8 : Int,
 ((At (cs1) 1 1 [(vI n8)]) ∧
 ((vI n8) = (vI n4)))) ∧
 ((bcase (decide (1 < (↑n2 : Int)))
 (Qv (Pt 1004 1))
 False) ∧
 ((Qv (Sl 1004 (n2) (n2))) ∧
 ((∃ n8 : Int,
 ((At (cs1) 0 1 [(vI n8)]) ∧
 ((vI n8) = (vI n3)))) ∧
 ((bcase (decide (0 < (↑n2 : Int)))
 (Qv (Pt 1004 0))
 False) ∧
 ((Qv (Sl 1004 (n2) (n2))) ∧
 ((Qv (Value.slice none 0 0)) ∧
 ((Qv (Pt 1003 6)) ∧
 True)))))))))))))))))))) ∧
 (((Qv (Pt 1003 6)) ∧
 ((Qv (Value.agg [(vI n3), (vI n4), (vI n5), (vI n6), (vI n7)].toArray)) ∧
 ((Qv (Value.agg [(vI n6), (vI n7)].toArray)) ∧
 ((∃ n8 : Int,
 ((At (cs1) 4 1 [(vI n8)]) ∧
 ((vI n8) = (vI n7)))) ∧
 ((bcase (decide (4 < (↑n2 : Int)))
 (Qv (Pt 1004 4))
 False) ∧
 ((Qv (Sl 1004 (n2) (n2))) ∧
 ((∃ n8 : Int,
 ((At (cs1) 3 1 [(vI n8)]) ∧
 ((vI n8) = (vI n6)))) ∧
 ((bcase (decide (3 < (↑n2 : Int)))
 (Qv (Pt 1004 3))
 False) ∧
 ((Qv (Sl 1004 (n2) (n2))) ∧
 ((∃ n8 : Int,
 ((At (cs1) 2 1 [(vI n8)]) ∧
 ((vI n8) = (vI n5)))) ∧
 ((bcase (decide (2 < (↑n2 : Int)))
 (Qv (Pt 1004 2))
 False) ∧
 ((Qv (Sl 1004 (n2) (n2))) ∧
 ((∃ n8 : Int,
 ((At (cs1) 1 1 [(vI n8)]) ∧
 ((vI n8) = (vI n4)))) ∧
 ((bcase (decide (1 < (↑n2 : Int)))
 (Qv (Pt 1004 1))
 False) ∧
 ((Qv (Sl 1004 (n2) (n2))) ∧
 ((∃ n8 : Int,
 ((At (cs1) 0 1 [(vI n8)]) ∧
 ((vI n8) = (vI n3)))) ∧
 ((bcase (decide (0 < (↑n2 : Int)))
 (Qv (Pt 1004 0))
 False) ∧
 ((Qv (Sl 1004 (n2) (n2))) ∧
 ((Qv (Pt 1003 6)) ∧
 True))))))))))))))))))) ∧
 (True ∧
 (B [(Prod.mk 2 (Pt 1000 0)), (Prod.mk 4 (Pt 1001 0)), (Prod.mk 5 (vI x0)), (Prod.mk 6 (Sl 1002 (n1) (n1))), (Prod.mk 7 (Pt 1003 0)), (Prod.mk 8 (vI (IntKind.wrap .i64 (x3 + 1)))), (Prod.mk 9 (vI (IntKind.wrap .i64 (x3 + 1))))] [(Prod.mk 1000 (AObj.cells [(vI x4), (vI x5), (vI x6), (vI x7), (vI x8), (vI x9), (Value.slice none 0 0), (vI x10), (vI x11), (vI x12), (vI x13)] 33 false 11)), (Prod.mk 1001 (AObj.cells [(vI x14), (vI x15), (vI x16), (vI x17), (vI x18), (vI x19), (Value.slice none 0 0), (vI x20), (vI x21), (vI x22), (vI x23)] 33 false 11)), (Prod.mk 1002 (AObj.sym (l24) true 1)), (Prod.mk 1003 (AObj.cells [(vI x25), (vI x26), (vI x27), (vI x28), (vI x29), (vI x30), (Sl 1004 1 1), (vI x31), (vI x32), (vI x33), (vI x34)] 33 false 11)), (Prod.mk 1004 (AObj.sym [(vI n3), (vI n4), (vI n5), (vI n6), (vI n7)] true 5))]))))))
 False)))
 False)))
 False)))
 False)))
 False)))
 (bcase (x2 == 0)
 (bcase (decide (0 < (↑n2 : Int)))
 (∃ n3 : Int,
 ((At (cs1) 0 1 [(vI n3)]) ∧
 (bcase (decide (1 < (↑n2 : Int)))
 (∃ n4 : Int,
 ((At (cs1) 1 1 [(vI n4)]) ∧
 (bcase (decide (2 < (↑n2 : Int)))
 (∃ n5 : Int,
 ((At (cs1) 2 1 [(vI n5)]) ∧
 (bcase (decide (3 < (↑n2 : Int)))
 (∃ n6 : Int,
 ((At (cs1) 3 1 [(vI n6)]) ∧
 (bcase (decide (4 < (↑n2 : Int)))
 (∃ n7 : Int,
 ((At (cs1) 4 1 [(vI n7)]) ∧
 (bcase (decide (5 < (↑n2 : Int)))
 (∃ n8 : Int,
 ((At (cs1) 5 1 [(vI n8)]) ∧
 (bcase (decide (6 < (↑n2 : Int)))
 (∃ n9 : Int,
 ((At (cs1) 6 1 [(vI n9)]) ∧
 (bcase (decide (7 < (↑n2 : Int)))
 (∃ n10 : Int,
 ((At (cs1) 7 1 [(vI n10)]) ∧
 (bcase (decide (8 < (↑n2 : Int)))
 (∃ n11 : Int,
 ((At (cs1) 8 1 [(vI n11)]) ∧
 (bcase (decide (9 < (↑n2 : Int)))
 (∃ n12 : Int,
 ((At (cs1) 9 1 [(vI n12)]) ∧
 (((Qv (Value.agg [(vI n3), (vI n4), (vI n5), (vI n6), (vI n7), (vI n8), (Value.slice none 0 0), (vI n9), (vI n10), (vI n11), (vI n12)].toArray)) ∧
 ((Qv (Value.agg [(vI n11), (vI n12)].toArray)) ∧
 ((∃ n13 : Int,
 ((At (cs1) 9 1 [(vI n13)]) ∧
 ((vI n13) = (vI n12)))) ∧
 ((bcase (decide (9 < (↑n2 : Int)))
 (Qv (Pt 1004 9))
 False) ∧
 ((Qv (Sl 1004 (n2) (n2))) ∧
 ((∃ n13 : Int,
 ((At (cs1) 8 1 [(vI n13)]) ∧
 ((vI n13) = (vI n11)))) ∧
 ((bcase (decide (8 < (↑n2 : Int)))
 (Qv (Pt 1004 8))
 False) ∧
 ((Qv (Sl 1004 (n2) (n2))) ∧
 ((Qv (Value.agg [(vI n9), (vI n10)].toArray)) ∧
 ((∃ n13 : Int,
 ((At (cs1) 7 1 [(vI n13)]) ∧
 ((vI n13) = (vI n10)))) ∧
 ((bcase (decide (7 < (↑n2 : Int)))
 (Qv (Pt 1004 7))
 False) ∧
 ((Qv (Sl 1004 (n2) (n2))) ∧
 ((∃ n13 : Int,
 ((At (cs1) 6 1 [(vI n13)]) ∧
 ((vI n13) = (vI n9)))) ∧
 ((bcase (decide (6 < (↑n2 : Int)))
 (Qv (Pt 1004 6))
 False) ∧
 ((Qv (Sl 1004 (n2) (n2))) ∧
 ((∃ n13 : Int,
 ((At (cs1) 5 1 [(vI n13)]) ∧
 ((vI n13) = (vI n8)))) ∧
 ((bcase (decide (5 < (↑n2 : Int)))
 (Qv (Pt 1004 5))
 False) ∧
 ((Qv (Sl 1004 (n2) (n2))) ∧
 ((Qv (Value.agg [(vI n6), (vI n7)].toArray)) ∧
 ((∃ n13 : Int,
 ((At (cs1) 4 1 [(vI n13)]) ∧
 ((vI n13) = (vI n7)))) ∧
 ((bcase (decide (4 < (↑n2 : Int)))
 (Qv (Pt 1004 4))
 False) ∧
 ((Qv (Sl 1004 (n2) (n2))) ∧
 ((∃ n13 : Int,
 ((At (cs1) 3 1 [(vI n13)]) ∧
 ((vI n13) = (vI n6)))) ∧
 ((bcase (decide (3 < (↑n2 : Int)))
 (Qv (Pt 1004 3))
 False) ∧
 ((Qv (Sl 1004 (n2) (n2))) ∧
 ((∃ n13 : Int,
 ((At (cs1) 2 1 [(vI n13)]) ∧
 ((vI n13) = (vI n5)))) ∧
 ((bcase (decide (2 < (↑n2 : Int)))
 (Qv (Pt 1004 2))
 False) ∧
 ((Qv (Sl 1004 (n2) (n2))) ∧
 ((∃ n13 : Int,
 ((At (cs1) 1 1 [(vI n13)]) ∧
 ((vI n13) = (vI n4)))) ∧
 ((bcase (decide (1 < (↑n2 : Int)))
 (Qv (Pt 1004 1))
 False) ∧
 ((Qv (Sl 1004 (n2) (n2))) ∧
 ((∃ n13 : Int,
 ((At (cs1) 0 1 [(vI n13)]) ∧
 ((vI n13) = (vI n3)))) ∧
 ((bcase (decide (0 < (↑n2 : Int)))
 (Qv (Pt 1004 0))
 False) ∧
 ((Qv (Sl 1004 (n2) (n2))) ∧
 True)))))))))))))))))))))))))))))))))) ∧
 (True ∧
 (B [(Prod.mk 2 (Pt 1000 0)), (Prod.mk 4 (Pt 1001 0)), (Prod.mk 5 (vI x0)), (Prod.mk 6 (Sl 1002 (n1) (n1))), (Prod.mk 7 (Pt 1003 0)), (Prod.mk 8 (vI (IntKind.wrap .i64 (x3 + 1)))), (Prod.mk 9 (vI (IntKind.wrap .i64 (x3 + 1))))] [(Prod.mk 1000 (AObj.cells [(vI x4), (vI x5), (vI x6), (vI x7), (vI x8), (vI x9), (Value.slice none 0 0), (vI x10), (vI x11), (vI x12), (vI x13)] 33 false 11)), (Prod.mk 1001 (AObj.cells [(vI x14), (vI x15), (vI x16), (vI x17), (vI x18), (vI x19), (Value.slice none 0 0), (vI x20), (vI x21), (vI x22), (vI x23)] 33 false 11)), (Prod.mk 1002 (AObj.sym (l24) true 1)), (Prod.mk 1003 (AObj.cells [(vI n3), (vI n4), (vI n5), (vI n6), (vI n7), (vI n8), (Value.slice none 0 0), (vI n9), (vI n10), (vI n11), (vI n12)] 33 false 11))])))))
 False)))
 False)))
 False)))
 False)))
 False)))
 False)))
 False)))
 False)))
 False)))
 False)
 (bcase (decide (0 < (↑n2 : Int)))
 (∃ n3 : Int,
 ((At (cs1) 0 1 [(vI n3)]) ∧
 (bcase (decide (1 < (↑n2 : Int)))
 (∃ n4 : Int,
 ((At (cs1) 1 1 [(vI n4)]) ∧
 (bcase (decide (2 < (↑n2 : Int)))
 (∃ n5 : Int,
 ((At (cs1) 2 1 [(vI n5)]) ∧
 (bcase (decide (3 < (↑n2 : Int)))
 (∃ n6 : Int,
 ((At (cs1) 3 1 [(vI n6)]) ∧
 (bcase (decide (4 < (↑n2 : Int)))
 (∃ n7 : Int,
 ((At (cs1) 4 1 [(vI n7)]) ∧
 ((((Qv (Sl 1005 1 1)) ∧
 (Qv (some (AObj.cells [(vI n3), (vI n4), (vI n5), (vI n6), (vI n7)] 79 false 5)))) ∧
 ((Qv (Value.agg [(vI n3), (vI n4), (vI n5), (vI n6), (vI n7)].toArray)) ∧
 ((Qv (Value.agg [(vI n6), (vI n7)].toArray)) ∧
 ((∃ n8 : Int,
 ((At (cs1) 4 1 [(vI n8)]) ∧
 ((vI n8) = (vI n7)))) ∧
 ((bcase (decide (4 < (↑n2 : Int)))
 (Qv (Pt 1004 4))
 False) ∧
 ((Qv (Sl 1004 (n2) (n2))) ∧
 ((∃ n8 : Int,
 ((At (cs1) 3 1 [(vI n8)]) ∧
 ((vI n8) = (vI n6)))) ∧
 ((bcase (decide (3 < (↑n2 : Int)))
 (Qv (Pt 1004 3))
 False) ∧
 ((Qv (Sl 1004 (n2) (n2))) ∧
 ((∃ n8 : Int,
 ((At (cs1) 2 1 [(vI n8)]) ∧
 ((vI n8) = (vI n5)))) ∧
 ((bcase (decide (2 < (↑n2 : Int)))
 (Qv (Pt 1004 2))
 False) ∧
 ((Qv (Sl 1004 (n2) (n2))) ∧
 ((∃ n8 : Int,
 ((At (cs1) 1 1 [(vI n8)]) ∧
 ((vI n8) = (vI n4)))) ∧
 ((bcase (decide (1 < (↑n2 : Int)))
 (Qv (Pt 1004 1))
 False) ∧
 ((Qv (Sl 1004 (n2) (n2))) ∧
 ((∃ n8 : Int,
 ((At (cs1) 0 1 [(vI n8)]) ∧
 ((vI n8) = (vI n3)))) ∧
 ((bcase (decide (0 < (↑n2 : Int)))
 (Qv (Pt 1004 0))
 False) ∧
 ((Qv (Sl 1004 (n2) (n2))) ∧
 ((Qv (Value.slice none 0 0)) ∧
 ((Qv (Pt 1003 6)) ∧
 True)))))))))))))))))))) ∧
 (((Qv (Pt 1003 6)) ∧
 ((Qv (Value.agg [(vI n3), (vI n4), (vI n5), (vI n6), (vI n7)].toArray)) ∧
 ((Qv (Value.agg [(vI n6), (vI n7)].toArray)) ∧
 ((∃ n8 : Int,
 ((At (cs1) 4 1 [(vI n8)]) ∧
 ((vI n8) = (vI n7)))) ∧
 ((bcase (decide (4 < (↑n2 : Int)))
 (Qv (Pt 1004 4))
 False) ∧
 ((Qv (Sl 1004 (n2) (n2))) ∧
 ((∃ n8 : Int,
 ((At (cs1) 3 1 [(vI n8)]) ∧
 ((vI n8) = (vI n6)))) ∧
 ((bcase (decide (3 < (↑n2 : Int)))
 (Qv (Pt 1004 3))
 False) ∧
 ((Qv (Sl 1004 (n2) (n2))) ∧
 ((∃ n8 : Int,
 ((At (cs1) 2 1 [(vI n8)]) ∧
 ((vI n8) = (vI n5)))) ∧
 ((bcase (decide (2 < (↑n2 : Int)))
 (Qv (Pt 1004 2))
 False) ∧
 ((Qv (Sl 1004 (n2) (n2))) ∧
 ((∃ n8 : Int,
 ((At (cs1) 1 1 [(vI n8)]) ∧
 ((vI n8) = (vI n4)))) ∧
 ((bcase (decide (1 < (↑n2 : Int)))
 (Qv (Pt 1004 1))
 False) ∧
 ((Qv (Sl 1004 (n2) (n2))) ∧
 ((∃ n8 : Int,
 ((At (cs1) 0 1 [(vI n8)]) ∧
 ((vI n8) = (vI n3)))) ∧
 ((bcase (decide (0 < (↑n2 : Int)))
 (Qv (Pt 1004 0))
 False) ∧
 ((Qv (Sl 1004 (n2) (n2))) ∧
 ((Qv (Pt 1003 6)) ∧
 True))))))))))))))))))) ∧
 (True ∧
 (B [(Prod.mk 2 (Pt 1000 0)), (Prod.mk 4 (Pt 1001 0)), (Prod.mk 5 (vI x0)), (Prod.mk 6 (Sl 1002 (n1) (n1))), (Prod.mk 7 (Pt 1003 0)), (Prod.mk 8 (vI (IntKind.wrap .i64 (x3 + 1)))), (Prod.mk 9 (vI (IntKind.wrap .i64 (x3 + 1))))] [(Prod.mk 1000 (AObj.cells [(vI x4), (vI x5), (vI x6), (vI x7), (vI x8), (vI x9), (Value.slice none 0 0), (vI x10), (vI x11), (vI x12), (vI x13)] 33 false 11)), (Prod.mk 1001 (AObj.cells [(vI x14), (vI x15), (vI x16), (vI x17), (vI x18), (vI x19), (Value.slice none 0 0), (vI x20), (vI x21), (vI x22), (vI x23)] 33 false 11)), (Prod.mk 1002 (AObj.sym (l24) true 1)), (Prod.mk 1003 (AObj.cells [(vI x25), (vI x26), (vI x27), (vI x28), (vI x29), (vI x30), (Sl 1004 1 1), (vI x31), (vI x32), (vI x33), (vI x34)] 33 false 11)), (Prod.mk 1004 (AObj.sym [(vI n3), (vI n4), (vI n5), (vI n6), (vI n7)] true 5))]))))))
 False)))
 False)))
 False)))
 False)))
 False))))
 (bcase (decide (x2 > 0))
 (bcase ((↑n2 : Int) != 5)
 (k [(D.agg [(D.val (vI x14)), (D.val (vI x15)), (D.val (vI x16)), (D.val (vI x17)), (D.val (vI x18)), (D.val (vI x19)), D.nil, (D.val (vI x20)), (D.val (vI x21)), (D.val (vI x22)), (D.val (vI x23))]), (D.val (vI x0))])
 (bcase (x2 == 0)
 (bcase (decide (0 < (↑n2 : Int)))
 (∃ n3 : Int,
 ((At (cs1) 0 1 [(vI n3)]) ∧
 (bcase (decide (1 < (↑n2 : Int)))
 (∃ n4 : Int,
 ((At (cs1) 1 1 [(vI n4)]) ∧
 (bcase (decide (2 < (↑n2 : Int)))
 (∃ n5 : Int,
 ((At (cs1) 2 1 [(vI n5)]) ∧
 (bcase (decide (3 < (↑n2 : Int)))
 (∃ n6 : Int,
 ((At (cs1) 3 1 [(vI n6)]) ∧
 (bcase (decide (4 < (↑n2 : Int)))
 (∃ n7 : Int,
 ((At (cs1) 4 1 [(vI n7)]) ∧
 (bcase (decide (5 < (↑n2 : Int)))
 (∃ n8 : Int,
 ((At (cs1) 5 1 [(vI n8)]) ∧
 (bcase (decide (6 < (↑n2 : Int)))
 (∃ n9 : Int,
 ((At (cs1) 6 1 [(vI n9)]) ∧
 (bcase (decide (7 < (↑n2 : Int)))
 (∃ n10 : Int,
 ((At (cs1) 7 1 [(vI n10)]) ∧
 (bcase (decide (8 < (↑n2 : Int)))
 (∃ n11 : Int,
 ((At (cs1) 8 1 [(vI n11)]) ∧
 (bcase (decide (9 < (↑n2 : Int)))
 (∃ n12 : Int,
 ((At (cs1) 9 1 [(vI n12)]) ∧
 (((Qv (Value.agg [(vI n3), (vI n4), (vI n5), (vI n6), (vI n7), (vI n8), (Value.slice none 0 0), (vI n9), (vI n10), (vI n11), (vI n12)].toArray)) ∧
 ((Qv (Value.agg [(vI n11), (vI n12)].toArray)) ∧
 ((∃ n13 : Int,
 ((At (cs1) 9 1 [(vI n13)]) ∧
 ((vI n13) = (vI n12)))) ∧
 ((bcase (decide (9 < (↑n2 : Int)))
 (Qv (Pt 1004 9))
 False) ∧
 ((Qv (Sl 1004 (n2) (n2))) ∧
 ((∃ n13 : Int,
 ((At (cs1) 8 1 [(vI n13)]) ∧
 ((vI n13) = (vI n11)))) ∧
 ((bcase (decide (8 < (↑n2 : Int)))
 (Qv (Pt 1004 8))
 False) ∧
 ((Qv (Sl 1004 (n2) (n2))) ∧
 ((Qv (Value.agg [(vI n9), (vI n10)].toArray)) ∧
 ((∃ n13 : Int,
 ((At (cs1) 7 1 [(vI n13)]) ∧
 ((vI n13) = (vI n10)))) ∧
 ((bcase (decide (7 < (↑n2 : Int)))
 (Qv (Pt 1004 7))
 False) ∧
 ((Qv (Sl 1004 (n2) (n2))) ∧
 ((∃ n13 : Int,
 ((At (cs1) 6 1 [(vI n13)]) ∧
 ((vI n13) = (vI n9)))) ∧
 ((bcase (decide (6 < (↑n2 : Int)))
 (Qv (Pt 1004 6))
 False) ∧
 ((Qv (Sl 1004 (n2) (n2))) ∧
 ((∃ n13 : Int,
 ((At (cs1) 5 1 [(vI n13)]) ∧
 ((vI n13) = (vI n8)))) ∧
 ((bcase (decide (5 < (↑n2 : Int)))
 (Qv (Pt 1004 5))
 False) ∧
 ((Qv (Sl 1004 (n2) (n2))) ∧
 ((Qv (Value.agg [(vI n6), (vI n7)].toArray)) ∧
 ((∃ n13 : Int,
 ((At (cs1) 4 1 [(vI n13)]) ∧
 ((vI n13) = (vI n7)))) ∧
 ((bcase (decide (4 < (↑n2 : Int)))
 (Qv (Pt 1004 4))
 False) ∧
 ((Qv (Sl 1004 (n2) (n2))) ∧
 ((∃ n13 : Int,
 ((At (cs1) 3 1 [(vI n13)]) ∧
 ((vI n13) = (vI n6)))) ∧
 ((bcase (decide (3 < (↑n2 : Int)))
 (Qv (Pt 1004 3))
 False) ∧
 ((Qv (Sl 1004 (n2) (n2))) ∧
 ((∃ n13 : Int,
 ((At (cs1) 2 1 [(vI n13)]) ∧
 ((vI n13) = (vI n5)))) ∧
 ((bcase (decide (2 < (↑n2 : Int)))
 (Qv (Pt 1004 2))
 False) ∧
 ((Qv (Sl 1004 (n2) (n2))) ∧
 ((∃ n13 : Int,
 ((At (cs1) 1 1 [(vI n13)]) ∧
 ((vI n13) = (vI n4)))) ∧
 ((bcase (decide (1 < (↑n2 : Int)))
 (Qv (Pt 1004 1))
 False) ∧
 ((Qv (Sl 1004 (n2) (n2))) ∧
 ((∃ n13 : Int,
 ((At (cs1) 0 1 [(vI n13)]) ∧
 ((vI n13) = (vI n3)))) ∧
 ((bcase (decide (0 < (↑n2 : Int)))
 (Qv (Pt 1004 0))
 False) ∧
 ((Qv (Sl 1004 (n2) (n2))) ∧
 True)))))))))))))))))))))))))))))))))) ∧
 (True ∧
 (B [(Prod.mk 2 (Pt 1000 0)), (Prod.mk 4 (Pt 1001 0)), (Prod.mk 5 (vI x0)), (Prod.mk 6 (Sl 1002 (n1) (n1))), (Prod.mk 7 (Pt 1003 0)), (Prod.mk 8 (vI (IntKind.wrap .i64 (x3 + 1)))), (Prod.mk 9 (vI (IntKind.wrap .i64 (x3 + 1))))] [(Prod.mk 1000 (AObj.cells [(vI x4), (vI x5), (vI x6), (vI x7), (vI x8), (vI x9), (Value.slice none 0 0), (vI x10), (vI x11), (vI x12), (vI x13)] 33 false 11)), (Prod.mk 1001 (AObj.cells [(vI x14), (vI x15), (vI x16), (vI x17), (vI x18), (vI x19), (Value.slice none 0 0), (vI x20), (vI x21), (vI x22), (vI x23)] 33 false 11)), (Prod.mk 1002 (AObj.sym (l24) true 1)), (Prod.mk 1003 (AObj.cells [(vI n3), (vI n4), (vI n5), (vI n6), (vI n7), (vI n8), (Value.slice none 0 0), (vI n9), (vI n10), (vI n11), (vI n12)] 33 false 11))])))))
 False)))
 False)))
 False)))
 False)))
 False)))
 False)))
 False)))
 False)))
 False)))
 False)
 (bcase (decide (0 < (↑n2 : Int)))
 (∃ n3 : Int,
 ((At (cs1) 0 1 [(vI n3)]) ∧
 (bcase (decide (1 < (↑n2 : Int)))
 (∃ n4 : Int,
 ((At (cs1) 1 1 [(vI n4)]) ∧
 (bcase (decide (2 < (↑n2 : Int)))
 (∃ n5 : Int,
 ((At (cs1) 2 1 [(vI n5)]) ∧
 (bcase (decide (3 < (↑n2 : Int)))
 (∃ n6 : Int,
 ((At (cs1) 3 1 [(vI n6)]) ∧
 (bcase (decide (4 < (↑n2 : Int)))
 (∃ n7 : Int,
 ((At (cs1) 4 1 [(vI n7)]) ∧
 ((((Qv (Sl 1005 1 1)) ∧
 (Qv (some (AObj.cells [(vI n3), (vI n4), (vI n5), (vI n6), (vI n7)] 79 false 5)))) ∧
 ((Qv (Value.agg [(vI n3), (vI n4), (vI n5), (vI n6), (vI n7)].toArray)) ∧
 ((Qv (Value.agg [(vI n6), (vI n7)].toArray)) ∧
 ((∃ n8 : Int,
 ((At (cs1) 4 1 [(vI n8)]) ∧
 ((vI n8) = (vI n7)))) ∧
 ((bcase (decide (4 < (↑n2 : Int)))
 (Qv (Pt 1004 4))
 False) ∧
 ((Qv (Sl 1004 (n2) (n2))) ∧
 ((∃ n8 : Int,
 ((At (cs1) 3 1 [(vI n8)]) ∧
 ((vI n8) = (vI n6)))) ∧
 ((bcase (decide (3 < (↑n2 : Int)))
 (Qv (Pt 1004 3))
 False) ∧
 ((Qv (Sl 1004 (n2) (n2))) ∧
 ((∃ n8 : Int,
 ((At (cs1) 2 1 [(vI n8)]) ∧
 ((vI n8) = (vI n5)))) ∧
 ((bcase (decide (2 < (↑n2 : Int)))
 (Qv (Pt 1004 2))
 False) ∧
 ((Qv (Sl 1004 (n2) (n2))) ∧
 ((∃ n8 : Int,
 ((At (cs1) 1 1 [(vI n8)]) ∧
 ((vI n8) = (vI n4)))) ∧
 ((bcase (decide (1 < (↑n2 : Int)))
 (Qv (Pt 1004 1))
 False) ∧
 ((Qv (Sl 1004 (n2) (n2))) ∧
 ((∃ n8 : Int,
 ((At (cs1) 0 1 [(vI n8)]) ∧
 ((vI n8) = (vI n3)))) ∧
 ((bcase (decide (0 < (↑n2 : Int)))
 (Qv (Pt 1004 0))
 False) ∧
 ((Qv (Sl 1004 (n2) (n2))) ∧
 ((Qv (Value.slice none 0 0)) ∧
 ((Qv (Pt 1003 6)) ∧
 True)))))))))))))))))))) ∧
 (((Qv (Pt 1003 6)) ∧
 ((Qv (Value.agg [(vI n3), (vI n4), (vI n5), (vI n6), (vI n7)].toArray)) ∧
 ((Qv (Value.agg [(vI n6), (vI n7)].toArray)) ∧
 ((∃ n8 : Int,
 ((At (cs1) 4 1 [(vI n8)]) ∧
 ((vI n8) = (vI n7)))) ∧
 ((bcase (decide (4 < (↑n2 : Int)))
 (Qv (Pt 1004 4))
 False) ∧
 ((Qv (Sl 1004 (n2) (n2))) ∧
 ((∃ n8 : Int,
 ((At (cs1) 3 1 [(vI n8)]) ∧
 ((vI n8) = (vI n6)))) ∧
 ((bcase (decide (3 < (↑n2 : Int)))
 (Qv (Pt 1004 3))
 False) ∧
 ((Qv (Sl 1004 (n2) (n2))) ∧
 ((∃ n8 : Int,
 ((At (cs1) 2 1 [(vI n8)]) ∧
 ((vI n8) = (vI n5)))) ∧
 ((bcase (decide (2 < (↑n2 : Int)))
 (Qv (Pt 1004 2))
 False) ∧
 ((Qv (Sl 1004 (n2) (n2))) ∧
 ((∃ n8 : Int,
 ((At (cs1) 1 1 [(vI n8)]) ∧
 ((vI n8) = (vI n4)))) ∧
 ((bcase (decide (1 < (↑n2 : Int)))
 (Qv (Pt 1004 1))
 False) ∧
 ((Qv (Sl 1004 (n2) (n2))) ∧
 ((∃ n8 : Int,
 ((At (cs1) 0 1 [(vI n8)]) ∧
 ((vI n8) = (vI n3)))) ∧
 ((bcase (decide (0 < (↑n2 : Int)))
 (Qv (Pt 1004 0))
 False) ∧
 ((Qv (Sl 1004 (n2) (n2))) ∧
 ((Qv (Pt 1003 6)) ∧
 True))))))))))))))))))) ∧
 (True ∧
 (B [(Prod.mk 2 (Pt 1000 0)), (Prod.mk 4 (Pt 1001 0)), (Prod.mk 5 (vI x0)), (Prod.mk 6 (Sl 1002 (n1) (n1))), (Prod.mk 7 (Pt 1003 0)), (Prod.mk 8 (vI (IntKind.wrap .i64 (x3 + 1)))), (Prod.mk 9 (vI (IntKind.wrap .i64 (x3 + 1))))] [(Prod.mk 1000 (AObj.cells [(vI x4), (vI x5), (vI x6), (vI x7), (vI x8), (vI x9), (Value.slice none 0 0), (vI x10), (vI x11), (vI x12), (vI x13)] 33 false 11)), (Prod.mk 1001 (AObj.cells [(vI x14), (vI x15), (vI x16), (vI x17), (vI x18), (vI x19), (Value.slice none 0 0), (vI x20), (vI x21), (vI x22), (vI x23)] 33 false 11)), (Prod.mk 1002 (AObj.sym (l24) true 1)), (Prod.mk 1003 (AObj.cells [(vI x25), (vI x26), (vI x27), (vI x28), (vI x29), (vI x30), (Sl 1004 1 1), (vI x31), (vI x32), (vI x33), (vI x34)] 33 false 11)), (Prod.mk 1004 (AObj.sym [(vI n3), (vI n4), (vI n5), (vI n6), (vI n7)] true 5))]))))))
 False)))
 False)))
 False)))
 False)))
 False)))
 (bcase (x2 == 0)
 (bcase (decide (0 < (↑n2 : Int)))
 (∃ n3 : Int,
 ((At (cs1) 0 1 [(vI n3)]) ∧
 (bcase (decide (1 < (↑n2 : Int)))
 (∃ n4 : Int,
 ((At (cs1) 1 1 [(vI n4)]) ∧
 (bcase (decide (2 < (↑n2 : Int)))
 (∃ n5 : Int,
 ((At (cs1) 2 1 [(vI n5)]) ∧
 (bcase (decide (3 < (↑n2 : Int)))
 (∃ n6 : Int,
 ((At (cs1) 3 1 [(vI n6)]) ∧
 (bcase (decide (4 < (↑n2 : Int)))
 (∃ n7 : Int,
 ((At (cs1) 4 1 [(vI n7)]) ∧
 (bcase (decide (5 < (↑n2 : Int)))
 (∃ n8 : Int,
 ((At (cs1) 5 1 [(vI n8)]) ∧
 (bcase (decide (6 < (↑n2 : Int)))
 (∃ n9 : Int,
 ((At (cs1) 6 1 [(vI n9)]) ∧
 (bcase (decide (7 < (↑n2 : Int)))
 (∃ n10 : Int,
 ((At (cs1) 7 1 [(vI n10)]) ∧
 (bcase (decide (8 < (↑n2 : Int)))
 (∃ n11 : Int,
 ((At (cs1) 8 1 [(vI n11)]) ∧
 (bcase (decide (9 < (↑n2 : Int)))
 (∃ n12 : Int,
 ((At (cs1) 9 1 [(vI n12)]) ∧
 (((Qv (Value.agg [(vI n3), (vI n4), (vI n5), (vI n6), (vI n7), (vI n8), (Value.slice none 0 0), (vI n9), (vI n10), (vI n11), (vI n12)].toArray)) ∧
 ((Qv (Value.agg [(vI n11), (vI n12)].toArray)) ∧
 ((∃ n13 : Int,
 ((At (cs1) 9 1 [(vI n13)]) ∧
 ((vI n13) = (vI n12)))) ∧
 ((bcase (decide (9 < (↑n2 : Int)))
 (Qv (Pt 1004 9))
 False) ∧
 ((Qv (Sl 1004 (n2) (n2))) ∧
 ((∃ n13 : Int,
 ((At (cs1) 8 1 [(vI n13)]) ∧
 ((vI n13) = (vI n11)))) ∧
 ((bcase (decide (8 < (↑n2 : Int)))
 (Qv (Pt 1004 8))
 False) ∧
 ((Qv (Sl 1004 (n2) (n2))) ∧
 ((Qv (Value.agg [(vI n9), (vI n10)].toArray)) ∧
 ((∃ n13 : Int,
 ((At (cs1) 7 1 [(vI n13)]) ∧
 ((vI n13) = (vI n10)))) ∧
 ((bcase (decide (7 < (↑n2 : Int)))
 (Qv (Pt 1004 7))
 False) ∧
 ((Qv (Sl 1004 (n2) (n2))) ∧
 ((∃ n13 : Int,
 ((At (cs1) 6 1 [(vI n13)]) ∧
 ((vI n13) = (vI n9)))) ∧
 ((bcase (decide (6 < (↑n2 : Int)))
 (Qv (Pt 1004 6))
 False) ∧
 ((Qv (Sl 1004 (n2) (n2))) ∧
 ((∃ n13 : Int,
 ((At (cs1) 5 1 [(vI n13)]) ∧
 ((vI n13) = (vI n8)))) ∧
 ((bcase (decide (5 < (↑n2 : Int)))
 (Qv (Pt 1004 5))
 False) ∧
 ((Qv (Sl 1004 (n2) (n2))) ∧
 ((Qv (Value.agg [(vI n6), (vI n7)].toArray)) ∧
 ((∃ n13 : Int,
 ((At (cs1) 4 1 [(vI n13)]) ∧
 ((vI n13) = (vI n7)))) ∧
 ((bcase (decide (4 < (↑n2 : Int)))
 (Qv (Pt 1004 4))
 False) ∧
 ((Qv (Sl 1004 (n2) (n2))) ∧
 ((∃ n13 : Int,
 ((At (cs1) 3 1 [(vI n13)]) ∧
 ((vI n13) = (vI n6)))) ∧
 ((bcase (decide (3 < (↑n2 : Int)))
 (Qv (Pt 1004 3))
 False) ∧
 ((Qv (Sl 1004 (n2) (n2))) ∧
 ((∃ n13 : Int,
 ((At (cs1) 2 1 [(vI n13)]) ∧
 ((vI n13) = (vI n5)))) ∧
 ((bcase (decide (2 < (↑n2 : Int)))
 (Qv (Pt 1004 2))
 False) ∧
 ((Qv (Sl 1004 (n2) (n2))) ∧
 ((∃ n13 : Int,
 ((At (cs1) 1 1 [(vI n13)]) ∧
 ((vI n13) = (vI n4)))) ∧
 ((bcase (decide (1 < (↑n2 : Int)))
 (Qv (Pt 1004 1))
 False) ∧
 ((Qv (Sl 1004 (n2) (n2))) ∧
 ((∃ n13 : Int,
 ((At (cs1) 0 1 [(vI n13)]) ∧
 ((vI n13) = (vI n3)))) ∧
 ((bcase (decide (0 < (↑n2 : Int)))
 (Qv (Pt 1004 0))
 False) ∧
 ((Qv (Sl 1004 (n2) (n2))) ∧
 True)))))))))))))))))))))))))))))))))) ∧
 (True ∧
 (B [(Prod.mk 2 (Pt 1000 0)), (Prod.mk 4 (Pt 1001 0)), (Prod.mk 5 (vI x0)), (Prod.mk 6 (Sl 1002 (n1) (n1))), (Prod.mk 7 (Pt 1003 0)), (Prod.mk 8 (vI (IntKind.wrap .i64 (x3 + 1)))), (Prod.mk 9 (vI (IntKind.wrap .i64 (x3 + 1))))] [(Prod.mk 1000 (AObj.cells [(vI x4), (vI x5), (vI x6), (vI x7), (vI x8), (vI x9), (Value.slice none 0 0), (vI x10), (vI x11), (vI x12), (vI x13)] 33 false 11)), (Prod.mk 1001 (AObj.cells [(vI x14), (vI x15), (vI x16), (vI x17), (vI x18), (vI x19), (Value.slice none 0 0), (vI x20), (vI x21), (vI x22), (vI x23)] 33 false 11)), (Prod.mk 1002 (AObj.sym (l24) true 1)), (Prod.mk 1003 (AObj.cells [(vI n3), (vI n4), (vI n5), (vI n6), (vI n7), (vI n8), (Value.slice none 0 0), (vI n9), (vI n10), (vI n11), (vI n12)] 33 false 11))])))))
 False)))
 False)))
 False)))
 False)))
 False)))
 False)))
 False)))
 False)))
 False)))
 False)
 (bcase (decide (0 < (↑n2 : Int)))
 (∃ n3 : Int,
 ((At (cs1) 0 1 [(vI n3)]) ∧
 (bcase (decide (1 < (↑n2 : Int)))
 (∃ n4 : Int,
 ((At (cs1) 1 1 [(vI n4)]) ∧
 (bcase (decide (2 < (↑n2 : Int)))
 (∃ n5 : Int,
 ((At (cs1) 2 1 [(vI n5)]) ∧
 (bcase (decide (3 < (↑n2 : Int)))
 (∃ n6 : Int,
 ((At (cs1) 3 1 [(vI n6)]) ∧
 (bcase (decide (4 < (↑n2 : Int)))
 (∃ n7 : Int,
 ((At (cs1) 4 1 [(vI n7)]) ∧
 ((((Qv (Sl 1005 1 1)) ∧
 (Qv (some (AObj.cells [(vI n3), (vI n4), (vI n5), (vI n6), (vI n7)] 79 false 5)))) ∧
 ((Qv (Value.agg [(vI n3), (vI n4), (vI n5), (vI n6), (vI n7)].toArray)) ∧
 ((Qv (Value.agg [(vI n6), (vI n7)].toArray)) ∧
 ((∃ n8 : Int,
 ((At (cs1) 4 1 [(vI n8)]) ∧
 ((vI n8) = (vI n7)))) ∧
 ((bcase (decide (4 < (↑n2 : Int)))
 (Qv (Pt 1004 4))
 False) ∧
 ((Qv (Sl 1004 (n2) (n2))) ∧
 ((∃ n8 : Int,
 ((At (cs1) 3 1 [(vI n8)]) ∧
 ((vI n8) = (vI n6)))) ∧
 ((bcase (decide (3 < (↑n2 : Int)))
 (Qv (Pt 1004 3))
 False) ∧
 ((Qv (Sl 1004 (n2) (n2))) ∧
 ((∃ n8 : Int,
 ((At (cs1) 2 1 [(vI n8)]) ∧
 ((vI n8) = (vI n5)))) ∧
 ((bcase (decide (2 < (↑n2 : Int)))
 (Qv (Pt 1004 2))
 False) ∧
 ((Qv (Sl 1004 (n2) (n2))) ∧
 ((∃ n8 : Int,
 ((At (cs1) 1 1 [(vI n8)]) ∧
 ((vI n8) = (vI n4)))) ∧
 ((bcase (decide (1 < (↑n2 : Int)))
 (Qv (Pt 1004 1))
 False) ∧
 ((Qv (Sl 1004 (n2) (n2))) ∧
 ((∃ n8 : Int,
 ((At (cs1) 0 1 [(vI n8)]) ∧
 ((vI n8) = (vI n3)))) ∧
 ((bcase (decide (0 < (↑n2 : Int)))
 (Qv (Pt 1004 0))
 False) ∧
 ((Qv (Sl 1004 (n2) (n2))) ∧
 ((Qv (Value.slice none 0 0)) ∧
 ((Qv (Pt 1003 6)) ∧
 True)))))))))))))))))))) ∧
 (((Qv (Pt 1003 6)) ∧
 ((Qv (Value.agg [(vI n3), (vI n4), (vI n5), (vI n6), (vI n7)].toArray)) ∧
 ((Qv (Value.agg [(vI n6), (vI n7)].toArray)) ∧
 ((∃ n8 : Int,
 ((At (cs1) 4 1 [(vI n8)]) ∧
 ((vI n8) = (vI n7)))) ∧
 ((bcase (decide (4 < (↑n2 : Int)))
 (Qv (Pt 1004 4))
 False) ∧
 ((Qv (Sl 1004 (n2) (n2))) ∧
 ((∃ n8 : Int,
 ((At (cs1) 3 1 [(vI n8)]) ∧
 ((vI n8) = (vI n6)))) ∧
 ((bcase (decide (3 < (↑n2 : Int)))
 (Qv (Pt 1004 3))
 False) ∧
 ((Qv (Sl 1004 (n2) (n2))) ∧
 ((∃ n8 : Int,
 ((At (cs1) 2 1 [(vI n8)]) ∧
 ((vI n8) = (vI n5)))) ∧
 ((bcase (decide (2 < (↑n2 : Int)))
 (Qv (Pt 1004 2))
 False) ∧
 ((Qv (Sl 1004 (n2) (n2))) ∧
 ((∃ n8 : Int,
 ((At (cs1) 1 1 [(vI n8)]) ∧
 ((vI n8) = (vI n4)))) ∧
 ((bcase (decide (1 < (↑n2 : Int)))
 (Qv (Pt 1004 1))
 False) ∧
 ((Qv (Sl 1004 (n2) (n2))) ∧
 ((∃ n8 : Int,
 ((At (cs1) 0 1 [(vI n8)]) ∧
 ((vI n8) = (vI n3)))) ∧
 ((bcase (decide (0 < (↑n2 : Int)))
 (Qv (Pt 1004 0))
 False) ∧
 ((Qv (Sl 1004 (n2) (n2))) ∧
 ((Qv (Pt 1003 6)) ∧
 True))))))))))))))))))) ∧
 (True ∧
 (B [(Prod.mk 2 (Pt 1000 0)), (Prod.mk 4 (Pt 1001 0)), (Prod.mk 5 (vI x0)), (Prod.mk 6 (Sl 1002 (n1) (n1))), (Prod.mk 7 (Pt 1003 0)), (Prod.mk 8 (vI (IntKind.wrap .i64 (x3 + 1)))), (Prod.mk 9 (vI (IntKind.wrap .i64 (x3 + 1))))] [(Prod.mk 1000 (AObj.cells [(vI x4), (vI x5), (vI x6), (vI x7), (vI x8), (vI x9), (Value.slice none 0 0), (vI x10), (vI x11), (vI x12), (vI x13)] 33 false 11)), (Prod.mk 1001 (AObj.cells [(vI x14), (vI x15), (vI x16), (vI x17), (vI x18), (vI x19), (Value.slice none 0 0), (vI x20), (vI x21), (vI x22), (vI x23)] 33 false 11)), (Prod.mk 1002 (AObj.sym (l24) true 1)), (Prod.mk 1003 (AObj.cells [(vI x25), (vI x26), (vI x27), (vI x28), (vI x29), (vI x30), (Sl 1004 1 1), (vI x31), (vI x32), (vI x33), (vI x34)] 33 false 11)), (Prod.mk 1004 (AObj.sym [(vI n3), (vI n4), (vI n5), (vI n6), (vI n7)] true 5))]))))))
 False)))
 False)))
 False)))
 False)))
 False))))) ∨
 ((Says C 32 [(D.sl (Int.toNat x3 - Int.toNat x2) 1 (List.take ((Int.toNat x3 - Int.toNat x2) * 1) (List.drop (0 + Int.toNat x2 * 1) l24)))] [(D.sl (n2) 1 (cs1)), (D.val (Value.bool false))]) ∧
 (k [(D.agg [(D.val (vI x14)), (D.val (vI x15)), (D.val (vI x16)), (D.val (vI x17)), (D.val (vI x18)), (D.val (vI x19)), D.nil, (D.val (vI x20)), (D.val (vI x21)), (D.val (vI x22)), (D.val (vI x23))]), (D.val (vI x0))]))))))
 False)
 False)
 False)
 False)
 False)
 False)
 False))))
 False)
 False)
 (bcase (decide (0 ≤ x3))
 (bcase (decide (x3 ≤ (↑n1 : Int)))
 (bcase (decide (0 ≤ x2))
 (bcase (decide (x2 ≤ (↑(Int.toNat x3) : Int)))
 (bcase (decide (Int.toNat x3 ≤ n1))
 (bcase (AObj.isOpen (AObj.sym l24 Bool.true 1) 0 n1)
 (bcase (decide (0 + Int.toNat x2 * 1 + (Int.toNat x3 - Int.toNat x2) * 1 ≤ List.length l24))
 ((((Says C 32 [(D.sl (Int.toNat x3 - Int.toNat x2) 1 (List.take ((Int.toNat x3 - Int.toNat x2) * 1) (List.drop (0 + Int.toNat x2 * 1) l24)))] [D.nil, (D.val (Value.bool true))]) ∧
 (bcase (x2 == 0)
 (k [(D.agg [(D.val (vI x14)), (D.val (vI x15)), (D.val (vI x16)), (D.val (vI x17)), (D.val (vI x18)), (D.val (vI x19)), D.nil, (D.val (vI x20)), (D.val (vI x21)), (D.val (vI x22)), (D.val (vI x23))]), (D.val (vI x0))])
 (bcase (decide (x2 > 0))
 (k [(D.agg [(D.val (vI x14)), (D.val (vI x15)), (D.val (vI x16)), (D.val (vI x17)), (D.val (vI x18)), (D.val (vI x19)), D.nil, (D.val (vI x20)), (D.val (vI x21)), (D.val (vI x22)), (D.val (vI x23))]), (D.val (vI x0))])
 (bcase (x2 == 0)
 False
 False)))) ∨
 ((Says C 32 [(D.sl (Int.toNat x3 - Int.toNat x2) 1 (List.take ((Int.toNat x3 - Int.toNat x2) * 1) (List.drop (0 + Int.toNat x2 * 1) l24)))] [D.nil, (D.val (Value.bool false))]) ∧
 (k [(D.agg [(D.val (vI x14)), (D.val (vI x15)), (D.val (vI x16)), (D.val (vI x17)), (D.val (vI x18)), (D.val (vI x19)), D.nil, (D.val (vI x20)), (D.val (vI x21)), (D.val (vI x22)), (D.val (vI x23))]), (D.val (vI x0))]))) ∨
 (∃ n2 : Nat,
 (∃ cs1 : List Go.Value,
 (((Says C 32 [(D.sl (Int.toNat x3 - Int.toNat x2) 1 (List.take ((Int.toNat x3 - Int.toNat x2) * 1) (List.drop (0 + Int.toNat x2 * 1) l24)))] [(D.sl (n2) 1 (cs1)), (D.val (Value.bool true))]) ∧
 (bcase (x2 == 0)
 (bcase ((↑n2 : Int) != 10)
 (k [(D.agg [(D.val (vI x14)), (D.val (vI x15)), (D.val (vI x16)), (D.val (vI x17)), (D.val (vI x18)), (D.val (vI x19)), D.nil, (D.val (vI x20)), (D.val (vI x21)), (D.val (vI x22)), (D.val (vI x23))]), (D.val (vI x0))])
 (bcase (decide (x2 > 0))
 (bcase ((↑n2 : Int) != 5)
 (k [(D.agg [(D.val (vI x14)), (D.val (vI x15)), (D.val (vI x16)), (D.val (vI x17)), (D.val (vI x18)), (D.val (vI x19)), D.nil, (D.val (vI x20)), (D.val (vI x21)), (D.val (vI x22)), (D.val (vI x23))]), (D.val (vI x0))])
 (bcase (x2 == 0)
 (bcase (decide (0 < (↑n2 : Int)))
 (∃ n3 : Int,
 ((At (cs1) 0 1 [(vI n3)]) ∧
 (bcase (decide (1 < (↑n2 : Int)))
 (∃ n4 : Int,
 ((At (cs1) 1 1 [(vI n4)]) ∧
 (bcase (decide (2 < (↑n2 : Int)))
 (∃ n5 : Int,
 ((At (cs1) 2 1 [(vI n5)]) ∧
 (bcase (decide (3 < (↑n2 : Int)))
 (∃ n6 : Int,
 ((At (cs1) 3 1 [(vI n6)]) ∧
 (bcase (decide (4 < (↑n2 : Int)))
 (∃ n7 : Int,
 ((At (cs1) 4 1 [(vI n7)]) ∧
 (bcase (decide (5 < (↑n2 : Int)))
 (∃ n8 : Int,
 ((At (cs1) 5 1 [(vI n8)]) ∧
 (bcase (decide (6 < (↑n2 : Int)))
 (∃ n9 : Int,
 ((At (cs1) 6 1 [(vI n9)]) ∧
 (bcase (decide (7 < (↑n2 : Int)))
 (∃ n10 : Int,
 ((At (cs1) 7 1 [(vI n10)]) ∧
 (bcase (decide (8 < (↑n2 : Int)))
 (∃ n11 : Int,
 ((At (cs1) 8 1 [(vI n11)]) ∧
 (bcase (decide (9 < (↑n2 : Int)))
 (∃ n12 : Int,
 ((At (cs1) 9 1 [(vI n12)]) ∧
 (((Qv (Value.agg [(vI n3), (vI n4), (vI n5), (vI n6), (vI n7), (vI n8), (Value.slice none 0 0), (vI n9), (vI n10), (vI n11), (vI n12)].toArray)) ∧
 ((Qv (Value.agg [(vI n11), (vI n12)].toArray)) ∧
 ((∃ n13 : Int,
 ((At (cs1) 9 1 [(vI n13)]) ∧
 ((vI n13) = (vI n12)))) ∧
 ((bcase (decide (9 < (↑n2 : Int)))
 (Qv (Pt 1004 9))
 False) ∧
 ((Qv (Sl 1004 (n2) (n2))) ∧
 ((∃ n13 : Int,
 ((At (cs1) 8 1 [(vI n13)]) ∧
 ((vI n13) = (vI n11)))) ∧
 ((bcase (decide (8 < (↑n2 : Int)))
 (Qv (Pt 1004 8))
 False) ∧
 ((Qv (Sl 1004 (n2) (n2))) ∧
 ((Qv (Value.agg [(vI n9), (vI n10)].toArray)) ∧
 ((∃ n13 : Int,
 ((At (cs1) 7 1 [(vI n13)]) ∧
 ((vI n13) = (vI n10)))) ∧
 ((bcase (decide (7 < (↑n2 : Int)))
 (Qv (Pt 1004 7))
 False) ∧
 ((Qv (Sl 1004 (n2) (n2))) ∧
 ((∃ n13 : Int,
 ((At (cs1) 6 1 [(vI n13)]) ∧
 ((vI n13) = (vI n9)))) ∧
 ((bcase (decide (6 < (↑n2 : Int)))
 (Qv (Pt 1004 6))
 False) ∧
 ((Qv (Sl 1004 (n2) (n2))) ∧
 ((∃ n13 : Int,
 ((At (cs1) 5 1 [(vI n13)]) ∧
 ((vI n13) = (vI n8)))) ∧
 ((bcase (decide (5 < (↑n2 : Int)))
 (Qv (Pt 1004 5))
 False) ∧
 ((Qv (Sl 1004 (n2) (n2))) ∧
 ((Qv (Value.agg [(vI n6), (vI n7)].toArray)) ∧
 ((∃ n13 : Int,
 ((At (cs1) 4 1 [(vI n13)]) ∧
 ((vI n13) = (vI n7)))) ∧
 ((bcase (decide (4 < (↑n2 : Int)))
 (Qv (Pt 1004 4))
 False) ∧
 ((Qv (Sl 1004 (n2) (n2))) ∧
 ((∃ n13 : Int,
 ((At (cs1) 3 1 [(vI n13)]) ∧
 ((vI n13) = (vI n6)))) ∧
 ((bcase (decide (3 < (↑n2 : Int)))
 (Qv (Pt 1004 3))
 False) ∧
 ((Qv (Sl 1004 (n2) (n2))) ∧
 ((∃ n13 : Int,
 ((At (cs1) 2 1 [(vI n13)]) ∧
 ((vI n13) = (vI n5)))) ∧
 ((bcase (decide (2 < (↑n2 : Int)))
 (Qv (Pt 1004 2))
 False) ∧
 ((Qv (Sl 1004 (n2) (n2))) ∧
 ((∃ n13 : Int,
 ((At (cs1) 1 1 [(vI n13)]) ∧
 ((vI n13) = (vI n4)))) ∧
 ((bcase (decide (1 < (↑n2 : Int)))
 (Qv (Pt 1004 1))
 False) ∧
 ((Qv (Sl 1004 (n2) (n2))) ∧
 ((∃ n13 : Int,
 ((At (cs1) 0 1 [(vI n13)]) ∧
 ((vI n13) = (vI n3)))) ∧
 ((bcase (decide (0 < (↑n2 : Int)))
 (Qv (Pt 1004 0))
 False) ∧
 ((Qv (Sl 1004 (n2) (n2))) ∧
 True)))))))))))))))))))))))))))))))))) ∧
 (True ∧
 (B [(Prod.mk 2 (Pt 1000 0)), (Prod.mk 4 (Pt 1001 0)), (Prod.mk 5 (vI x0)), (Prod.mk 6 (Sl 1002 (n1) (n1))), (Prod.mk 7 (Pt 1003 0)), (Prod.mk 8 (vI (IntKind.wrap .i64 (x3 + 1)))), (Prod.mk 9 (vI (IntKind.wrap .i64 (x3 + 1))))] [(Prod.mk 1000 (AObj.cells [(vI x4), (vI x5), (vI x6), (vI x7), (vI x8), (vI x9), (Value.slice none 0 0), (vI x10), (vI x11), (vI x12), (vI x13)] 33 false 11)), (Prod.mk 1001 (AObj.cells [(vI x14), (vI x15), (vI x16), (vI x17), (vI x18), (vI x19), (Value.slice none 0 0), (vI x20), (vI x21), (vI x22), (vI x23)] 33 false 11)), (Prod.mk 1002 (AObj.sym (l24) true 1)), (Prod.mk 1003 (AObj.cells [(vI n3), (vI n4), (vI n5), (vI n6), (vI n7), (vI n8), (Value.slice none 0 0), (vI n9), (vI n10), (vI n11), (vI n12)] 33 false 11))])))))
 False)))
 False)))
 False)))
 False)))
 False)))
 False)))
 False)))
 False)))
 False)))
 False)
 (bcase (decide (0 < (↑n2 : Int)))
 (∃ n3 : Int,
 ((At (cs1) 0 1 [(vI n3)]) ∧
 (bcase (decide (1 < (↑n2 : Int)))
 (∃ n4 : Int,
 ((At (cs1) 1 1 [(vI n4)]) ∧
 (bcase (decide (2 < (↑n2 : Int)))
 (∃ n5 : Int,
 ((At (cs1) 2 1 [(vI n5)]) ∧
 (bcase (decide (3 < (↑n2 : Int)))
 (∃ n6 : Int,
 ((At (cs1) 3 1 [(vI n6)]) ∧
 (bcase (decide (4 < (↑n2 : Int)))
 (∃ n7 : Int,
 ((At (cs1) 4 1 [(vI n7)]) ∧
 ((((Qv (Sl 1005 1 1)) ∧
 (Qv (some (AObj.cells [(vI n3), (vI n4), (vI n5), (vI n6), (vI n7)] 79 false 5)))) ∧
 ((Qv (Value.agg [(vI n3), (vI n4), (vI n5), (vI n6), (vI n7)].toArray)) ∧
 ((Qv (Value.agg [(vI n6), (vI n7)].toArray)) ∧
 ((∃ n8 : Int,
 ((At (cs1) 4 1 [(vI n8)]) ∧
 ((vI n8) = (vI n7)))) ∧
 ((bcase (decide (4 < (↑n2 : Int)))
 (Qv (Pt 1004 4))
 False) ∧
 ((Qv (Sl 1004 (n2) (n2))) ∧
 ((∃ n8 : Int,
 ((At (cs1) 3 1 [(vI n8)]) ∧
 ((vI n8) = (vI n6)))) ∧
 ((bcase (decide (3 < (↑n2 : Int)))
 (Qv (Pt 1004 3))
 False) ∧
 ((Qv (Sl 1004 (n2) (n2))) ∧
 ((∃ n8 : Int,
 ((At (cs1) 2 1 [(vI n8)]) ∧
 ((vI n8) = (vI n5)))) ∧
 ((bcase (decide (2 < (↑n2 : Int)))
 (Qv (Pt 1004 2))
 False) ∧
 ((Qv (Sl 1004 (n2) (n2))) ∧
 ((∃ n8 : Int,
 ((At (cs1) 1 1 [(vI n8)]) ∧
 ((vI n8) = (vI n4)))) ∧
 ((bcase (decide (1 < (↑n2 : Int)))
 (Qv (Pt 1004 1))
 False) ∧
 ((Qv (Sl 1004 (n2) (n2))) ∧
 ((∃ n8 : Int,
 ((At (cs1) 0 1 [(vI n8)]) ∧
 ((vI n8) = (vI n3)))) ∧
 ((bcase (decide (0 < (↑n2 : Int)))
 (Qv (Pt 1004 0))
 False) ∧
 ((Qv (Sl 1004 (n2) (n2))) ∧
 ((Qv (Value.slice none 0 0)) ∧
 ((Qv (Pt 1003 6)) ∧
 True)))))))))))))))))))) ∧
 (((Qv (Pt 1003 6)) ∧
 ((Qv (Value.agg [(vI n3), (vI n4), (vI n5), (vI n6), (vI n7)].toArray)) ∧
 ((Qv (Value.agg [(vI n6), (vI n7)].toArray)) ∧
 ((∃ n8 : Int,
 ((At (cs1) 4 1 [(vI n8)]) ∧
 ((vI n8) = (vI n7)))) ∧
 ((bcase (decide (4 < (↑n2 : Int)))
 (Qv (Pt 1004 4))
 False) ∧
 ((Qv (Sl 1004 (n2) (n2))) ∧
 ((∃ n8 : Int,
 ((At (cs1) 3 1 [(vI n8)]) ∧
 ((vI n8) = (vI n6)))) ∧
 ((bcase (decide (3 < (↑n2 : Int)))
 (Qv (Pt 1004 3))
 False) ∧
 ((Qv (Sl 1004 (n2) (n2))) ∧
 ((∃ n8 : Int,
 ((At (cs1) 2 1 [(vI n8)]) ∧
 ((vI n8) = (vI n5)))) ∧
 ((bcase (decide (2 < (↑n2 : Int)))
 (Qv (Pt 1004 2))
 False) ∧
 ((Qv (Sl 1004 (n2) (n2))) ∧
 ((∃ n8 : Int,
 ((At (cs1) 1 1 [(vI n8)]) ∧
 ((vI n8) = (vI n4)))) ∧
 ((bcase (decide (1 < (↑n2 : Int)))
 (Qv (Pt 1004 1))
 False) ∧
 ((Qv (Sl 1004 (n2) (n2))) ∧
 ((∃ n8 : Int,
 ((At (cs1) 0 1 [(vI n8)]) ∧
 ((vI n8) = (vI n3)))) ∧
 ((bcase (decide (0 < (↑n2 : Int)))
 (Qv (Pt 1004 0))
 False) ∧
 ((Qv (Sl 1004 (n2) (n2))) ∧
 ((Qv (Pt 1003 6)) ∧
 True))))))))))))))))))) ∧
 (True ∧
 (B [(Prod.mk 2 (Pt 1000 0)), (Prod.mk 4 (Pt 1001 0)), (Prod.mk 5 (vI x0)), (Prod.mk 6 (Sl 1002 (n1) (n1))), (Prod.mk 7 (Pt 1003 0)), (Prod.mk 8 (vI (IntKind.wrap .i64 (x3 + 1)))), (Prod.mk 9 (vI (IntKind.wrap .i64 (x3 + 1))))] [(Prod.mk 1000 (AObj.cells [(vI x4), (vI x5), (vI x6), (vI x7), (vI x8), (vI x9), (Value.slice none 0 0), (vI x10), (vI x11), (vI x12), (vI x13)] 33 false 11)), (Prod.mk 1001 (AObj.cells [(vI x14), (vI x15), (vI x16), (vI x17), (vI x18), (vI x19), (Value.slice none 0 0), (vI x20), (vI x21), (vI x22), (vI x23)] 33 false 11)), (Prod.mk 1002 (AObj.sym (l24) true 1)), (Prod.mk 1003 (AObj.cells [(vI x25), (vI x26), (vI x27), (vI x28), (vI x29), (vI x30), (Sl 1004 1 1), (vI x31), (vI x32), (vI x33), (vI x34)] 33 false 11)), (Prod.mk 1004 (AObj.sym [(vI n3), (vI n4), (vI n5), (vI n6), (vI n7)] true 5))]))))))
 False)))
 False)))
 False)))
 False)))
 False)))
 (bcase (x2 == 0)
 (bcase (decide (0 < (↑n2 : Int)))
 (∃ n3 : Int,
 ((At (cs1) 0 1 [(vI n3)]) ∧
 (bcase (decide (1 < (↑n2 : Int)))
 (∃ n4 : Int,
 ((At (cs1) 1 1 [(vI n4)]) ∧
 (bcase (decide (2 < (↑n2 : Int)))
 (∃ n5 : Int,
 ((At (cs1) 2 1 [(vI n5)]) ∧
 (bcase (decide (3 < (↑n2 : Int)))
 (∃ n6 : Int,
 ((At (cs1) 3 1 [(vI n6)]) ∧
 (bcase (decide (4 < (↑n2 : Int)))
 (∃ n7 : Int,
 ((At (cs1) 4 1 [(vI n7)]) ∧
 (bcase (decide (5 < (↑n2 : Int)))
 (∃ n8 : Int,
 ((At (cs1) 5 1 [(vI n8)]) ∧
 (bcase (decide (6 < (↑n2 : Int)))
 (∃ n9 : Int,
 ((At (cs1) 6 1 [(vI n9)]) ∧
 (bcase (decide (7 < (↑n2 : Int)))
 (∃ n10 : Int,
 ((At (cs1) 7 1 [(vI n10)]) ∧
 (bcase (decide (8 < (↑n2 : Int)))
 (∃ n11 : Int,
 ((At (cs1) 8 1 [(vI n11)]) ∧
 (bcase (decide (9 < (↑n2 : Int)))
 (∃ n12 : Int,
 ((At (cs1) 9 1 [(vI n12)]) ∧
 (((Qv (Value.agg [(vI n3), (vI n4), (vI n5), (vI n6), (vI n7), (vI n8), (Value.slice none 0 0), (vI n9), (vI n10), (vI n11), (vI n12)].toArray)) ∧
 ((Qv (Value.agg [(vI n11), (vI n12)].toArray)) ∧
 ((∃ n13 : Int,
 ((At (cs1) 9 1 [(vI n13)]) ∧
 ((vI n13) = (vI n12)))) ∧
 ((bcase (decide (9 < (↑n2 : Int)))
 (Qv (Pt 1004 9))
 False) ∧
 ((Qv (Sl 1004 (n2) (n2))) ∧
 ((∃ n13 : Int,
 ((At (cs1) 8 1 [(vI n13)]) ∧
 ((vI n13) = (vI n11)))) ∧
 ((bcase (decide (8 < (↑n2 : Int)))
 (Qv (Pt 1004 8))
 False) ∧
 ((Qv (Sl 1004 (n2) (n2))) ∧
 ((Qv (Value.agg [(vI n9), (vI n10)].toArray)) ∧
 ((∃ n13 : Int,
 ((At (cs1) 7 1 [(vI n13)]) ∧
 ((vI n13) = (vI n10)))) ∧
 ((bcase (decide (7 < (↑n2 : Int)))
 (Qv (Pt 1004 7))
 False) ∧
 ((Qv (Sl 1004 (n2) (n2))) ∧
 ((∃ n13 : Int,
 ((At (cs1) 6 1 [(vI n13)]) ∧
 ((vI n13) = (vI n9)))) ∧
 ((bcase (decide (6 < (↑n2 : Int)))
 (Qv (Pt 1004 6))
 False) ∧
 ((Qv (Sl 1004 (n2) (n2))) ∧
 ((∃ n13 : Int,
 ((At (cs1) 5 1 [(vI n13)]) ∧
 ((vI n13) = (vI n8)))) ∧
 ((bcase (decide (5 < (↑n2 : Int)))
 (Qv (Pt 1004 5))
 False) ∧
 ((Qv (Sl 1004 (n2) (n2))) ∧
 ((Qv (Value.agg [(vI n6), (vI n7)].toArray)) ∧
 ((∃ n13 : Int,
 ((At (cs1) 4 1 [(vI n13)]) ∧
 ((vI n13) = (vI n7)))) ∧
 ((bcase (decide (4 < (↑n2 : Int)))
 (Qv (Pt 1004 4))
 False) ∧
 ((Qv (Sl 1004 (n2) (n2))) ∧
 ((∃ n13 : Int,
 ((At (cs1) 3 1 [(vI n13)]) ∧
 ((vI n13) = (vI n6)))) ∧
 ((bcase (decide (3 < (↑n2 : Int)))
 (Qv (Pt 1004 3))
 False) ∧
 ((Qv (Sl 1004 (n2) (n2))) ∧
 ((∃ n13 : Int,
 ((At (cs1) 2 1 [(vI n13)]) ∧
 ((vI n13) = (vI n5)))) ∧
 ((bcase (decide (2 < (↑n2 : Int)))
 (Qv (Pt 1004 2))
 False) ∧
 ((Qv (Sl 1004 (n2) (n2))) ∧
 ((∃ n13 : Int,
 ((At (cs1) 1 1 [(vI n13)]) ∧
 ((vI n13) = (vI n4)))) ∧
 ((bcase (decide (1 < (↑n2 : Int)))
 (Qv (Pt 1004 1))
 False) ∧
 ((Qv (Sl 1004 (n2) (n2))) ∧
 ((∃ n13 : Int,
 ((At (cs1) 0 1 [(vI n13)]) ∧
 ((vI n13) = (vI n3)))) ∧
 ((bcase (decide (0 < (↑n2 : Int)))
 (Qv (Pt 1004 0))
 False) ∧
 ((Qv (Sl 1004 (n2) (n2))) ∧
 True)))))))))))))))))))))))))))))))))) ∧
 (True ∧
 (B [(Prod.mk 2 (Pt 1000 0)), (Prod.mk 4 (Pt 1001 0)), (Prod.mk 5 (vI x0)), (Prod.mk 6 (Sl 1002 (n1) (n1))), (Prod.mk 7 (Pt 1003 0)), (Prod.mk 8 (vI (IntKind.wrap .i64 (x3 + 1)))), (Prod.mk 9 (vI (IntKind.wrap .i64 (x3 + 1))))] [(Prod.mk 1000 (AObj.cells [(vI x4), (vI x5), (vI x6), (vI x7), (vI x8), (vI x9), (Value.slice none 0 0), (vI x10), (vI x11), (vI x12), (vI x13)] 33 false 11)), (Prod.mk 1001 (AObj.cells [(vI x14), (vI x15), (vI x16), (vI x17), (vI x18), (vI x19), (Value.slice none 0 0), (vI x20), (vI x21), (vI x22), (vI x23)] 33 false 11)), (Prod.mk 1002 (AObj.sym (l24) true 1)), (Prod.mk 1003 (AObj.cells [(vI n3), (vI n4), (vI n5), (vI n6), (vI n7), (vI n8), (Value.slice none 0 0), (vI n9), (vI n10), (vI n11), (vI n12)] 33 false 11))])))))
 False)))
 False)))
 False)))
 False)))
 False)))
 False)))
 False)))
 False)))
 False)))
 False)
 (bcase (decide (0 < (↑n2 : Int)))
 (∃ n3 : Int,
 ((At (cs1) 0 1 [(vI n3)]) ∧
 (bcase (decide (1 < (↑n2 : Int)))
 (∃ n4 : Int,
 ((At (cs1) 1 1 [(vI n4)]) ∧
 (bcase (decide (2 < (↑n2 : Int)))
 (∃ n5 : Int,
 ((At (cs1) 2 1 [(vI n5)]) ∧
 (bcase (decide (3 < (↑n2 : Int)))
 (∃ n6 : Int,
 ((At (cs1) 3 1 [(vI n6)]) ∧
 (bcase (decide (4 < (↑n2 : Int)))
 (∃ n7 : Int,
 ((At (cs1) 4 1 [(vI n7)]) ∧
 ((((Qv (Sl 1005 1 1)) ∧
 (Qv (some (AObj.cells [(vI n3), (vI n4), (vI n5), (vI n6), (vI n7)] 79 false 5)))) ∧
 ((Qv (Value.agg [(vI n3), (vI n4), (vI n5), (vI n6), (vI n7)].toArray)) ∧
 ((Qv (Value.agg [(vI n6), (vI n7)].toArray)) ∧
 ((∃ n8 : Int,
 ((At (cs1) 4 1 [(vI n8)]) ∧
 ((vI n8) = (vI n7)))) ∧
 ((bcase (decide (4 < (↑n2 : Int)))
 (Qv (Pt 1004 4))
 False) ∧
 ((Qv (Sl 1004 (n2) (n2))) ∧
 ((∃ n8 : Int,
 ((At (cs1) 3 1 [(vI n8)]) ∧
 ((vI n8) = (vI n6)))) ∧
 ((bcase (decide (3 < (↑n2 : Int)))
 (Qv (Pt 1004 3))
 False) ∧
 ((Qv (Sl 1004 (n2) (n2))) ∧
 ((∃ n8 : Int,
 ((At (cs1) 2 1 [(vI n8)]) ∧
 ((vI n8) = (vI n5)))) ∧
 ((bcase (decide (2 < (↑n2 : Int)))
 (Qv (Pt 1004 2))
 False) ∧
 ((Qv (Sl 1004 (n2) (n2))) ∧
 ((∃ n8 : Int,
 ((At (cs1) 1 1 [(vI n8)]) ∧
 ((vI n8) = (vI n4)))) ∧
 ((bcase (decide (1 < (↑n2 : Int)))
 (Qv (Pt 1004 1))
 False) ∧
 ((Qv (Sl 1004 (n2) (n2))) ∧
 ((∃ n8 : Int,
 ((At (cs1) 0 1 [(vI n8)]) ∧
 ((vI n8) = (vI n3)))) ∧
 ((bcase (decide (0 < (↑n2 : Int)))
 (Qv (Pt 1004 0))
 False) ∧
 ((Qv (Sl 1004 (n2) (n2))) ∧
 ((Qv (Value.slice none 0 0)) ∧
 ((Qv (Pt 1003 6)) ∧
 True)))))))))))))))))))) ∧
 (((Qv (Pt 1003 6)) ∧
 ((Qv (Value.agg [(vI n3), (vI n4), (vI n5), (vI n6), (vI n7)].toArray)) ∧
 ((Qv (Value.agg [(vI n6), (vI n7)].toArray)) ∧
 ((∃ n8 : Int,
 ((At (cs1) 4 1 [(vI n8)]) ∧
 ((vI n8) = (vI n7)))) ∧
 ((bcase (decide (4 < (↑n2 : Int)))
 (Qv (Pt 1004 4))
 False) ∧
 ((Qv (Sl 1004 (n2) (n2))) ∧
 ((∃ n8 : Int,
 ((At (cs1) 3 1 [(vI n8)]) ∧
 ((vI n8) = (vI n6)))) ∧
 ((bcase (decide (3 < (↑n2 : Int)))
 (Qv (Pt 1004 3))
 False) ∧
 ((Qv (Sl 1004 (n2) (n2))) ∧
 ((∃ n8 : Int,
 ((At (cs1) 2 1 [(vI n8)]) ∧
 ((vI n8) = (vI n5)))) ∧
 ((bcase (decide (2 < (↑n2 : Int)))
 (Qv (Pt 1004 2))
 False) ∧
 ((Qv (Sl 1004 (n2) (n2))) ∧
 ((∃ n8 : Int,
 ((At (cs1) 1 1 [(vI n8)]) ∧
 ((vI n8) = (vI n4)))) ∧
 ((bcase (decide (1 < (↑n2 : Int)))
 (Qv (Pt 1004 1))
 False) ∧
 ((Qv (Sl 1004 (n2) (n2))) ∧
 ((∃ n8 : Int,
 ((At (cs1) 0 1 [(vI n8)]) ∧
 ((vI n8) = (vI n3)))) ∧
 ((bcase (decide (0 < (↑n2 : Int)))
 (Qv (Pt 1004 0))
 False) ∧
 ((Qv (Sl 1004 (n2) (n2))) ∧
 ((Qv (Pt 1003 6)) ∧
 True))))))))))))))))))) ∧
 (True ∧
 (B [(Prod.mk 2 (Pt 1000 0)), (Prod.mk 4 (Pt 1001 0)), (Prod.mk 5 (vI x0)), (Prod.mk 6 (Sl 1002 (n1) (n1))), (Prod.mk 7 (Pt 1003 0)), (Prod.mk 8 (vI (IntKind.wrap .i64 (x3 + 1)))), (Prod.mk 9 (vI (IntKind.wrap .i64 (x3 + 1))))] [(Prod.mk 1000 (AObj.cells [(vI x4), (vI x5), (vI x6), (vI x7), (vI x8), (vI x9), (Value.slice none 0 0), (vI x10), (vI x11), (vI x12), (vI x13)] 33 false 11)), (Prod.mk 1001 (AObj.cells [(vI x14), (vI x15), (vI x16), (vI x17), (vI x18), (vI x19), (Value.slice none 0 0), (vI x20), (vI x21), (vI x22), (vI x23)] 33 false 11)), (Prod.mk 1002 (AObj.sym (l24) true 1)), (Prod.mk 1003 (AObj.cells [(vI x25), (vI x26), (vI x27), (vI x28), (vI x29), (vI x30), (Sl 1004 1 1), (vI x31), (vI x32), (vI x33), (vI x34)] 33 false 11)), (Prod.mk 1004 (AObj.sym [(vI n3), (vI n4), (vI n5), (vI n6), (vI n7)] true 5))]))))))
 False)))
 False)))
 False)))
 False)))
 False))))
 (bcase (decide (x2 > 0))
 (bcase ((↑n2 : Int) != 5)
 (k [(D.agg [(D.val (vI x14)), (D.val (vI x15)), (D.val (vI x16)), (D.val (vI x17)), (D.val (vI x18)), (D.val (vI x19)), D.nil, (D.val (vI x20)), (D.val (vI x21)), (D.val (vI x22)), (D.val (vI x23))]), (D.val (vI x0))])
 (bcase (x2 == 0)
 (bcase (decide (0 < (↑n2 : Int)))
 (∃ n3 : Int,
 ((At (cs1) 0 1 [(vI n3)]) ∧
 (bcase (decide (1 < (↑n2 : Int)))
 (∃ n4 : Int,
 ((At (cs1) 1 1 [(vI n4)]) ∧
 (bcase (decide (2 < (↑n2 : Int)))
 (∃ n5 : Int,
 ((At (cs1) 2 1 [(vI n5)]) ∧
 (bcase (decide (3 < (↑n2 : Int)))
 (∃ n6 : Int,
 ((At (cs1) 3 1 [(vI n6)]) ∧
 (bcase (decide (4 < (↑n2 : Int)))
 (∃ n7 : Int,
 ((At (cs1) 4 1 [(vI n7)]) ∧
 (bcase (decide (5 < (↑n2 : Int)))
 (∃ n8 : Int,
 ((At (cs1) 5 1 [(vI n8)]) ∧
 (bcase (decide (6 < (↑n2 : Int)))
 (∃ n9 : Int,
 ((At (cs1) 6 1 [(vI n9)]) ∧
 (bcase (decide (7 < (↑n2 : Int)))
 (∃ n10 : Int,
 ((At (cs1) 7 1 [(vI n10)]) ∧
 (bcase (decide (8 < (↑n2 : Int)))
 (∃ n11 : Int,
 ((At (cs1) 8 1 [(vI n11)]) ∧
 (bcase (decide (9 < (↑n2 : Int)))
 (∃ n12 : Int,
 ((At (cs1) 9 1 [(vI n12)]) ∧
 (((Qv (Value.agg [(vI n3), (vI n4), (vI n5), (vI n6), (vI n7), (vI n8), (Value.slice none 0 0), (vI n9), (vI n10), (vI n11), (vI n12)].toArray)) ∧
 ((Qv (Value.agg [(vI n11), (vI n12)].toArray)) ∧
 ((∃ n13 : Int,
 ((At (cs1) 9 1 [(vI n13)]) ∧
 ((vI n13) = (vI n12)))) ∧
 ((bcase (decide (9 < (↑n2 : Int)))
 (Qv (Pt 1004 9))
 False) ∧
 ((Qv (Sl 1004 (n2) (n2))) ∧
 ((∃ n13 : Int,
 ((At (cs1) 8 1 [(vI n13)]) ∧
 ((vI n13) = (vI n11)))) ∧
 ((bcase (decide (8 < (↑n2 : Int)))
 (Qv (Pt 1004 8))
 False) ∧
 ((Qv (Sl 1004 (n2) (n2))) ∧
 ((Qv (Value.agg [(vI n9), (vI n10)].toArray)) ∧
 ((∃ n13 : Int,
 ((At (cs1) 7 1 [(vI n13)]) ∧
 ((vI n13) = (vI n10)))) ∧
 ((bcase (decide (7 < (↑n2 : Int)))
 (Qv (Pt 1004 7))
 False) ∧
 ((Qv (Sl 1004 (n2) (n2))) ∧
 ((∃ n13 : Int,
 ((At (cs1) 6 1 [(vI n13)]) ∧
 ((vI n13) = (vI n9)))) ∧
 ((bcase (decide (6 < (↑n2 : Int)))
 (Qv (Pt 1004 6))
 False) ∧
 ((Qv (Sl 1004 (n2) (n2))) ∧
 ((∃ n13 : Int,
 ((At (cs1) 5 1 [(vI n13)]) ∧
 ((vI n13) = (vI n8)))) ∧
 ((bcase (decide (5 < (↑n2 : Int)))
 (Qv (Pt 1004 5))
 False) ∧
 ((Qv (Sl 1004 (n2) (n2))) ∧
 ((Qv (Value.agg [(vI n6), (vI n7)].toArray)) ∧
 ((∃ n13 : Int,
 ((At (cs1) 4 1 [(vI n13)]) ∧
 ((vI n13) = (vI n7)))) ∧
 ((bcase (decide (4 < (↑n2 : Int)))
 (Qv (Pt 1004 4))
 False) ∧
 ((Qv (Sl 1004 (n2) (n2))) ∧
 ((∃ n13 : Int,
 ((At (cs1) 3 1 [(vI n13)]) ∧
 ((vI n13) = (vI n6)))) ∧
 ((bcase (decide (3 < (↑n2 : Int)))
 (Qv (Pt 1004 3))
 False) ∧
 ((Qv (Sl 1004 (n2) (n2))) ∧
 ((∃ n13 : Int,
 ((At (cs1) 2 1 [(vI n13)]) ∧
 ((vI n13) = (vI n5)))) ∧
 ((bcase (decide (2 < (↑n2 : Int)))
 (Qv (Pt 1004 2))
 False) ∧
 ((Qv (Sl 1004 (n2) (n2))) ∧
 ((∃ n13 : Int,
 ((At (cs1) 1 1 [(vI n13)]) ∧
 ((vI n13) = (vI n4)))) ∧
 ((bcase (decide (1 < (↑n2 : Int)))
 (Qv (Pt 1004 1))
 False) ∧
 ((Qv (Sl 1004 (n2) (n2))) ∧
 ((∃ n13 : Int,
 ((At (cs1) 0 1 [(vI n13)]) ∧
 ((vI n13) = (vI n3)))) ∧
 ((bcase (decide (0 < (↑n2 : Int)))
 (Qv (Pt 1004 0))
 False) ∧
 ((Qv (Sl 1004 (n2) (n2))) ∧
 True)))))))))))))))))))))))))))))))))) ∧
 (True ∧
 (B [(Prod.mk 2 (Pt 1000 0)), (Prod.mk 4 (Pt 1001 0)), (Prod.mk 5 (vI x0)), (Prod.mk 6 (Sl 1002 (n1) (n1))), (Prod.mk 7 (Pt 1003 0)), (Prod.mk 8 (vI (IntKind.wrap .i64 (x3 + 1)))), (Prod.mk 9 (vI (IntKind.wrap .i64 (x3 + 1))))] [(Prod.mk 1000 (AObj.cells [(vI x4), (vI x5), (vI x6), (vI x7), (vI x8), (vI x9), (Value.slice none 0 0), (vI x10), (vI x11), (vI x12), (vI x13)] 33 false 11)), (Prod.mk 1001 (AObj.cells [(vI x14), (vI x15), (vI x16), (vI x17), (vI x18), (vI x19), (Value.slice none 0 0), (vI x20), (vI x21), (vI x22), (vI x23)] 33 false 11)), (Prod.mk 1002 (AObj.sym (l24) true 1)), (Prod.mk 1003 (AObj.cells [(vI n3), (vI n4), (vI n5), (vI n6), (vI n7), (vI n8), (Value.slice none 0 0), (vI n9), (vI n10), (vI n11), (vI n12)] 33 false 11))])))))
 False)))
 False)))
 False)))
 False)))
 False)))
 False)))
 False)))
 False)))
 False)))
 False)
 (bcase (decide (0 < (↑n2 : Int)))
 (∃ n3 : Int,
 ((At (cs1) 0 1 [(vI n3)]) ∧
 (bcase (decide (1 < (↑n2 : Int)))
 (∃ n4 : Int,
 ((At (cs1) 1 1 [(vI n4)]) ∧
 (bcase (decide (2 < (↑n2 : Int)))
 (∃ n5 : Int,
 ((At (cs1) 2 1 [(vI n5)]) ∧
 (bcase (decide (3 < (↑n2 : Int)))
 (∃ n6 : Int,
 ((At (cs1) 3 1 [(vI n6)]) ∧
 (bcase (decide (4 < (↑n2 : Int)))
 (∃ n7 : Int,
 ((At (cs1) 4 1 [(vI n7)]) ∧
 ((((Qv (Sl 1005 1 1)) ∧
 (Qv (some (AObj.cells [(vI n3), (vI n4), (vI n5), (vI n6), (vI n7)] 79 false 5)))) ∧
 ((Qv (Value.agg [(vI n3), (vI n4), (vI n5), (vI n6), (vI n7)].toArray)) ∧
 ((Qv (Value.agg [(vI n6), (vI n7)].toArray)) ∧
 ((∃ n8 : Int,
 ((At (cs1) 4 1 [(vI n8)]) ∧
 ((vI n8) = (vI n7)))) ∧
 ((bcase (decide (4 < (↑n2 : Int)))
 (Qv (Pt 1004 4))
 False) ∧
 ((Qv (Sl 1004 (n2) (n2))) ∧
 ((∃ n8 : Int,
 ((At (cs1) 3 1 [(vI n8)]) ∧
 ((vI n8) = (vI n6)))) ∧
 ((bcase (decide (3 < (↑n2 : Int)))
 (Qv (Pt 1004 3))
 False) ∧
 ((Qv (Sl 1004 (n2) (n2))) ∧
 ((∃ n8 : Int,
 ((At (cs1) 2 1 [(vI n8)]) ∧
 ((vI n8) = (vI n5)))) ∧
 ((bcase (decide (2 < (↑n2 : Int)))
 (Qv (Pt 1004 2))
 False) ∧
 ((Qv (Sl 1004 (n2) (n2))) ∧
 ((∃ n8 : Int,
 ((At (cs1) 1 1 [(vI n8)]) ∧
 ((vI n8) = (vI n4)))) ∧
 ((bcase (decide (1 < (↑n2 : Int)))
 (Qv (Pt 1004 1))
 False) ∧
 ((Qv (Sl 1004 (n2) (n2))) ∧
 ((∃ n8 : Int,
 ((At (cs1) 0 1 [(vI n8)]) ∧
 ((vI n8) = (vI n3)))) ∧
 ((bcase (decide (0 < (↑n2 : Int)))
 (Qv (Pt 1004 0))
 False) ∧
 ((Qv (Sl 1004 (n2) (n2))) ∧
 ((Qv (Value.slice none 0 0)) ∧
 ((Qv (Pt 1003 6)) ∧
 True)))))))))))))))))))) ∧
 (((Qv (Pt 1003 6)) ∧
 ((Qv (Value.agg [(vI n3), (vI n4), (vI n5), (vI n6), (vI n7)].toArray)) ∧
 ((Qv (Value.agg [(vI n6), (vI n7)].toArray)) ∧
 ((∃ n8 : Int,
 ((At (cs1) 4 1 [(vI n8)]) ∧
 ((vI n8) = (vI n7)))) ∧
 ((bcase (decide (4 < (↑n2 : Int)))
 (Qv (Pt 1004 4))
 False) ∧
 ((Qv (Sl 1004 (n2) (n2))) ∧
 ((∃ n8 : Int,
 ((At (cs1) 3 1 [(vI n8)]) ∧
 ((vI n8) = (vI n6)))) ∧
 ((bcase (decide (3 < (↑n2 : Int)))
 (Qv (Pt 1004 3))
 False) ∧
 ((Qv (Sl 1004 (n2) (n2))) ∧
 ((∃ n8 : Int,
 ((At (cs1) 2 1 [(vI n8)]) ∧
 ((vI n8) = (vI n5)))) ∧
 ((bcase (decide (2 < (↑n2 : Int)))
 (Qv (Pt 1004 2))
 False) ∧
 ((Qv (Sl 1004 (n2) (n2))) ∧
 ((∃ n8 : Int,
 ((At (cs1) 1 1 [(vI n8)]) ∧
 ((vI n8) = (vI n4)))) ∧
 ((bcase (decide (1 < (↑n2 : Int)))
 (Qv (Pt 1004 1))
 False) ∧
 ((Qv (Sl 1004 (n2) (n2))) ∧
 ((∃ n8 : Int,
 ((At (cs1) 0 1 [(vI n8)]) ∧
 ((vI n8) = (vI n3)))) ∧
 ((bcase (decide (0 < (↑n2 : Int)))
 (Qv (Pt 1004 0))
 False) ∧
 ((Qv (Sl 1004 (n2) (n2))) ∧
 ((Qv (Pt 1003 6)) ∧
 True))))))))))))))))))) ∧
 (True ∧
 (B [(Prod.mk 2 (Pt 1000 0)), (Prod.mk 4 (Pt 1001 0)), (Prod.mk 5 (vI x0)), (Prod.mk 6 (Sl 1002 (n1) (n1))), (Prod.mk 7 (Pt 1003 0)), (Prod.mk 8 (vI (IntKind.wrap .i64 (x3 + 1)))), (Prod.mk 9 (vI (IntKind.wrap .i64 (x3 + 1))))] [(Prod.mk 1000 (AObj.cells [(vI x4), (vI x5), (vI x6), (vI x7), (vI x8), (vI x9), (Value.slice none 0 0), (vI x10), (vI x11), (vI x12), (vI x13)] 33 false 11)), (Prod.mk 1001 (AObj.cells [(vI x14), (vI x15), (vI x16), (vI x17), (vI x18), (vI x19), (Value.slice none 0 0), (vI x20), (vI x21), (vI x22), (vI x23)] 33 false 11)), (Prod.mk 1002 (AObj.sym (l24) true 1)), (Prod.mk 1003 (AObj.cells [(vI x25), (vI x26), (vI x27), (vI x28), (vI x29), (vI x30), (Sl 1004 1 1), (vI x31), (vI x32), (vI x33), (vI x34)] 33 false 11)), (Prod.mk 1004 (AObj.sym [(vI n3), (vI n4), (vI n5), (vI n6), (vI n7)] true 5))]))))))
 False)))
 False)))
 False)))
 False)))
 False)))
 (bcase (x2 == 0)
 (bcase (decide (0 < (↑n2 : Int)))
 (∃ n3 : Int,
 ((At (cs1) 0 1 [(vI n3)]) ∧
 (bcase (decide (1 < (↑n2 : Int)))
 (∃ n4 : Int,
 ((At (cs1) 1 1 [(vI n4)]) ∧
 (bcase (decide (2 < (↑n2 : Int)))
 (∃ n5 : Int,
 ((At (cs1) 2 1 [(vI n5)]) ∧
 (bcase (decide (3 < (↑n2 : Int)))
 (∃ n6 : Int,
 ((At (cs1) 3 1 [(vI n6)]) ∧
 (bcase (decide (4 < (↑n2 : Int)))
 (∃ n7 : Int,
 ((At (cs1) 4 1 [(vI n7)]) ∧
 (bcase (decide (5 < (↑n2 : Int)))
 (∃ n8 : Int,
 ((At (cs1) 5 1 [(vI n8)]) ∧
 (bcase (decide (6 < (↑n2 : Int)))
 (∃ n9 : Int,
 ((At (cs1) 6 1 [(vI n9)]) ∧
 (bcase (decide (7 < (↑n2 : Int)))
 (∃ n10 : Int,
 ((At (cs1) 7 1 [(vI n10)]) ∧
 (bcase (decide (8 < (↑n2 : Int)))
 (∃ n11 : Int,
 ((At (cs1) 8 1 [(vI n11)]) ∧
 (bcase (decide (9 < (↑n2 : Int)))
 (∃ n12 : Int,
 ((At (cs1) 9 1 [(vI n12)]) ∧
 (((Qv (Value.agg [(vI n3), (vI n4), (vI n5), (vI n6), (vI n7), (vI n8), (Value.slice none 0 0), (vI n9), (vI n10), (vI n11), (vI n12)].toArray)) ∧
 ((Qv (Value.agg [(vI n11), (vI n12)].toArray)) ∧
 ((∃ n13 : Int,
 ((At (cs1) 9 1 [(vI n13)]) ∧
 ((vI n13) = (vI n12)))) ∧
 ((bcase (decide (9 < (↑n2 : Int)))
 (Qv (Pt 1004 9))
 False) ∧
 ((Qv (Sl 1004 (n2) (n2))) ∧
 ((∃ n13 : Int,
 ((At (cs1) 8 1 [(vI n13)]) ∧
 ((vI n13) = (vI n11)))) ∧
 ((bcase (decide (8 < (↑n2 : Int)))
 (Qv (Pt 1004 8))
 False) ∧
 ((Qv (Sl 1004 (n2) (n2))) ∧
 ((Qv (Value.agg [(vI n9), (vI n10)].toArray)) ∧
 ((∃ n13 : Int,
 ((At (cs1) 7 1 [(vI n13)]) ∧
 ((vI n13) = (vI n10)))) ∧
 ((bcase (decide (7 < (↑n2 : Int)))
 (Qv (Pt 1004 7))
 False) ∧
 ((Qv (Sl 1004 (n2) (n2))) ∧
 ((∃ n13 : Int,
 ((At (cs1) 6 1 [(vI n13)]) ∧
 ((vI n13) = (vI n9)))) ∧
 ((bcase (decide (6 < (↑n2 : Int)))
 (Qv (Pt 1004 6))
 False) ∧
 ((Qv (Sl 1004 (n2) (n2))) ∧
 ((∃ n13 : Int,
 ((At (cs1) 5 1 [(vI n13)]) ∧
 ((vI n13) = (vI n8)))) ∧
 ((bcase (decide (5 < (↑n2 : Int)))
 (Qv (Pt 1004 5))
 False) ∧
 ((Qv (Sl 1004 (n2) (n2))) ∧
 ((Qv (Value.agg [(vI n6), (vI n7)].toArray)) ∧
 ((∃ n13 : Int,
 ((At (cs1) 4 1 [(vI n13)]) ∧
 ((vI n13) = (vI n7)))) ∧
 ((bcase (decide (4 < (↑n2 : Int)))
 (Qv (Pt 1004 4))
 False) ∧
 ((Qv (Sl 1004 (n2) (n2))) ∧
 ((∃ n13 : Int,
 ((At (cs1) 3 1 [(vI n13)]) ∧
 ((vI n13) = (vI n6)))) ∧
 ((bcase (decide (3 < (↑n2 : Int)))
 (Qv (Pt 1004 3))
 False) ∧
 ((Qv (Sl 1004 (n2) (n2))) ∧
 ((∃ n13 : Int,
 ((At (cs1) 2 1 [(vI n13)]) ∧
 ((vI n13) = (vI n5)))) ∧
 ((bcase (decide (2 < (↑n2 : Int)))
 (Qv (Pt 1004 2))
 False) ∧
 ((Qv (Sl 1004 (n2) (n2))) ∧
 ((∃ n13 : Int,
 ((At (cs1) 1 1 [(vI n13)]) ∧
 ((vI n13) = (vI n4)))) ∧
 ((bcase (decide (1 < (↑n2 : Int)))
 (Qv (Pt 1004 1))
 False) ∧
 ((Qv (Sl 1004 (n2) (n2))) ∧
 ((∃ n13 : Int,
 ((At (cs1) 0 1 [(vI n13)]) ∧
 ((vI n13) = (vI n3)))) ∧
 ((bcase (decide (0 < (↑n2 : Int)))
 (Qv (Pt 1004 0))
 False) ∧
 ((Qv (Sl 1004 (n2) (n2))) ∧
 True)))))))))))))))))))))))))))))))))) ∧
 (True ∧
 (B [(Prod.mk 2 (Pt 1000 0)), (Prod.mk 4 (Pt 1001 0)), (Prod.mk 5 (vI x0)), (Prod.mk 6 (Sl 1002 (n1) (n1))), (Prod.mk 7 (Pt 1003 0)), (Prod.mk 8 (vI (IntKind.wrap .i64 (x3 + 1)))), (Prod.mk 9 (vI (IntKind.wrap .i64 (x3 + 1))))] [(Prod.mk 1000 (AObj.cells [(vI x4), (vI x5), (vI x6), (vI x7), (vI x8), (vI x9), (Value.slice none 0 0), (vI x10), (vI x11), (vI x12), (vI x13)] 33 false 11)), (Prod.mk 1001 (AObj.cells [(vI x14), (vI x15), (vI x16), (vI x17), (vI x18), (vI x19), (Value.slice none 0 0), (vI x20), (vI x21), (vI x22), (vI x23)] 33 false 11)), (Prod.mk 1002 (AObj.sym (l24) true 1)), (Prod.mk 1003 (AObj.cells [(vI n3), (vI n4), (vI n5), (vI n6), (vI n7), (vI n8), (Value.slice none 0 0), (vI n9), (vI n10), (vI n11), (vI n12)] 33 false 11))])))))
 False)))
 False)))
 False)))
 False)))
 False)))
 False)))
 False)))
 False)))
 False)))
 False)
 (bcase (decide (0 < (↑n2 : Int)))
 (∃ n3 : Int,
 ((At (cs1) 0 1 [(vI n3)]) ∧
 (bcase (decide (1 < (↑n2 : Int)))
 (∃ n4 : Int,
 ((At (cs1) 1 1 [(vI n4)]) ∧
 (bcase (decide (2 < (↑n2 : Int)))
 (∃ n5 : Int,
 ((At (cs1) 2 1 [(vI n5)]) ∧
 (bcase (decide (3 < (↑n2 : Int)))
 (∃ n6 : Int,
 ((At (cs1) 3 1 [(vI n6)]) ∧
 (bcase (decide (4 < (↑n2 : Int)))
 (∃ n7 : Int,
 ((At (cs1) 4 1 [(vI n7)]) ∧
 ((((Qv (Sl 1005 1 1)) ∧
 (Qv (some (AObj.cells [(vI n3), (vI n4), (vI n5), (vI n6), (vI n7)] 79 false 5)))) ∧
 ((Qv (Value.agg [(vI n3), (vI n4), (vI n5), (vI n6), (vI n7)].toArray)) ∧
 ((Qv (Value.agg [(vI n6), (vI n7)].toArray)) ∧
 ((∃ n8 : Int,
 ((At (cs1) 4 1 [(vI n8)]) ∧
 ((vI n8) = (vI n7)))) ∧
 ((bcase (decide (4 < (↑n2 : Int)))
 (Qv (Pt 1004 4))
 False) ∧
 ((Qv (Sl 1004 (n2) (n2))) ∧
 ((∃ n8 : Int,
 ((At (cs1) 3 1 [(vI n8)]) ∧
 ((vI n8) = (vI n6)))) ∧
 ((bcase (decide (3 < (↑n2 : Int)))
 (Qv (Pt 1004 3))
 False) ∧
 ((Qv (Sl 1004 (n2) (n2))) ∧
 ((∃ n8 : Int,
 ((At (cs1) 2 1 [(vI n8)]) ∧
 ((vI n8) = (vI n5)))) ∧
 ((bcase (decide (2 < (↑n2 : Int)))
 (Qv (Pt 1004 2))
 False) ∧
 ((Qv (Sl 1004 (n2) (n2))) ∧
 ((∃ n8 : Int,
 ((At (cs1) 1 1 [(vI n8)]) ∧
 ((vI n8) = (vI n4)))) ∧
 ((bcase (decide (1 < (↑n2 : Int)))
 (Qv (Pt 1004 1))
 False) ∧
 ((Qv (Sl 1004 (n2) (n2))) ∧
 ((∃ n8 : Int,
 ((At (cs1) 0 1 [(vI n8)]) ∧
 ((vI n8) = (vI n3)))) ∧
 ((bcase (decide (0 < (↑n2 : Int)))
 (Qv (Pt 1004 0))
 False) ∧
 ((Qv (Sl 1004 (n2) (n2))) ∧
 ((Qv (Value.slice none 0 0)) ∧
 ((Qv (Pt 1003 6)) ∧
 True)))))))))))))))))))) ∧
 (((Qv (Pt 1003 6)) ∧
 ((Qv (Value.agg [(vI n3), (vI n4), (vI n5), (vI n6), (vI n7)].toArray)) ∧
 ((Qv (Value.agg [(vI n6), (vI n7)].toArray)) ∧
 ((∃ n8 : Int,
 ((At (cs1) 4 1 [(vI n8)]) ∧
 ((vI n8) = (vI n7)))) ∧
 ((bcase (decide (4 < (↑n2 : Int)))
 (Qv (Pt 1004 4))
 False) ∧
 ((Qv (Sl 1004 (n2) (n2))) ∧
 ((∃ n8 : Int,
 ((At (cs1) 3 1 [(vI n8)]) ∧
 ((vI n8) = (vI n6)))) ∧
 ((bcase (decide (3 < (↑n2 : Int)))
 (Qv (Pt 1004 3))
 False) ∧
 ((Qv (Sl 1004 (n2) (n2))) ∧
 ((∃ n8 : Int,
 ((At (cs1) 2 1 [(vI n8)]) ∧
 ((vI n8) = (vI n5)))) ∧
 ((bcase (decide (2 < (↑n2 : Int)))
 (Qv (Pt 1004 2))
 False) ∧
 ((Qv (Sl 1004 (n2) (n2))) ∧
 ((∃ n8 : Int,
 ((At (cs1) 1 1 [(vI n8)]) ∧
 ((vI n8) = (vI n4)))) ∧
 ((bcase (decide (1 < (↑n2 : Int)))
 (Qv (Pt 1004 1))
 False) ∧
 ((Qv (Sl 1004 (n2) (n2))) ∧
 ((∃ n8 : Int,
 ((At (cs1) 0 1 [(vI n8)]) ∧
 ((vI n8) = (vI n3)))) ∧
 ((bcase (decide (0 < (↑n2 : Int)))
 (Qv (Pt 1004 0))
 False) ∧
 ((Qv (Sl 1004 (n2) (n2))) ∧
 ((Qv (Pt 1003 6)) ∧
 True))))))))))))))))))) ∧
 (True ∧
 (B [(Prod.mk 2 (Pt 1000 0)), (Prod.mk 4 (Pt 1001 0)), (Prod.mk 5 (vI x0)), (Prod.mk 6 (Sl 1002 (n1) (n1))), (Prod.mk 7 (Pt 1003 0)), (Prod.mk 8 (vI (IntKind.wrap .i64 (x3 + 1)))), (Prod.mk 9 (vI (IntKind.wrap .i64 (x3 + 1))))] [(Prod.mk 1000 (AObj.cells [(vI x4), (vI x5), (vI x6), (vI x7), (vI x8), (vI x9), (Value.slice none 0 0), (vI x10), (vI x11), (vI x12), (vI x13)] 33 false 11)), (Prod.mk 1001 (AObj.cells [(vI x14), (vI x15), (vI x16), (vI x17), (vI x18), (vI x19), (Value.slice none 0 0), (vI x20), (vI x21), (vI x22), (vI x23)] 33 false 11)), (Prod.mk 1002 (AObj.sym (l24) true 1)), (Prod.mk 1003 (AObj.cells [(vI x25), (vI x26), (vI x27), (vI x28), (vI x29), (vI x30), (Sl 1004 1 1), (vI x31), (vI x32), (vI x33), (vI x34)] 33 false 11)), (Prod.mk 1004 (AObj.sym [(vI n3), (vI n4), (vI n5), (vI n6), (vI n7)] true 5))]))))))
 False)))
 False)))
 False)))
 False)))
 False))))) ∨
 ((Says C 32 [(D.sl (Int.toNat x3 - Int.toNat x2) 1 (List.take ((Int.toNat x3 - Int.toNat x2) * 1) (List.drop (0 + Int.toNat x2 * 1) l24)))] [(D.sl (n2) 1 (cs1)), (D.val (Value.bool false))]) ∧
 (k [(D.agg [(D.val (vI x14)), (D.val (vI x15)), (D.val (vI x16)), (D.val (vI x17)), (D.val (vI x18)), (D.val (vI x19)), D.nil, (D.val (vI x20)), (D.val (vI x21)), (D.val (vI x22)), (D.val (vI x23))]), (D.val (vI x0))]))))))
 False)
 False)
 False)
 False)
 False)
 False)
 False))
 (X 0 [(Prod.mk 2 (Pt 1000 0)), (Prod.mk 4 (Pt 1001 0)), (Prod.mk 7 (Pt 1002 0))] [(Prod.mk 1000 (AObj.cells [(vI x4), (vI x5), (vI x6), (vI x7), (vI x8), (vI x9), (Value.slice none 0 0), (vI x10), (vI x11), (vI x12), (vI x13)] 33 false 11)), (Prod.mk 1001 (AObj.cells [(vI x14), (vI x15), (vI x16), (vI x17), (vI x18), (vI x19), (Value.slice none 0 0), (vI x20), (vI x21), (vI x22), (vI x23)] 33 false 11)), (Prod.mk 1002 (AObj.cells [(vI x25), (vI x26), (vI x27), (vI x28), (vI x29), (vI x30), (Value.slice none 0 0), (vI x31), (vI x32), (vI x33), (vI x34)] 33 false 11))])) := by kernel_rfl
def nrPR3 (C : Ct) (L : AtLoop) (x0 : Int) (x1 : Int) (x2 : Int) (x3 : Int) (x4 : Int) (x5 : Int) (x6 : Int) (x7 : Int) (x8 : Int) (x9 : Int) (x10 : Int) (x11 : Int) (x12 : Int) (x13 : Int) (x14 : Int) (x15 : Int) (x16 : Int) (x17 : Int) (x18 : Int) (x19 : Int) (x20 : Int) (x21 : Int) (x22 : Int) (x23 : Int) (x24 : Int) (x25 : Int) (x26 : Int) (x27 : Int) (x28 : Int) (x29 : Int) (k : List D → Prop) : Prop := wpNext Tryz.prog (hX C) L 8 0 .normal [(2, (Value.pointer (some ⟨1000, 0, none⟩))), (4, (Value.pointer (some ⟨1001, 0, none⟩))), (7, (Value.pointer (some ⟨1002, 0, none⟩)))] [(1000, (AObj.cells [(Value.int .i64 x0), (Value.int .i64 x1), (Value.int .i64 x2), (Value.int .i64 x3), (Value.int .i64 x4), (Value.int .i64 x5), (Value.slice none 0 0), (Value.int .i64 x6), (Value.int .i64 x7), (Value.int .i64 x8), (Value.int .i64 x9)] 33 false 11)), (1001, (AObj.cells [(Value.int .i64 x10), (Value.int .i64 x11), (Value.int .i64 x12), (Value.int .i64 x13), (Value.int .i64 x14), (Value.int .i64 x15), (Value.slice none 0 0), (Value.int .i64 x16), (Value.int .i64 x17), (Value.int .i64 x18), (Value.int .i64 x19)] 33 false 11)), (1002, (AObj.cells [(Value.int .i64 x20), (Value.int .i64 x21), (Value.int .i64 x22), (Value.int .i64 x23), (Value.int .i64 x24), (Value.int .i64 x25), (Value.slice none 0 0), (Value.int .i64 x26), (Value.int .i64 x27), (Value.int .i64 x28), (Value.int .i64 x29)] 33 false 11))] (dataK k)
theorem nrPR3_text (C : Ct) (L : AtLoop) (x0 : Int) (x1 : Int) (x2 : Int) (x3 : Int) (x4 : Int) (x5 : Int) (x6 : Int) (x7 : Int) (x8 : Int) (x9 : Int) (x10 : Int) (x11 : Int) (x12 : Int) (x13 : Int) (x14 : Int) (x15 : Int) (x16 : Int) (x17 : Int) (x18 : Int) (x19 : Int) (x20 : Int) (x21 : Int) (x22 : Int) (x23 : Int) (x24 : Int) (x25 : Int) (x26 : Int) (x27 : Int) (x28 : Int) (x29 : Int) (k : List D → Prop) : nrPR3 C L x0 x1 x2 x3 x4 x5 x6 x7 x8 x9 x10 x11 x12 x13 x14 x15 x16 x17 x18 x19 x20 x21 x22 x23 x24 x25 x26 x27 x28 x29 k =
 (∃ n1 : Int,
 ((Says C 35 [(D.agg [(D.val (vI x20)), (D.val (vI x21)), (D.val (vI x22)), (D.val (vI x23)), (D.val (vI x24)), (D.val (vI x25)), D.nil, (D.val (vI x26)), (D.val (vI x27)), (D.val (vI x28)), (D.val (vI x29))])] [(D.val (vI n1))]) ∧
 (bcase (n1 != 0)
 (k [(D.agg [(D.val (vI x10)), (D.val (vI x11)), (D.val (vI x12)), (D.val (vI x13)), (D.val (vI x14)), (D.val (vI x15)), D.nil, (D.val (vI x16)), (D.val (vI x17)), (D.val (vI x18)), (D.val (vI x19))]), (D.val (vI n1))])
 (k [(D.agg [(D.val (vI x20)), (D.val (vI x21)), (D.val (vI x22)), (D.val (vI x23)), (D.val (vI x24)), (D.val (vI x25)), D.nil, (D.val (vI x26)), (D.val (vI x27)), (D.val (vI x28)), (D.val (vI x29))]), (D.val (vI 0))])))) := by kernel_rfl
abbrev zrPR4 (x0 : Int) (n1 : Nat) (x2 : Int) (x3 : Int) (x4 : Int) (x5 : Int) (x6 : Int) (x7 : Int) (x8 : Int) (x9 : Int) (x10 : Int) (x11 : Int) (x12 : Int) (x13 : Int) (x14 : Int) (x15 : Int) (x16 : Int) (x17 : Int) (x18 : Int) (x19 : Int) (x20 : Int) (x21 : Int) (x22 : Int) (x23 : Int) (l24 : List Value) (x25 : Int) (x26 : Int) (x27 : Int) (x28 : Int) (x29 : Int) (x30 : Int) (n31 : Nat) (x32 : Int) (x33 : Int) (x34 : Int) (x35 : Int) (l36 : List Value) : Slots × Blocks := ([(2, (Value.pointer (some ⟨1000, 0, none⟩))), (4, (Value.pointer (some ⟨1001, 0, none⟩))), (5, (Value.int .i64 x0)), (6, (Value.slice (some ⟨1002, 0, none⟩) n1 n1)), (7, (Value.pointer (some ⟨1003, 0, none⟩))), (8, (Value.int .i64 x2)), (9, (Value.int .i64 x3))], [(1000, (AObj.cells [(Value.int .i64 x4), (Value.int .i64 x5), (Value.int .i64 x6), (Value.int .i64 x7), (Value.int .i64 x8), (Value.int .i64 x9), (Value.slice none 0 0), (Value.int .i64 x10), (Value.int .i64 x11), (Value.int .i64 x12), (Value.int .i64 x13)] 33 false 11)), (1001, (AObj.cells [(Value.int .i64 x14), (Value.int .i64 x15), (Value.int .i64 x16), (Value.int .i64 x17), (Value.int .i64 x18), (Value.int .i64 x19), (Value.slice none 0 0), (Value.int .i64 x20), (Value.int .i64 x21), (Value.int .i64 x22), (Value.int .i64 x23)] 33 false 11)), (1002, (AObj.sym l24 true 1)), (1003, (AObj.cells [(Value.int .i64 x25), (Value.int .i64 x26), (Value.int .i64 x27), (Value.int .i64 x28), (Value.int .i64 x29), (Value.int .i64 x30), (Value.slice (some ⟨1004, 0, none⟩) n31 n31), (Value.int .i64 x32), (Value.int .i64 x33), (Value.int .i64 x34), (Value.int .i64 x35)] 33 false 11)), (1004, (AObj.sym l36 true 5))])
def rrPR4 (C : Ct) (L : AtLoop) (x0 : Int) (n1 : Nat) (x2 : Int) (x3 : Int) (x4 : Int) (x5 : Int) (x6 : Int) (x7 : Int) (x8 : Int) (x9 : Int) (x10 : Int) (x11 : Int) (x12 : Int) (x13 : Int) (x14 : Int) (x15 : Int) (x16 : Int) (x17 : Int) (x18 : Int) (x19 : Int) (x20 : Int) (x21 : Int) (x22 : Int) (x23 : Int) (l24 : List Value) (x25 : Int) (x26 : Int) (x27 : Int) (x28 : Int) (x29 : Int) (x30 : Int) (n31 : Nat) (x32 : Int) (x33 : Int) (x34 : Int) (x35 : Int) (l36 : List Value) (B : Bx) (X : Xx) (k : List D → Prop) : Prop := wpRound Tryz.prog (hX C) L 8 0 [(2, (Value.pointer (some ⟨1000, 0, none⟩))), (4, (Value.pointer (some ⟨1001, 0, none⟩))), (5, (Value.int .i64 x0)), (6, (Value.slice (some ⟨1002, 0, none⟩) n1 n1)), (7, (Value.pointer (some ⟨1003, 0, none⟩))), (8, (Value.int .i64 x2)), (9, (Value.int .i64 x3))] [(1000, (AObj.cells [(Value.int .i64 x4), (Value.int .i64 x5), (Value.int .i64 x6), (Value.int .i64 x7), (Value.int .i64 x8), (Value.int .i64 x9), (Value.slice none 0 0), (Value.int .i64 x10), (Value.int .i64 x11), (Value.int .i64 x12), (Value.int .i64 x13)] 33 false 11)), (1001, (AObj.cells [(Value.int .i64 x14), (Value.int .i64 x15), (Value.int .i64 x16), (Value.int .i64 x17), (Value.int .i64 x18), (Value.int .i64 x19), (Value.slice none 0 0), (Value.int .i64 x20), (Value.int .i64 x21), (Value.int .i64 x22), (Value.int .i64 x23)] 33 false 11)), (1002, (AObj.sym l24 true 1)), (1003, (AObj.cells [(Value.int .i64 x25), (Value.int .i64 x26), (Value.int .i64 x27), (Value.int .i64 x28), (Value.int .i64 x29), (Value.int .i64 x30), (Value.slice (some ⟨1004, 0, none⟩) n31 n31), (Value.int .i64 x32), (Value.int .i64 x33), (Value.int .i64 x34), (Value.int .i64 x35)] 33 false 11)), (1004, (AObj.sym l36 true 5))] B X (dataK k)
theorem rrPR4_text (C : Ct) (L : AtLoop) (x0 : Int) (n1 : Nat) (x2 : Int) (x3 : Int) (x4 : Int) (x5 : Int) (x6 : Int) (x7 : Int) (x8 : Int) (x9 : Int) (x10 : Int) (x11 : Int) (x12 : Int) (x13 : Int) (x14 : Int) (x15 : Int) (x16 : Int) (x17 : Int) (x18 : Int) (x19 : Int) (x20 : Int) (x21 : Int) (x22 : Int) (x23 : Int) (l24 : List Go.Value) (x25 : Int) (x26 : Int) (x27 : Int) (x28 : Int) (x29 : Int) (x30 : Int) (n31 : Nat) (x32 : Int) (x33 : Int) (x34 : Int) (x35 : Int) (l36 : List Go.Value) (B : Bx) (X : Xx) (k : List D → Prop) : rrPR4 C L x0 n1 x2 x3 x4 x5 x6 x7 x8 x9 x10 x11 x12 x13 x14 x15 x16 x17 x18 x19 x20 x21 x22 x23 l24 x25 x26 x27 x28 x29 x30 n31 x32 x33 x34 x35 l36 B X k =
 (bcase (decide (x3 ≤ (↑n1 : Int)))
 (bcase (decide (x3 < (↑n1 : Int)))
 (bcase (decide (0 ≤ x3))
 (bcase (decide (x3 < (↑n1 : Int)))
 (∃ s1 : ByteArray,
 ((At (l24) (0 + Int.toNat x3 * 1) 1 [(Value.string (s1))]) ∧
 (bcase (!ByteArray.toList s1 == ByteArray.toList { data := #[59] })
 (B [(Prod.mk 2 (Pt 1000 0)), (Prod.mk 4 (Pt 1001 0)), (Prod.mk 5 (vI x0)), (Prod.mk 6 (Sl 1002 (n1) (n1))), (Prod.mk 7 (Pt 1003 0)), (Prod.mk 8 (vI x2)), (Prod.mk 9 (vI (IntKind.wrap .i64 (x3 + 1))))] [(Prod.mk 1000 (AObj.cells [(vI x4), (vI x5), (vI x6), (vI x7), (vI x8), (vI x9), (Value.slice none 0 0), (vI x10), (vI x11), (vI x12), (vI x13)] 33 false 11)), (Prod.mk 1001 (AObj.cells [(vI x14), (vI x15), (vI x16), (vI x17), (vI x18), (vI x19), (Value.slice none 0 0), (vI x20), (vI x21), (vI x22), (vI x23)] 33 false 11)), (Prod.mk 1002 (AObj.sym (l24) true 1)), (Prod.mk 1003 (AObj.cells [(vI x25), (vI x26), (vI x27), (vI x28), (vI x29), (vI x30), (Sl 1004 (n31) (n31)), (vI x32), (vI x33), (vI x34), (vI x35)] 33 false 11)), (Prod.mk 1004 (AObj.sym (l36) true 5))])
 (bcase (decide (0 ≤ x3))
 (bcase (decide (x3 ≤ (↑n1 : Int)))
 (bcase (decide (0 ≤ x2))
 (bcase (decide (x2 ≤ (↑(Int.toNat x3) : Int)))
 (bcase (decide (Int.toNat x3 ≤ n1))
 (bcase (AObj.isOpen (AObj.sym l24 Bool.true 1) 0 n1)
 (bcase (decide (0 + Int.toNat x2 * 1 + (Int.toNat x3 - Int.toNat x2) * 1 ≤ List.length l24))
 ((((Says C 32 [(D.sl (Int.toNat x3 - Int.toNat x2) 1 (List.take ((Int.toNat x3 - Int.toNat x2) * 1) (List.drop (0 + Int.toNat x2 * 1) l24)))] [D.nil, (D.val (Value.bool true))]) ∧
 (bcase (x2 == 0)
 (k [(D.agg [(D.val (vI x14)), (D.val (vI x15)), (D.val (vI x16)), (D.val (vI x17)), (D.val (vI x18)), (D.val (vI x19)), D.nil, (D.val (vI x20)), (D.val (vI x21)), (D.val (vI x22)), (D.val (vI x23))]), (D.val (vI x0))])
 (bcase (decide (x2 > 0))
 (k [(D.agg [(D.val (vI x14)), (D.val (vI x15)), (D.val (vI x16)), (D.val (vI x17)), (D.val (vI x18)), (D.val (vI x19)), D.nil, (D.val (vI x20)), (D.val (vI x21)), (D.val (vI x22)), (D.val (vI x23))]), (D.val (vI x0))])
 (bcase (x2 == 0)
 False
 False)))) ∨
 ((Says C 32 [(D.sl (Int.toNat x3 - Int.toNat x2) 1 (List.take ((Int.toNat x3 - Int.toNat x2) * 1) (List.drop (0 + Int.toNat x2 * 1) l24)))] [D.nil, (D.val (Value.bool false))]) ∧
 (k [(D.agg [(D.val (vI x14)), (D.val (vI x15)), (D.val (vI x16)), (D.val (vI x17)), (D.val (vI x18)), (D.val (vI x19)), D.nil, (D.val (vI x20)), (D.val (vI x21)), (D.val (vI x22)), (D.val (vI x23))]), (D.val (vI x0))]))) ∨
 (∃ n2 : Nat,
 (∃ cs1 : List Go.Value,
 (((Says C 32 [(D.sl (Int.toNat x3 - Int.toNat x2) 1 (List.take ((Int.toNat x3 - Int.toNat x2) * 1) (List.drop (0 + Int.toNat x2 * 1) l24)))] [(D.sl (n2) 1 (cs1)), (D.val (Value.bool true))]) ∧
 (bcase (x2 == 0)
 (bcase ((↑n2 : Int) != 10)
 (k [(D.agg [(D.val (vI x14)), (D.val (vI x15)), (D.val (vI x16)), (D.val (vI x17)), (D.val (vI x18)), (D.val (vI x19)), D.nil, (D.val (vI x20)), (D.val (vI x21)), (D.val (vI x22)), (D.val (vI x23))]), (D.val (vI x0))])
 (bcase (decide (x2 > 0))
 (bcase ((↑n2 : Int) != 5)
 (k [(D.agg [(D.val (vI x14)), (D.val (vI x15)), (D.val (vI x16)), (D.val (vI x17)), (D.val (vI x18)), (D.val (vI x19)), D.nil, (D.val (vI x20)), (D.val (vI x21)), (D.val (vI x22)), (D.val (vI x23))]), (D.val (vI x0))])
 (bcase (x2 == 0)
 (bcase (decide (0 < (↑n2 : Int)))
 (∃ n3 : Int,
 ((At (cs1) 0 1 [(vI n3)]) ∧
 (bcase (decide (1 < (↑n2 : Int)))
 (∃ n4 : Int,
 ((At (cs1) 1 1 [(vI n4)]) ∧
 (bcase (decide (2 < (↑n2 : Int)))
 (∃ n5 : Int,
 ((At (cs1) 2 1 [(vI n5)]) ∧
 (bcase (decide (3 < (↑n2 : Int)))
 (∃ n6 : Int,
 ((At (cs1) 3 1 [(vI n6)]) ∧
 (bcase (decide (4 < (↑n2 : Int)))
 (∃ n7 : Int,
 ((At (cs1) 4 1 [(vI n7)]) ∧
 (bcase (decide (5 < (↑n2 : Int)))
 (∃ n8 : Int,
 ((At (cs1) 5 1 [(vI n8)]) ∧
 (bcase (decide (6 < (↑n2 : Int)))
 (∃ n9 : Int,
 ((At (cs1) 6 1 [(vI n9)]) ∧
 (bcase (decide (7 < (↑n2 : Int)))
 (∃ n10 : Int,
 ((At (cs1) 7 1 [(vI n10)]) ∧
 (bcase (decide (8 < (↑n2 : Int)))
 (∃ n11 : Int,
 ((At (cs1) 8 1 [(vI n11)]) ∧
 (bcase (decide (9 < (↑n2 : Int)))
 (∃ n12 : Int,
 ((At (cs1) 9 1 [(vI n12)]) ∧
 (((Qv (Value.agg [(vI n3), (vI n4), (vI n5), (vI n6), (vI n7), (vI n8), (Value.slice none 0 0), (vI n9), (vI n10), (vI n11), (vI n12)].toArray)) ∧
 ((Qv (Value.agg [(vI n11), (vI n12)].toArray)) ∧
 ((∃ n13 : Int,
 ((At (cs1) 9 1 [(vI n13)]) ∧
 ((vI n13) = (vI n12)))) ∧
 ((bcase (decide (9 < (↑n2 : Int)))
 (Qv (Pt 1005 9))
 False) ∧
 ((Qv (Sl 1005 (n2) (n2))) ∧
 ((∃ n13 : Int,
 ((At (cs1) 8 1 [(vI n13)]) ∧
 ((vI n13) = (vI n11)))) ∧
 ((bcase (decide (8 < (↑n2 : Int)))
 (Qv (Pt 1005 8))
 False) ∧
 ((Qv (Sl 1005 (n2) (n2))) ∧
 ((Qv (Value.agg [(vI n9), (vI n10)].toArray)) ∧
 ((∃ n13 : Int,
 ((At (cs1) 7 1 [(vI n13)]) ∧
 ((vI n13) = (vI n10)))) ∧
 ((bcase (decide (7 < (↑n2 : Int)))
 (Qv (Pt 1005 7))
 False) ∧
 ((Qv (Sl 1005 (n2) (n2))) ∧
 ((∃ n13 : Int,
 ((At (cs1) 6 1 [(vI n13)]) ∧
 ((vI n13) = (vI n9)))) ∧
 ((bcase (decide (6 < (↑n2 : Int)))
 (Qv (Pt 1005 6))
 False) ∧
 ((Qv (Sl 1005 (n2) (n2))) ∧
 ((∃ n13 : Int,
 ((At (cs1) 5 1 [(vI n13)]) ∧
 ((vI n13) = (vI n8)))) ∧
 ((bcase (decide (5 < (↑n2 : Int)))
 (Qv (Pt 1005 5))
 False) ∧
 ((Qv (Sl 1005 (n2) (n2))) ∧
 ((Qv (Value.agg [(vI n6), (vI n7)].toArray)) ∧
 ((∃ n13 : Int,
 ((At (cs1) 4 1 [(vI n13)]) ∧
 ((vI n13) = (vI n7)))) ∧
 ((bcase (decide (4 < (↑n2 : Int)))
 (Qv (Pt 1005 4))
 False) ∧
 ((Qv (Sl 1005 (n2) (n2))) ∧
 ((∃ n13 : Int,
 ((At (cs1) 3 1 [(vI n13)]) ∧
 ((vI n13) = (vI n6)))) ∧
 ((bcase (decide (3 < (↑n2 : Int)))
 (Qv (Pt 1005 3))
 False) ∧
 ((Qv (Sl 1005 (n2) (n2))) ∧
 ((∃ n13 : Int,
 ((At (cs1) 2 1 [(vI n13)]) ∧
 ((vI n13) = (vI n5)))) ∧
 ((bcase (decide (2 < (↑n2 : Int)))
 (Qv (Pt 1005 2))
 False) ∧
 ((Qv (Sl 1005 (n2) (n2))) ∧
 ((∃ n13 : Int,
 ((At (cs1) 1 1 [(vI n13)]) ∧
 ((vI n13) = (vI n4)))) ∧
 ((bcase (decide (1 < (↑n2 : Int)))
 (Qv (Pt 1005 1))
 False) ∧
 ((Qv (Sl 1005 (n2) (n2))) ∧
 ((∃ n13 : Int,
 ((At (cs1) 0 1 [(vI n13)]) ∧
 ((vI n13) = (vI n3)))) ∧
 ((bcase (decide (0 < (↑n2 : Int)))
 (Qv (Pt 1005 0))
 False) ∧
 ((Qv (Sl 1005 (n2) (n2))) ∧
 True)))))))))))))))))))))))))))))))))) ∧
 (True ∧
 (B [(Prod.mk 2 (Pt 1000 0)), (Prod.mk 4 (Pt 1001 0)), (Prod.mk 5 (vI x0)), (Prod.mk 6 (Sl 1002 (n1) (n1))), (Prod.mk 7 (Pt 1003 0)), (Prod.mk 8 (vI (IntKind.wrap .i64 (x3 + 1)))), (Prod.mk 9 (vI (IntKind.wrap .i64 (x3 + 1))))] [(Prod.mk 1000 (AObj.cells [(vI x4), (vI x5), (vI x6), (vI x7), (vI x8), (vI x9), (Value.slice none 0 0), (vI x10), (vI x11), (vI x12), (vI x13)] 33 false 11)), (Prod.mk 1001 (AObj.cells [(vI x14), (vI x15), (vI x16), (vI x17), (vI x18), (vI x19), (Value.slice none 0 0), (vI x20), (vI x21), (vI x22), (vI x23)] 33 false 11)), (Prod.mk 1002 (AObj.sym (l24) true 1)), (Prod.mk 1003 (AObj.cells [(vI n3), (vI n4), (vI n5), (vI n6), (vI n7), (vI n8), (Value.slice none 0 0), (vI n9), (vI n10), (vI n11), (vI n12)] 33 false 11))])))))
 False)))
 False)))
 False)))
 False)))
 False)))
 False)))
 False)))
 False)))
 False)))
 False)
 (bcase (decide (0 < (↑n2 : Int)))
 (∃ n3 : Int,
 ((At (cs1) 0 1 [(vI n3)]) ∧
 (bcase (decide (1 < (↑n2 : Int)))
 (∃ n4 : Int,
 ((At (cs1) 1 1 [(vI n4)]) ∧
 (bcase (decide (2 < (↑n2 : Int)))
 (∃ n5 : Int,
 ((At (cs1) 2 1 [(vI n5)]) ∧
 (bcase (decide (3 < (↑n2 : Int)))
 (∃ n6 : Int,
 ((At (cs1) 3 1 [(vI n6)]) ∧
 (bcase (decide (4 < (↑n2 : Int)))
 (∃ n7 : Int,
 ((At (cs1) 4 1 [(vI n7)]) ∧
 ((((Qv (Sl 1006 1 1)) ∧
 (Qv (some (AObj.cells [(vI n3), (vI n4), (vI n5), (vI n6), (vI n7)] 79 false 5)))) ∧
 ((Qv (Value.agg [(vI n3), (vI n4), (vI n5), (vI n6), (vI n7)].toArray)) ∧
 ((Qv (Value.agg [(vI n6), (vI n7)].toArray)) ∧
 ((∃ n8 : Int,
 ((At (cs1) 4 1 [(vI n8)]) ∧
 ((vI n8) = (vI n7)))) ∧
 ((bcase (decide (4 < (↑n2 : Int)))
 (Qv (Pt 1005 4))
 False) ∧
 ((Qv (Sl 1005 (n2) (n2))) ∧
 ((∃ n8 : Int,
 ((At (cs1) 3 1 [(vI n8)]) ∧
 ((vI n8) = (vI n6)))) ∧
 ((bcase (decide (3 < (↑n2 : Int)))
 (Qv (Pt 1005 3))
 False) ∧
 ((Qv (Sl 1005 (n2) (n2))) ∧
 ((∃ n8 : Int,
 ((At (cs1) 2 1 [(vI n8)]) ∧
 ((vI n8) = (vI n5)))) ∧
 ((bcase (decide (2 < (↑n2 : Int)))
 (Qv (Pt 1005 2))
 False) ∧
 ((Qv (Sl 1005 (n2) (n2))) ∧
 ((∃ n8 : Int,
 ((At (cs1) 1 1 [(vI n8)]) ∧
 ((vI n8) = (vI n4)))) ∧
 ((bcase (decide (1 < (↑n2 : Int)))
 (Qv (Pt 1005 1))
 False) ∧
 ((Qv (Sl 1005 (n2) (n2))) ∧
 ((∃ n8 : Int,
 ((At (cs1) 0 1 [(vI n8)]) ∧
 ((vI n8) = (vI n3)))) ∧
 ((bcase (decide (0 < (↑n2 : Int)))
 (Qv (Pt 1005 0))
 False) ∧
 ((Qv (Sl 1005 (n2) (n2))) ∧
 ((Qv (Sl 1004 (n31) (n31))) ∧
 ((Qv (Pt 1003 6)) ∧
 True)))))))))))))))))))) ∧
 (bcase (decide (n31 < n31 + 1))
 (bcase (decide ((2 * (n31 + 1) + 768) * 40 ≤ 281474976710656))
 (bcase (decide (n31 + 1 ≤ 1099511627776))
 (bcase (decide (0 + n31 * 5 ≤ List.length l36))
 (bcase (decide (0 + n31 * 5 = List.length l36))
 (((Qv (Pt 1003 6)) ∧
 ((Qv (Value.agg [(vI n3), (vI n4), (vI n5), (vI n6), (vI n7)].toArray)) ∧
 ((Qv (Value.agg [(vI n6), (vI n7)].toArray)) ∧
 ((∃ n8 : Int,
 ((At (cs1) 4 1 [(vI n8)]) ∧
 ((vI n8) = (vI n7)))) ∧
 ((bcase (decide (4 < (↑n2 : Int)))
 (Qv (Pt 1005 4))
 False) ∧
 ((Qv (Sl 1005 (n2) (n2))) ∧
 ((∃ n8 : Int,
 ((At (cs1) 3 1 [(vI n8)]) ∧
 ((vI n8) = (vI n6)))) ∧
 ((bcase (decide (3 < (↑n2 : Int)))
 (Qv (Pt 1005 3))
 False) ∧
 ((Qv (Sl 1005 (n2) (n2))) ∧
 ((∃ n8 : Int,
 ((At (cs1) 2 1 [(vI n8)]) ∧
 ((vI n8) = (vI n5)))) ∧
 ((bcase (decide (2 < (↑n2 : Int)))
 (Qv (Pt 1005 2))
 False) ∧
 ((Qv (Sl 1005 (n2) (n2))) ∧
 ((∃ n8 : Int,
 ((At (cs1) 1 1 [(vI n8)]) ∧
 ((vI n8) = (vI n4)))) ∧
 ((bcase (decide (1 < (↑n2 : Int)))
 (Qv (Pt 1005 1))
 False) ∧
 ((Qv (Sl 1005 (n2) (n2))) ∧
 ((∃ n8 : Int,
 ((At (cs1) 0 1 [(vI n8)]) ∧
 ((vI n8) = (vI n3)))) ∧
 ((bcase (decide (0 < (↑n2 : Int)))
 (Qv (Pt 1005 0))
 False) ∧
 ((Qv (Sl 1005 (n2) (n2))) ∧
 ((Qv (Pt 1003 6)) ∧
 True))))))))))))))))))) ∧
 (True ∧
 (B [(Prod.mk 2 (Pt 1000 0)), (Prod.mk 4 (Pt 1001 0)), (Prod.mk 5 (vI x0)), (Prod.mk 6 (Sl 1002 (n1) (n1))), (Prod.mk 7 (Pt 1003 0)), (Prod.mk 8 (vI (IntKind.wrap .i64 (x3 + 1)))), (Prod.mk 9 (vI (IntKind.wrap .i64 (x3 + 1))))] [(Prod.mk 1000 (AObj.cells [(vI x4), (vI x5), (vI x6), (vI x7), (vI x8), (vI x9), (Value.slice none 0 0), (vI x10), (vI x11), (vI x12), (vI x13)] 33 false 11)), (Prod.mk 1001 (AObj.cells [(vI x14), (vI x15), (vI x16), (vI x17), (vI x18), (vI x19), (Value.slice none 0 0), (vI x20), (vI x21), (vI x22), (vI x23)] 33 false 11)), (Prod.mk 1002 (AObj.sym (l24) true 1)), (Prod.mk 1003 (AObj.cells [(vI x25), (vI x26), (vI x27), (vI x28), (vI x29), (vI x30), (Sl 1004 (n31 + 1) (n31 + 1)), (vI x32), (vI x33), (vI x34), (vI x35)] 33 false 11)), (Prod.mk 1004 (AObj.sym ((List.take (n31 * 5) (List.drop 0 l36)) ++ [(vI n3), (vI n4), (vI n5), (vI n6), (vI n7)]) true 5))])))
 False)
 False)
 False)
 False)
 False))))
 False)))
 False)))
 False)))
 False)))
 False)))
 (bcase (x2 == 0)
 (bcase (decide (0 < (↑n2 : Int)))
 (∃ n3 : Int,
 ((At (cs1) 0 1 [(vI n3)]) ∧
 (bcase (decide (1 < (↑n2 : Int)))
 (∃ n4 : Int,
 ((At (cs1) 1 1 [(vI n4)]) ∧
 (bcase (decide (2 < (↑n2 : Int)))
 (∃ n5 : Int,
 ((At (cs1) 2 1 [(vI n5)]) ∧
 (bcase (decide (3 < (↑n2 : Int)))
 (∃ n6 : Int,
 ((At (cs1) 3 1 [(vI n6)]) ∧
 (bcase (decide (4 < (↑n2 : Int)))
 (∃ n7 : Int,
 ((At (cs1) 4 1 [(vI n7)]) ∧
 (bcase (decide (5 < (↑n2 : Int)))
 (∃ n8 : Int,
 ((At (cs1) 5 1 [(vI n8)]) ∧
 (bcase (decide (6 < (↑n2 : Int)))
 (∃ n9 : Int,
 ((At (cs1) 6 1 [(vI n9)]) ∧
 (bcase (decide (7 < (↑n2 : Int)))
 (∃ n10 : Int,
 ((At (cs1) 7 1 [(vI n10)]) ∧
 (bcase (decide (8 < (↑n2 : Int)))
 (∃ n11 : Int,
 ((At (cs1) 8 1 [(vI n11)]) ∧
 (bcase (decide (9 < (↑n2 : Int)))
 (∃ n12 : Int,
 ((At (cs1) 9 1 [(vI n12)]) ∧
 (((Qv (Value.agg [(vI n3), (vI n4), (vI n5), (vI n6), (vI n7), (vI n8), (Value.slice none 0 0), (vI n9), (vI n10), (vI n11), (vI n12)].toArray)) ∧
 ((Qv (Value.agg [(vI n11), (vI n12)].toArray)) ∧
 ((∃ n13 : Int,
 ((At (cs1) 9 1 [(vI n13)]) ∧
 ((vI n13) = (vI n12)))) ∧
 ((bcase (decide (9 < (↑n2 : Int)))
 (Qv (Pt 1005 9))
 False) ∧
 ((Qv (Sl 1005 (n2) (n2))) ∧
 ((∃ n13 : Int,
 ((At (cs1) 8 1 [(vI n13)]) ∧
 ((vI n13) = (vI n11)))) ∧
 ((bcase (decide (8 < (↑n2 : Int)))
 (Qv (Pt 1005 8))
 False) ∧
 ((Qv (Sl 1005 (n2) (n2))) ∧
 ((Qv (Value.agg [(vI n9), (vI n10)].toArray)) ∧
 ((∃ n13 : Int,
 ((At (cs1) 7 1 [(vI n13)]) ∧
 ((vI n13) = (vI n10)))) ∧
 ((bcase (decide (7 < (↑n2 : Int)))
 (Qv (Pt 1005 7))
 False) ∧
 ((Qv (Sl 1005 (n2) (n2))) ∧
 ((∃ n13 : Int,
 ((At (cs1) 6 1 [(vI n13)]) ∧
 ((vI n13) = (vI n9)))) ∧
 ((bcase (decide (6 < (↑n2 : Int)))
 (Qv (Pt 1005 6))
 False) ∧
 ((Qv (Sl 1005 (n2) (n2))) ∧
 ((∃ n13 : Int,
 ((At (cs1) 5 1 [(vI n13)]) ∧
 ((vI n13) = (vI n8)))) ∧
 ((bcase (decide (5 < (↑n2 : Int)))
 (Qv (Pt 1005 5))
 False) ∧
 ((Qv (Sl 1005 (n2) (n2))) ∧
 ((Qv (Value.agg [(vI n6), (vI n7)].toArray)) ∧
 ((∃ n13 : Int,
 ((At (cs1) 4 1 [(vI n13)]) ∧
 ((vI n13) = (vI n7)))) ∧
 ((bcase (decide (4 < (↑n2 : Int)))
 (Qv (Pt 1005 4))
 False) ∧
 ((Qv (Sl 1005 (n2) (n2))) ∧
 ((∃ n13 : Int,
 ((At (cs1) 3 1 [(vI n13)]) ∧
 ((vI n13) = (vI n6)))) ∧
 ((bcase (decide (3 < (↑n2 : Int)))
 (Qv (Pt 1005 3))
 False) ∧
 ((Qv (Sl 1005 (n2) (n2))) ∧
 ((∃ n13 : Int,
 ((At (cs1) 2 1 [(vI n13)]) ∧
 ((vI n13) = (vI n5)))) ∧
 ((bcase (decide (2 < (↑n2 : Int)))
 (Qv (Pt 1005 2))
 False) ∧
 ((Qv (Sl 1005 (n2) (n2))) ∧
 ((∃ n13 : Int,
 ((At (cs1) 1 1 [(vI n13)]) ∧
 ((vI n13) = (vI n4)))) ∧
 ((bcase (decide (1 < (↑n2 : Int)))
 (Qv (Pt 1005 1))
 False) ∧
 ((Qv (Sl 1005 (n2) (n2))) ∧
 ((∃ n13 : Int,
 ((At (cs1) 0 1 [(vI n13)]) ∧
 ((vI n13) = (vI n3)))) ∧
 ((bcase (decide (0 < (↑n2 : Int)))
 (Qv (Pt 1005 0))
 False) ∧
 ((Qv (Sl 1005 (n2) (n2))) ∧
 True)))))))))))))))))))))))))))))))))) ∧
 (True ∧
 (B [(Prod.mk 2 (Pt 1000 0)), (Prod.mk 4 (Pt 1001 0)), (Prod.mk 5 (vI x0)), (Prod.mk 6 (Sl 1002 (n1) (n1))), (Prod.mk 7 (Pt 1003 0)), (Prod.mk 8 (vI (IntKind.wrap .i64 (x3 + 1)))), (Prod.mk 9 (vI (IntKind.wrap .i64 (x3 + 1))))] [(Prod.mk 1000 (AObj.cells [(vI x4), (vI x5), (vI x6), (vI x7), (vI x8), (vI x9), (Value.slice none 0 0), (vI x10), (vI x11), (vI x12), (vI x13)] 33 false 11)), (Prod.mk 1001 (AObj.cells [(vI x14), (vI x15), (vI x16), (vI x17), (vI x18), (vI x19), (Value.slice none 0 0), (vI x20), (vI x21), (vI x22), (vI x23)] 33 false 11)), (Prod.mk 1002 (AObj.sym (l24) true 1)), (Prod.mk 1003 (AObj.cells [(vI n3), (vI n4), (vI n5), (vI n6), (vI n7), (vI n8), (Value.slice none 0 0), (vI n9), (vI n10), (vI n11), (vI n12)] 33 false 11))])))))
 False)))
 False)))
 False)))
 False)))
 False)))
 False)))
 False)))
 False)))
 False)))
 False)
 (bcase (decide (0 < (↑n2 : Int)))
 (∃ n3 : Int,
 ((At (cs1) 0 1 [(vI n3)]) ∧
 (bcase (decide (1 < (↑n2 : Int)))
 (∃ n4 : Int,
 ((At (cs1) 1 1 [(vI n4)]) ∧
 (bcase (decide (2 < (↑n2 : Int)))
 (∃ n5 : Int,
 ((At (cs1) 2 1 [(vI n5)]) ∧
 (bcase (decide (3 < (↑n2 : Int)))
 (∃ n6 : Int,
 ((At (cs1) 3 1 [(vI n6)]) ∧
 (bcase (decide (4 < (↑n2 : Int)))
 (∃ n7 : Int,
 ((At (cs1) 4 1 [(vI n7)]) ∧
 ((((Qv (Sl 1006 1 1)) ∧
 (Qv (some (AObj.cells [(vI n3), (vI n4), (vI n5), (vI n6), (vI n7)] 79 false 5)))) ∧
 ((Qv (Value.agg [(vI n3), (vI n4), (vI n5), (vI n6), (vI n7)].toArray)) ∧
 ((Qv (Value.agg [(vI n6), (vI n7)].toArray)) ∧
 ((∃ n8 : Int,
 ((At (cs1) 4 1 [(vI n8)]) ∧
 ((vI n8) = (vI n7)))) ∧
 ((bcase (decide (4 < (↑n2 : Int)))
 (Qv (Pt 1005 4))
 False) ∧
 ((Qv (Sl 1005 (n2) (n2))) ∧
 ((∃ n8 : Int,
 ((At (cs1) 3 1 [(vI n8)]) ∧
 ((vI n8) = (vI n6)))) ∧
 ((bcase (decide (3 < (↑n2 : Int)))
 (Qv (Pt 1005 3))
 False) ∧
 ((Qv (Sl 1005 (n2) (n2))) ∧
 ((∃ n8 : Int,
 ((At (cs1) 2 1 [(vI n8)]) ∧
 ((vI n8) = (vI n5)))) ∧
 ((bcase (decide (2 < (↑n2 : Int)))
 (Qv (Pt 1005 2))
 False) ∧
 ((Qv (Sl 1005 (n2) (n2))) ∧
 ((∃ n8 : Int,
 ((At (cs1) 1 1 [(vI n8)]) ∧
 ((vI n8) = (vI n4)))) ∧
 ((bcase (decide (1 < (↑n2 : Int)))
 (Qv (Pt 1005 1))
 False) ∧
 ((Qv (Sl 1005 (n2) (n2))) ∧
 ((∃ n8 : Int,
 ((At (cs1) 0 1 [(vI n8)]) ∧
 ((vI n8) = (vI n3)))) ∧
 ((bcase (decide (0 < (↑n2 : Int)))
 (Qv (Pt 1005 0))
 False) ∧
 ((Qv (Sl 1005 (n2) (n2))) ∧
 ((Qv (Sl 1004 (n31) (n31))) ∧
 ((Qv (Pt 1003 6)) ∧
 True)))))))))))))))))))) ∧
 (bcase (decide (n31 < n31 + 1))
 (bcase (decide ((2 * (n31 + 1) + 768) * 40 ≤ 281474976710656))
 (bcase (decide (n31 + 1 ≤ 1099511627776))
 (bcase (decide (0 + n31 * 5 ≤ List.length l36))
 (bcase (decide (0 + n31 * 5 = List.length l36))
 (((Qv (Pt 1003 6)) ∧
 ((Qv (Value.agg [(vI n3), (vI n4), (vI n5), (vI n6), (vI n7)].toArray)) ∧
 ((Qv (Value.agg [(vI n6), (vI n7)].toArray)) ∧
 ((∃ n8 : Int,
 ((At (cs1) 4 1 [(vI n8)]) ∧
 ((vI n8) = (vI n7)))) ∧
 ((bcase (decide (4 < (↑n2 : Int)))
 (Qv (Pt 1005 4))
 False) ∧
 ((Qv (Sl 1005 (n2) (n2))) ∧
 ((∃ n8 : Int,
 ((At (cs1) 3 1 [(vI n8)]) ∧
 ((vI n8) = (vI n6)))) ∧
 ((bcase (decide (3 < (↑n2 : Int)))
 (Qv (Pt 1005 3))
 False) ∧
 ((Qv (Sl 1005 (n2) (n2))) ∧
 ((∃ n8 : Int,
 ((At (cs1) 2 1 [(vI n8)]) ∧
 ((vI n8) = (vI n5)))) ∧
 ((bcase (decide (2 < (↑n2 : Int)))
 (Qv (Pt 1005 2))
 False) ∧
 ((Qv (Sl 1005 (n2) (n2))) ∧
 ((∃ n8 : Int,
 ((At (cs1) 1 1 [(vI n8)]) ∧
 ((vI n8) = (vI n4)))) ∧
 ((bcase (decide (1 < (↑n2 : Int)))
 (Qv (Pt 1005 1))
 False) ∧
 ((Qv (Sl 1005 (n2) (n2))) ∧
 ((∃ n8 : Int,
 ((At (cs1) 0 1 [(vI n8)]) ∧
 ((vI n8) = (vI n3)))) ∧
 ((bcase (decide (0 < (↑n2 : Int)))
 (Qv (Pt 1005 0))
 False) ∧
 ((Qv (Sl 1005 (n2) (n2))) ∧
 ((Qv (Pt 1003 6)) ∧
 True))))))))))))))))))) ∧
 (True ∧
 (B [(Prod.mk 2 (Pt 1000 0)), (Prod.mk 4 (Pt 1001 0)), (Prod.mk 5 (vI x0)), (Prod.mk 6 (Sl 1002 (n1) (n1))), (Prod.mk 7 (Pt 1003 0)), (Prod.mk 8 (vI (IntKind.wrap .i64 (x3 + 1)))), (Prod.mk 9 (vI (IntKind.wrap .i64 (x3 + 1))))] [(Prod.mk 1000 (AObj.cells [(vI x4), (vI x5), (vI x6), (vI x7), (vI x8), (vI x9), (Value.slice none 0 0), (vI x10), (vI x11), (vI x12), (vI x13)] 33 false 11)), (Prod.mk 1001 (AObj.cells [(vI x14), (vI x15), (vI x16), (vI x17), (vI x18), (vI x19), (Value.slice none 0 0), (vI x20), (vI x21), (vI x22), (vI x23)] 33 false 11)), (Prod.mk 1002 (AObj.sym (l24) true 1)), (Prod.mk 1003 (AObj.cells [(vI x25), (vI x26), (vI x27), (vI x28), (vI x29), (vI x30), (Sl 1004 (n31 + 1) (n31 + 1)), (vI x32), (vI x33), (vI x34), (vI x35)] 33 false 11)), (Prod.mk 1004 (AObj.sym ((List.take (n31 * 5) (List.drop 0 l36)) ++ [(vI n3), (vI n4), (vI n5), (vI n6), (vI n7)]) true 5))])))
 False)
 False)
 False)
 False)
 False))))
 False)))
 False)))
 False)))
 False)))
 False))))
 (bcase (decide (x2 > 0))
 (bcase ((↑n2 : Int) != 5)
 (k [(D.agg [(D.val (vI x14)), (D.val (vI x15)), (D.val (vI x16)), (D.val (vI x17)), (D.val (vI x18)), (D.val (vI x19)), D.nil, (D.val (vI x20)), (D.val (vI x21)), (D.val (vI x22)), (D.val (vI x23))]), (D.val (vI x0))])
 (bcase (x2 == 0)
 (bcase (decide (0 < (↑n2 : Int)))
 (∃ n3 : Int,
 ((At (cs1) 0 1 [(vI n3)]) ∧
 (bcase (decide (1 < (↑n2 : Int)))
 (∃ n4 : Int,
 ((At (cs1) 1 1 [(vI n4)]) ∧
 (bcase (decide (2 < (↑n2 : Int)))
 (∃ n5 : Int,
 ((At (cs1) 2 1 [(vI n5)]) ∧
 (bcase (decide (3 < (↑n2 : Int)))
 (∃ n6 : Int,
 ((At (cs1) 3 1 [(vI n6)]) ∧
 (bcase (decide (4 < (↑n2 : Int)))
 (∃ n7 : Int,
 ((At (cs1) 4 1 [(vI n7)]) ∧
 (bcase (decide (5 < (↑n2 : Int)))
 (∃ n8 : Int,
 ((At (cs1) 5 1 [(vI n8)]) ∧
 (bcase (decide (6 < (↑n2 : Int)))
 (∃ n9 : Int,
 ((At (cs1) 6 1 [(vI n9)]) ∧
 (bcase (decide (7 < (↑n2 : Int)))
 (∃ n10 : Int,
 ((At (cs1) 7 1 [(vI n10)]) ∧
 (bcase (decide (8 < (↑n2 : Int)))
 (∃ n11 : Int,
 ((At (cs1) 8 1 [(vI n11)]) ∧
 (bcase (decide (9 < (↑n2 : Int)))
 (∃ n12 : Int,
 ((At (cs1) 9 1 [(vI n12)]) ∧
 (((Qv (Value.agg [(vI n3), (vI n4), (vI n5), (vI n6), (vI n7), (vI n8), (Value.slice none 0 0), (vI n9), (vI n10), (vI n11), (vI n12)].toArray)) ∧
 ((Qv (Value.agg [(vI n11), (vI n12)].toArray)) ∧
 ((∃ n13 : Int,
 ((At (cs1) 9 1 [(vI n13)]) ∧
 ((vI n13) = (vI n12)))) ∧
 ((bcase (decide (9 < (↑n2 : Int)))
 (Qv (Pt 1005 9))
 False) ∧
 ((Qv (Sl 1005 (n2) (n2))) ∧
 ((∃ n13 : Int,
 ((At (cs1) 8 1 [(vI n13)]) ∧
 ((vI n13) = (vI n11)))) ∧
 ((bcase (decide (8 < (↑n2 : Int)))
 (Qv (Pt 1005 8))
 False) ∧
 ((Qv (Sl 1005 (n2) (n2))) ∧
 ((Qv (Value.agg [(vI n9), (vI n10)].toArray)) ∧
 ((∃ n13 : Int,
 ((At (cs1) 7 1 [(vI n13)]) ∧
 ((vI n13) = (vI n10)))) ∧
 ((bcase (decide (7 < (↑n2 : Int)))
 (Qv (Pt 1005 7))
 False) ∧
 ((Qv (Sl 1005 (n2) (n2))) ∧
 ((∃ n13 : Int,
 ((At (cs1) 6 1 [(vI n13)]) ∧
 ((vI n13) = (vI n9)))) ∧
 ((bcase (decide (6 < (↑n2 : Int)))
 (Qv (Pt 1005 6))
 False) ∧
 ((Qv (Sl 1005 (n2) (n2))) ∧
 ((∃ n13 : Int,
 ((At (cs1) 5 1 [(vI n13)]) ∧
 ((vI n13) = (vI n8)))) ∧
 ((bcase (decide (5 < (↑n2 : Int)))
 (Qv (Pt 1005 5))
 False) ∧
 ((Qv (Sl 1005 (n2) (n2))) ∧
 ((Qv (Value.agg [(vI n6), (vI n7)].toArray)) ∧
 ((∃ n13 : Int,
 ((At (cs1) 4 1 [(vI n13)]) ∧
 ((vI n13) = (vI n7)))) ∧
 ((bcase (decide (4 < (↑n2 : Int)))
 (Qv (Pt 1005 4))
 False) ∧
 ((Qv (Sl 1005 (n2) (n2))) ∧
 ((∃ n13 : Int,
 ((At (cs1) 3 1 [(vI n13)]) ∧
 ((vI n13) = (vI n6)))) ∧
 ((bcase (decide (3 < (↑n2 : Int)))
 (Qv (Pt 1005 3))
 False) ∧
 ((Qv (Sl 1005 (n2) (n2))) ∧
 ((∃ n13 : Int,
 ((At (cs1) 2 1 [(vI n13)]) ∧
 ((vI n13) = (vI n5)))) ∧
 ((bcase (decide (2 < (↑n2 : Int)))
 (Qv (Pt 1005 2))
 False) ∧
 ((Qv (Sl 1005 (n2) (n2))) ∧
 ((∃ n13 : Int,
 ((At (cs1) 1 1 [(vI n13)]) ∧
 ((vI n13) = (vI n4)))) ∧
 ((bcase (decide (1 < (↑n2 : Int)))
 (Qv (Pt 1005 1))
 False) ∧
 ((Qv (Sl 1005 (n2) (n2))) ∧
 ((∃ n13 : Int,
 ((At (cs1) 0 1 [(vI n13)]) ∧
 ((vI n13) = (vI n3)))) ∧
 ((bcase (decide (0 < (↑n2 : Int)))
 (Qv (Pt 1005 0))
 False) ∧
 ((Qv (Sl 1005 (n2) (n2))) ∧
 True)))))))))))))))))))))))))))))))))) ∧
 (True ∧
 (B [(Prod.mk 2 (Pt 1000 0)), (Prod.mk 4 (Pt 1001 0)), (Prod.mk 5 (vI x0)), (Prod.mk 6 (Sl 1002 (n1) (n1))), (Prod.mk 7 (Pt 1003 0)), (Prod.mk 8 (vI (IntKind.wrap .i64 (x3 + 1)))), (Prod.mk 9 (vI (IntKind.wrap .i64 (x3 + 1))))] [(Prod.mk 1000 (AObj.cells [(vI x4), (vI x5), (vI x6), (vI x7), (vI x8), (vI x9), (Value.slice none 0 0), (vI x10), (vI x11), (vI x12), (vI x13)] 33 false 11)), (Prod.mk 1001 (AObj.cells [(vI x14), (vI x15), (vI x16), (vI x17), (vI x18), (vI x19), (Value.slice none 0 0), (vI x20), (vI x21), (vI x22), (vI x23)] 33 false 11)), (Prod.mk 1002 (AObj.sym (l24) true 1)), (Prod.mk 1003 (AObj.cells [(vI n3), (vI n4), (vI n5), (vI n6), (vI n7), (vI n8), (Value.slice none 0 0), (vI n9), (vI n10), (vI n11), (vI n12)] 33 false 11))])))))
 False)))
 False)))
 False)))
 False)))
 False)))
 False)))
 False)))
 False)))
 False)))
 False)
 (bcase (decide (0 < (↑n2 : Int)))
 (∃ n3 : Int,
 ((At (cs1) 0 1 [(vI n3)]) ∧
 (bcase (decide (1 < (↑n2 : Int)))
 (∃ n4 : Int,
 ((At (cs1) 1 1 [(vI n4)]) ∧
 (bcase (decide (2 < (↑n2 : Int)))
 (∃ n5 : Int,
 ((At (cs1) 2 1 [(vI n5)]) ∧
 (bcase (decide (3 < (↑n2 : Int)))
 (∃ n6 : Int,
 ((At (cs1) 3 1 [(vI n6)]) ∧
 (bcase (decide (4 < (↑n2 : Int)))
 (∃ n7 : Int,
 ((At (cs1) 4 1 [(vI n7)]) ∧
 ((((Qv (Sl 1006 1 1)) ∧
 (Qv (some (AObj.cells [(vI n3), (vI n4), (vI n5), (vI n6), (vI n7)] 79 false 5)))) ∧
 ((Qv (Value.agg [(vI n3), (vI n4), (vI n5), (vI n6), (vI n7)].toArray)) ∧
 ((Qv (Value.agg [(vI n6), (vI n7)].toArray)) ∧
 ((∃ n8 : Int,
 ((At (cs1) 4 1 [(vI n8)]) ∧
 ((vI n8) = (vI n7)))) ∧
 ((bcase (decide (4 < (↑n2 : Int)))
 (Qv (Pt 1005 4))
 False) ∧
 ((Qv (Sl 1005 (n2) (n2))) ∧
 ((∃ n8 : Int,
 ((At (cs1) 3 1 [(vI n8)]) ∧
 ((vI n8) = (vI n6)))) ∧
 ((bcase (decide (3 < (↑n2 : Int)))
 (Qv (Pt 1005 3))
 False) ∧
 ((Qv (Sl 1005 (n2) (n2))) ∧
 ((∃ n8 : Int,
 ((At (cs1) 2 1 [(vI n8)]) ∧
 ((vI n8) = (vI n5)))) ∧
 ((bcase (decide (2 < (↑n2 : Int)))
 (Qv (Pt 1005 2))
 False) ∧
 ((Qv (Sl 1005 (n2) (n2))) ∧
 ((∃ n8 : Int,
 ((At (cs1) 1 1 [(vI n8)]) ∧
 ((vI n8) = (vI n4)))) ∧
 ((bcase (decide (1 < (↑n2 : Int)))
 (Qv (Pt 1005 1))
 False) ∧
 ((Qv (Sl 1005 (n2) (n2))) ∧
 ((∃ n8 : Int,
 ((At (cs1) 0 1 [(vI n8)]) ∧
 ((vI n8) = (vI n3)))) ∧
 ((bcase (decide (0 < (↑n2 : Int)))
 (Qv (Pt 1005 0))
 False) ∧
 ((Qv (Sl 1005 (n2) (n2))) ∧
 ((Qv (Sl 1004 (n31) (n31))) ∧
 ((Qv (Pt 1003 6)) ∧
 True)))))))))))))))))))) ∧
 (bcase (decide (n31 < n31 + 1))
 (bcase (decide ((2 * (n31 + 1) + 768) * 40 ≤ 281474976710656))
 (bcase (decide (n31 + 1 ≤ 1099511627776))
 (bcase (decide (0 + n31 * 5 ≤ List.length l36))
 (bcase (decide (0 + n31 * 5 = List.length l36))
 (((Qv (Pt 1003 6)) ∧
 ((Qv (Value.agg [(vI n3), (vI n4), (vI n5), (vI n6), (vI n7)].toArray)) ∧
 ((Qv (Value.agg [(vI n6), (vI n7)].toArray)) ∧
 ((∃ n8 : Int,
 ((At (cs1) 4 1 [(vI n8)]) ∧
 ((vI n8) = (vI n7)))) ∧
 ((bcase (decide (4 < (↑n2 : Int)))
 (Qv (Pt 1005 4))
 False) ∧
 ((Qv (Sl 1005 (n2) (n2))) ∧
 ((∃ n8 : Int,
 ((At (cs1) 3 1 [(vI n8)]) ∧
 ((vI n8) = (vI n6)))) ∧
 ((bcase (decide (3 < (↑n2 : Int)))
 (Qv (Pt 1005 3))
 False) ∧
 ((Qv (Sl 1005 (n2) (n2))) ∧
 ((∃ n8 : Int,
 ((At (cs1) 2 1 [(vI n8)]) ∧
 ((vI n8) = (vI n5)))) ∧
 ((bcase (decide (2 < (↑n2 : Int)))
 (Qv (Pt 1005 2))
 False) ∧
 ((Qv (Sl 1005 (n2) (n2))) ∧
 ((∃ n8 : Int,
 ((At (cs1) 1 1 [(vI n8)]) ∧
 ((vI n8) = (vI n4)))) ∧
 ((bcase (decide (1 < (↑n2 : Int)))
 (Qv (Pt 1005 1))
 False) ∧
 ((Qv (Sl 1005 (n2) (n2))) ∧
 ((∃ n8 : Int,
 ((At (cs1) 0 1 [(vI n8)]) ∧
 ((vI n8) = (vI n3)))) ∧
 ((bcase (decide (0 < (↑n2 : Int)))
 (Qv (Pt 1005 0))
 False) ∧
 ((Qv (Sl 1005 (n2) (n2))) ∧
 ((Qv (Pt 1003 6)) ∧
 True))))))))))))))))))) ∧
 (True ∧
 (B [(Prod.mk 2 (Pt 1000 0)), (Prod.mk 4 (Pt 1001 0)), (Prod.mk 5 (vI x0)), (Prod.mk 6 (Sl 1002 (n1) (n1))), (Prod.mk 7 (Pt 1003 0)), (Prod.mk 8 (vI (IntKind.wrap .i64 (x3 + 1)))), (Prod.mk 9 (vI (IntKind.wrap .i64 (x3 + 1))))] [(Prod.mk 1000 (AObj.cells [(vI x4), (vI x5), (vI x6), (vI x7), (vI x8), (vI x9), (Value.slice none 0 0), (vI x10), (vI x11), (vI x12), (vI x13)] 33 false 11)), (Prod.mk 1001 (AObj.cells [(vI x14), (vI x15), (vI x16), (vI x17), (vI x18), (vI x19), (Value.slice none 0 0), (vI x20), (vI x21), (vI x22), (vI x23)] 33 false 11)), (Prod.mk 1002 (AObj.sym (l24) true 1)), (Prod.mk 1003 (AObj.cells [(vI x25), (vI x26), (vI x27), (vI x28), (vI x29), (vI x30), (Sl 1004 (n31 + 1) (n31 + 1)), (vI x32), (vI x33), (vI x34), (vI x35)] 33 false 11)), (Prod.mk 1004 (AObj.sym ((List.take (n31 * 5) (List.drop 0 l36)) ++ [(vI n3), (vI n4), (vI n5), (vI n6), (vI n7)]) true 5))])))
 False)
 False)
 False)
 False)
 False))))
 False)))
 False)))
 False)))
 False)))
 False)))
 (bcase (x2 == 0)
 (bcase (decide (0 < (↑n2 : Int)))
 (∃ n3 : Int,
 ((At (cs1) 0 1 [(vI n3)]) ∧
 (bcase (decide (1 < (↑n2 : Int)))
 (∃ n4 : Int,
 ((At (cs1) 1 1 [(vI n4)]) ∧
 (bcase (decide (2 < (↑n2 : Int)))
 (∃ n5 : Int,
 ((At (cs1) 2 1 [(vI n5)]) ∧
 (bcase (decide (3 < (↑n2 : Int)))
 (∃ n6 : Int,
 ((At (cs1) 3 1 [(vI n6)]) ∧
 (bcase (decide (4 < (↑n2 : Int)))
 (∃ n7 : Int,
 ((At (cs1) 4 1 [(vI n7)]) ∧
 (bcase (decide (5 < (↑n2 : Int)))
 (∃ n8 : Int,
 ((At (cs1) 5 1 [(vI n8)]) ∧
 (bcase (decide (6 < (↑n2 : Int)))
 (∃ n9 : Int,
 ((At (cs1) 6 1 [(vI n9)]) ∧
 (bcase (decide (7 < (↑n2 : Int)))
 (∃ n10 : Int,
 ((At (cs1) 7 1 [(vI n10)]) ∧
 (bcase (decide (8 < (↑n2 : Int)))
 (∃ n11 : Int,
 ((At (cs1) 8 1 [(vI n11)]) ∧
 (bcase (decide (9 < (↑n2 : Int)))
 (∃ n12 : Int,
 ((At (cs1) 9 1 [(vI n12)]) ∧
 (((Qv (Value.agg [(vI n3), (vI n4), (vI n5), (vI n6), (vI n7), (vI n8), (Value.slice none 0 0), (vI n9), (vI n10), (vI n11), (vI n12)].toArray)) ∧
 ((Qv (Value.agg [(vI n11), (vI n12)].toArray)) ∧
 ((∃ n13 : Int,
 ((At (cs1) 9 1 [(vI n13)]) ∧
 ((vI n13) = (vI n12)))) ∧
 ((bcase (decide (9 < (↑n2 : Int)))
 (Qv (Pt 1005 9))
 False) ∧
 ((Qv (Sl 1005 (n2) (n2))) ∧
 ((∃ n13 : Int,
 ((At (cs1) 8 1 [(vI n13)]) ∧
 ((vI n13) = (vI n11)))) ∧
 ((bcase (decide (8 < (↑n2 : Int)))
 (Qv (Pt 1005 8))
 False) ∧
 ((Qv (Sl 1005 (n2) (n2))) ∧
 ((Qv (Value.agg [(vI n9), (vI n10)].toArray)) ∧
 ((∃ n13 : Int,
 ((At (cs1) 7 1 [(vI n13)]) ∧
 ((vI n13) = (vI n10)))) ∧
 ((bcase (decide (7 < (↑n2 : Int)))
 (Qv (Pt 1005 7))
 False) ∧
 ((Qv (Sl 1005 (n2) (n2))) ∧
 ((∃ n13 : Int,
 ((At (cs1) 6 1 [(vI n13)]) ∧
 ((vI n13) = (vI n9)))) ∧
 ((bcase (decide (6 < (↑n2 : Int)))
 (Qv (Pt 1005 6))
 False) ∧
 ((Qv (Sl 1005 (n2) (n2))) ∧
 ((∃ n13 : Int,
 ((At (cs1) 5 1 [(vI n13)]) ∧
 ((vI n13) = (vI n8)))) ∧
 ((bcase (decide (5 < (↑n2 : Int)))
 (Qv (Pt 1005 5))
 False) ∧
 ((Qv (Sl 1005 (n2) (n2))) ∧
 ((Qv (Value.agg [(vI n6), (vI n7)].toArray)) ∧
 ((∃ n13 : Int,
 ((At (cs1) 4 1 [(vI n13)]) ∧
 ((vI n13) = (vI n7)))) ∧
 ((bcase (decide (4 < (↑n2 : Int)))
 (Qv (Pt 1005 4))
 False) ∧
 ((Qv (Sl 1005 (n2) (n2))) ∧
 ((∃ n13 : Int,
 ((At (cs1) 3 1 [(vI n13)]) ∧
 ((vI n13) = (vI n6)))) ∧
 ((bcase (decide (3 < (↑n2 : Int)))
 (Qv (Pt 1005 3))
 False) ∧
 ((Qv (Sl 1005 (n2) (n2))) ∧
 ((∃ n13 : Int,
 ((At (cs1) 2 1 [(vI n13)]) ∧
 ((vI n13) = (vI n5)))) ∧
 ((bcase (decide (2 < (↑n2 : Int)))
 (Qv (Pt 1005 2))
 False) ∧
 ((Qv (Sl 1005 (n2) (n2))) ∧
 ((∃ n13 : Int,
 ((At (cs1) 1 1 [(vI n13)]) ∧
 ((vI n13) = (vI n4)))) ∧
 ((bcase (decide (1 < (↑n2 : Int)))
 (Qv (Pt 1005 1))
 False) ∧
 ((Qv (Sl 1005 (n2) (n2))) ∧
 ((∃ n13 : Int,
 ((At (cs1) 0 1 [(vI n13)]) ∧
 ((vI n13) = (vI n3)))) ∧
 ((bcase (decide (0 < (↑n2 : Int)))
 (Qv (Pt 1005 0))
 False) ∧
 ((Qv (Sl 1005 (n2) (n2))) ∧
 True)))))))))))))))))))))))))))))))))) ∧
 (True ∧
 (B [(Prod.mk 2 (Pt 1000 0)), (Prod.mk 4 (Pt 1001 0)), (Prod.mk 5 (vI x0)), (Prod.mk 6 (Sl 1002 (n1) (n1))), (Prod.mk 7 (Pt 1003 0)), (Prod.mk 8 (vI (IntKind.wrap .i64 (x3 + 1)))), (Prod.mk 9 (vI (IntKind.wrap .i64 (x3 + 1))))] [(Prod.mk 1000 (AObj.cells [(vI x4), (vI x5), (vI x6), (vI x7), (vI x8), (vI x9), (Value.slice none 0 0), (vI x10), (vI x11), (vI x12), (vI x13)] 33 false 11)), (Prod.mk 1001 (AObj.cells [(vI x14), (vI x15), (vI x16), (vI x17), (vI x18), (vI x19), (Value.slice none 0 0), (vI x20), (vI x21), (vI x22), (vI x23)] 33 false 11)), (Prod.mk 1002 (AObj.sym (l24) true 1)), (Prod.mk 1003 (AObj.cells [(vI n3), (vI n4), (vI n5), (vI n6), (vI n7), (vI n8), (Value.slice none 0 0), (vI n9), (vI n10), (vI n11), (vI n12)] 33 false 11))])))))
 False)))
 False)))
 False)))
 False)))
 False)))
 False)))
 False)))
 False)))
 False)))
 False)
 (bcase (decide (0 < (↑n2 : Int)))
 (∃ n3 : Int,
 ((At (cs1) 0 1 [(vI n3)]) ∧
 (bcase (decide (1 < (↑n2 : Int)))
 (∃ n4 : Int,
 ((At (cs1) 1 1 [(vI n4)]) ∧
 (bcase (decide (2 < (↑n2 : Int)))
 (∃ n5 : Int,
 ((At (cs1) 2 1 [(vI n5)]) ∧
 (bcase (decide (3 < (↑n2 : Int)))
 (∃ n6 : Int,
 ((At (cs1) 3 1 [(vI n6)]) ∧
 (bcase (decide (4 < (↑n2 : Int)))
 (∃ n7 : Int,
 ((At (cs1) 4 1 [(vI n7)]) ∧
 ((((Qv (Sl 1006 1 1)) ∧
 (Qv (some (AObj.cells [(vI n3), (vI n4), (vI n5), (vI n6), (vI n7)] 79 false 5)))) ∧
 ((Qv (Value.agg [(vI n3), (vI n4), (vI n5), (vI n6), (vI n7)].toArray)) ∧
 ((Qv (Value.agg [(vI n6), (vI n7)].toArray)) ∧
 ((∃ n8 : Int,
 ((At (cs1) 4 1 [(vI n8)]) ∧
 ((vI n8) = (vI n7)))) ∧
 ((bcase (decide (4 < (↑n2 : Int)))
 (Qv (Pt 1005 4))
 False) ∧
 ((Qv (Sl 1005 (n2) (n2))) ∧
 ((∃ n8 : Int,
 ((At (cs1) 3 1 [(vI n8)]) ∧
 ((vI n8) = (vI n6)))) ∧
 ((bcase (decide (3 < (↑n2 : Int)))
 (Qv (Pt 1005 3))
 False) ∧
 ((Qv (Sl 1005 (n2) (n2))) ∧
 ((∃ n8 : Int,
 ((At (cs1) 2 1 [(vI n8)]) ∧
 ((vI n8) = (vI n5)))) ∧
 ((bcase (decide (2 < (↑n2 : Int)))
 (Qv (Pt 1005 2))
 False) ∧
 ((Qv (Sl 1005 (n2) (n2))) ∧
 ((∃ n8 : Int,
 ((At (cs1) 1 1 [(vI n8)]) ∧
 ((vI n8) = (vI n4)))) ∧
 ((bcase (decide (1 < (↑n2 : Int)))
 (Qv (Pt 1005 1))
 False) ∧
 ((Qv (Sl 1005 (n2) (n2))) ∧
 ((∃ n8 : Int,
 ((At (cs1) 0 1 [(vI n8)]) ∧
 ((vI n8) = (vI n3)))) ∧
 ((bcase (decide (0 < (↑n2 : Int)))
 (Qv (Pt 1005 0))
 False) ∧
 ((Qv (Sl 1005 (n2) (n2))) ∧
 ((Qv (Sl 1004 (n31) (n31))) ∧
 ((Qv (Pt 1003 6)) ∧
 True)))))))))))))))))))) ∧
 (bcase (decide (n31 < n31 + 1))
 (bcase (decide ((2 * (n31 + 1) + 768) * 40 ≤ 281474976710656))
 (bcase (decide (n31 + 1 ≤ 1099511627776))
 (bcase (decide (0 + n31 * 5 ≤ List.length l36))
 (bcase (decide (0 + n31 * 5 = List.length l36))
 (((Qv (Pt 1003 6)) ∧
 ((Qv (Value.agg [(vI n3), (vI n4), (vI n5), (vI n6), (vI n7)].toArray)) ∧
 ((Qv (Value.agg [(vI n6), (vI n7)].toArray)) ∧
 ((∃ n8 : Int,
 ((At (cs1) 4 1 [(vI n8)]) ∧
 ((vI n8) = (vI n7)))) ∧
 ((bcase (decide (4 < (↑n2 : Int)))
 (Qv (Pt 1005 4))
 False) ∧
 ((Qv (Sl 1005 (n2) (n2))) ∧
 ((∃ n8 : Int,
 ((At (cs1) 3 1 [(vI n8)]) ∧
 ((vI n8) = (vI n6)))) ∧
 ((bcase (decide (3 < (↑n2 : Int)))
 (Qv (Pt 1005 3))
 False) ∧
 ((Qv (Sl 1005 (n2) (n2))) ∧
 ((∃ n8 : Int,
 ((At (cs1) 2 1 [(vI n8)]) ∧
 ((vI n8) = (vI n5)))) ∧
 ((bcase (decide (2 < (↑n2 : Int)))
 (Qv (Pt 1005 2))
 False) ∧
 ((Qv (Sl 1005 (n2) (n2))) ∧
 ((∃ n8 : Int,
 ((At (cs1) 1 1 [(vI n8)]) ∧
 ((vI n8) = (vI n4)))) ∧
 ((bcase (decide (1 < (↑n2 : Int)))
 (Qv (Pt 1005 1))
 False) ∧
 ((Qv (Sl 1005 (n2) (n2))) ∧
 ((∃ n8 : Int,
 ((At (cs1) 0 1 [(vI n8)]) ∧
 ((vI n8) = (vI n3)))) ∧
 ((bcase (decide (0 < (↑n2 : Int)))
 (Qv (Pt 1005 0))
 False) ∧
 ((Qv (Sl 1005 (n2) (n2))) ∧
 ((Qv (Pt 1003 6)) ∧
 True))))))))))))))))))) ∧
 (True ∧
 (B [(Prod.mk 2 (Pt 1000 0)), (Prod.mk 4 (Pt 1001 0)), (Prod.mk 5 (vI x0)), (Prod.mk 6 (Sl 1002 (n1) (n1))), (Prod.mk 7 (Pt 1003 0)), (Prod.mk 8 (vI (IntKind.wrap .i64 (x3 + 1)))), (Prod.mk 9 (vI (IntKind.wrap .i64 (x3 + 1))))] [(Prod.mk 1000 (AObj.cells [(vI x4), (vI x5), (vI x6), (vI x7), (vI x8), (vI x9), (Value.slice none 0 0), (vI x10), (vI x11), (vI x12), (vI x13)] 33 false 11)), (Prod.mk 1001 (AObj.cells [(vI x14), (vI x15), (vI x16), (vI x17), (vI x18), (vI x19), (Value.slice none 0 0), (vI x20), (vI x21), (vI x22), (vI x23)] 33 false 11)), (Prod.mk 1002 (AObj.sym (l24) true 1)), (Prod.mk 1003 (AObj.cells [(vI x25), (vI x26), (vI x27), (vI x28), (vI x29), (vI x30), (Sl 1004 (n31 + 1) (n31 + 1)), (vI x32), (vI x33), (vI x34), (vI x35)] 33 false 11)), (Prod.mk 1004 (AObj.sym ((List.take (n31 * 5) (List.drop 0 l36)) ++ [(vI n3), (vI n4), (vI n5), (vI n6), (vI n7)]) true 5))])))
 False)
 False)
 False)
 False)
 False))))
 False)))
 False)))
 False)))
 False)))
 False))))) ∨
 ((Says C 32 [(D.sl (Int.toNat x3 - Int.toNat x2) 1 (List.take ((Int.toNat x3 - Int.toNat x2) * 1) (List.drop (0 + Int.toNat x2 * 1) l24)))] [(D.sl (n2) 1 (cs1)), (D.val (Value.bool false))]) ∧
 (k [(D.agg [(D.val (vI x14)), (D.val (vI x15)), (D.val (vI x16)), (D.val (vI x17)), (D.val (vI x18)), (D.val (vI x19)), D.nil, (D.val (vI x20)), (D.val (vI x21)), (D.val (vI x22)), (D.val (vI x23))]), (D.val (vI x0))]))))))
 False)
 False)
 False)
 False)
 False)
 False)
 False))))
 False)
 False)
 (bcase (decide (0 ≤ x3))
 (bcase (decide (x3 ≤ (↑n1 : Int)))
 (bcase (decide (0 ≤ x2))
 (bcase (decide (x2 ≤ (↑(Int.toNat x3) : Int)))
 (bcase (decide (Int.toNat x3 ≤ n1))
 (bcase (AObj.isOpen (AObj.sym l24 Bool.true 1) 0 n1)
 (bcase (decide (0 + Int.toNat x2 * 1 + (Int.toNat x3 - Int.toNat x2) * 1 ≤ List.length l24))
 ((((Says C 32 [(D.sl (Int.toNat x3 - Int.toNat x2) 1 (List.take ((Int.toNat x3 - Int.toNat x2) * 1) (List.drop (0 + Int.toNat x2 * 1) l24)))] [D.nil, (D.val (Value.bool true))]) ∧
 (bcase (x2 == 0)
 (k [(D.agg [(D.val (vI x14)), (D.val (vI x15)), (D.val (vI x16)), (D.val (vI x17)), (D.val (vI x18)), (D.val (vI x19)), D.nil, (D.val (vI x20)), (D.val (vI x21)), (D.val (vI x22)), (D.val (vI x23))]), (D.val (vI x0))])
 (bcase (decide (x2 > 0))
 (k [(D.agg [(D.val (vI x14)), (D.val (vI x15)), (D.val (vI x16)), (D.val (vI x17)), (D.val (vI x18)), (D.val (vI x19)), D.nil, (D.val (vI x20)), (D.val (vI x21)), (D.val (vI x22)), (D.val (vI x23))]), (D.val (vI x0))])
 (bcase (x2 == 0)
 False
 False)))) ∨
 ((Says C 32 [(D.sl (Int.toNat x3 - Int.toNat x2) 1 (List.take ((Int.toNat x3 - Int.toNat x2) * 1) (List.drop (0 + Int.toNat x2 * 1) l24)))] [D.nil, (D.val (Value.bool false))]) ∧
 (k [(D.agg [(D.val (vI x14)), (D.val (vI x15)), (D.val (vI x16)), (D.val (vI x17)), (D.val (vI x18)), (D.val (vI x19)), D.nil, (D.val (vI x20)), (D.val (vI x21)), (D.val (vI x22)), (D.val (vI x23))]), (D.val (vI x0))]))) ∨
 (∃ n2 : Nat,
 (∃ cs1 : List Go.Value,
 (((Says C 32 [(D.sl (Int.toNat x3 - Int.toNat x2) 1 (List.take ((Int.toNat x3 - Int.toNat x2) * 1) (List.drop (0 + Int.toNat x2 * 1) l24)))] [(D.sl (n2) 1 (cs1)), (D.val (Value.bool true))]) ∧
 (bcase (x2 == 0)
 (bcase ((↑n2 : Int) != 10)
 (k [(D.agg [(D.val (vI x14)), (D.val (vI x15)), (D.val (vI x16)), (D.val (vI x17)), (D.val (vI x18)), (D.val (vI x19)), D.nil, (D.val (vI x20)), (D.val (vI x21)), (D.val (vI x22)), (D.val (vI x23))]), (D.val (vI x0))])
 (bcase (decide (x2 > 0))
 (bcase ((↑n2 : Int) != 5)
 (k [(D.agg [(D.val (vI x14)), (D.val (vI x15)), (D.val (vI x16)), (D.val (vI x17)), (D.val (vI x18)), (D.val (vI x19)), D.nil, (D.val (vI x20)), (D.val (vI x21)), (D.val (vI x22)), (D.val (vI x23))]), (D.val (vI x0))])
 (bcase (x2 == 0)
 (bcase (decide (0 < (↑n2 : Int)))
 (∃ n3 : Int,
 ((At (cs1) 0 1 [(vI n3)]) ∧
 (bcase (decide (1 < (↑n2 : Int)))
 (∃ n4 : Int,
 ((At (cs1) 1 1 [(vI n4)]) ∧
 (bcase (decide (2 < (↑n2 : Int)))
 (∃ n5 : Int,
 ((At (cs1) 2 1 [(vI n5)]) ∧
 (bcase (decide (3 < (↑n2 : Int)))
 (∃ n6 : Int,
 ((At (cs1) 3 1 [(vI n6)]) ∧
 (bcase (decide (4 < (↑n2 : Int)))
 (∃ n7 : Int,
 ((At (cs1) 4 1 [(vI n7)]) ∧
 (bcase (decide (5 < (↑n2 : Int)))
 (∃ n8 : Int,
 ((At (cs1) 5 1 [(vI n8)]) ∧
 (bcase (decide (6 < (↑n2 : Int)))
 (∃ n9 : Int,
 ((At (cs1) 6 1 [(vI n9)]) ∧
 (bcase (decide (7 < (↑n2 : Int)))
 (∃ n10 : Int,
 ((At (cs1) 7 1 [(vI n10)]) ∧
 (bcase (decide (8 < (↑n2 : Int)))
 (∃ n11 : Int,
 ((At (cs1) 8 1 [(vI n11)]) ∧
 (bcase (decide (9 < (↑n2 : Int)))
 (∃ n12 : Int,
 ((At (cs1) 9 1 [(vI n12)]) ∧
 (((Qv (Value.agg [(vI n3), (vI n4), (vI n5), (vI n6), (vI n7), (vI n8), (Value.slice none 0 0), (vI n9), (vI n10), (vI n11), (vI n12)].toArray)) ∧
 ((Qv (Value.agg [(vI n11), (vI n12)].toArray)) ∧
 ((∃ n13 : Int,
 ((At (cs1) 9 1 [(vI n13)]) ∧
 ((vI n13) = (vI n12)))) ∧
 ((bcase (decide (9 < (↑n2 : Int)))
 (Qv (Pt 1005 9))
 False) ∧
 ((Qv (Sl 1005 (n2) (n2))) ∧
 ((∃ n13 : Int,
 ((At (cs1) 8 1 [(vI n13)]) ∧
 ((vI n13) = (vI n11)))) ∧
 ((bcase (decide (8 < (↑n2 : Int)))
 (Qv (Pt 1005 8))
 False) ∧
 ((Qv (Sl 1005 (n2) (n2))) ∧
 ((Qv (Value.agg [(vI n9), (vI n10)].toArray)) ∧
 ((∃ n13 : Int,
 ((At (cs1) 7 1 [(vI n13)]) ∧
 ((vI n13) = (vI n10)))) ∧
 ((bcase (decide (7 < (↑n2 : Int)))
 (Qv (Pt 1005 7))
 False) ∧
 ((Qv (Sl 1005 (n2) (n2))) ∧
 ((∃ n13 : Int,
 ((At (cs1) 6 1 [(vI n13)]) ∧
 ((vI n13) = (vI n9)))) ∧
 ((bcase (decide (6 < (↑n2 : Int)))
 (Qv (Pt 1005 6))
 False) ∧
 ((Qv (Sl 1005 (n2) (n2))) ∧
 ((∃ n13 : Int,
 ((At (cs1) 5 1 [(vI n13)]) ∧
 ((vI n13) = (vI n8)))) ∧
 ((bcase (decide (5 < (↑n2 : Int)))
 (Qv (Pt 1005 5))
 False) ∧
 ((Qv (Sl 1005 (n2) (n2))) ∧
 ((Qv (Value.agg [(vI n6), (vI n7)].toArray)) ∧
 ((∃ n13 : Int,
 ((At (cs1) 4 1 [(vI n13)]) ∧
 ((vI n13) = (vI n7)))) ∧
 ((bcase (decide (4 < (↑n2 : Int)))
 (Qv (Pt 1005 4))
 False) ∧
 ((Qv (Sl 1005 (n2) (n2))) ∧
 ((∃ n13 : Int,
 ((At (cs1) 3 1 [(vI n13)]) ∧
 ((vI n13) = (vI n6)))) ∧
 ((bcase (decide (3 < (↑n2 : Int)))
 (Qv (Pt 1005 3))
 False) ∧
 ((Qv (Sl 1005 (n2) (n2))) ∧
 ((∃ n13 : Int,
 ((At (cs1) 2 1 [(vI n13)]) ∧
 ((vI n13) = (vI n5)))) ∧
 ((bcase (decide (2 < (↑n2 : Int)))
 (Qv (Pt 1005 2))
 False) ∧
 ((Qv (Sl 1005 (n2) (n2))) ∧
 ((∃ n13 : Int,
 ((At (cs1) 1 1 [(vI n13)]) ∧
 ((vI n13) = (vI n4)))) ∧
 ((bcase (decide (1 < (↑n2 : Int)))
 (Qv (Pt 1005 1))
 False) ∧
 ((Qv (Sl 1005 (n2) (n2))) ∧
 ((∃ n13 : Int,
 ((At (cs1) 0 1 [(vI n13)]) ∧
 ((vI n13) = (vI n3)))) ∧
 ((bcase (decide (0 < (↑n2 : Int)))
 (Qv (Pt 1005 0))
 False) ∧
 ((Qv (Sl 1005 (n2) (n2))) ∧
 True)))))))))))))))))))))))))))))))))) ∧
 (True ∧
 (B [(Prod.mk 2 (Pt 1000 0)), (Prod.mk 4 (Pt 1001 0)), (Prod.mk 5 (vI x0)), (Prod.mk 6 (Sl 1002 (n1) (n1))), (Prod.mk 7 (Pt 1003 0)), (Prod.mk 8 (vI (IntKind.wrap .i64 (x3 + 1)))), (Prod.mk 9 (vI (IntKind.wrap .i64 (x3 + 1))))] [(Prod.mk 1000 (AObj.cells [(vI x4), (vI x5), (vI x6), (vI x7), (vI x8), (vI x9), (Value.slice none 0 0), (vI x10), (vI x11), (vI x12), (vI x13)] 33 false 11)), (Prod.mk 1001 (AObj.cells [(vI x14), (vI x15), (vI x16), (vI x17), (vI x18), (vI x19), (Value.slice none 0 0), (vI x20), (vI x21), (vI x22), (vI x23)] 33 false 11)), (Prod.mk 1002 (AObj.sym (l24) true 1)), (Prod.mk 1003 (AObj.cells [(vI n3), (vI n4), (vI n5), (vI n6), (vI n7), (vI n8), (Value.slice none 0 0), (vI n9), (vI n10), (vI n11), (vI n12)] 33 false 11))])))))
 False)))
 False)))
 False)))
 False)))
 False)))
 False)))
 False)))
 False)))
 False)))
 False)
 (bcase (decide (0 < (↑n2 : Int)))
 (∃ n3 : Int,
 ((At (cs1) 0 1 [(vI n3)]) ∧
 (bcase (decide (1 < (↑n2 : Int)))
 (∃ n4 : Int,
 ((At (cs1) 1 1 [(vI n4)]) ∧
 (bcase (decide (2 < (↑n2 : Int)))
 (∃ n5 : Int,
 ((At (cs1) 2 1 [(vI n5)]) ∧
 (bcase (decide (3 < (↑n2 : Int)))
 (∃ n6 : Int,
 ((At (cs1) 3 1 [(vI n6)]) ∧
 (bcase (decide (4 < (↑n2 : Int)))
 (∃ n7 : Int,
 ((At (cs1) 4 1 [(vI n7)]) ∧
 ((((Qv (Sl 1006 1 1)) ∧
 (Qv (some (AObj.cells [(vI n3), (vI n4), (vI n5), (vI n6), (vI n7)] 79 false 5)))) ∧
 ((Qv (Value.agg [(vI n3), (vI n4), (vI n5), (vI n6), (vI n7)].toArray)) ∧
 ((Qv (Value.agg [(vI n6), (vI n7)].toArray)) ∧
 ((∃ n8 : Int,
 ((At (cs1) 4 1 [(vI n8)]) ∧
 ((vI n8) = (vI n7)))) ∧
 ((bcase (decide (4 < (↑n2 : Int)))
 (Qv (Pt 1005 4))
 False) ∧
 ((Qv (Sl 1005 (n2) (n2))) ∧
 ((∃ n8 : Int,
 ((At (cs1) 3 1 [(vI n8)]) ∧
 ((vI n8) = (vI n6)))) ∧
 ((bcase (decide (3 < (↑n2 : Int)))
 (Qv (Pt 1005 3))
 False) ∧
 ((Qv (Sl 1005 (n2) (n2))) ∧
 ((∃ n8 : Int,
 ((At (cs1) 2 1 [(vI n8)]) ∧
 ((vI n8) = (vI n5)))) ∧
 ((bcase (decide (2 < (↑n2 : Int)))
 (Qv (Pt 1005 2))
 False) ∧
 ((Qv (Sl 1005 (n2) (n2))) ∧
 ((∃ n8 : Int,
 ((At (cs1) 1 1 [(vI n8)]) ∧
 ((vI n8) = (vI n4)))) ∧
 ((bcase (decide (1 < (↑n2 : Int)))
 (Qv (Pt 1005 1))
 False) ∧
 ((Qv (Sl 1005 (n2) (n2))) ∧
 ((∃ n8 : Int,
 ((At (cs1) 0 1 [(vI n8)]) ∧
 ((vI n8) = (vI n3)))) ∧
 ((bcase (decide (0 < (↑n2 : Int)))
 (Qv (Pt 1005 0))
 False) ∧
 ((Qv (Sl 1005 (n2) (n2))) ∧
 ((Qv (Sl 1004 (n31) (n31))) ∧
 ((Qv (Pt 1003 6)) ∧
 True)))))))))))))))))))) ∧
 (bcase (decide (n31 < n31 + 1))
 (bcase (decide ((2 * (n31 + 1) + 768) * 40 ≤ 281474976710656))
 (bcase (decide (n31 + 1 ≤ 1099511627776))
 (bcase (decide (0 + n31 * 5 ≤ List.length l36))
 (bcase (decide (0 + n31 * 5 = List.length l36))
 (((Qv (Pt 1003 6)) ∧
 ((Qv (Value.agg [(vI n3), (vI n4), (vI n5), (vI n6), (vI n7)].toArray)) ∧
 ((Qv (Value.agg [(vI n6), (vI n7)].toArray)) ∧
 ((∃ n8 : Int,
 ((At (cs1) 4 1 [(vI n8)]) ∧
 ((vI n8) = (vI n7)))) ∧
 ((bcase (decide (4 < (↑n2 : Int)))
 (Qv (Pt 1005 4))
 False) ∧
 ((Qv (Sl 1005 (n2) (n2))) ∧
 ((∃ n8 : Int,
 ((At (cs1) 3 1 [(vI n8)]) ∧
 ((vI n8) = (vI n6)))) ∧
 ((bcase (decide (3 < (↑n2 : Int)))
 (Qv (Pt 1005 3))
 False) ∧
 ((Qv (Sl 1005 (n2) (n2))) ∧
 ((∃ n8 : Int,
 ((At (cs1) 2 1 [(vI n8)]) ∧
 ((vI n8) = (vI n5)))) ∧
 ((bcase (decide (2 < (↑n2 : Int)))
 (Qv (Pt 1005 2))
 False) ∧
 ((Qv (Sl 1005 (n2) (n2))) ∧
 ((∃ n8 : Int,
 ((At (cs1) 1 1 [(vI n8)]) ∧
 ((vI n8) = (vI n4)))) ∧
 ((bcase (decide (1 < (↑n2 : Int)))
 (Qv (Pt 1005 1))
 False) ∧
 ((Qv (Sl 1005 (n2) (n2))) ∧
 ((∃ n8 : Int,
 ((At (cs1) 0 1 [(vI n8)]) ∧
 ((vI n8) = (vI n3)))) ∧
 ((bcase (decide (0 < (↑n2 : Int)))
 (Qv (Pt 1005 0))
 False) ∧
 ((Qv (Sl 1005 (n2) (n2))) ∧
 ((Qv (Pt 1003 6)) ∧
 True))))))))))))))))))) ∧
 (True ∧
 (B [(Prod.mk 2 (Pt 1000 0)), (Prod.mk 4 (Pt 1001 0)), (Prod.mk 5 (vI x0)), (Prod.mk 6 (Sl 1002 (n1) (n1))), (Prod.mk 7 (Pt 1003 0)), (Prod.mk 8 (vI (IntKind.wrap .i64 (x3 + 1)))), (Prod.mk 9 (vI (IntKind.wrap .i64 (x3 + 1))))] [(Prod.mk 1000 (AObj.cells [(vI x4), (vI x5), (vI x6), (vI x7), (vI x8), (vI x9), (Value.slice none 0 0), (vI x10), (vI x11), (vI x12), (vI x13)] 33 false 11)), (Prod.mk 1001 (AObj.cells [(vI x14), (vI x15), (vI x16), (vI x17), (vI x18), (vI x19), (Value.slice none 0 0), (vI x20), (vI x21), (vI x22), (vI x23)] 33 false 11)), (Prod.mk 1002 (AObj.sym (l24) true 1)), (Prod.mk 1003 (AObj.cells [(vI x25), (vI x26), (vI x27), (vI x28), (vI x29), (vI x30), (Sl 1004 (n31 + 1) (n31 + 1)), (vI x32), (vI x33), (vI x34), (vI x35)] 33 false 11)), (Prod.mk 1004 (AObj.sym ((List.take (n31 * 5) (List.drop 0 l36)) ++ [(vI n3), (vI n4), (vI n5), (vI n6), (vI n7)]) true 5))])))
 False)
 False)
 False)
 False)
 False))))
 False)))
 False)))
 False)))
 False)))
 False)))
 (bcase (x2 == 0)
 (bcase (decide (0 < (↑n2 : Int)))
 (∃ n3 : Int,
 ((At (cs1) 0 1 [(vI n3)]) ∧
 (bcase (decide (1 < (↑n2 : Int)))
 (∃ n4 : Int,
 ((At (cs1) 1 1 [(vI n4)]) ∧
 (bcase (decide (2 < (↑n2 : Int)))
 (∃ n5 : Int,
 ((At (cs1) 2 1 [(vI n5)]) ∧
 (bcase (decide (3 < (↑n2 : Int)))
 (∃ n6 : Int,
 ((At (cs1) 3 1 [(vI n6)]) ∧
 (bcase (decide (4 < (↑n2 : Int)))
 (∃ n7 : Int,
 ((At (cs1) 4 1 [(vI n7)]) ∧
 (bcase (decide (5 < (↑n2 : Int)))
 (∃ n8 : Int,
 ((At (cs1) 5 1 [(vI n8)]) ∧
 (bcase (decide (6 < (↑n2 : Int)))
 (∃ n9 : Int,
 ((At (cs1) 6 1 [(vI n9)]) ∧
 (bcase (decide (7 < (↑n2 : Int)))
 (∃ n10 : Int,
 ((At (cs1) 7 1 [(vI n10)]) ∧
 (bcase (decide (8 < (↑n2 : Int)))
 (∃ n11 : Int,
 ((At (cs1) 8 1 [(vI n11)]) ∧
 (bcase (decide (9 < (↑n2 : Int)))
 (∃ n12 : Int,
 ((At (cs1) 9 1 [(vI n12)]) ∧
 (((Qv (Value.agg [(vI n3), (vI n4), (vI n5), (vI n6), (vI n7), (vI n8), (Value.slice none 0 0), (vI n9), (vI n10), (vI n11), (vI n12)].toArray)) ∧
 ((Qv (Value.agg [(vI n11), (vI n12)].toArray)) ∧
 ((∃ n13 : Int,
 ((At (cs1) 9 1 [(vI n13)]) ∧
 ((vI n13) = (vI n12)))) ∧
 ((bcase (decide (9 < (↑n2 : Int)))
 (Qv (Pt 1005 9))
 False) ∧
 ((Qv (Sl 1005 (n2) (n2))) ∧
 ((∃ n13 : Int,
 ((At (cs1) 8 1 [(vI n13)]) ∧
 ((vI n13) = (vI n11)))) ∧
 ((bcase (decide (8 < (↑n2 : Int)))
 (Qv (Pt 1005 8))
 False) ∧
 ((Qv (Sl 1005 (n2) (n2))) ∧
 ((Qv (Value.agg [(vI n9), (vI n10)].toArray)) ∧
 ((∃ n13 : Int,
 ((At (cs1) 7 1 [(vI n13)]) ∧
 ((vI n13) = (vI n10)))) ∧
 ((bcase (decide (7 < (↑n2 : Int)))
 (Qv (Pt 1005 7))
 False) ∧
 ((Qv (Sl 1005 (n2) (n2))) ∧
 ((∃ n13 : Int,
 ((At (cs1) 6 1 [(vI n13)]) ∧
 ((vI n13) = (vI n9)))) ∧
 ((bcase (decide (6 < (↑n2 : Int)))
 (Qv (Pt 1005 6))
 False) ∧
 ((Qv (Sl 1005 (n2) (n2))) ∧
 ((∃ n13 : Int,
 ((At (cs1) 5 1 [(vI n13)]) ∧
 ((vI n13) = (vI n8)))) ∧
 ((bcase (decide (5 < (↑n2 : Int)))
 (Qv (Pt 1005 5))
 False) ∧
 ((Qv (Sl 1005 (n2) (n2))) ∧
 ((Qv (Value.agg [(vI n6), (vI n7)].toArray)) ∧
 ((∃ n13 : Int,
 ((At (cs1) 4 1 [(vI n13)]) ∧
 ((vI n13) = (vI n7)))) ∧
 ((bcase (decide (4 < (↑n2 : Int)))
 (Qv (Pt 1005 4))
 False) ∧
 ((Qv (Sl 1005 (n2) (n2))) ∧
 ((∃ n13 : Int,
 ((At (cs1) 3 1 [(vI n13)]) ∧
 ((vI n13) = (vI n6)))) ∧
 ((bcase (decide (3 < (↑n2 : Int)))
 (Qv (Pt 1005 3))
 False) ∧
 ((Qv (Sl 1005 (n2) (n2))) ∧
 ((∃ n13 : Int,
 ((At (cs1) 2 1 [(vI n13)]) ∧
 ((vI n13) = (vI n5)))) ∧
 ((bcase (decide (2 < (↑n2 : Int)))
 (Qv (Pt 1005 2))
 False) ∧
 ((Qv (Sl 1005 (n2) (n2))) ∧
 ((∃ n13 : Int,
 ((At (cs1) 1 1 [(vI n13)]) ∧
 ((vI n13) = (vI n4)))) ∧
 ((bcase (decide (1 < (↑n2 : Int)))
 (Qv (Pt 1005 1))
 False) ∧
 ((Qv (Sl 1005 (n2) (n2))) ∧
 ((∃ n13 : Int,
 ((At (cs1) 0 1 [(vI n13)]) ∧
 ((vI n13) = (vI n3)))) ∧
 ((bcase (decide (0 < (↑n2 : Int)))
 (Qv (Pt 1005 0))
 False) ∧
 ((Qv (Sl 1005 (n2) (n2))) ∧
 True)))))))))))))))))))))))))))))))))) ∧
 (True ∧
 (B [(Prod.mk 2 (Pt 1000 0)), (Prod.mk 4 (Pt 1001 0)), (Prod.mk 5 (vI x0)), (Prod.mk 6 (Sl 1002 (n1) (n1))), (Prod.mk 7 (Pt 1003 0)), (Prod.mk 8 (vI (IntKind.wrap .i64 (x3 + 1)))), (Prod.mk 9 (vI (IntKind.wrap .i64 (x3 + 1))))] [(Prod.mk 1000 (AObj.cells [(vI x4), (vI x5), (vI x6), (vI x7), (vI x8), (vI x9), (Value.slice none 0 0), (vI x10), (vI x11), (vI x12), (vI x13)] 33 false 11)), (Prod.mk 1001 (AObj.cells [(vI x14), (vI x15), (vI x16), (vI x17), (vI x18), (vI x19), (Value.slice none 0 0), (vI x20), (vI x21), (vI x22), (vI x23)] 33 false 11)), (Prod.mk 1002 (AObj.sym (l24) true 1)), (Prod.mk 1003 (AObj.cells [(vI n3), (vI n4), (vI n5), (vI n6), (vI n7), (vI n8), (Value.slice none 0 0), (vI n9), (vI n10), (vI n11), (vI n12)] 33 false 11))])))))
 False)))
 False)))
 False)))
 False)))
 False)))
 False)))
 False)))
 False)))
 False)))
 False)
 (bcase (decide (0 < (↑n2 : Int)))
 (∃ n3 : Int,
 ((At (cs1) 0 1 [(vI n3)]) ∧
 (bcase (decide (1 < (↑n2 : Int)))
 (∃ n4 : Int,
 ((At (cs1) 1 1 [(vI n4)]) ∧
 (bcase (decide (2 < (↑n2 : Int)))
 (∃ n5 : Int,
 ((At (cs1) 2 1 [(vI n5)]) ∧
 (bcase (decide (3 < (↑n2 : Int)))
 (∃ n6 : Int,
 ((At (cs1) 3 1 [(vI n6)]) ∧
 (bcase (decide (4 < (↑n2 : Int)))
 (∃ n7 : Int,
 ((At (cs1) 4 1 [(vI n7)]) ∧
 ((((Qv (Sl 1006 1 1)) ∧
 (Qv (some (AObj.cells [(vI n3), (vI n4), (vI n5), (vI n6), (vI n7)] 79 false 5)))) ∧
 ((Qv (Value.agg [(vI n3), (vI n4), (vI n5), (vI n6), (vI n7)].toArray)) ∧
 ((Qv (Value.agg [(vI n6), (vI n7)].toArray)) ∧
 ((∃ n8 : Int,
 ((At (cs1) 4 1 [(vI n8)]) ∧
 ((vI n8) = (vI n7)))) ∧
 ((bcase (decide (4 < (↑n2 : Int)))
 (Qv (Pt 1005 4))
 False) ∧
 ((Qv (Sl 1005 (n2) (n2))) ∧
 ((∃ n8 : Int,
 ((At (cs1) 3 1 [(vI n8)]) ∧
 ((vI n8) = (vI n6)))) ∧
 ((bcase (decide (3 < (↑n2 : Int)))
 (Qv (Pt 1005 3))
 False) ∧
 ((Qv (Sl 1005 (n2) (n2))) ∧
 ((∃ n8 : Int,
 ((At (cs1) 2 1 [(vI n8)]) ∧
 ((vI n8) = (vI n5)))) ∧
 ((bcase (decide (2 < (↑n2 : Int)))
 (Qv (Pt 1005 2))
 False) ∧
 ((Qv (Sl 1005 (n2) (n2))) ∧
 ((∃ n8 : Int,
 ((At (cs1) 1 1 [(vI n8)]) ∧
 ((vI n8) = (vI n4)))) ∧
 ((bcase (decide (1 < (↑n2 : Int)))
 (Qv (Pt 1005 1))
 False) ∧
 ((Qv (Sl 1005 (n2) (n2))) ∧
 ((∃ n8 : Int,
 ((At (cs1) 0 1 [(vI n8)]) ∧
 ((vI n8) = (vI n3)))) ∧
 ((bcase (decide (0 < (↑n2 : Int)))
 (Qv (Pt 1005 0))
 False) ∧
 ((Qv (Sl 1005 (n2) (n2))) ∧
 ((Qv (Sl 1004 (n31) (n31))) ∧
 ((Qv (Pt 1003 6)) ∧
 True)))))))))))))))))))) ∧
 (bcase (decide (n31 < n31 + 1))
 (bcase (decide ((2 * (n31 + 1) + 768) * 40 ≤ 281474976710656))
 (bcase (decide (n31 + 1 ≤ 1099511627776))
 (bcase (decide (0 + n31 * 5 ≤ List.length l36))
 (bcase (decide (0 + n31 * 5 = List.length l36))
 (((Qv (Pt 1003 6)) ∧
 ((Qv (Value.agg [(vI n3), (vI n4), (vI n5), (vI n6), (vI n7)].toArray)) ∧
 ((Qv (Value.agg [(vI n6), (vI n7)].toArray)) ∧
 ((∃ n8 : Int,
 ((At (cs1) 4 1 [(vI n8)]) ∧
 ((vI n8) = (vI n7)))) ∧
 ((bcase (decide (4 < (↑n2 : Int)))
 (Qv (Pt 1005 4))
 False) ∧
 ((Qv (Sl 1005 (n2) (n2))) ∧
 ((∃ n8 : Int,
 ((At (cs1) 3 1 [(vI n8)]) ∧
 ((vI n8) = (vI n6)))) ∧
 ((bcase (decide (3 < (↑n2 : Int)))
 (Qv (Pt 1005 3))
 False) ∧
 ((Qv (Sl 1005 (n2) (n2))) ∧
 ((∃ n8 : Int,
 ((At (cs1) 2 1 [(vI n8)]) ∧
 ((vI n8) = (vI n5)))) ∧
 ((bcase (decide (2 < (↑n2 : Int)))
 (Qv (Pt 1005 2))
 False) ∧
 ((Qv (Sl 1005 (n2) (n2))) ∧
 ((∃ n8 : Int,
 ((At (cs1) 1 1 [(vI n8)]) ∧
 ((vI n8) = (vI n4)))) ∧
 ((bcase (decide (1 < (↑n2 : Int)))
 (Qv (Pt 1005 1))
 False) ∧
 ((Qv (Sl 1005 (n2) (n2))) ∧
 ((∃ n8 : Int,
 ((At (cs1) 0 1 [(vI n8)]) ∧
 ((vI n8) = (vI n3)))) ∧
 ((bcase (decide (0 < (↑n2 : Int)))
 (Qv (Pt 1005 0))
 False) ∧
 ((Qv (Sl 1005 (n2) (n2))) ∧
 ((Qv (Pt 1003 6)) ∧
 True))))))))))))))))))) ∧
 (True ∧
 (B [(Prod.mk 2 (Pt 1000 0)), (Prod.mk 4 (Pt 1001 0)), (Prod.mk 5 (vI x0)), (Prod.mk 6 (Sl 1002 (n1) (n1))), (Prod.mk 7 (Pt 1003 0)), (Prod.mk 8 (vI (IntKind.wrap .i64 (x3 + 1)))), (Prod.mk 9 (vI (IntKind.wrap .i64 (x3 + 1))))] [(Prod.mk 1000 (AObj.cells [(vI x4), (vI x5), (vI x6), (vI x7), (vI x8), (vI x9), (Value.slice none 0 0), (vI x10), (vI x11), (vI x12), (vI x13)] 33 false 11)), (Prod.mk 1001 (AObj.cells [(vI x14), (vI x15), (vI x16), (vI x17), (vI x18), (vI x19), (Value.slice none 0 0), (vI x20), (vI x21), (vI x22), (vI x23)] 33 false 11)), (Prod.mk 1002 (AObj.sym (l24) true 1)), (Prod.mk 1003 (AObj.cells [(vI x25), (vI x26), (vI x27), (vI x28), (vI x29), (vI x30), (Sl 1004 (n31 + 1) (n31 + 1)), (vI x32), (vI x33), (vI x34), (vI x35)] 33 false 11)), (Prod.mk 1004 (AObj.sym ((List.take (n31 * 5) (List.drop 0 l36)) ++ [(vI n3), (vI n4), (vI n5), (vI n6), (vI n7)]) true 5))])))
 False)
 False)
 False)
 False)
 False))))
 False)))
 False)))
 False)))
 False)))
 False))))
 (bcase (decide (x2 > 0))
 (bcase ((↑n2 : Int) != 5)
 (k [(D.agg [(D.val (vI x14)), (D.val (vI x15)), (D.val (vI x16)), (D.val (vI x17)), (D.val (vI x18)), (D.val (vI x19)), D.nil, (D.val (vI x20)), (D.val (vI x21)), (D.val (vI x22)), (D.val (vI x23))]), (D.val (vI x0))])
 (bcase (x2 == 0)
 (bcase (decide (0 < (↑n2 : Int)))
 (∃ n3 : Int,
 ((At (cs1) 0 1 [(vI n3)]) ∧
 (bcase (decide (1 < (↑n2 : Int)))
 (∃ n4 : Int,
 ((At (cs1) 1 1 [(vI n4)]) ∧
 (bcase (decide (2 < (↑n2 : Int)))
 (∃ n5 : Int,
 ((At (cs1) 2 1 [(vI n5)]) ∧
 (bcase (decide (3 < (↑n2 : Int)))
 (∃ n6 : Int,
 ((At (cs1) 3 1 [(vI n6)]) ∧
 (bcase (decide (4 < (↑n2 : Int)))
 (∃ n7 : Int,
 ((At (cs1) 4 1 [(vI n7)]) ∧
 (bcase (decide (5 < (↑n2 : Int)))
 (∃ n8 : Int,
 ((At (cs1) 5 1 [(vI n8)]) ∧
 (bcase (decide (6 < (↑n2 : Int)))
 (∃ n9 : Int,
 ((At (cs1) 6 1 [(vI n9)]) ∧
 (bcase (decide (7 < (↑n2 : Int)))
 (∃ n10 : Int,
 ((At (cs1) 7 1 [(vI n10)]) ∧
 (bcase (decide (8 < (↑n2 : Int)))
 (∃ n11 : Int,
 ((At (cs1) 8 1 [(vI n11)]) ∧
 (bcase (decide (9 < (↑n2 : Int)))
 (∃ n12 : Int,
 ((At (cs1) 9 1 [(vI n12)]) ∧
 (((Qv (Value.agg [(vI n3), (vI n4), (vI n5), (vI n6), (vI n7), (vI n8), (Value.slice none 0 0), (vI n9), (vI n10), (vI n11), (vI n12)].toArray)) ∧
 ((Qv (Value.agg [(vI n11), (vI n12)].toArray)) ∧
 ((∃ n13 : Int,
 ((At (cs1) 9 1 [(vI n13)]) ∧
 ((vI n13) = (vI n12)))) ∧
 ((bcase (decide (9 < (↑n2 : Int)))
 (Qv (Pt 1005 9))
 False) ∧
 ((Qv (Sl 1005 (n2) (n2))) ∧
 ((∃ n13 : Int,
 ((At (cs1) 8 1 [(vI n13)]) ∧
 ((vI n13) = (vI n11)))) ∧
 ((bcase (decide (8 < (↑n2 : Int)))
 (Qv (Pt 1005 8))
 False) ∧
 ((Qv (Sl 1005 (n2) (n2))) ∧
 ((Qv (Value.agg [(vI n9), (vI n10)].toArray)) ∧
 ((∃ n13 : Int,
 ((At (cs1) 7 1 [(vI n13)]) ∧
 ((vI n13) = (vI n10)))) ∧
 ((bcase (decide (7 < (↑n2 : Int)))
 (Qv (Pt 1005 7))
 False) ∧
 ((Qv (Sl 1005 (n2) (n2))) ∧
 ((∃ n13 : Int,
 ((At (cs1) 6 1 [(vI n13)]) ∧
 ((vI n13) = (vI n9)))) ∧
 ((bcase (decide (6 < (↑n2 : Int)))
 (Qv (Pt 1005 6))
 False) ∧
 ((Qv (Sl 1005 (n2) (n2))) ∧
 ((∃ n13 : Int,
 ((At (cs1) 5 1 [(vI n13)]) ∧
 ((vI n13) = (vI n8)))) ∧
 ((bcase (decide (5 < (↑n2 : Int)))
 (Qv (Pt 1005 5))
 False) ∧
 ((Qv (Sl 1005 (n2) (n2))) ∧
 ((Qv (Value.agg [(vI n6), (vI n7)].toArray)) ∧
 ((∃ n13 : Int,
 ((At (cs1) 4 1 [(vI n13)]) ∧
 ((vI n13) = (vI n7)))) ∧
 ((bcase (decide (4 < (↑n2 : Int)))
 (Qv (Pt 1005 4))
 False) ∧
 ((Qv (Sl 1005 (n2) (n2))) ∧
 ((∃ n13 : Int,
 ((At (cs1) 3 1 [(vI n13)]) ∧
 ((vI n13) = (vI n6)))) ∧
 ((bcase (decide (3 < (↑n2 : Int)))
 (Qv (Pt 1005 3))
 False) ∧
 ((Qv (Sl 1005 (n2) (n2))) ∧
 ((∃ n13 : Int,
 ((At (cs1) 2 1 [(vI n13)]) ∧
 ((vI n13) = (vI n5)))) ∧
 ((bcase (decide (2 < (↑n2 : Int)))
 (Qv (Pt 1005 2))
 False) ∧
 ((Qv (Sl 1005 (n2) (n2))) ∧
 ((∃ n13 : Int,
 ((At (cs1) 1 1 [(vI n13)]) ∧
 ((vI n13) = (vI n4)))) ∧
 ((bcase (decide (1 < (↑n2 : Int)))
 (Qv (Pt 1005 1))
 False) ∧
 ((Qv (Sl 1005 (n2) (n2))) ∧
 ((∃ n13 : Int,
 ((At (cs1) 0 1 [(vI n13)]) ∧
 ((vI n13) = (vI n3)))) ∧
 ((bcase (decide (0 < (↑n2 : Int)))
 (Qv (Pt 1005 0))
 False) ∧
 ((Qv (Sl 1005 (n2) (n2))) ∧
 True)))))))))))))))))))))))))))))))))) ∧
 (True ∧
 (B [(Prod.mk 2 (Pt 1000 0)), (Prod.mk 4 (Pt 1001 0)), (Prod.mk 5 (vI x0)), (Prod.mk 6 (Sl 1002 (n1) (n1))), (Prod.mk 7 (Pt 1003 0)), (Prod.mk 8 (vI (IntKind.wrap .i64 (x3 + 1)))), (Prod.mk 9 (vI (IntKind.wrap .i64 (x3 + 1))))] [(Prod.mk 1000 (AObj.cells [(vI x4), (vI x5), (vI x6), (vI x7), (vI x8), (vI x9), (Value.slice none 0 0), (vI x10), (vI x11), (vI x12), (vI x13)] 33 false 11)), (Prod.mk 1001 (AObj.cells [(vI x14), (vI x15), (vI x16), (vI x17), (vI x18), (vI x19), (Value.slice none 0 0), (vI x20), (vI x21), (vI x22), (vI x23)] 33 false 11)), (Prod.mk 1002 (AObj.sym (l24) true 1)), (Prod.mk 1003 (AObj.cells [(vI n3), (vI n4), (vI n5), (vI n6), (vI n7), (vI n8), (Value.slice none 0 0), (vI n9), (vI n10), (vI n11), (vI n12)] 33 false 11))])))))
 False)))
 False)))
 False)))
 False)))
 False)))
 False)))
 False)))
 False)))
 False)))
 False)
 (bcase (decide (0 < (↑n2 : Int)))
 (∃ n3 : Int,
 ((At (cs1) 0 1 [(vI n3)]) ∧
 (bcase (decide (1 < (↑n2 : Int)))
 (∃ n4 : Int,
 ((At (cs1) 1 1 [(vI n4)]) ∧
 (bcase (decide (2 < (↑n2 : Int)))
 (∃ n5 : Int,
 ((At (cs1) 2 1 [(vI n5)]) ∧
 (bcase (decide (3 < (↑n2 : Int)))
 (∃ n6 : Int,
 ((At (cs1) 3 1 [(vI n6)]) ∧
 (bcase (decide (4 < (↑n2 : Int)))
 (∃ n7 : Int,
 ((At (cs1) 4 1 [(vI n7)]) ∧
 ((((Qv (Sl 1006 1 1)) ∧
 (Qv (some (AObj.cells [(vI n3), (vI n4), (vI n5), (vI n6), (vI n7)] 79 false 5)))) ∧
 ((Qv (Value.agg [(vI n3), (vI n4), (vI n5), (vI n6), (vI n7)].toArray)) ∧
 ((Qv (Value.agg [(vI n6), (vI n7)].toArray)) ∧
 ((∃ n8 : Int,
 ((At (cs1) 4 1 [(vI n8)]) ∧
 ((vI n8) = (vI n7)))) ∧
 ((bcase (decide (4 < (↑n2 : Int)))
 (Qv (Pt 1005 4))
 False) ∧
 ((Qv (Sl 1005 (n2) (n2))) ∧
 ((∃ n8 : Int,
 ((At (cs1) 3 1 [(vI n8)]) ∧
 ((vI n8) = (vI n6)))) ∧
 ((bcase (decide (3 < (↑n2 : Int)))
 (Qv (Pt 1005 3))
 False) ∧
 ((Qv (Sl 1005 (n2) (n2))) ∧
 ((∃ n8 : Int,
 ((At (cs1) 2 1 [(vI n8)]) ∧
 ((vI n8) = (vI n5)))) ∧
 ((bcase (decide (2 < (↑n2 : Int)))
 (Qv (Pt 1005 2))
 False) ∧
 ((Qv (Sl 1005 (n2) (n2))) ∧
 ((∃ n8 : Int,
 ((At (cs1) 1 1 [(vI n8)]) ∧
 ((vI n8) = (vI n4)))) ∧
 ((bcase (decide (1 < (↑n2 : Int)))
 (Qv (Pt 1005 1))
 False) ∧
 ((Qv (Sl 1005 (n2) (n2))) ∧
 ((∃ n8 : Int,
 ((At (cs1) 0 1 [(vI n8)]) ∧
 ((vI n8) = (vI n3)))) ∧
 ((bcase (decide (0 < (↑n2 : Int)))
 (Qv (Pt 1005 0))
 False) ∧
 ((Qv (Sl 1005 (n2) (n2))) ∧
 ((Qv (Sl 1004 (n31) (n31))) ∧
 ((Qv (Pt 1003 6)) ∧
 True)))))))))))))))))))) ∧
 (bcase (decide (n31 < n31 + 1))
 (bcase (decide ((2 * (n31 + 1) + 768) * 40 ≤ 281474976710656))
 (bcase (decide (n31 + 1 ≤ 1099511627776))
 (bcase (decide (0 + n31 * 5 ≤ List.length l36))
 (bcase (decide (0 + n31 * 5 = List.length l36))
 (((Qv (Pt 1003 6)) ∧
 ((Qv (Value.agg [(vI n3), (vI n4), (vI n5), (vI n6), (vI n7)].toArray)) ∧
 ((Qv (Value.agg [(vI n6), (vI n7)].toArray)) ∧
 ((∃ n8 : Int,
 ((At (cs1) 4 1 [(vI n8)]) ∧
 ((vI n8) = (vI n7)))) ∧
 ((bcase (decide (4 < (↑n2 : Int)))
 (Qv (Pt 1005 4))
 False) ∧
 ((Qv (Sl 1005 (n2) (n2))) ∧
 ((∃ n8 : Int,
 ((At (cs1) 3 1 [(vI n8)]) ∧
 ((vI n8) = (vI n6)))) ∧
 ((bcase (decide (3 < (↑n2 : Int)))
 (Qv (Pt 1005 3))
 False) ∧
 ((Qv (Sl 1005 (n2) (n2))) ∧
 ((∃ n8 : Int,
 ((At (cs1) 2 1 [(vI n8)]) ∧
 ((vI n8) = (vI n5)))) ∧
 ((bcase (decide (2 < (↑n2 : Int)))
 (Qv (Pt 1005 2))
 False) ∧
 ((Qv (Sl 1005 (n2) (n2))) ∧
 ((∃ n8 : Int,
 ((At (cs1) 1 1 [(vI n8)]) ∧
 ((vI n8) = (vI n4)))) ∧
 ((bcase (decide (1 < (↑n2 : Int)))
 (Qv (Pt 1005 1))
 False) ∧
 ((Qv (Sl 1005 (n2) (n2))) ∧
 ((∃ n8 : Int,
 ((At (cs1) 0 1 [(vI n8)]) ∧
 ((vI n8) = (vI n3)))) ∧
 ((bcase (decide (0 < (↑n2 : Int)))
 (Qv (Pt 1005 0))
 False) ∧
 ((Qv (Sl 1005 (n2) (n2))) ∧
 ((Qv (Pt 1003 6)) ∧
 True))))))))))))))))))) ∧
 (True ∧
 (B [(Prod.mk 2 (Pt 1000 0)), (Prod.mk 4 (Pt 1001 0)), (Prod.mk 5 (vI x0)), (Prod.mk 6 (Sl 1002 (n1) (n1))), (Prod.mk 7 (Pt 1003 0)), (Prod.mk 8 (vI (IntKind.wrap .i64 (x3 + 1)))), (Prod.mk 9 (vI (IntKind.wrap .i64 (x3 + 1))))] [(Prod.mk 1000 (AObj.cells [(vI x4), (vI x5), (vI x6), (vI x7), (vI x8), (vI x9), (Value.slice none 0 0), (vI x10), (vI x11), (vI x12), (vI x13)] 33 false 11)), (Prod.mk 1001 (AObj.cells [(vI x14), (vI x15), (vI x16), (vI x17), (vI x18), (vI x19), (Value.slice none 0 0), (vI x20), (vI x21), (vI x22), (vI x23)] 33 false 11)), (Prod.mk 1002 (AObj.sym (l24) true 1)), (Prod.mk 1003 (AObj.cells [(vI x25), (vI x26), (vI x27), (vI x28), (vI x29), (vI x30), (Sl 1004 (n31 + 1) (n31 + 1)), (vI x32), (vI x33), (vI x34), (vI x35)] 33 false 11)), (Prod.mk 1004 (AObj.sym ((List.take (n31 * 5) (List.drop 0 l36)) ++ [(vI n3), (vI n4), (vI n5), (vI n6), (vI n7)]) true 5))])))
 False)
 False)
 False)
 False)
 False))))
 False)))
 False)))
 False)))
 False)))
 False)))
 (bcase (x2 == 0)
 (bcase (decide (0 < (↑n2 : Int)))
 (∃ n3 : Int,
 ((At (cs1) 0 1 [(vI n3)]) ∧
 (bcase (decide (1 < (↑n2 : Int)))
 (∃ n4 : Int,
 ((At (cs1) 1 1 [(vI n4)]) ∧
 (bcase (decide (2 < (↑n2 : Int)))
 (∃ n5 : Int,
 ((At (cs1) 2 1 [(vI n5)]) ∧
 (bcase (decide (3 < (↑n2 : Int)))
 (∃ n6 : Int,
 ((At (cs1) 3 1 [(vI n6)]) ∧
 (bcase (decide (4 < (↑n2 : Int)))
 (∃ n7 : Int,
 ((At (cs1) 4 1 [(vI n7)]) ∧
 (bcase (decide (5 < (↑n2 : Int)))
 (∃ n8 : Int,
 ((At (cs1) 5 1 [(vI n8)]) ∧
 (bcase (decide (6 < (↑n2 : Int)))
 (∃ n9 : Int,
 ((At (cs1) 6 1 [(vI n9)]) ∧
 (bcase (decide (7 < (↑n2 : Int)))
 (∃ n10 : Int,
 ((At (cs1) 7 1 [(vI n10)]) ∧
 (bcase (decide (8 < (↑n2 : Int)))
 (∃ n11 : Int,
 ((At (cs1) 8 1 [(vI n11)]) ∧
 (bcase (decide (9 < (↑n2 : Int)))
 (∃ n12 : Int,
 ((At (cs1) 9 1 [(vI n12)]) ∧
 (((Qv (Value.agg [(vI n3), (vI n4), (vI n5), (vI n6), (vI n7), (vI n8), (Value.slice none 0 0), (vI n9), (vI n10), (vI n11), (vI n12)].toArray)) ∧
 ((Qv (Value.agg [(vI n11), (vI n12)].toArray)) ∧
 ((∃ n13 : Int,
 ((At (cs1) 9 1 [(vI n13)]) ∧
 ((vI n13) = (vI n12)))) ∧
 ((bcase (decide (9 < (↑n2 : Int)))
 (Qv (Pt 1005 9))
 False) ∧
 ((Qv (Sl 1005 (n2) (n2))) ∧
 ((∃ n13 : Int,
 ((At (cs1) 8 1 [(vI n13)]) ∧
 ((vI n13) = (vI n11)))) ∧
 ((bcase (decide (8 < (↑n2 : Int)))
 (Qv (Pt 1005 8))
 False) ∧
 ((Qv (Sl 1005 (n2) (n2))) ∧
 ((Qv (Value.agg [(vI n9), (vI n10)].toArray)) ∧
 ((∃ n13 : Int,
 ((At (cs1) 7 1 [(vI n13)]) ∧
 ((vI n13) = (vI n10)))) ∧
 ((bcase (decide (7 < (↑n2 : Int)))
 (Qv (Pt 1005 7))
 False) ∧
 ((Qv (Sl 1005 (n2) (n2))) ∧
 ((∃ n13 : Int,
 ((At (cs1) 6 1 [(vI n13)]) ∧
 ((vI n13) = (vI n9)))) ∧
 ((bcase (decide (6 < (↑n2 : Int)))
 (Qv (Pt 1005 6))
 False) ∧
 ((Qv (Sl 1005 (n2) (n2))) ∧
 ((∃ n13 : Int,
 ((At (cs1) 5 1 [(vI n13)]) ∧
 ((vI n13) = (vI n8)))) ∧
 ((bcase (decide (5 < (↑n2 : Int)))
 (Qv (Pt 1005 5))
 False) ∧
 ((Qv (Sl 1005 (n2) (n2))) ∧
 ((Qv (Value.agg [(vI n6), (vI n7)].toArray)) ∧
 ((∃ n13 : Int,
 ((At (cs1) 4 1 [(vI n13)]) ∧
 ((vI n13) = (vI n7)))) ∧
 ((bcase (decide (4 < (↑n2 : Int)))
 (Qv (Pt 1005 4))
 False) ∧
 ((Qv (Sl 1005 (n2) (n2))) ∧
 ((∃ n13 : Int,
 ((At (cs1) 3 1 [(vI n13)]) ∧
 ((vI n13) = (vI n6)))) ∧
 ((bcase (decide (3 < (↑n2 : Int)))
 (Qv (Pt 1005 3))
 False) ∧
 ((Qv (Sl 1005 (n2) (n2))) ∧
 ((∃ n13 : Int,
 ((At (cs1) 2 1 [(vI n13)]) ∧
 ((vI n13) = (vI n5)))) ∧
 ((bcase (decide (2 < (↑n2 : Int)))
 (Qv (Pt 1005 2))
 False) ∧
 ((Qv (Sl 1005 (n2) (n2))) ∧
 ((∃ n13 : Int,
 ((At (cs1) 1 1 [(vI n13)]) ∧
 ((vI n13) = (vI n4)))) ∧
 ((bcase (decide (1 < (↑n2 : Int)))
 (Qv (Pt 1005 1))
 False) ∧
 ((Qv (Sl 1005 (n2) (n2))) ∧
 ((∃ n13 : Int,
 ((At (cs1) 0 1 [(vI n13)]) ∧
 ((vI n13) = (vI n3)))) ∧
 ((bcase (decide (0 < (↑n2 : Int)))
 (Qv (Pt 1005 0))
 False) ∧
 ((Qv (Sl 1005 (n2) (n2))) ∧
 True)))))))))))))))))))))))))))))))))) ∧
 (True ∧
 (B [(Prod.mk 2 (Pt 1000 0)), (Prod.mk 4 (Pt 1001 0)), (Prod.mk 5 (vI x0)), (Prod.mk 6 (Sl 1002 (n1) (n1))), (Prod.mk 7 (Pt 1003 0)), (Prod.mk 8 (vI (IntKind.wrap .i64 (x3 + 1)))), (Prod.mk 9 (vI (IntKind.wrap .i64 (x3 + 1))))] [(Prod.mk 1000 (AObj.cells [(vI x4), (vI x5), (vI x6), (vI x7), (vI x8), (vI x9), (Value.slice none 0 0), (vI x10), (vI x11), (vI x12), (vI x13)] 33 false 11)), (Prod.mk 1001 (AObj.cells [(vI x14), (vI x15), (vI x16), (vI x17), (vI x18), (vI x19), (Value.slice none 0 0), (vI x20), (vI x21), (vI x22), (vI x23)] 33 false 11)), (Prod.mk 1002 (AObj.sym (l24) true 1)), (Prod.mk 1003 (AObj.cells [(vI n3), (vI n4), (vI n5), (vI n6), (vI n7), (vI n8), (Value.slice none 0 0), (vI n9), (vI n10), (vI n11), (vI n12)] 33 false 11))])))))
 False)))
 False)))
 False)))
 False)))
 False)))
 False)))
 False)))
 False)))
 False)))
 False)
 (bcase (decide (0 < (↑n2 : Int)))
 (∃ n3 : Int,
 ((At (cs1) 0 1 [(vI n3)]) ∧
 (bcase (decide (1 < (↑n2 : Int)))
 (∃ n4 : Int,
 ((At (cs1) 1 1 [(vI n4)]) ∧
 (bcase (decide (2 < (↑n2 : Int)))
 (∃ n5 : Int,
 ((At (cs1) 2 1 [(vI n5)]) ∧
 (bcase (decide (3 < (↑n2 : Int)))
 (∃ n6 : Int,
 ((At (cs1) 3 1 [(vI n6)]) ∧
 (bcase (decide (4 < (↑n2 : Int)))
 (∃ n7 : Int,
 ((At (cs1) 4 1 [(vI n7)]) ∧
 ((((Qv (Sl 1006 1 1)) ∧
 (Qv (some (AObj.cells [(vI n3), (vI n4), (vI n5), (vI n6), (vI n7)] 79 false 5)))) ∧
 ((Qv (Value.agg [(vI n3), (vI n4), (vI n5), (vI n6), (vI n7)].toArray)) ∧
 ((Qv (Value.agg [(vI n6), (vI n7)].toArray)) ∧
 ((∃ n8 : Int,
 ((At (cs1) 4 1 [(vI n8)]) ∧
 ((vI n8) = (vI n7)))) ∧
 ((bcase (decide (4 < (↑n2 : Int)))
 (Qv (Pt 1005 4))
 False) ∧
 ((Qv (Sl 1005 (n2) (n2))) ∧
 ((∃ n8 : Int,
 ((At (cs1) 3 1 [(vI n8)]) ∧
 ((vI n8) = (vI n6)))) ∧
 ((bcase (decide (3 < (↑n2 : Int)))
 (Qv (Pt 1005 3))
 False) ∧
 ((Qv (Sl 1005 (n2) (n2))) ∧
 ((∃ n8 : Int,
 ((At (cs1) 2 1 [(vI n8)]) ∧
 ((vI n8) = (vI n5)))) ∧
 ((bcase (decide (2 < (↑n2 : Int)))
 (Qv (Pt 1005 2))
 False) ∧
 ((Qv (Sl 1005 (n2) (n2))) ∧
 ((∃ n8 : Int,
 ((At (cs1) 1 1 [(vI n8)]) ∧
 ((vI n8) = (vI n4)))) ∧
 ((bcase (decide (1 < (↑n2 : Int)))
 (Qv (Pt 1005 1))
 False) ∧
 ((Qv (Sl 1005 (n2) (n2))) ∧
 ((∃ n8 : Int,
 ((At (cs1) 0 1 [(vI n8)]) ∧
 ((vI n8) = (vI n3)))) ∧
 ((bcase (decide (0 < (↑n2 : Int)))
 (Qv (Pt 1005 0))
 False) ∧
 ((Qv (Sl 1005 (n2) (n2))) ∧
 ((Qv (Sl 1004 (n31) (n31))) ∧
 ((Qv (Pt 1003 6)) ∧
 True)))))))))))))))))))) ∧
 (bcase (decide (n31 < n31 + 1))
 (bcase (decide ((2 * (n31 + 1) + 768) * 40 ≤ 281474976710656))
 (bcase (decide (n31 + 1 ≤ 1099511627776))
 (bcase (decide (0 + n31 * 5 ≤ List.length l36))
 (bcase (decide (0 + n31 * 5 = List.length l36))
 (((Qv (Pt 1003 6)) ∧
 ((Qv (Value.agg [(vI n3), (vI n4), (vI n5), (vI n6), (vI n7)].toArray)) ∧
 ((Qv (Value.agg [(vI n6), (vI n7)].toArray)) ∧
 ((∃ n8 : Int,
 ((At (cs1) 4 1 [(vI n8)]) ∧
 ((vI n8) = (vI n7)))) ∧
 ((bcase (decide (4 < (↑n2 : Int)))
 (Qv (Pt 1005 4))
 False) ∧
 ((Qv (Sl 1005 (n2) (n2))) ∧
 ((∃ n8 : Int,
 ((At (cs1) 3 1 [(vI n8)]) ∧
 ((vI n8) = (vI n6)))) ∧
 ((bcase (decide (3 < (↑n2 : Int)))
 (Qv (Pt 1005 3))
 False) ∧
 ((Qv (Sl 1005 (n2) (n2))) ∧
 ((∃ n8 : Int,
 ((At (cs1) 2 1 [(vI n8)]) ∧
 ((vI n8) = (vI n5)))) ∧
 ((bcase (decide (2 < (↑n2 : Int)))
 (Qv (Pt 1005 2))
 False) ∧
 ((Qv (Sl 1005 (n2) (n2))) ∧
 ((∃ n8 : Int,
 ((At (cs1) 1 1 [(vI n8)]) ∧
 ((vI n8) = (vI n4)))) ∧
 ((bcase (decide (1 < (↑n2 : Int)))
 (Qv (Pt 1005 1))
 False) ∧
 ((Qv (Sl 1005 (n2) (n2))) ∧
 ((∃ n8 : Int,
 ((At (cs1) 0 1 [(vI n8)]) ∧
 ((vI n8) = (vI n3)))) ∧
 ((bcase (decide (0 < (↑n2 : Int)))
 (Qv (Pt 1005 0))
 False) ∧
 ((Qv (Sl 1005 (n2) (n2))) ∧
 ((Qv (Pt 1003 6)) ∧
 True))))))))))))))))))) ∧
 (True ∧
 (B [(Prod.mk 2 (Pt 1000 0)), (Prod.mk 4 (Pt 1001 0)), (Prod.mk 5 (vI x0)), (Prod.mk 6 (Sl 1002 (n1) (n1))), (Prod.mk 7 (Pt 1003 0)), (Prod.mk 8 (vI (IntKind.wrap .i64 (x3 + 1)))), (Prod.mk 9 (vI (IntKind.wrap .i64 (x3 + 1))))] [(Prod.mk 1000 (AObj.cells [(vI x4), (vI x5), (vI x6), (vI x7), (vI x8), (vI x9), (Value.slice none 0 0), (vI x10), (vI x11), (vI x12), (vI x13)] 33 false 11)), (Prod.mk 1001 (AObj.cells [(vI x14), (vI x15), (vI x16), (vI x17), (vI x18), (vI x19), (Value.slice none 0 0), (vI x20), (vI x21), (vI x22), (vI x23)] 33 false 11)), (Prod.mk 1002 (AObj.sym (l24) true 1)), (Prod.mk 1003 (AObj.cells [(vI x25), (vI x26), (vI x27), (vI x28), (vI x29), (vI x30), (Sl 1004 (n31 + 1) (n31 + 1)), (vI x32), (vI x33), (vI x34), (vI x35)] 33 false 11)), (Prod.mk 1004 (AObj.sym ((List.take (n31 * 5) (List.drop 0 l36)) ++ [(vI n3), (vI n4), (vI n5), (vI n6), (vI n7)]) true 5))])))
 False)
 False)
 False)
 False)
 False))))
 False)))
 False)))
 False)))
 False)))
 False))))) ∨
 ((Says C 32 [(D.sl (Int.toNat x3 - Int.toNat x2) 1 (List.take ((Int.toNat x3 - Int.toNat x2) * 1) (List.drop (0 + Int.toNat x2 * 1) l24)))] [(D.sl (n2) 1 (cs1)), (D.val (Value.bool false))]) ∧
 (k [(D.agg [(D.val (vI x14)), (D.val (vI x15)), (D.val (vI x16)), (D.val (vI x17)), (D.val (vI x18)), (D.val (vI x19)), D.nil, (D.val (vI x20)), (D.val (vI x21)), (D.val (vI x22)), (D.val (vI x23))]), (D.val (vI x0))]))))))
 False)
 False)
 False)
 False)
 False)
 False)
 False))
 (X 0 [(Prod.mk 2 (Pt 1000 0)), (Prod.mk 4 (Pt 1001 0)), (Prod.mk 7 (Pt 1002 0))] [(Prod.mk 1000 (AObj.cells [(vI x4), (vI x5), (vI x6), (vI x7), (vI x8), (vI x9), (Value.slice none 0 0), (vI x10), (vI x11), (vI x12), (vI x13)] 33 false 11)), (Prod.mk 1001 (AObj.cells [(vI x14), (vI x15), (vI x16), (vI x17), (vI x18), (vI x19), (Value.slice none 0 0), (vI x20), (vI x21), (vI x22), (vI x23)] 33 false 11)), (Prod.mk 1002 (AObj.cells [(vI x25), (vI x26), (vI x27), (vI x28), (vI x29), (vI x30), (Sl 1003 (n31) (n31)), (vI x32), (vI x33), (vI x34), (vI x35)] 33 false 11)), (Prod.mk 1003 (AObj.sym (l36) true 5))])) := by kernel_rfl
def nrPR5 (C : Ct) (L : AtLoop) (x0 : Int) (x1 : Int) (x2 : Int) (x3 : Int) (x4 : Int) (x5 : Int) (x6 : Int) (x7 : Int) (x8 : Int) (x9 : Int) (x10 : Int) (x11 : Int) (x12 : Int) (x13 : Int) (x14 : Int) (x15 : Int) (x16 : Int) (x17 : Int) (x18 : Int) (x19 : Int) (x20 : Int) (x21 : Int) (x22 : Int) (x23 : Int) (x24 : Int) (x25 : Int) (n26 : Nat) (x27 : Int) (x28 : Int) (x29 : Int) (x30 : Int) (l31 : List Value) (k : List D → Prop) : Prop := wpNext Tryz.prog (hX C) L 8 0 .normal [(2, (Value.pointer (some ⟨1000, 0, none⟩))), (4, (Value.pointer (some ⟨1001, 0, none⟩))), (7, (Value.pointer (some ⟨1002, 0, none⟩)))] [(1000, (AObj.cells [(Value.int .i64 x0), (Value.int .i64 x1), (Value.int .i64 x2), (Value.int .i64 x3), (Value.int .i64 x4), (Value.int .i64 x5), (Value.slice none 0 0), (Value.int .i64 x6), (Value.int .i64 x7), (Value.int .i64 x8), (Value.int .i64 x9)] 33 false 11)), (1001, (AObj.cells [(Value.int .i64 x10), (Value.int .i64 x11), (Value.int .i64 x12), (Value.int .i64 x13), (Value.int .i64 x14), (Value.int .i64 x15), (Value.slice none 0 0), (Value.int .i64 x16), (Value.int .i64 x17), (Value.int .i64 x18), (Value.int .i64 x19)] 33 false 11)), (1002, (AObj.cells [(Value.int .i64 x20), (Value.int .i64 x21), (Value.int .i64 x22), (Value.int .i64 x23), (Value.int .i64 x24), (Value.int .i64 x25), (Value.slice (some ⟨1003, 0, none⟩) n26 n26), (Value.int .i64 x27), (Value.int .i64 x28), (Value.int .i64 x29), (Value.int .i64 x30)] 33 false 11)), (1003, (AObj.sym l31 true 5))] (dataK k)
theorem nrPR5_text (C : Ct) (L : AtLoop) (x0 : Int) (x1 : Int) (x2 : Int) (x3 : Int) (x4 : Int) (x5 : Int) (x6 : Int) (x7 : Int) (x8 : Int) (x9 : Int) (x10 : Int) (x11 : Int) (x12 : Int) (x13 : Int) (x14 : Int) (x15 : Int) (x16 : Int) (x17 : Int) (x18 : Int) (x19 : Int) (x20 : Int) (x21 : Int) (x22 : Int) (x23 : Int) (x24 : Int) (x25 : Int) (n26 : Nat) (x27 : Int) (x28 : Int) (x29 : Int) (x30 : Int) (l31 : List Go.Value) (k : List D → Prop) : nrPR5 C L x0 x1 x2 x3 x4 x5 x6 x7 x8 x9 x10 x11 x12 x13 x14 x15 x16 x17 x18 x19 x20 x21 x22 x23 x24 x25 n26 x27 x28 x29 x30 l31 k =
 (bcase (decide (0 + n26 * 5 ≤ List.length l31))
 (∃ n1 : Int,
 ((Says C 35 [(D.agg [(D.val (vI x20)), (D.val (vI x21)), (D.val (vI x22)), (D.val (vI x23)), (D.val (vI x24)), (D.val (vI x25)), (D.sl (n26) 5 (List.take (n26 * 5) (List.drop 0 l31))), (D.val (vI x27)), (D.val (vI x28)), (D.val (vI x29)), (D.val (vI x30))])] [(D.val (vI n1))]) ∧
 (bcase (n1 != 0)
 (k [(D.agg [(D.val (vI x10)), (D.val (vI x11)), (D.val (vI x12)), (D.val (vI x13)), (D.val (vI x14)), (D.val (vI x15)), D.nil, (D.val (vI x16)), (D.val (vI x17)), (D.val (vI x18)), (D.val (vI x19))]), (D.val (vI n1))])
 (((Qv (n26)) ∧
 ((List.length l31) = (n26 * 5))) ∧
 (k [(D.agg [(D.val (vI x20)), (D.val (vI x21)), (D.val (vI x22)), (D.val (vI x23)), (D.val (vI x24)), (D.val (vI x25)), (D.sl (n26) 5 (l31)), (D.val (vI x27)), (D.val (vI x28)), (D.val (vI x29)), (D.val (vI x30))]), (D.val (vI 0))])))))
 False) := by kernel_rfl
end Go.Proofs.G5m

/- Chapter 3, strings: the rules of a string, by the reference, in data. -/
namespace Go.Proofs.G5m
open Go Go.Abs Go.Proofs Go.Str
set_option maxRecDepth 100000
set_option maxHeartbeats 1000000
theorem syn_failI {G : List W} {R : Ru} (h : synG G = some R) {g : W} {rest : List W} (hg : okP 5 g = false) : synG (G ++ g :: rest) = none := by
  cases G with
  | nil => cases h
  | cons a r => exact syn_noI (q := g) (by simp) hg
theorem syn_one {g : W} (h : okP 10 g = true) : synG [g] = some (mkR (numsW g) []) := by rw [synG, h]; rfl
theorem syn_snoc {G : List W} {R : Ru} (h : synG G = some R) {g : W} (hg : okP 5 g = true) : synG (G ++ [g]) = some { R with ss := R.ss ++ [mkS (numsW g)] } := by
  cases G with
  | nil => cases h
  | cons a r =>
    rw [synG] at h
    split at h
    · rename_i hc
      obtain rfl := Option.some.inj h
      simp only [Bool.and_eq_true, List.all_eq_true] at hc
      rw [List.cons_append, synG, if_pos]
      · rw [List.map_append]; rfl
      · simp only [Bool.and_eq_true, List.all_eq_true]
        refine ⟨hc.1, fun q hq => ?_⟩
        rcases List.mem_append.1 hq with hq | hq
        · exact hc.2 q hq
        · obtain rfl := List.mem_singleton.1 hq; exact hg
    · cases h
abbrev curW (ws : W) (f i : Nat) : W := (ws.drop f).take (i - f)
/-- where the reference stands: groups up to f, words up to i -/
structure RPI (ws : W) (f i : Nat) (R : Ru) : Prop where
  le : f ≤ i
  few : R.ss.length ≤ i
  done : ∃ G : List W, ((f = 0 ∧ G = [] ∧ R = zeroR) ∨ (0 < f ∧ synG G = some R)) ∧ ((i ≤ ws.length ∧ grp [] ws = G ++ grp (curW ws f i) (ws.drop i)) ∨ (i = ws.length + 1 ∧ 0 < f ∧ grp [] ws = G))
theorem rpi0 (ws : W) : RPI ws 0 0 zeroR := ⟨Nat.le_refl _, Nat.le_refl _, [], .inl ⟨rfl, rfl, rfl⟩, .inl ⟨Nat.zero_le _, by simp [curW]⟩⟩
theorem rpi_word {ws : W} {f i : Nat} {R : Ru} (I : RPI ws f i R) (h : i < ws.length) (hw : ws[i] ≠ [59]) : RPI ws f (i + 1) R := by
  obtain ⟨G, h1, h2⟩ := I.done
  refine ⟨Nat.le_succ_of_le I.le, Nat.le_succ_of_le I.few, G, h1, .inl ⟨h, ?_⟩⟩
  rcases h2 with ⟨_, e⟩ | ⟨e, _⟩
  · rw [e, List.drop_eq_getElem_cons h, grp, if_neg hw]
    show _ = G ++ grp ((ws.drop f).take (i + 1 - f)) _
    rw [take_snoc I.le h]
  · omega
/-- a group ends -/
theorem rpi_end {ws : W} {f i : Nat} {R : Ru} (I : RPI ws f i R) (h : i ≤ ws.length) (hw : ∀ q : i < ws.length, ws[i] = [59]) :
    (f = 0 ∧ R = zeroR ∧ (okP 10 (curW ws f i) = false → synG (grp [] ws) = none) ∧ (okP 10 (curW ws f i) = true → RPI ws (i + 1) (i + 1) (mkR (numsW (curW ws f i)) []))) ∨
    (0 < f ∧ (okP 5 (curW ws f i) = false → synG (grp [] ws) = none) ∧ (okP 5 (curW ws f i) = true → RPI ws (i + 1) (i + 1) { R with ss := R.ss ++ [mkS (numsW (curW ws f i))] })) := by
  obtain ⟨G, h1, h2⟩ := I.done
  rcases h2 with ⟨_, e⟩ | ⟨e, _⟩
  · have hr : ∃ rest : List W, grp [] ws = G ++ curW ws f i :: rest ∧ (∀ R' : Ru, R'.ss.length ≤ i + 1 → synG (G ++ [curW ws f i]) = some R' → RPI ws (i + 1) (i + 1) R') := by
      rcases Nat.lt_or_ge i ws.length with q | q
      · refine ⟨grp [] (ws.drop (i + 1)), by rw [e, List.drop_eq_getElem_cons q, grp, if_pos (hw q)], fun R' hl hR => ⟨Nat.le_refl _, hl, G ++ [curW ws f i], .inr ⟨Nat.succ_pos _, hR⟩, .inl ⟨q, ?_⟩⟩⟩
        rw [e, List.drop_eq_getElem_cons q, grp, if_pos (hw q)]
        simp [curW]
      · have e2 : i = ws.length := by omega
        refine ⟨[], by rw [e, List.drop_eq_nil_of_le q, grp], fun R' hl hR => ⟨Nat.le_refl _, hl, G ++ [curW ws f i], .inr ⟨Nat.succ_pos _, hR⟩, .inr ⟨by omega, Nat.succ_pos _, ?_⟩⟩⟩
        rw [e, List.drop_eq_nil_of_le q, grp]
    obtain ⟨rest, e3, hn⟩ := hr
    rcases h1 with ⟨f0, rfl, rfl⟩ | ⟨f1, hs⟩
    · refine .inl ⟨f0, rfl, fun hb => ?_, fun hg => hn _ (Nat.zero_le _) (syn_one hg)⟩
      rw [e3, List.nil_append, syn_no0 hb]
    · refine .inr ⟨f1, fun hb => ?_, fun hg => hn _ (by have := I.few; simp only [List.length_append, List.length_cons, List.length_nil]; omega) (syn_snoc hs hg)⟩
      rw [e3, syn_failI hs hb]
  · omega
theorem cur_cells (ws : W) {f i : Nat} (h1 : f ≤ i) (h2 : i ≤ ws.length) : List.take ((i - f) * 1) (List.drop (0 + f * 1) (strs ws)) = strs (curW ws f i) ∧ (curW ws f i).length = i - f := by
  constructor
  · rw [Nat.mul_one, Nat.mul_one, Nat.zero_add, strs, ← List.map_drop, ← List.map_take]
  · simp only [curW, List.length_take, List.length_drop]; omega
theorem bq0 {x y : Prop} : bcase (((0 : Nat) : Int) == 0) x y = x := rfl
theorem bqn {f : Nat} (h : 0 < f) {x y : Prop} : bcase ((f : Int) == 0) x y = y := by
  rw [show ((f : Int) == 0) = false by simp only [beq_eq_false_iff_ne]; omega]; rfl
theorem b59 : ByteArray.toList { data := #[59] } = [59] := by have := bs_toList [59]; exact this
theorem slT_some {l : List Int} (h : l.length ≠ 0) : slT l = .sl l.length 1 (vi l) := by unfold slT; rw [if_neg h]
theorem pdR_no {ws : W} (h : okW ws = false) : pdR ws = [.nil, dB false] := by unfold pdR; rw [h]; rfl
theorem pdR_yes {ws : W} (h : okW ws = true) : pdR ws = [slT (numsW ws), dB true] := by unfold pdR; rw [h]; rfl
theorem bcF' {x y : Prop} : bcase false x y = y := rfl
theorem conrPR (t : List UInt8) (ht : t.length < 1000000) : C5 8 [dS t] (resR (synG (wordsG t))) := by
  obtain ⟨ws, hws⟩ : ∃ ws, cutA 32 [] t = ws := ⟨_, rfl⟩
  have hlen : ws.length < 1000001 := by
    have h1 := cutA_len (c := 32) (l := t) (acc := [])
    rw [hws] at h1
    have := List.count_le_length (a := (32 : UInt8)) (l := t)
    omega
  have hmem : ∀ w ∈ ws, w.length < 1000000000 := fun w h => by
    have := cutA_le (c := 32) (l := t) (acc := []) w (by rw [hws]; exact h)
    simp at this; omega
  show C5 _ _ (resR (synG (grp [] (cutA 32 [] t))))
  rw [hws]
  have cCu := conCu t 32 (by omega)
  rw [hws] at cCu
  let inv : Nat × Nat × Ru → Prop := fun x => RPI ws x.1 x.2.1 x.2.2
  let st : Nat × Nat × Ru → Slots × Blocks := fun x => match x.2.2.ss with
    | [] => zrPR2 7 ws.length (x.1 : Int) (x.2.1 : Int) 0 0 0 0 0 0 0 0 0 0 0 0 0 0 0 0 0 0 0 0 (strs ws) x.2.2.w x.2.2.st x.2.2.fi x.2.2.hlo x.2.2.hhi x.2.2.co x.2.2.slo x.2.2.shi x.2.2.flo x.2.2.fhi
    | s :: ss => zrPR4 7 ws.length (x.1 : Int) (x.2.1 : Int) 0 0 0 0 0 0 0 0 0 0 0 0 0 0 0 0 0 0 0 0 (strs ws) x.2.2.w x.2.2.st x.2.2.fi x.2.2.hlo x.2.2.hhi x.2.2.co (s :: ss).length x.2.2.slo x.2.2.shi x.2.2.flo x.2.2.fhi (vs5 (s :: ss))
  refine con_of (L := fun _ s b => ∃ x, inv x ∧ st x = (s, b)) hokX mixed Tryz.func8 rfl (by show 0 ≤ 400; omega) rfl (ids := [0]) (by kernel_rfl) rfl (fun caps => ?_) (fun id hid => ?_)
  · show grPR _ _ (bs t) _
    rw [grPR_text]
    exact .inr ⟨_, _, ⟨cCu⟩, (0, 0, zeroR), rpi0 ws, rfl⟩
  · obtain rfl := List.mem_singleton.1 hid
    refine ⟨_, st, inv, fun x => ws.length + 1 - x.2.1, ⟨fun s b h => h, by kernel_rfl, ?_⟩⟩
    rintro ⟨f, i, ⟨rw', rst, rfi, rhlo, rhhi, rco, rss, rslo, rshi, rflo, rfhi⟩⟩ I
    have I : RPI ws f i ⟨rw', rst, rfi, rhlo, rhhi, rco, rss, rslo, rshi, rflo, rfhi⟩ := I
    have hfi := I.le
    cases rss with
    | nil =>
      show rrPR2 _ _ 7 ws.length (f : Int) (i : Int) 0 0 0 0 0 0 0 0 0 0 0 0 0 0 0 0 0 0 0 0 (strs ws) rw' rst rfi rhlo rhhi rco rslo rshi rflo rfhi _ _ _
      rw [rrPR2_text]
      refine bc_dec (fun h => ?_) (fun h => ?_)
      · have hiw : i ≤ ws.length := by omega
        refine bc_dec (fun h1 => ?_) (fun h1 => ?_)
        · have h2 : i < ws.length := by omega
          simp only [bc_t (show (0 : Int) ≤ (i : Int) by omega), bc_t h1, Int.toNat_natCast, atS (strs_at ws i h2), bs_toList, b59]
          by_cases hw : ws[i] = [59]
          · rw [show (!(ws[i] == [59])) = false by rw [hw]; rfl]
            simp only [bcF']
            have hend : ∀ q : i < ws.length, ws[i] = [59] := fun _ => hw
            have p0 : (0 : Int) ≤ (i : Int) := by omega
            have pi : (i : Int) ≤ (ws.length : Int) := by omega
            have pf : (0 : Int) ≤ (f : Int) := by omega
            have pfi : (f : Int) ≤ (i : Int) := by omega
            have pii : i ≤ ws.length := hiw
            obtain ⟨hcell, hcl⟩ := cur_cells ws I.le hiw
            have pl : 0 + f * 1 + (i - f) * 1 ≤ (strs ws).length := by have := I.le; rw [strs_length]; omega
            have cP := conpd (curW ws f i) (by omega) (fun w hw => hmem w (List.mem_of_mem_drop (List.mem_of_mem_take hw)))
            have hdl : dSs (curW ws f i) = .sl (i - f) 1 (strs (curW ws f i)) := by rw [← hcl]
            rw [hdl] at cP
            simp only [bc_t p0, bc_t pi, bc_t pf, bc_t pfi, bc_t pii, bc_o (strs_length ws), Int.toNat_natCast, bc_t pl, hcell, Qv, eq_self, true_and, and_true]
            rcases rpi_end I hiw hend with ⟨rfl, hR, hno, hyes⟩ | ⟨hf, hno, hyes⟩
            · have bad : okP 10 (curW ws 0 i) = false → (fun r => r = resR (synG (grp [] ws))) [zR, dI 7] := fun h => by
                show _ = _; rw [hno h]; rfl
              simp only [bq0, bc_f (show ¬ ((0 : Nat) : Int) > 0 by decide)]
              cases hok : okW (curW ws 0 i) with
              | false =>
                rw [pdR_no hok] at cP
                exact .inl (.inr ⟨⟨cP⟩, bad (by unfold okP; rw [hok, Bool.and_false])⟩)
              | true =>
                rw [pdR_yes hok] at cP
                by_cases h0 : (curW ws 0 i).length = 0
                · have hn : slT (numsW (curW ws 0 i)) = .nil := by unfold slT; rw [if_pos (by rw [numsW, List.length_map]; exact h0)]
                  rw [hn] at cP
                  exact .inl (.inl ⟨⟨cP⟩, bad (by unfold okP; rw [decide_eq_false (by omega)]; rfl)⟩)
                · rw [slT_some (by rw [numsW, List.length_map]; exact h0)] at cP
                  refine .inr ⟨_, _, .inl ⟨⟨cP⟩, ?_⟩⟩
                  by_cases h10 : (curW ws 0 i).length = 10
                  · have hl : (numsW (curW ws 0 i)).length = 10 := by rw [numsW, List.length_map]; exact h10
                    have hnx := hyes (okP_yes h10 hok)
                    obtain ⟨a, b, c, d, e, f', g, i', j, k, hg⟩ := len10 hl
                    rw [hg] at hnx ⊢
                    have l0 : (0 : Int) < (([a, b, c, d, e, f', g, i', j, k] : List Int).length : Int) := by show (0 : Int) < ((10 : Nat) : Int); decide
                    have l1 : (1 : Int) < (([a, b, c, d, e, f', g, i', j, k] : List Int).length : Int) := by show (1 : Int) < ((10 : Nat) : Int); decide
                    have l2 : (2 : Int) < (([a, b, c, d, e, f', g, i', j, k] : List Int).length : Int) := by show (2 : Int) < ((10 : Nat) : Int); decide
                    have l3 : (3 : Int) < (([a, b, c, d, e, f', g, i', j, k] : List Int).length : Int) := by show (3 : Int) < ((10 : Nat) : Int); decide
                    have l4 : (4 : Int) < (([a, b, c, d, e, f', g, i', j, k] : List Int).length : Int) := by show (4 : Int) < ((10 : Nat) : Int); decide
                    have l5 : (5 : Int) < (([a, b, c, d, e, f', g, i', j, k] : List Int).length : Int) := by show (5 : Int) < ((10 : Nat) : Int); decide
                    have l6 : (6 : Int) < (([a, b, c, d, e, f', g, i', j, k] : List Int).length : Int) := by show (6 : Int) < ((10 : Nat) : Int); decide
                    have l7 : (7 : Int) < (([a, b, c, d, e, f', g, i', j, k] : List Int).length : Int) := by show (7 : Int) < ((10 : Nat) : Int); decide
                    have l8 : (8 : Int) < (([a, b, c, d, e, f', g, i', j, k] : List Int).length : Int) := by show (8 : Int) < ((10 : Nat) : Int); decide
                    have l9 : (9 : Int) < (([a, b, c, d, e, f', g, i', j, k] : List Int).length : Int) := by show (9 : Int) < ((10 : Nat) : Int); decide
                    have t0 : At (vi [a, b, c, d, e, f', g, i', j, k]) 0 1 [vI a] := ⟨by simp, rfl⟩
                    have t1 : At (vi [a, b, c, d, e, f', g, i', j, k]) 1 1 [vI b] := ⟨by simp, rfl⟩
                    have t2 : At (vi [a, b, c, d, e, f', g, i', j, k]) 2 1 [vI c] := ⟨by simp, rfl⟩
                    have t3 : At (vi [a, b, c, d, e, f', g, i', j, k]) 3 1 [vI d] := ⟨by simp, rfl⟩
                    have t4 : At (vi [a, b, c, d, e, f', g, i', j, k]) 4 1 [vI e] := ⟨by simp, rfl⟩
                    have t5 : At (vi [a, b, c, d, e, f', g, i', j, k]) 5 1 [vI f'] := ⟨by simp, rfl⟩
                    have t6 : At (vi [a, b, c, d, e, f', g, i', j, k]) 6 1 [vI g] := ⟨by simp, rfl⟩
                    have t7 : At (vi [a, b, c, d, e, f', g, i', j, k]) 7 1 [vI i'] := ⟨by simp, rfl⟩
                    have t8 : At (vi [a, b, c, d, e, f', g, i', j, k]) 8 1 [vI j] := ⟨by simp, rfl⟩
                    have t9 : At (vi [a, b, c, d, e, f', g, i', j, k]) 9 1 [vI k] := ⟨by simp, rfl⟩
                    simp only [show ((([a, b, c, d, e, f', g, i', j, k] : List Int).length : Int) != 10) = false from rfl, bcF', bc_t l0, bc_t l1, bc_t l2, bc_t l3, bc_t l4, bc_t l5, bc_t l6, bc_t l7, bc_t l8, bc_t l9, at1 t0, at1 t1, at1 t2, at1 t3, at1 t4, at1 t5, at1 t6, at1 t7, at1 t8, at1 t9, Qv, eq_self, true_and, and_true]
                    refine ⟨(i + 1, i + 1, mkR [a, b, c, d, e, f', g, i', j, k] []), hnx, by show ws.length + 1 - (i + 1) < ws.length + 1 - i; omega, ?_⟩
                    rw [w64 (by omega) (by omega)]; rfl
                  · refine bc_bne (fun _ => bad (by unfold okP; rw [decide_eq_false h10]; rfl)) (fun q => absurd q (by rw [numsW, List.length_map]; omega))

            · have bad : okP 5 (curW ws f i) = false → (fun r => r = resR (synG (grp [] ws))) [zR, dI 7] := fun h => by
                show _ = _; rw [hno h]; rfl
              simp only [bqn hf, bc_t (show (f : Int) > 0 by omega)]
              cases hok : okW (curW ws f i) with
              | false =>
                rw [pdR_no hok] at cP
                exact .inl (.inr ⟨⟨cP⟩, bad (by unfold okP; rw [hok, Bool.and_false])⟩)
              | true =>
                rw [pdR_yes hok] at cP
                by_cases h0 : (curW ws f i).length = 0
                · have hn : slT (numsW (curW ws f i)) = .nil := by unfold slT; rw [if_pos (by rw [numsW, List.length_map]; exact h0)]
                  rw [hn] at cP
                  exact .inl (.inl ⟨⟨cP⟩, bad (by unfold okP; rw [decide_eq_false (by omega)]; rfl)⟩)
                · rw [slT_some (by rw [numsW, List.length_map]; exact h0)] at cP
                  refine .inr ⟨_, _, .inl ⟨⟨cP⟩, ?_⟩⟩
                  by_cases h5 : (curW ws f i).length = 5
                  · have hl : (numsW (curW ws f i)).length = 5 := by rw [numsW, List.length_map]; exact h5
                    have hnx := hyes (okP_yes h5 hok)
                    obtain ⟨a, b, c, d, e, hg⟩ := len5 hl
                    rw [hg] at hnx ⊢
                    have l0 : (0 : Int) < (([a, b, c, d, e] : List Int).length : Int) := by show (0 : Int) < ((5 : Nat) : Int); decide
                    have l1 : (1 : Int) < (([a, b, c, d, e] : List Int).length : Int) := by show (1 : Int) < ((5 : Nat) : Int); decide
                    have l2 : (2 : Int) < (([a, b, c, d, e] : List Int).length : Int) := by show (2 : Int) < ((5 : Nat) : Int); decide
                    have l3 : (3 : Int) < (([a, b, c, d, e] : List Int).length : Int) := by show (3 : Int) < ((5 : Nat) : Int); decide
                    have l4 : (4 : Int) < (([a, b, c, d, e] : List Int).length : Int) := by show (4 : Int) < ((5 : Nat) : Int); decide
                    have t0 : At (vi [a, b, c, d, e]) 0 1 [vI a] := ⟨by simp, rfl⟩
                    have t1 : At (vi [a, b, c, d, e]) 1 1 [vI b] := ⟨by simp, rfl⟩
                    have t2 : At (vi [a, b, c, d, e]) 2 1 [vI c] := ⟨by simp, rfl⟩
                    have t3 : At (vi [a, b, c, d, e]) 3 1 [vI d] := ⟨by simp, rfl⟩
                    have t4 : At (vi [a, b, c, d, e]) 4 1 [vI e] := ⟨by simp, rfl⟩
                    simp only [show ((([a, b, c, d, e] : List Int).length : Int) != 5) = false from rfl, bcF', bc_t l0, bc_t l1, bc_t l2, bc_t l3, bc_t l4, at1 t0, at1 t1, at1 t2, at1 t3, at1 t4, Qv, eq_self, true_and, and_true]
                    refine ⟨(i + 1, i + 1, _), hnx, by show ws.length + 1 - (i + 1) < ws.length + 1 - i; omega, ?_⟩
                    rw [w64 (by omega) (by omega)]; rfl
                  · refine bc_bne (fun _ => bad (by unfold okP; rw [decide_eq_false h5]; rfl)) (fun q => absurd q (by rw [numsW, List.length_map]; omega))

          · rw [show (!(ws[i] == [59])) = true by simpa using hw]
            simp only [bcT']
            refine ⟨(f, i + 1, _), rpi_word I h2 hw, by show ws.length + 1 - (i + 1) < ws.length + 1 - i; omega, ?_⟩
            rw [w64 (by omega) (by omega)]; rfl
        · have hend : ∀ q : i < ws.length, ws[i] = [59] := fun q => absurd q (by omega)
          have p0 : (0 : Int) ≤ (i : Int) := by omega
          have pi : (i : Int) ≤ (ws.length : Int) := by omega
          have pf : (0 : Int) ≤ (f : Int) := by omega
          have pfi : (f : Int) ≤ (i : Int) := by omega
          have pii : i ≤ ws.length := hiw
          obtain ⟨hcell, hcl⟩ := cur_cells ws I.le hiw
          have pl : 0 + f * 1 + (i - f) * 1 ≤ (strs ws).length := by have := I.le; rw [strs_length]; omega
          have cP := conpd (curW ws f i) (by omega) (fun w hw => hmem w (List.mem_of_mem_drop (List.mem_of_mem_take hw)))
          have hdl : dSs (curW ws f i) = .sl (i - f) 1 (strs (curW ws f i)) := by rw [← hcl]
          rw [hdl] at cP
          simp only [bc_t p0, bc_t pi, bc_t pf, bc_t pfi, bc_t pii, bc_o (strs_length ws), Int.toNat_natCast, bc_t pl, hcell, Qv, eq_self, true_and, and_true]
          rcases rpi_end I hiw hend with ⟨rfl, hR, hno, hyes⟩ | ⟨hf, hno, hyes⟩
          · have bad : okP 10 (curW ws 0 i) = false → (fun r => r = resR (synG (grp [] ws))) [zR, dI 7] := fun h => by
              show _ = _; rw [hno h]; rfl
            simp only [bq0, bc_f (show ¬ ((0 : Nat) : Int) > 0 by decide)]
            cases hok : okW (curW ws 0 i) with
            | false =>
              rw [pdR_no hok] at cP
              exact .inl (.inr ⟨⟨cP⟩, bad (by unfold okP; rw [hok, Bool.and_false])⟩)
            | true =>
              rw [pdR_yes hok] at cP
              by_cases h0 : (curW ws 0 i).length = 0
              · have hn : slT (numsW (curW ws 0 i)) = .nil := by unfold slT; rw [if_pos (by rw [numsW, List.length_map]; exact h0)]
                rw [hn] at cP
                exact .inl (.inl ⟨⟨cP⟩, bad (by unfold okP; rw [decide_eq_false (by omega)]; rfl)⟩)
              · rw [slT_some (by rw [numsW, List.length_map]; exact h0)] at cP
                refine .inr ⟨_, _, .inl ⟨⟨cP⟩, ?_⟩⟩
                by_cases h10 : (curW ws 0 i).length = 10
                · have hl : (numsW (curW ws 0 i)).length = 10 := by rw [numsW, List.length_map]; exact h10
                  have hnx := hyes (okP_yes h10 hok)
                  obtain ⟨a, b, c, d, e, f', g, i', j, k, hg⟩ := len10 hl
                  rw [hg] at hnx ⊢
                  have l0 : (0 : Int) < (([a, b, c, d, e, f', g, i', j, k] : List Int).length : Int) := by show (0 : Int) < ((10 : Nat) : Int); decide
                  have l1 : (1 : Int) < (([a, b, c, d, e, f', g, i', j, k] : List Int).length : Int) := by show (1 : Int) < ((10 : Nat) : Int); decide
                  have l2 : (2 : Int) < (([a, b, c, d, e, f', g, i', j, k] : List Int).length : Int) := by show (2 : Int) < ((10 : Nat) : Int); decide
                  have l3 : (3 : Int) < (([a, b, c, d, e, f', g, i', j, k] : List Int).length : Int) := by show (3 : Int) < ((10 : Nat) : Int); decide
                  have l4 : (4 : Int) < (([a, b, c, d, e, f', g, i', j, k] : List Int).length : Int) := by show (4 : Int) < ((10 : Nat) : Int); decide
                  have l5 : (5 : Int) < (([a, b, c, d, e, f', g, i', j, k] : List Int).length : Int) := by show (5 : Int) < ((10 : Nat) : Int); decide
                  have l6 : (6 : Int) < (([a, b, c, d, e, f', g, i', j, k] : List Int).length : Int) := by show (6 : Int) < ((10 : Nat) : Int); decide
                  have l7 : (7 : Int) < (([a, b, c, d, e, f', g, i', j, k] : List Int).length : Int) := by show (7 : Int) < ((10 : Nat) : Int); decide
                  have l8 : (8 : Int) < (([a, b, c, d, e, f', g, i', j, k] : List Int).length : Int) := by show (8 : Int) < ((10 : Nat) : Int); decide
                  have l9 : (9 : Int) < (([a, b, c, d, e, f', g, i', j, k] : List Int).length : Int) := by show (9 : Int) < ((10 : Nat) : Int); decide
                  have t0 : At (vi [a, b, c, d, e, f', g, i', j, k]) 0 1 [vI a] := ⟨by simp, rfl⟩
                  have t1 : At (vi [a, b, c, d, e, f', g, i', j, k]) 1 1 [vI b] := ⟨by simp, rfl⟩
                  have t2 : At (vi [a, b, c, d, e, f', g, i', j, k]) 2 1 [vI c] := ⟨by simp, rfl⟩
                  have t3 : At (vi [a, b, c, d, e, f', g, i', j, k]) 3 1 [vI d] := ⟨by simp, rfl⟩
                  have t4 : At (vi [a, b, c, d, e, f', g, i', j, k]) 4 1 [vI e] := ⟨by simp, rfl⟩
                  have t5 : At (vi [a, b, c, d, e, f', g, i', j, k]) 5 1 [vI f'] := ⟨by simp, rfl⟩
                  have t6 : At (vi [a, b, c, d, e, f', g, i', j, k]) 6 1 [vI g] := ⟨by simp, rfl⟩
                  have t7 : At (vi [a, b, c, d, e, f', g, i', j, k]) 7 1 [vI i'] := ⟨by simp, rfl⟩
                  have t8 : At (vi [a, b, c, d, e, f', g, i', j, k]) 8 1 [vI j] := ⟨by simp, rfl⟩
                  have t9 : At (vi [a, b, c, d, e, f', g, i', j, k]) 9 1 [vI k] := ⟨by simp, rfl⟩
                  simp only [show ((([a, b, c, d, e, f', g, i', j, k] : List Int).length : Int) != 10) = false from rfl, bcF', bc_t l0, bc_t l1, bc_t l2, bc_t l3, bc_t l4, bc_t l5, bc_t l6, bc_t l7, bc_t l8, bc_t l9, at1 t0, at1 t1, at1 t2, at1 t3, at1 t4, at1 t5, at1 t6, at1 t7, at1 t8, at1 t9, Qv, eq_self, true_and, and_true]
                  refine ⟨(i + 1, i + 1, mkR [a, b, c, d, e, f', g, i', j, k] []), hnx, by show ws.length + 1 - (i + 1) < ws.length + 1 - i; omega, ?_⟩
                  rw [w64 (by omega) (by omega)]; rfl
                · refine bc_bne (fun _ => bad (by unfold okP; rw [decide_eq_false h10]; rfl)) (fun q => absurd q (by rw [numsW, List.length_map]; omega))

          · have bad : okP 5 (curW ws f i) = false → (fun r => r = resR (synG (grp [] ws))) [zR, dI 7] := fun h => by
              show _ = _; rw [hno h]; rfl
            simp only [bqn hf, bc_t (show (f : Int) > 0 by omega)]
            cases hok : okW (curW ws f i) with
            | false =>
              rw [pdR_no hok] at cP
              exact .inl (.inr ⟨⟨cP⟩, bad (by unfold okP; rw [hok, Bool.and_false])⟩)
            | true =>
              rw [pdR_yes hok] at cP
              by_cases h0 : (curW ws f i).length = 0
              · have hn : slT (numsW (curW ws f i)) = .nil := by unfold slT; rw [if_pos (by rw [numsW, List.length_map]; exact h0)]
                rw [hn] at cP
                exact .inl (.inl ⟨⟨cP⟩, bad (by unfold okP; rw [decide_eq_false (by omega)]; rfl)⟩)
              · rw [slT_some (by rw [numsW, List.length_map]; exact h0)] at cP
                refine .inr ⟨_, _, .inl ⟨⟨cP⟩, ?_⟩⟩
                by_cases h5 : (curW ws f i).length = 5
                · have hl : (numsW (curW ws f i)).length = 5 := by rw [numsW, List.length_map]; exact h5
                  have hnx := hyes (okP_yes h5 hok)
                  obtain ⟨a, b, c, d, e, hg⟩ := len5 hl
                  rw [hg] at hnx ⊢
                  have l0 : (0 : Int) < (([a, b, c, d, e] : List Int).length : Int) := by show (0 : Int) < ((5 : Nat) : Int); decide
                  have l1 : (1 : Int) < (([a, b, c, d, e] : List Int).length : Int) := by show (1 : Int) < ((5 : Nat) : Int); decide
                  have l2 : (2 : Int) < (([a, b, c, d, e] : List Int).length : Int) := by show (2 : Int) < ((5 : Nat) : Int); decide
                  have l3 : (3 : Int) < (([a, b, c, d, e] : List Int).length : Int) := by show (3 : Int) < ((5 : Nat) : Int); decide
                  have l4 : (4 : Int) < (([a, b, c, d, e] : List Int).length : Int) := by show (4 : Int) < ((5 : Nat) : Int); decide
                  have t0 : At (vi [a, b, c, d, e]) 0 1 [vI a] := ⟨by simp, rfl⟩
                  have t1 : At (vi [a, b, c, d, e]) 1 1 [vI b] := ⟨by simp, rfl⟩
                  have t2 : At (vi [a, b, c, d, e]) 2 1 [vI c] := ⟨by simp, rfl⟩
                  have t3 : At (vi [a, b, c, d, e]) 3 1 [vI d] := ⟨by simp, rfl⟩
                  have t4 : At (vi [a, b, c, d, e]) 4 1 [vI e] := ⟨by simp, rfl⟩
                  simp only [show ((([a, b, c, d, e] : List Int).length : Int) != 5) = false from rfl, bcF', bc_t l0, bc_t l1, bc_t l2, bc_t l3, bc_t l4, at1 t0, at1 t1, at1 t2, at1 t3, at1 t4, Qv, eq_self, true_and, and_true]
                  refine ⟨(i + 1, i + 1, _), hnx, by show ws.length + 1 - (i + 1) < ws.length + 1 - i; omega, ?_⟩
                  rw [w64 (by omega) (by omega)]; rfl
                · refine bc_bne (fun _ => bad (by unfold okP; rw [decide_eq_false h5]; rfl)) (fun q => absurd q (by rw [numsW, List.length_map]; omega))

      · show (if 0 = 0 then _ else _)
        rw [if_pos rfl]
        obtain ⟨G, g1, g2⟩ := I.done
        have hG : 0 < f ∧ grp [] ws = G := by
          rcases g2 with ⟨q, _⟩ | ⟨_, q1, q2⟩
          · omega
          · exact ⟨q1, q2⟩
        have hs : synG (grp [] ws) = some (⟨rw', rst, rfi, rhlo, rhhi, rco, [], rslo, rshi, rflo, rfhi⟩ : Ru) := by
          rw [hG.2]
          rcases g1 with ⟨q, _⟩ | ⟨_, q⟩
          · omega
          · exact q
        show nrPR3 _ _ 0 0 0 0 0 0 0 0 0 0 0 0 0 0 0 0 0 0 0 0 rw' rst rfi rhlo rhhi rco rslo rshi rflo rfhi _
        rw [nrPR3_text]
        let R : Ru := ⟨rw', rst, rfi, rhlo, rhhi, rco, [], rslo, rshi, rflo, rfhi⟩
        refine ⟨_, ⟨conREn R rfl⟩, bc_bne (fun q => ?_) (fun q => absurd q (chk_nil (r := R) rfl).2)⟩
        show _ = resR _
        rw [hs]
        show _ = if (chk R).2 = 0 then _ else _
        rw [if_neg q]; rfl

    | cons s ss =>
      show rrPR4 _ _ 7 ws.length (f : Int) (i : Int) 0 0 0 0 0 0 0 0 0 0 0 0 0 0 0 0 0 0 0 0 (strs ws) rw' rst rfi rhlo rhhi rco (s :: ss).length rslo rshi rflo rfhi (vs5 (s :: ss)) _ _ _
      have hsl : (s :: ss).length < 1000003 := by
        have h1 : (s :: ss).length ≤ i := I.few
        obtain ⟨G, _, g2⟩ := I.done
        rcases g2 with ⟨q, _⟩ | ⟨q, _⟩ <;> omega
      have k1 : (s :: ss).length < (s :: ss).length + 1 := by omega
      have k2 : (2 * ((s :: ss).length + 1) + 768) * 40 ≤ 281474976710656 := by omega
      have k3 : (s :: ss).length + 1 ≤ 1099511627776 := by omega
      have k4 : 0 + (s :: ss).length * 5 ≤ (vs5 (s :: ss)).length := by rw [vs5_length]; omega
      have k5 : 0 + (s :: ss).length * 5 = (vs5 (s :: ss)).length := by rw [vs5_length]; omega
      have hS : List.take ((s :: ss).length * 5) (List.drop 0 (vs5 (s :: ss))) = vs5 (s :: ss) := by rw [List.drop_zero, List.take_of_length_le (by rw [vs5_length]; omega)]
      rw [rrPR4_text]
      refine bc_dec (fun h => ?_) (fun h => ?_)
      · have hiw : i ≤ ws.length := by omega
        refine bc_dec (fun h1 => ?_) (fun h1 => ?_)
        · have h2 : i < ws.length := by omega
          simp only [bc_t (show (0 : Int) ≤ (i : Int) by omega), bc_t h1, Int.toNat_natCast, atS (strs_at ws i h2), bs_toList, b59]
          by_cases hw : ws[i] = [59]
          · rw [show (!(ws[i] == [59])) = false by rw [hw]; rfl]
            simp only [bcF']
            have hend : ∀ q : i < ws.length, ws[i] = [59] := fun _ => hw
            have p0 : (0 : Int) ≤ (i : Int) := by omega
            have pi : (i : Int) ≤ (ws.length : Int) := by omega
            have pf : (0 : Int) ≤ (f : Int) := by omega
            have pfi : (f : Int) ≤ (i : Int) := by omega
            have pii : i ≤ ws.length := hiw
            obtain ⟨hcell, hcl⟩ := cur_cells ws I.le hiw
            have pl : 0 + f * 1 + (i - f) * 1 ≤ (strs ws).length := by have := I.le; rw [strs_length]; omega
            have cP := conpd (curW ws f i) (by omega) (fun w hw => hmem w (List.mem_of_mem_drop (List.mem_of_mem_take hw)))
            have hdl : dSs (curW ws f i) = .sl (i - f) 1 (strs (curW ws f i)) := by rw [← hcl]
            rw [hdl] at cP
            simp only [bc_t p0, bc_t pi, bc_t pf, bc_t pfi, bc_t pii, bc_o (strs_length ws), Int.toNat_natCast, bc_t pl, hcell, Qv, eq_self, true_and, and_true]
            rcases rpi_end I hiw hend with ⟨rfl, hR, hno, hyes⟩ | ⟨hf, hno, hyes⟩
            · exact absurd (congrArg Ru.ss hR) (by simp [zeroR])
            · have bad : okP 5 (curW ws f i) = false → (fun r => r = resR (synG (grp [] ws))) [zR, dI 7] := fun h => by
                show _ = _; rw [hno h]; rfl
              simp only [bqn hf, bc_t (show (f : Int) > 0 by omega)]
              cases hok : okW (curW ws f i) with
              | false =>
                rw [pdR_no hok] at cP
                exact .inl (.inr ⟨⟨cP⟩, bad (by unfold okP; rw [hok, Bool.and_false])⟩)
              | true =>
                rw [pdR_yes hok] at cP
                by_cases h0 : (curW ws f i).length = 0
                · have hn : slT (numsW (curW ws f i)) = .nil := by unfold slT; rw [if_pos (by rw [numsW, List.length_map]; exact h0)]
                  rw [hn] at cP
                  exact .inl (.inl ⟨⟨cP⟩, bad (by unfold okP; rw [decide_eq_false (by omega)]; rfl)⟩)
                · rw [slT_some (by rw [numsW, List.length_map]; exact h0)] at cP
                  refine .inr ⟨_, _, .inl ⟨⟨cP⟩, ?_⟩⟩
                  by_cases h5 : (curW ws f i).length = 5
                  · have hl : (numsW (curW ws f i)).length = 5 := by rw [numsW, List.length_map]; exact h5
                    have hnx := hyes (okP_yes h5 hok)
                    obtain ⟨a, b, c, d, e, hg⟩ := len5 hl
                    rw [hg] at hnx ⊢
                    have l0 : (0 : Int) < (([a, b, c, d, e] : List Int).length : Int) := by show (0 : Int) < ((5 : Nat) : Int); decide
                    have l1 : (1 : Int) < (([a, b, c, d, e] : List Int).length : Int) := by show (1 : Int) < ((5 : Nat) : Int); decide
                    have l2 : (2 : Int) < (([a, b, c, d, e] : List Int).length : Int) := by show (2 : Int) < ((5 : Nat) : Int); decide
                    have l3 : (3 : Int) < (([a, b, c, d, e] : List Int).length : Int) := by show (3 : Int) < ((5 : Nat) : Int); decide
                    have l4 : (4 : Int) < (([a, b, c, d, e] : List Int).length : Int) := by show (4 : Int) < ((5 : Nat) : Int); decide
                    have t0 : At (vi [a, b, c, d, e]) 0 1 [vI a] := ⟨by simp, rfl⟩
                    have t1 : At (vi [a, b, c, d, e]) 1 1 [vI b] := ⟨by simp, rfl⟩
                    have t2 : At (vi [a, b, c, d, e]) 2 1 [vI c] := ⟨by simp, rfl⟩
                    have t3 : At (vi [a, b, c, d, e]) 3 1 [vI d] := ⟨by simp, rfl⟩
                    have t4 : At (vi [a, b, c, d, e]) 4 1 [vI e] := ⟨by simp, rfl⟩
                    simp only [show ((([a, b, c, d, e] : List Int).length : Int) != 5) = false from rfl, bcF', bc_t l0, bc_t l1, bc_t l2, bc_t l3, bc_t l4, at1 t0, at1 t1, at1 t2, at1 t3, at1 t4, bc_t k1, bc_t k2, bc_t k3, bc_t k4, bc_t k5, hS, Qv, eq_self, true_and, and_true]
                    refine ⟨(i + 1, i + 1, _), hnx, by show ws.length + 1 - (i + 1) < ws.length + 1 - i; omega, ?_⟩
                    show zrPR4 _ _ _ _ _ _ _ _ _ _ _ _ _ _ _ _ _ _ _ _ _ _ _ _ _ _ _ _ _ _ _ ((s :: ss) ++ [_]).length _ _ _ _ (vs5 ((s :: ss) ++ [_])) = _
                    rw [vs5_snoc, List.length_append, w64 (by omega) (by omega)]; rfl
                  · refine bc_bne (fun _ => bad (by unfold okP; rw [decide_eq_false h5]; rfl)) (fun q => absurd q (by rw [numsW, List.length_map]; omega))

          · rw [show (!(ws[i] == [59])) = true by simpa using hw]
            simp only [bcT']
            refine ⟨(f, i + 1, _), rpi_word I h2 hw, by show ws.length + 1 - (i + 1) < ws.length + 1 - i; omega, ?_⟩
            rw [w64 (by omega) (by omega)]; rfl
        · have hend : ∀ q : i < ws.length, ws[i] = [59] := fun q => absurd q (by omega)
          have p0 : (0 : Int) ≤ (i : Int) := by omega
          have pi : (i : Int) ≤ (ws.length : Int) := by omega
          have pf : (0 : Int) ≤ (f : Int) := by omega
          have pfi : (f : Int) ≤ (i : Int) := by omega
          have pii : i ≤ ws.length := hiw
          obtain ⟨hcell, hcl⟩ := cur_cells ws I.le hiw
          have pl : 0 + f * 1 + (i - f) * 1 ≤ (strs ws).length := by have := I.le; rw [strs_length]; omega
          have cP := conpd (curW ws f i) (by omega) (fun w hw => hmem w (List.mem_of_mem_drop (List.mem_of_mem_take hw)))
          have hdl : dSs (curW ws f i) = .sl (i - f) 1 (strs (curW ws f i)) := by rw [← hcl]
          rw [hdl] at cP
          simp only [bc_t p0, bc_t pi, bc_t pf, bc_t pfi, bc_t pii, bc_o (strs_length ws), Int.toNat_natCast, bc_t pl, hcell, Qv, eq_self, true_and, and_true]
          rcases rpi_end I hiw hend with ⟨rfl, hR, hno, hyes⟩ | ⟨hf, hno, hyes⟩
          · exact absurd (congrArg Ru.ss hR) (by simp [zeroR])
          · have bad : okP 5 (curW ws f i) = false → (fun r => r = resR (synG (grp [] ws))) [zR, dI 7] := fun h => by
              show _ = _; rw [hno h]; rfl
            simp only [bqn hf, bc_t (show (f : Int) > 0 by omega)]
            cases hok : okW (curW ws f i) with
            | false =>
              rw [pdR_no hok] at cP
              exact .inl (.inr ⟨⟨cP⟩, bad (by unfold okP; rw [hok, Bool.and_false])⟩)
            | true =>
              rw [pdR_yes hok] at cP
              by_cases h0 : (curW ws f i).length = 0
              · have hn : slT (numsW (curW ws f i)) = .nil := by unfold slT; rw [if_pos (by rw [numsW, List.length_map]; exact h0)]
                rw [hn] at cP
                exact .inl (.inl ⟨⟨cP⟩, bad (by unfold okP; rw [decide_eq_false (by omega)]; rfl)⟩)
              · rw [slT_some (by rw [numsW, List.length_map]; exact h0)] at cP
                refine .inr ⟨_, _, .inl ⟨⟨cP⟩, ?_⟩⟩
                by_cases h5 : (curW ws f i).length = 5
                · have hl : (numsW (curW ws f i)).length = 5 := by rw [numsW, List.length_map]; exact h5
                  have hnx := hyes (okP_yes h5 hok)
                  obtain ⟨a, b, c, d, e, hg⟩ := len5 hl
                  rw [hg] at hnx ⊢
                  have l0 : (0 : Int) < (([a, b, c, d, e] : List Int).length : Int) := by show (0 : Int) < ((5 : Nat) : Int); decide
                  have l1 : (1 : Int) < (([a, b, c, d, e] : List Int).length : Int) := by show (1 : Int) < ((5 : Nat) : Int); decide
                  have l2 : (2 : Int) < (([a, b, c, d, e] : List Int).length : Int) := by show (2 : Int) < ((5 : Nat) : Int); decide
                  have l3 : (3 : Int) < (([a, b, c, d, e] : List Int).length : Int) := by show (3 : Int) < ((5 : Nat) : Int); decide
                  have l4 : (4 : Int) < (([a, b, c, d, e] : List Int).length : Int) := by show (4 : Int) < ((5 : Nat) : Int); decide
                  have t0 : At (vi [a, b, c, d, e]) 0 1 [vI a] := ⟨by simp, rfl⟩
                  have t1 : At (vi [a, b, c, d, e]) 1 1 [vI b] := ⟨by simp, rfl⟩
                  have t2 : At (vi [a, b, c, d, e]) 2 1 [vI c] := ⟨by simp, rfl⟩
                  have t3 : At (vi [a, b, c, d, e]) 3 1 [vI d] := ⟨by simp, rfl⟩
                  have t4 : At (vi [a, b, c, d, e]) 4 1 [vI e] := ⟨by simp, rfl⟩
                  simp only [show ((([a, b, c, d, e] : List Int).length : Int) != 5) = false from rfl, bcF', bc_t l0, bc_t l1, bc_t l2, bc_t l3, bc_t l4, at1 t0, at1 t1, at1 t2, at1 t3, at1 t4, bc_t k1, bc_t k2, bc_t k3, bc_t k4, bc_t k5, hS, Qv, eq_self, true_and, and_true]
                  refine ⟨(i + 1, i + 1, _), hnx, by show ws.length + 1 - (i + 1) < ws.length + 1 - i; omega, ?_⟩
                  show zrPR4 _ _ _ _ _ _ _ _ _ _ _ _ _ _ _ _ _ _ _ _ _ _ _ _ _ _ _ _ _ _ _ ((s :: ss) ++ [_]).length _ _ _ _ (vs5 ((s :: ss) ++ [_])) = _
                  rw [vs5_snoc, List.length_append, w64 (by omega) (by omega)]; rfl
                · refine bc_bne (fun _ => bad (by unfold okP; rw [decide_eq_false h5]; rfl)) (fun q => absurd q (by rw [numsW, List.length_map]; omega))

      · show (if 0 = 0 then _ else _)
        rw [if_pos rfl]
        obtain ⟨G, g1, g2⟩ := I.done
        have hG : 0 < f ∧ grp [] ws = G := by
          rcases g2 with ⟨q, _⟩ | ⟨_, q1, q2⟩
          · omega
          · exact ⟨q1, q2⟩
        have hs : synG (grp [] ws) = some (⟨rw', rst, rfi, rhlo, rhhi, rco, s :: ss, rslo, rshi, rflo, rfhi⟩ : Ru) := by
          rw [hG.2]
          rcases g1 with ⟨q, _⟩ | ⟨_, q⟩
          · omega
          · exact q
        show nrPR5 _ _ 0 0 0 0 0 0 0 0 0 0 0 0 0 0 0 0 0 0 0 0 rw' rst rfi rhlo rhhi rco (s :: ss).length rslo rshi rflo rfhi (vs5 (s :: ss)) _
        rw [nrPR5_text]
        let R : Ru := ⟨rw', rst, rfi, rhlo, rhhi, rco, s :: ss, rslo, rshi, rflo, rfhi⟩
        simp only [bc_t k4, hS]
        refine ⟨_, ⟨conRE R (by show (s :: ss).length < _; omega)⟩, bc_bne (fun q => ?_) (fun q => ⟨⟨trivial, by rw [vs5_length]⟩, ?_⟩)⟩
        · show _ = resR _
          rw [hs]
          show _ = if (chk R).2 = 0 then _ else _
          rw [if_neg q]; rfl
        · show _ = resR _
          rw [hs]
          show _ = if (chk R).2 = 0 then _ else _
          rw [if_pos q]
end Go.Proofs.G5m
