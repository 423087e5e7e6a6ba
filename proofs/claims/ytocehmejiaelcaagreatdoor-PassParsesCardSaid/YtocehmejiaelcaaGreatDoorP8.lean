/- Texts of the proof, put together: GmXV, GmMX5, GmXL, GmMXP4, GmMXP5, GmMXPA0, GmMXPA1, GmMXPA2, GmMXPA3, GmMXPA, GmMX6, GmMPK. -/
import Derived.Test.YtocehmejiaelcaaGreatDoorP5
import Derived.Test.YtocehmejiaelcaaGreatDoorP7
import Derived.Test.YtocehmejiaelcaaGreatDoorP6
import Derived.Test.YtocehmejiaelcaaGreatDoorP4
/- What is left to show of each function, written out; the kernel reckons it. -/
namespace Go.Proofs.G5m
open Go Go.Abs Go.Proofs
set_option maxRecDepth 100000
set_option linter.unusedVariables false
def gSR (C : Ct) (L : AtLoop) (x0 : Int) (x1 : Int) (x2 : Int) (x3 : Int) (x4 : Int) (x5 : Int) (n6 : Nat) (c6 : Nat) (l6 : List Value) (x7 : Int) (x8 : Int) (x9 : Int) (x10 : Int) (x11 : Int) (x12 : Int) (x13 : Int) (x14 : Int) (x15 : Int) (x16 : Int) (n17 : Nat) (c17 : Nat) (l17 : List Value) (x18 : Int) (x19 : Int) (x20 : Int) (x21 : Int) (k : List D → Prop) : Prop := wpFn Tryz.prog (hX C) L 0 10 #[.agg #[.int .i64 x0, .int .i64 x1, .int .i64 x2, .int .i64 x3, .int .i64 x4, .int .i64 x5, .slice (some ⟨500, 0, none⟩) n6 c6, .int .i64 x7, .int .i64 x8, .int .i64 x9, .int .i64 x10], .agg #[.int .i64 x11, .int .i64 x12, .int .i64 x13, .int .i64 x14, .int .i64 x15, .int .i64 x16, .slice (some ⟨501, 0, none⟩) n17 c17, .int .i64 x18, .int .i64 x19, .int .i64 x20, .int .i64 x21]] (heapOf [(500, .sym l6 false 5), (501, .sym l17 false 5)]) (dataK k)
theorem gSR_text (C : Ct) (L : AtLoop) (x0 : Int) (x1 : Int) (x2 : Int) (x3 : Int) (x4 : Int) (x5 : Int) (n6 : Nat) (c6 : Nat) (l6 : List Go.Value) (x7 : Int) (x8 : Int) (x9 : Int) (x10 : Int) (x11 : Int) (x12 : Int) (x13 : Int) (x14 : Int) (x15 : Int) (x16 : Int) (n17 : Nat) (c17 : Nat) (l17 : List Go.Value) (x18 : Int) (x19 : Int) (x20 : Int) (x21 : Int) (k : List D → Prop) : gSR C L x0 x1 x2 x3 x4 x5 n6 c6 l6 x7 x8 x9 x10 x11 x12 x13 x14 x15 x16 n17 c17 l17 x18 x19 x20 x21 k =
 (bcase (x0 != x11)
 (k [(D.val (Value.bool false))])
 (bcase (x1 != x12)
 (k [(D.val (Value.bool false))])
 (bcase (x2 != x13)
 (k [(D.val (Value.bool false))])
 (bcase (if Bool.true = Bool.true then !(x3 == x14 && (x4 == x15 && Bool.true)) else x3 == x14 && (x4 == x15 && Bool.true))
 (k [(D.val (Value.bool false))])
 (bcase (x5 != x16)
 (k [(D.val (Value.bool false))])
 (bcase (if Bool.true = Bool.true then !(x7 == x18 && (x8 == x19 && Bool.true)) else x7 == x18 && (x8 == x19 && Bool.true))
 (k [(D.val (Value.bool false))])
 (bcase (if Bool.true = Bool.true then !(x9 == x20 && (x10 == x21 && Bool.true)) else x9 == x20 && (x10 == x21 && Bool.true))
 (k [(D.val (Value.bool false))])
 (bcase ((↑n6 : Int) != (↑n17 : Int))
 (k [(D.val (Value.bool false))])
 (L 0 [(Prod.mk 2 (Pt 1000 0)), (Prod.mk 3 (Pt 1001 0)), (Prod.mk 5 (vI 0))] [(Prod.mk 1000 (AObj.cells [(vI x0), (vI x1), (vI x2), (vI x3), (vI x4), (vI x5), (Sl 500 (n6) (c6)), (vI x7), (vI x8), (vI x9), (vI x10)] 33 false 1)), (Prod.mk 1001 (AObj.cells [(vI x11), (vI x12), (vI x13), (vI x14), (vI x15), (vI x16), (Sl 501 (n17) (c17)), (vI x18), (vI x19), (vI x20), (vI x21)] 33 false 1)), (Prod.mk 500 (AObj.sym (l6) false 5)), (Prod.mk 501 (AObj.sym (l17) false 5))]))))))))) := by kernel_rfl
abbrev zSR1 (x0 : Int) (x1 : Int) (x2 : Int) (x3 : Int) (x4 : Int) (x5 : Int) (x6 : Int) (n7 : Nat) (c8 : Nat) (x9 : Int) (x10 : Int) (x11 : Int) (x12 : Int) (x13 : Int) (x14 : Int) (x15 : Int) (x16 : Int) (x17 : Int) (x18 : Int) (n19 : Nat) (c20 : Nat) (x21 : Int) (x22 : Int) (x23 : Int) (x24 : Int) (l25 : List Value) (l26 : List Value) : Slots × Blocks := ([(2, (Value.pointer (some ⟨1000, 0, none⟩))), (3, (Value.pointer (some ⟨1001, 0, none⟩))), (5, (Value.int .i64 x0))], [(1000, (AObj.cells [(Value.int .i64 x1), (Value.int .i64 x2), (Value.int .i64 x3), (Value.int .i64 x4), (Value.int .i64 x5), (Value.int .i64 x6), (Value.slice (some ⟨500, 0, none⟩) n7 c8), (Value.int .i64 x9), (Value.int .i64 x10), (Value.int .i64 x11), (Value.int .i64 x12)] 33 false 1)), (1001, (AObj.cells [(Value.int .i64 x13), (Value.int .i64 x14), (Value.int .i64 x15), (Value.int .i64 x16), (Value.int .i64 x17), (Value.int .i64 x18), (Value.slice (some ⟨501, 0, none⟩) n19 c20), (Value.int .i64 x21), (Value.int .i64 x22), (Value.int .i64 x23), (Value.int .i64 x24)] 33 false 1)), (500, (AObj.sym l25 false 5)), (501, (AObj.sym l26 false 5))])
def rSR1 (C : Ct) (L : AtLoop) (x0 : Int) (x1 : Int) (x2 : Int) (x3 : Int) (x4 : Int) (x5 : Int) (x6 : Int) (n7 : Nat) (c8 : Nat) (x9 : Int) (x10 : Int) (x11 : Int) (x12 : Int) (x13 : Int) (x14 : Int) (x15 : Int) (x16 : Int) (x17 : Int) (x18 : Int) (n19 : Nat) (c20 : Nat) (x21 : Int) (x22 : Int) (x23 : Int) (x24 : Int) (l25 : List Value) (l26 : List Value) (B : Bx) (X : Xx) (k : List D → Prop) : Prop := wpRound Tryz.prog (hX C) L 10 0 [(2, (Value.pointer (some ⟨1000, 0, none⟩))), (3, (Value.pointer (some ⟨1001, 0, none⟩))), (5, (Value.int .i64 x0))] [(1000, (AObj.cells [(Value.int .i64 x1), (Value.int .i64 x2), (Value.int .i64 x3), (Value.int .i64 x4), (Value.int .i64 x5), (Value.int .i64 x6), (Value.slice (some ⟨500, 0, none⟩) n7 c8), (Value.int .i64 x9), (Value.int .i64 x10), (Value.int .i64 x11), (Value.int .i64 x12)] 33 false 1)), (1001, (AObj.cells [(Value.int .i64 x13), (Value.int .i64 x14), (Value.int .i64 x15), (Value.int .i64 x16), (Value.int .i64 x17), (Value.int .i64 x18), (Value.slice (some ⟨501, 0, none⟩) n19 c20), (Value.int .i64 x21), (Value.int .i64 x22), (Value.int .i64 x23), (Value.int .i64 x24)] 33 false 1)), (500, (AObj.sym l25 false 5)), (501, (AObj.sym l26 false 5))] B X (dataK k)
theorem rSR1_text (C : Ct) (L : AtLoop) (x0 : Int) (x1 : Int) (x2 : Int) (x3 : Int) (x4 : Int) (x5 : Int) (x6 : Int) (n7 : Nat) (c8 : Nat) (x9 : Int) (x10 : Int) (x11 : Int) (x12 : Int) (x13 : Int) (x14 : Int) (x15 : Int) (x16 : Int) (x17 : Int) (x18 : Int) (n19 : Nat) (c20 : Nat) (x21 : Int) (x22 : Int) (x23 : Int) (x24 : Int) (l25 : List Go.Value) (l26 : List Go.Value) (B : Bx) (X : Xx) (k : List D → Prop) : rSR1 C L x0 x1 x2 x3 x4 x5 x6 n7 c8 x9 x10 x11 x12 x13 x14 x15 x16 x17 x18 n19 c20 x21 x22 x23 x24 l25 l26 B X k =
 (bcase (decide (x0 < (↑n7 : Int)))
 (bcase (decide (0 ≤ x0))
 (bcase (decide (x0 < (↑n7 : Int)))
 (∃ n1 : Int,
 (∃ n2 : Int,
 (∃ n3 : Int,
 (∃ n4 : Int,
 (∃ n5 : Int,
 ((At (l25) (0 + Int.toNat x0 * 5) 5 [(vI n1), (vI n2), (vI n3), (vI n4), (vI n5)]) ∧
 (bcase (decide (0 ≤ x0))
 (bcase (decide (x0 < (↑n19 : Int)))
 (∃ n6 : Int,
 (∃ n8 : Int,
 (∃ n9 : Int,
 (∃ n10 : Int,
 (∃ n11 : Int,
 ((At (l26) (0 + Int.toNat x0 * 5) 5 [(vI n6), (vI n8), (vI n9), (vI n10), (vI n11)]) ∧
 (bcase (if Bool.true = Bool.true then !(n1 == n6 && (n2 == n8 && (n3 == n9 && (n4 == n10 && (n5 == n11 && Bool.true) && Bool.true)))) else n1 == n6 && (n2 == n8 && (n3 == n9 && (n4 == n10 && (n5 == n11 && Bool.true) && Bool.true))))
 (((bcase (if Bool.true = Bool.true then !(n1 == n6 && (n2 == n8 && (n3 == n9 && (n4 == n10 && (n5 == n11 && Bool.true) && Bool.true)))) else n1 == n6 && (n2 == n8 && (n3 == n9 && (n4 == n10 && (n5 == n11 && Bool.true) && Bool.true))))
 (Qv (Value.bool true))
 ((Value.bool false) = (Value.bool true))) ∧
 ((∃ n12 : Int,
 (∃ n13 : Int,
 (∃ n14 : Int,
 (∃ n15 : Int,
 (∃ n16 : Int,
 ((At (l26) (0 + Int.toNat x0 * 5) 5 [(vI n12), (vI n13), (vI n14), (vI n15), (vI n16)]) ∧
 ((Value.agg [(vI n12), (vI n13), (vI n14), (vI n15), (vI n16)].toArray) = (Value.agg [(vI n6), (vI n8), (vI n9), (vI n10), (vI n11)].toArray)))))))) ∧
 ((bcase (decide (0 ≤ x0))
 (bcase (decide (x0 < (↑n19 : Int)))
 (Qv (Pt 501 (0 + Int.toNat x0 * 5)))
 False)
 False) ∧
 ((Qv (vI x0)) ∧
 ((Qv (Sl 501 (n19) (c20))) ∧
 ((Qv (Pt 1001 6)) ∧
 ((∃ n12 : Int,
 (∃ n13 : Int,
 (∃ n14 : Int,
 (∃ n15 : Int,
 (∃ n16 : Int,
 ((At (l25) (0 + Int.toNat x0 * 5) 5 [(vI n12), (vI n13), (vI n14), (vI n15), (vI n16)]) ∧
 ((Value.agg [(vI n12), (vI n13), (vI n14), (vI n15), (vI n16)].toArray) = (Value.agg [(vI n1), (vI n2), (vI n3), (vI n4), (vI n5)].toArray)))))))) ∧
 ((bcase (decide (0 ≤ x0))
 (bcase (decide (x0 < (↑n7 : Int)))
 (Qv (Pt 500 (0 + Int.toNat x0 * 5)))
 False)
 False) ∧
 ((Qv (vI x0)) ∧
 ((Qv (Sl 500 (n7) (c8))) ∧
 ((Qv (Pt 1000 6)) ∧
 True))))))))))) ∧
 (k [(D.val (Value.bool false))]))
 (((bcase (if Bool.true = Bool.true then !(n1 == n6 && (n2 == n8 && (n3 == n9 && (n4 == n10 && (n5 == n11 && Bool.true) && Bool.true)))) else n1 == n6 && (n2 == n8 && (n3 == n9 && (n4 == n10 && (n5 == n11 && Bool.true) && Bool.true))))
 ((Value.bool true) = (Value.bool false))
 (Qv (Value.bool false))) ∧
 ((∃ n12 : Int,
 (∃ n13 : Int,
 (∃ n14 : Int,
 (∃ n15 : Int,
 (∃ n16 : Int,
 ((At (l26) (0 + Int.toNat x0 * 5) 5 [(vI n12), (vI n13), (vI n14), (vI n15), (vI n16)]) ∧
 ((Value.agg [(vI n12), (vI n13), (vI n14), (vI n15), (vI n16)].toArray) = (Value.agg [(vI n6), (vI n8), (vI n9), (vI n10), (vI n11)].toArray)))))))) ∧
 ((bcase (decide (0 ≤ x0))
 (bcase (decide (x0 < (↑n19 : Int)))
 (Qv (Pt 501 (0 + Int.toNat x0 * 5)))
 False)
 False) ∧
 ((Qv (vI x0)) ∧
 ((Qv (Sl 501 (n19) (c20))) ∧
 ((Qv (Pt 1001 6)) ∧
 ((∃ n12 : Int,
 (∃ n13 : Int,
 (∃ n14 : Int,
 (∃ n15 : Int,
 (∃ n16 : Int,
 ((At (l25) (0 + Int.toNat x0 * 5) 5 [(vI n12), (vI n13), (vI n14), (vI n15), (vI n16)]) ∧
 ((Value.agg [(vI n12), (vI n13), (vI n14), (vI n15), (vI n16)].toArray) = (Value.agg [(vI n1), (vI n2), (vI n3), (vI n4), (vI n5)].toArray)))))))) ∧
 ((bcase (decide (0 ≤ x0))
 (bcase (decide (x0 < (↑n7 : Int)))
 (Qv (Pt 500 (0 + Int.toNat x0 * 5)))
 False)
 False) ∧
 ((Qv (vI x0)) ∧
 ((Qv (Sl 500 (n7) (c8))) ∧
 ((Qv (Pt 1000 6)) ∧
 True))))))))))) ∧
 (B [(Prod.mk 2 (Pt 1000 0)), (Prod.mk 3 (Pt 1001 0)), (Prod.mk 5 (vI (IntKind.wrap .i64 (x0 + 1))))] [(Prod.mk 1000 (AObj.cells [(vI x1), (vI x2), (vI x3), (vI x4), (vI x5), (vI x6), (Sl 500 (n7) (c8)), (vI x9), (vI x10), (vI x11), (vI x12)] 33 false 1)), (Prod.mk 1001 (AObj.cells [(vI x13), (vI x14), (vI x15), (vI x16), (vI x17), (vI x18), (Sl 501 (n19) (c20)), (vI x21), (vI x22), (vI x23), (vI x24)] 33 false 1)), (Prod.mk 500 (AObj.sym (l25) false 5)), (Prod.mk 501 (AObj.sym (l26) false 5))])))))))))
 False)
 False)))))))
 False)
 False)
 (X 0 [] [])) := by kernel_rfl
def nSR2 (C : Ct) (L : AtLoop) (k : List D → Prop) : Prop := wpNext Tryz.prog (hX C) L 10 0 .normal [] [] (dataK k)
theorem nSR2_text (C : Ct) (L : AtLoop) (k : List D → Prop) : nSR2 C L k =
 (k [(D.val (Value.bool true))]) := by kernel_rfl
def gSRo (C : Ct) (L : AtLoop) (x0 : Int) (x1 : Int) (x2 : Int) (x3 : Int) (x4 : Int) (x5 : Int) (x7 : Int) (x8 : Int) (x9 : Int) (x10 : Int) (x11 : Int) (x12 : Int) (x13 : Int) (x14 : Int) (x15 : Int) (x16 : Int) (x18 : Int) (x19 : Int) (x20 : Int) (x21 : Int) (k : List D → Prop) : Prop := wpFn Tryz.prog (hX C) L 0 10 #[.agg #[.int .i64 x0, .int .i64 x1, .int .i64 x2, .int .i64 x3, .int .i64 x4, .int .i64 x5, .slice none 0 0, .int .i64 x7, .int .i64 x8, .int .i64 x9, .int .i64 x10], .agg #[.int .i64 x11, .int .i64 x12, .int .i64 x13, .int .i64 x14, .int .i64 x15, .int .i64 x16, .slice none 0 0, .int .i64 x18, .int .i64 x19, .int .i64 x20, .int .i64 x21]] (heapOf []) (dataK k)
theorem gSRo_text (C : Ct) (L : AtLoop) (x0 : Int) (x1 : Int) (x2 : Int) (x3 : Int) (x4 : Int) (x5 : Int) (x7 : Int) (x8 : Int) (x9 : Int) (x10 : Int) (x11 : Int) (x12 : Int) (x13 : Int) (x14 : Int) (x15 : Int) (x16 : Int) (x18 : Int) (x19 : Int) (x20 : Int) (x21 : Int) (k : List D → Prop) : gSRo C L x0 x1 x2 x3 x4 x5 x7 x8 x9 x10 x11 x12 x13 x14 x15 x16 x18 x19 x20 x21 k =
 (bcase (x0 != x11)
 (k [(D.val (Value.bool false))])
 (bcase (x1 != x12)
 (k [(D.val (Value.bool false))])
 (bcase (x2 != x13)
 (k [(D.val (Value.bool false))])
 (bcase (if Bool.true = Bool.true then !(x3 == x14 && (x4 == x15 && Bool.true)) else x3 == x14 && (x4 == x15 && Bool.true))
 (k [(D.val (Value.bool false))])
 (bcase (x5 != x16)
 (k [(D.val (Value.bool false))])
 (bcase (if Bool.true = Bool.true then !(x7 == x18 && (x8 == x19 && Bool.true)) else x7 == x18 && (x8 == x19 && Bool.true))
 (k [(D.val (Value.bool false))])
 (bcase (if Bool.true = Bool.true then !(x9 == x20 && (x10 == x21 && Bool.true)) else x9 == x20 && (x10 == x21 && Bool.true))
 (k [(D.val (Value.bool false))])
 (L 0 [(Prod.mk 2 (Pt 1000 0)), (Prod.mk 3 (Pt 1001 0)), (Prod.mk 5 (vI 0))] [(Prod.mk 1000 (AObj.cells [(vI x0), (vI x1), (vI x2), (vI x3), (vI x4), (vI x5), (Value.slice none 0 0), (vI x7), (vI x8), (vI x9), (vI x10)] 33 false 1)), (Prod.mk 1001 (AObj.cells [(vI x11), (vI x12), (vI x13), (vI x14), (vI x15), (vI x16), (Value.slice none 0 0), (vI x18), (vI x19), (vI x20), (vI x21)] 33 false 1))])))))))) := by kernel_rfl
abbrev zSRo1 (x0 : Int) (x1 : Int) (x2 : Int) (x3 : Int) (x4 : Int) (x5 : Int) (x6 : Int) (x7 : Int) (x8 : Int) (x9 : Int) (x10 : Int) (x11 : Int) (x12 : Int) (x13 : Int) (x14 : Int) (x15 : Int) (x16 : Int) (x17 : Int) (x18 : Int) (x19 : Int) (x20 : Int) : Slots × Blocks := ([(2, (Value.pointer (some ⟨1000, 0, none⟩))), (3, (Value.pointer (some ⟨1001, 0, none⟩))), (5, (Value.int .i64 x0))], [(1000, (AObj.cells [(Value.int .i64 x1), (Value.int .i64 x2), (Value.int .i64 x3), (Value.int .i64 x4), (Value.int .i64 x5), (Value.int .i64 x6), (Value.slice none 0 0), (Value.int .i64 x7), (Value.int .i64 x8), (Value.int .i64 x9), (Value.int .i64 x10)] 33 false 1)), (1001, (AObj.cells [(Value.int .i64 x11), (Value.int .i64 x12), (Value.int .i64 x13), (Value.int .i64 x14), (Value.int .i64 x15), (Value.int .i64 x16), (Value.slice none 0 0), (Value.int .i64 x17), (Value.int .i64 x18), (Value.int .i64 x19), (Value.int .i64 x20)] 33 false 1))])
def rSRo1 (C : Ct) (L : AtLoop) (x0 : Int) (x1 : Int) (x2 : Int) (x3 : Int) (x4 : Int) (x5 : Int) (x6 : Int) (x7 : Int) (x8 : Int) (x9 : Int) (x10 : Int) (x11 : Int) (x12 : Int) (x13 : Int) (x14 : Int) (x15 : Int) (x16 : Int) (x17 : Int) (x18 : Int) (x19 : Int) (x20 : Int) (B : Bx) (X : Xx) (k : List D → Prop) : Prop := wpRound Tryz.prog (hX C) L 10 0 [(2, (Value.pointer (some ⟨1000, 0, none⟩))), (3, (Value.pointer (some ⟨1001, 0, none⟩))), (5, (Value.int .i64 x0))] [(1000, (AObj.cells [(Value.int .i64 x1), (Value.int .i64 x2), (Value.int .i64 x3), (Value.int .i64 x4), (Value.int .i64 x5), (Value.int .i64 x6), (Value.slice none 0 0), (Value.int .i64 x7), (Value.int .i64 x8), (Value.int .i64 x9), (Value.int .i64 x10)] 33 false 1)), (1001, (AObj.cells [(Value.int .i64 x11), (Value.int .i64 x12), (Value.int .i64 x13), (Value.int .i64 x14), (Value.int .i64 x15), (Value.int .i64 x16), (Value.slice none 0 0), (Value.int .i64 x17), (Value.int .i64 x18), (Value.int .i64 x19), (Value.int .i64 x20)] 33 false 1))] B X (dataK k)
theorem rSRo1_text (C : Ct) (L : AtLoop) (x0 : Int) (x1 : Int) (x2 : Int) (x3 : Int) (x4 : Int) (x5 : Int) (x6 : Int) (x7 : Int) (x8 : Int) (x9 : Int) (x10 : Int) (x11 : Int) (x12 : Int) (x13 : Int) (x14 : Int) (x15 : Int) (x16 : Int) (x17 : Int) (x18 : Int) (x19 : Int) (x20 : Int) (B : Bx) (X : Xx) (k : List D → Prop) : rSRo1 C L x0 x1 x2 x3 x4 x5 x6 x7 x8 x9 x10 x11 x12 x13 x14 x15 x16 x17 x18 x19 x20 B X k =
 (bcase (decide (x0 < (↑0 : Int)))
 False
 (X 0 [] [])) := by kernel_rfl
def nSRo2 (C : Ct) (L : AtLoop) (k : List D → Prop) : Prop := wpNext Tryz.prog (hX C) L 10 0 .normal [] [] (dataK k)
theorem nSRo2_text (C : Ct) (L : AtLoop) (k : List D → Prop) : nSRo2 C L k =
 (k [(D.val (Value.bool true))]) := by kernel_rfl
def gSSo (C : Ct) (L : AtLoop) (s0 : ByteArray) (s2 : ByteArray) (k : List D → Prop) : Prop := wpFn Tryz.prog (hX C) L 0 9 #[.agg #[.string s0, .slice none 0 0], .agg #[.string s2, .slice none 0 0]] (heapOf []) (dataK k)
theorem gSSo_text (C : Ct) (L : AtLoop) (s0 : ByteArray) (s2 : ByteArray) (k : List D → Prop) : gSSo C L s0 s2 k =
 (bcase (ByteArray.toList s0 == ByteArray.toList s2)
 (k [(D.val (Value.bool true))])
 (k [(D.val (Value.bool false))])) := by kernel_rfl
end Go.Proofs.G5m

/- Chapter 3, strings: equal rules, equal schedules. -/
namespace Go.Proofs.G5m
open Go Go.Abs Go.Proofs Go.Str
set_option maxRecDepth 100000
theorem preYOK : PreOK Tryz.prog (preY C5) := by
  intro g h he args ats H k hk
  unfold preY at he
  rcases ite_so he with ⟨e, rfl⟩ | he
  · exact saidH_ok (fun _ _ _ h => h) _ _ _ _ _ hk
  · exact preXOK g h he args ats H k hk
theorem hokY : HandlerOK Tryz.prog (hY C5) := handlerX_ok mixed preYOK (by decide) 6
theorem conIn (l m : List Int) (hl : l.length < 1000000000) : C5 36 [.sl l.length 1 (vi l), .sl m.length 1 (vi m)] [.val (.bool (decide (l = m)))] := by
  let inv : Nat × Nat × Nat → Prop := fun x => x.1 ≤ l.length ∧ l.length = m.length ∧ (l = m ↔ l.drop x.1 = m.drop x.1)
  let st : Nat × Nat × Nat → Slots × Blocks := fun x => zIn1 l.length x.2.1 m.length x.2.2 x.1 (vi l) (vi m)
  refine con_of (L := fun _ s b => ∃ x, inv x ∧ st x = (s, b)) hokE mixed Tryz.func36 rfl (by show 2 ≤ 400; omega) rfl (ids := [0]) (by kernel_rfl) rfl (fun caps => ?_) (fun id hid => ?_)
  · show gIn _ _ l.length (caps 500) (vi l) m.length (caps 501) (vi m) _
    rw [gIn_text]
    refine bc_bne (fun h => ?_) (fun h => ?_)
    · show _ = _
      rw [decide_eq_false (fun e => h (by rw [e]))]
    · exact ⟨(0, caps 500, caps 501), ⟨Nat.zero_le _, by show l.length = m.length; omega, Iff.rfl⟩, rfl⟩
  · obtain rfl := List.mem_singleton.1 hid
    refine ⟨Nat × Nat × Nat, st, inv, fun x => l.length - x.1, ⟨fun s b h => h, by kernel_rfl, ?_⟩⟩
    rintro ⟨i, c1, c2⟩ ⟨hi, hlm, hr⟩
    simp only at hi hr
    show rIn1 _ _ l.length c1 m.length c2 (i : Int) (vi l) (vi m) _ _ _
    rw [rIn1_text]
    refine bc_dec (fun h => ?_) (fun h => ?_)
    · have h1 : i < l.length := by omega
      have h2 : i < m.length := by omega
      rw [List.drop_eq_getElem_cons h1, List.drop_eq_getElem_cons h2] at hr
      simp only [bc_t h, bc_t (show (i : Int) < (m.length : Int) by omega), bc_t (show (0 : Int) ≤ (i : Int) by omega), Int.toNat_natCast, at1 (vi_at l i h1), at1 (vi_at m i h2), eq_self, true_and, and_true]
      refine bc_bne (fun hc => ?_) (fun hc => ?_)
      · rw [bc_n hc]
        refine ⟨trivial, ?_⟩
        show _ = _
        rw [decide_eq_false (fun e => hc (List.cons.inj (hr.1 e)).1)]
      · refine ⟨bc_bne (fun h' => absurd hc h') (fun _ => trivial), ⟨i + 1, c1, c2⟩, ⟨by show i + 1 ≤ l.length; omega, hlm, ?_⟩, by show l.length - (i + 1) < l.length - i; omega, ?_⟩
        · show l = m ↔ l.drop (i + 1) = m.drop (i + 1)
          refine hr.trans ?_
          rw [hc]
          exact ⟨fun e => (List.cons.inj e).2, fun e => by rw [e]⟩
        · rw [w64 (by omega) (by omega)]; rfl
    · show (if 0 = 0 then _ else _)
      rw [if_pos rfl]
      show nIn2 _ _ _
      rw [nIn2_text]
      show _ = _
      have e1 : l.drop i = [] := List.drop_eq_nil_of_le (by omega)
      have e2 : m.drop i = [] := List.drop_eq_nil_of_le (by omega)
      rw [decide_eq_true (hr.2 (by rw [e1, e2]))]
theorem conSS (nm : List UInt8) (l : List Int) (hl : l.length < 1000000000) : C5 9 [scD nm l, scD nm l] [dB true] := by
  refine con_flat hokY mixed Tryz.func9 rfl (by show 2 ≤ 400; omega) rfl (by kernel_rfl) (fun caps => ?_)
  show gSS _ _ (bs nm) l.length (caps 500) (vi l) (bs nm) l.length (caps 501) (vi l) _
  rw [gSS_text]
  have c := conIn l l hl
  rw [decide_eq_true rfl] at c
  simp only [beq_self_eq_true, bcT', vi_whole, bc_t (v1le l)]
  exact .inl ⟨⟨c⟩, trivial⟩
theorem conSSo (nm : List UInt8) : C5 9 [.agg [dS nm, .nil], .agg [dS nm, .nil]] [dB true] := by
  refine con_flat hokX mixed Tryz.func9 rfl (by show 0 ≤ 400; omega) rfl (by kernel_rfl) (fun caps => ?_)
  show gSSo _ _ (bs nm) (bs nm) _
  rw [gSSo_text]
  simp only [beq_self_eq_true, bcT']
theorem conSR (r : Ru) (hl : r.ss.length < 1000000000) : C5 10 [r.d, r.d] [dB true] := by
  let inv : Nat × Nat × Nat → Prop := fun x => x.1 ≤ r.ss.length
  let st : Nat × Nat × Nat → Slots × Blocks := fun x => zSR1 x.1 r.w r.st r.fi r.hlo r.hhi r.co r.ss.length x.2.1 r.slo r.shi r.flo r.fhi r.w r.st r.fi r.hlo r.hhi r.co r.ss.length x.2.2 r.slo r.shi r.flo r.fhi (vs5 r.ss) (vs5 r.ss)
  refine con_of (L := fun _ s b => ∃ x, inv x ∧ st x = (s, b)) hokX mixed Tryz.func10 rfl (by show 2 ≤ 400; omega) rfl (ids := [0]) (by kernel_rfl) rfl (fun caps => ?_) (fun id hid => ?_)
  · show gSR _ _ r.w r.st r.fi r.hlo r.hhi r.co r.ss.length (caps 500) (vs5 r.ss) r.slo r.shi r.flo r.fhi r.w r.st r.fi r.hlo r.hhi r.co r.ss.length (caps 501) (vs5 r.ss) r.slo r.shi r.flo r.fhi _
    rw [gSR_text]
    simp only [bc_nf, beq_self_eq_true, Bool.and_self, Bool.not_true, if_true, bcF', Qv, eq_self, true_and, and_true]
    exact ⟨(0, caps 500, caps 501), Nat.zero_le _, rfl⟩
  · obtain rfl := List.mem_singleton.1 hid
    refine ⟨_, st, inv, fun x => r.ss.length - x.1, ⟨fun s b h => h, by kernel_rfl, ?_⟩⟩
    rintro ⟨i, c1, c2⟩ hi
    have hi : i ≤ r.ss.length := hi
    show rSR1 _ _ (i : Int) r.w r.st r.fi r.hlo r.hhi r.co r.ss.length c1 r.slo r.shi r.flo r.fhi r.w r.st r.fi r.hlo r.hhi r.co r.ss.length c2 r.slo r.shi r.flo r.fhi (vs5 r.ss) (vs5 r.ss) _ _ _
    rw [rSR1_text]
    refine bc_dec (fun h => ?_) (fun h => ?_)
    · have h2 : i < r.ss.length := by omega
      simp only [bc_t (show (0 : Int) ≤ (i : Int) by omega), bc_t h, Int.toNat_natCast, at5 (vs5_all r.ss i h2), beq_self_eq_true, Bool.and_self, Bool.not_true, if_true, bcF', Qv, Qft, Qtf, eq_self, true_and, and_true]
      refine ⟨(i + 1, c1, c2), h2, by show r.ss.length - (i + 1) < r.ss.length - i; omega, ?_⟩
      rw [w64 (by omega) (by omega)]; rfl
    · show (if 0 = 0 then _ else _)
      rw [if_pos rfl]
      show nSR2 _ _ _
      rw [nSR2_text]
theorem conSRo : C5 10 [zR, zR] [dB true] := by
  refine con_of (L := fun _ s b => zSRo1 0 0 0 0 0 0 0 0 0 0 0 0 0 0 0 0 0 0 0 0 0 = (s, b)) hokX mixed Tryz.func10 rfl (by show 0 ≤ 400; omega) rfl (ids := [0]) (by kernel_rfl) rfl (fun caps => ?_) (fun id hid => ?_)
  · show gSRo _ _ 0 0 0 0 0 0 0 0 0 0 0 0 0 0 0 0 0 0 0 0 _
    rw [gSRo_text]
    simp only [bc_nf, beq_self_eq_true, Bool.and_self, Bool.not_true, if_true, bcF', Qv, eq_self, true_and, and_true]
  · obtain rfl := List.mem_singleton.1 hid
    refine ⟨Unit, fun _ => zSRo1 0 0 0 0 0 0 0 0 0 0 0 0 0 0 0 0 0 0 0 0 0, fun _ => True, fun _ => 0, ⟨fun s b h => ⟨(), trivial, h⟩, by kernel_rfl, ?_⟩⟩
    intro _ _
    show rSRo1 _ _ 0 0 0 0 0 0 0 0 0 0 0 0 0 0 0 0 0 0 0 0 0 _ _ _
    rw [rSRo1_text]
    refine bc_no (by decide) ?_
    show (if 0 = 0 then _ else _)
    rw [if_pos rfl]
    show nSRo2 _ _ _
    rw [nSRo2_text]
end Go.Proofs.G5m

/- What is left to show of each function, written out; the kernel reckons it. -/
namespace Go.Proofs.G5m
open Go Go.Abs Go.Proofs
set_option maxRecDepth 100000
set_option linter.unusedVariables false
def gLP (C : Ct) (L : AtLoop) (s0 : ByteArray) (s1 : ByteArray) (k : List D → Prop) : Prop := wpFn Tryz.prog (hX C) L 0 3 #[.string s0, .string s1] (heapOf []) (dataK k)
theorem gLP_text (C : Ct) (L : AtLoop) (s0 : ByteArray) (s1 : ByteArray) (k : List D → Prop) : gLP C L s0 s1 k =
 (((Says C 4 [] kT) ∧
 (bcase (decide ((↑(ByteArray.size s0) : Int) > 400))
 (k kT)
 (bcase (decide ((↑(ByteArray.size s1) : Int) > 400))
 (k kT)
 (∃ s2 : ByteArray,
 ((∃ n1 : Int,
 ((Says C 5 [(D.val (Value.string (s0)))] [(D.agg [(D.val (Value.string (s2))), D.nil]), (dI n1)]) ∧
 (∃ n2 : Int,
 (∃ n3 : Int,
 (∃ n4 : Int,
 (∃ n5 : Int,
 (∃ n6 : Int,
 (∃ n7 : Int,
 ((∃ n8 : Int,
 (∃ n9 : Int,
 (∃ n10 : Int,
 (∃ n11 : Int,
 (∃ n12 : Int,
 ((Says C 6 [(D.val (Value.string (s1)))] [(D.agg [(dI n2), (dI n3), (dI n4), (dI n5), (dI n6), (dI n7), D.nil, (dI n8), (dI n9), (dI n10), (dI n11)]), (dI n12)]) ∧
 (∃ s3 : ByteArray,
 ((∃ n13 : Int,
 ((Says C 7 [(D.val (Value.string (s0)))] [(D.agg [(D.val (Value.string (s3))), D.nil]), (dI n13)]) ∧
 (∃ n14 : Int,
 (∃ n15 : Int,
 (∃ n16 : Int,
 (∃ n17 : Int,
 (∃ n18 : Int,
 (∃ n19 : Int,
 ((∃ n20 : Int,
 (∃ n21 : Int,
 (∃ n22 : Int,
 (∃ n23 : Int,
 (∃ n24 : Int,
 ((Says C 8 [(D.val (Value.string (s1)))] [(D.agg [(dI n14), (dI n15), (dI n16), (dI n17), (dI n18), (dI n19), D.nil, (dI n20), (dI n21), (dI n22), (dI n23)]), (dI n24)]) ∧
 (bcase (n1 == n13)
 (((Says C 9 [(D.agg [(D.val (Value.string (s2))), D.nil]), (D.agg [(D.val (Value.string (s3))), D.nil])] kT) ∧
 (bcase (n12 == n24)
 (((Says C 10 [(D.agg [(dI n2), (dI n3), (dI n4), (dI n5), (dI n6), (dI n7), D.nil, (dI n8), (dI n9), (dI n10), (dI n11)]), (D.agg [(dI n14), (dI n15), (dI n16), (dI n17), (dI n18), (dI n19), D.nil, (dI n20), (dI n21), (dI n22), (dI n23)])] kT) ∧
 (k kT)) ∨
 ((Says C 10 [(D.agg [(dI n2), (dI n3), (dI n4), (dI n5), (dI n6), (dI n7), D.nil, (dI n8), (dI n9), (dI n10), (dI n11)]), (D.agg [(dI n14), (dI n15), (dI n16), (dI n17), (dI n18), (dI n19), D.nil, (dI n20), (dI n21), (dI n22), (dI n23)])] kF) ∧
 (k kF)))
 (k kF))) ∨
 ((Says C 9 [(D.agg [(D.val (Value.string (s2))), D.nil]), (D.agg [(D.val (Value.string (s3))), D.nil])] kF) ∧
 (k kF)))
 (k kF)))))))) ∨
 (∃ n20 : Nat,
 (∃ cs1 : List Go.Value,
 (∃ n21 : Int,
 (∃ n22 : Int,
 (∃ n23 : Int,
 (∃ n24 : Int,
 (∃ n25 : Int,
 ((Says C 8 [(D.val (Value.string (s1)))] [(D.agg [(dI n14), (dI n15), (dI n16), (dI n17), (dI n18), (dI n19), (D.sl (n20) 5 (cs1)), (dI n21), (dI n22), (dI n23), (dI n24)]), (dI n25)]) ∧
 (bcase (n1 == n13)
 (((Says C 9 [(D.agg [(D.val (Value.string (s2))), D.nil]), (D.agg [(D.val (Value.string (s3))), D.nil])] kT) ∧
 (bcase (n12 == n25)
 (bcase (dL n20 5 cs1)
 (((Says C 10 [(D.agg [(dI n2), (dI n3), (dI n4), (dI n5), (dI n6), (dI n7), D.nil, (dI n8), (dI n9), (dI n10), (dI n11)]), (D.agg [(dI n14), (dI n15), (dI n16), (dI n17), (dI n18), (dI n19), (Dw n20 5 cs1), (dI n21), (dI n22), (dI n23), (dI n24)])] kT) ∧
 (k kT)) ∨
 ((Says C 10 [(D.agg [(dI n2), (dI n3), (dI n4), (dI n5), (dI n6), (dI n7), D.nil, (dI n8), (dI n9), (dI n10), (dI n11)]), (D.agg [(dI n14), (dI n15), (dI n16), (dI n17), (dI n18), (dI n19), (Dw n20 5 cs1), (dI n21), (dI n22), (dI n23), (dI n24)])] kF) ∧
 (k kF)))
 False)
 (k kF))) ∨
 ((Says C 9 [(D.agg [(D.val (Value.string (s2))), D.nil]), (D.agg [(D.val (Value.string (s3))), D.nil])] kF) ∧
 (k kF)))
 (k kF))))))))))))))))))) ∨
 (∃ n13 : Nat,
 (∃ cs1 : List Go.Value,
 (∃ n14 : Int,
 ((Says C 7 [(D.val (Value.string (s0)))] [(D.agg [(D.val (Value.string (s3))), (D.sl (n13) 1 (cs1))]), (dI n14)]) ∧
 (∃ n15 : Int,
 (∃ n16 : Int,
 (∃ n17 : Int,
 (∃ n18 : Int,
 (∃ n19 : Int,
 (∃ n20 : Int,
 ((∃ n21 : Int,
 (∃ n22 : Int,
 (∃ n23 : Int,
 (∃ n24 : Int,
 (∃ n25 : Int,
 ((Says C 8 [(D.val (Value.string (s1)))] [(D.agg [(dI n15), (dI n16), (dI n17), (dI n18), (dI n19), (dI n20), D.nil, (dI n21), (dI n22), (dI n23), (dI n24)]), (dI n25)]) ∧
 (bcase (n1 == n14)
 (bcase (dL n13 1 cs1)
 (((Says C 9 [(D.agg [(D.val (Value.string (s2))), D.nil]), (D.agg [(D.val (Value.string (s3))), (Dw n13 1 cs1)])] kT) ∧
 (bcase (n12 == n25)
 (((Says C 10 [(D.agg [(dI n2), (dI n3), (dI n4), (dI n5), (dI n6), (dI n7), D.nil, (dI n8), (dI n9), (dI n10), (dI n11)]), (D.agg [(dI n15), (dI n16), (dI n17), (dI n18), (dI n19), (dI n20), D.nil, (dI n21), (dI n22), (dI n23), (dI n24)])] kT) ∧
 (k kT)) ∨
 ((Says C 10 [(D.agg [(dI n2), (dI n3), (dI n4), (dI n5), (dI n6), (dI n7), D.nil, (dI n8), (dI n9), (dI n10), (dI n11)]), (D.agg [(dI n15), (dI n16), (dI n17), (dI n18), (dI n19), (dI n20), D.nil, (dI n21), (dI n22), (dI n23), (dI n24)])] kF) ∧
 (k kF)))
 (k kF))) ∨
 ((Says C 9 [(D.agg [(D.val (Value.string (s2))), D.nil]), (D.agg [(D.val (Value.string (s3))), (Dw n13 1 cs1)])] kF) ∧
 (k kF)))
 False)
 (k kF)))))))) ∨
 (∃ n21 : Nat,
 (∃ cs2 : List Go.Value,
 (∃ n22 : Int,
 (∃ n23 : Int,
 (∃ n24 : Int,
 (∃ n25 : Int,
 (∃ n26 : Int,
 ((Says C 8 [(D.val (Value.string (s1)))] [(D.agg [(dI n15), (dI n16), (dI n17), (dI n18), (dI n19), (dI n20), (D.sl (n21) 5 (cs2)), (dI n22), (dI n23), (dI n24), (dI n25)]), (dI n26)]) ∧
 (bcase (n1 == n14)
 (bcase (dL n13 1 cs1)
 (((Says C 9 [(D.agg [(D.val (Value.string (s2))), D.nil]), (D.agg [(D.val (Value.string (s3))), (Dw n13 1 cs1)])] kT) ∧
 (bcase (n12 == n26)
 (bcase (dL n21 5 cs2)
 (((Says C 10 [(D.agg [(dI n2), (dI n3), (dI n4), (dI n5), (dI n6), (dI n7), D.nil, (dI n8), (dI n9), (dI n10), (dI n11)]), (D.agg [(dI n15), (dI n16), (dI n17), (dI n18), (dI n19), (dI n20), (Dw n21 5 cs2), (dI n22), (dI n23), (dI n24), (dI n25)])] kT) ∧
 (k kT)) ∨
 ((Says C 10 [(D.agg [(dI n2), (dI n3), (dI n4), (dI n5), (dI n6), (dI n7), D.nil, (dI n8), (dI n9), (dI n10), (dI n11)]), (D.agg [(dI n15), (dI n16), (dI n17), (dI n18), (dI n19), (dI n20), (Dw n21 5 cs2), (dI n22), (dI n23), (dI n24), (dI n25)])] kF) ∧
 (k kF)))
 False)
 (k kF))) ∨
 ((Says C 9 [(D.agg [(D.val (Value.string (s2))), D.nil]), (D.agg [(D.val (Value.string (s3))), (Dw n13 1 cs1)])] kF) ∧
 (k kF)))
 False)
 (k kF))))))))))))))))))))))))))))) ∨
 (∃ n8 : Nat,
 (∃ cs1 : List Go.Value,
 (∃ n9 : Int,
 (∃ n10 : Int,
 (∃ n11 : Int,
 (∃ n12 : Int,
 (∃ n13 : Int,
 ((Says C 6 [(D.val (Value.string (s1)))] [(D.agg [(dI n2), (dI n3), (dI n4), (dI n5), (dI n6), (dI n7), (D.sl (n8) 5 (cs1)), (dI n9), (dI n10), (dI n11), (dI n12)]), (dI n13)]) ∧
 (∃ s3 : ByteArray,
 ((∃ n14 : Int,
 ((Says C 7 [(D.val (Value.string (s0)))] [(D.agg [(D.val (Value.string (s3))), D.nil]), (dI n14)]) ∧
 (∃ n15 : Int,
 (∃ n16 : Int,
 (∃ n17 : Int,
 (∃ n18 : Int,
 (∃ n19 : Int,
 (∃ n20 : Int,
 ((∃ n21 : Int,
 (∃ n22 : Int,
 (∃ n23 : Int,
 (∃ n24 : Int,
 (∃ n25 : Int,
 ((Says C 8 [(D.val (Value.string (s1)))] [(D.agg [(dI n15), (dI n16), (dI n17), (dI n18), (dI n19), (dI n20), D.nil, (dI n21), (dI n22), (dI n23), (dI n24)]), (dI n25)]) ∧
 (bcase (n1 == n14)
 (((Says C 9 [(D.agg [(D.val (Value.string (s2))), D.nil]), (D.agg [(D.val (Value.string (s3))), D.nil])] kT) ∧
 (bcase (n13 == n25)
 (bcase (dL n8 5 cs1)
 (((Says C 10 [(D.agg [(dI n2), (dI n3), (dI n4), (dI n5), (dI n6), (dI n7), (Dw n8 5 cs1), (dI n9), (dI n10), (dI n11), (dI n12)]), (D.agg [(dI n15), (dI n16), (dI n17), (dI n18), (dI n19), (dI n20), D.nil, (dI n21), (dI n22), (dI n23), (dI n24)])] kT) ∧
 (k kT)) ∨
 ((Says C 10 [(D.agg [(dI n2), (dI n3), (dI n4), (dI n5), (dI n6), (dI n7), (Dw n8 5 cs1), (dI n9), (dI n10), (dI n11), (dI n12)]), (D.agg [(dI n15), (dI n16), (dI n17), (dI n18), (dI n19), (dI n20), D.nil, (dI n21), (dI n22), (dI n23), (dI n24)])] kF) ∧
 (k kF)))
 False)
 (k kF))) ∨
 ((Says C 9 [(D.agg [(D.val (Value.string (s2))), D.nil]), (D.agg [(D.val (Value.string (s3))), D.nil])] kF) ∧
 (k kF)))
 (k kF)))))))) ∨
 (∃ n21 : Nat,
 (∃ cs2 : List Go.Value,
 (∃ n22 : Int,
 (∃ n23 : Int,
 (∃ n24 : Int,
 (∃ n25 : Int,
 (∃ n26 : Int,
 ((Says C 8 [(D.val (Value.string (s1)))] [(D.agg [(dI n15), (dI n16), (dI n17), (dI n18), (dI n19), (dI n20), (D.sl (n21) 5 (cs2)), (dI n22), (dI n23), (dI n24), (dI n25)]), (dI n26)]) ∧
 (bcase (n1 == n14)
 (((Says C 9 [(D.agg [(D.val (Value.string (s2))), D.nil]), (D.agg [(D.val (Value.string (s3))), D.nil])] kT) ∧
 (bcase (n13 == n26)
 (bcase (dL n8 5 cs1)
 (bcase (dL n21 5 cs2)
 (((Says C 10 [(D.agg [(dI n2), (dI n3), (dI n4), (dI n5), (dI n6), (dI n7), (Dw n8 5 cs1), (dI n9), (dI n10), (dI n11), (dI n12)]), (D.agg [(dI n15), (dI n16), (dI n17), (dI n18), (dI n19), (dI n20), (Dw n21 5 cs2), (dI n22), (dI n23), (dI n24), (dI n25)])] kT) ∧
 (k kT)) ∨
 ((Says C 10 [(D.agg [(dI n2), (dI n3), (dI n4), (dI n5), (dI n6), (dI n7), (Dw n8 5 cs1), (dI n9), (dI n10), (dI n11), (dI n12)]), (D.agg [(dI n15), (dI n16), (dI n17), (dI n18), (dI n19), (dI n20), (Dw n21 5 cs2), (dI n22), (dI n23), (dI n24), (dI n25)])] kF) ∧
 (k kF)))
 False)
 False)
 (k kF))) ∨
 ((Says C 9 [(D.agg [(D.val (Value.string (s2))), D.nil]), (D.agg [(D.val (Value.string (s3))), D.nil])] kF) ∧
 (k kF)))
 (k kF))))))))))))))))))) ∨
 (∃ n14 : Nat,
 (∃ cs2 : List Go.Value,
 (∃ n15 : Int,
 ((Says C 7 [(D.val (Value.string (s0)))] [(D.agg [(D.val (Value.string (s3))), (D.sl (n14) 1 (cs2))]), (dI n15)]) ∧
 (∃ n16 : Int,
 (∃ n17 : Int,
 (∃ n18 : Int,
 (∃ n19 : Int,
 (∃ n20 : Int,
 (∃ n21 : Int,
 ((∃ n22 : Int,
 (∃ n23 : Int,
 (∃ n24 : Int,
 (∃ n25 : Int,
 (∃ n26 : Int,
 ((Says C 8 [(D.val (Value.string (s1)))] [(D.agg [(dI n16), (dI n17), (dI n18), (dI n19), (dI n20), (dI n21), D.nil, (dI n22), (dI n23), (dI n24), (dI n25)]), (dI n26)]) ∧
 (bcase (n1 == n15)
 (bcase (dL n14 1 cs2)
 (((Says C 9 [(D.agg [(D.val (Value.string (s2))), D.nil]), (D.agg [(D.val (Value.string (s3))), (Dw n14 1 cs2)])] kT) ∧
 (bcase (n13 == n26)
 (bcase (dL n8 5 cs1)
 (((Says C 10 [(D.agg [(dI n2), (dI n3), (dI n4), (dI n5), (dI n6), (dI n7), (Dw n8 5 cs1), (dI n9), (dI n10), (dI n11), (dI n12)]), (D.agg [(dI n16), (dI n17), (dI n18), (dI n19), (dI n20), (dI n21), D.nil, (dI n22), (dI n23), (dI n24), (dI n25)])] kT) ∧
 (k kT)) ∨
 ((Says C 10 [(D.agg [(dI n2), (dI n3), (dI n4), (dI n5), (dI n6), (dI n7), (Dw n8 5 cs1), (dI n9), (dI n10), (dI n11), (dI n12)]), (D.agg [(dI n16), (dI n17), (dI n18), (dI n19), (dI n20), (dI n21), D.nil, (dI n22), (dI n23), (dI n24), (dI n25)])] kF) ∧
 (k kF)))
 False)
 (k kF))) ∨
 ((Says C 9 [(D.agg [(D.val (Value.string (s2))), D.nil]), (D.agg [(D.val (Value.string (s3))), (Dw n14 1 cs2)])] kF) ∧
 (k kF)))
 False)
 (k kF)))))))) ∨
 (∃ n22 : Nat,
 (∃ cs3 : List Go.Value,
 (∃ n23 : Int,
 (∃ n24 : Int,
 (∃ n25 : Int,
 (∃ n26 : Int,
 (∃ n27 : Int,
 ((Says C 8 [(D.val (Value.string (s1)))] [(D.agg [(dI n16), (dI n17), (dI n18), (dI n19), (dI n20), (dI n21), (D.sl (n22) 5 (cs3)), (dI n23), (dI n24), (dI n25), (dI n26)]), (dI n27)]) ∧
 (bcase (n1 == n15)
 (bcase (dL n14 1 cs2)
 (((Says C 9 [(D.agg [(D.val (Value.string (s2))), D.nil]), (D.agg [(D.val (Value.string (s3))), (Dw n14 1 cs2)])] kT) ∧
 (bcase (n13 == n27)
 (bcase (dL n8 5 cs1)
 (bcase (dL n22 5 cs3)
 (((Says C 10 [(D.agg [(dI n2), (dI n3), (dI n4), (dI n5), (dI n6), (dI n7), (Dw n8 5 cs1), (dI n9), (dI n10), (dI n11), (dI n12)]), (D.agg [(dI n16), (dI n17), (dI n18), (dI n19), (dI n20), (dI n21), (Dw n22 5 cs3), (dI n23), (dI n24), (dI n25), (dI n26)])] kT) ∧
 (k kT)) ∨
 ((Says C 10 [(D.agg [(dI n2), (dI n3), (dI n4), (dI n5), (dI n6), (dI n7), (Dw n8 5 cs1), (dI n9), (dI n10), (dI n11), (dI n12)]), (D.agg [(dI n16), (dI n17), (dI n18), (dI n19), (dI n20), (dI n21), (Dw n22 5 cs3), (dI n23), (dI n24), (dI n25), (dI n26)])] kF) ∧
 (k kF)))
 False)
 False)
 (k kF))) ∨
 ((Says C 9 [(D.agg [(D.val (Value.string (s2))), D.nil]), (D.agg [(D.val (Value.string (s3))), (Dw n14 1 cs2)])] kF) ∧
 (k kF)))
 False)
 (k kF)))))))))))))))))))))))))))))))))))))))) ∨
 (∃ n1 : Nat,
 (∃ cs1 : List Go.Value,
 (∃ n2 : Int,
 ((Says C 5 [(D.val (Value.string (s0)))] [(D.agg [(D.val (Value.string (s2))), (D.sl (n1) 1 (cs1))]), (dI n2)]) ∧
 (∃ n3 : Int,
 (∃ n4 : Int,
 (∃ n5 : Int,
 (∃ n6 : Int,
 (∃ n7 : Int,
 (∃ n8 : Int,
 ((∃ n9 : Int,
 (∃ n10 : Int,
 (∃ n11 : Int,
 (∃ n12 : Int,
 (∃ n13 : Int,
 ((Says C 6 [(D.val (Value.string (s1)))] [(D.agg [(dI n3), (dI n4), (dI n5), (dI n6), (dI n7), (dI n8), D.nil, (dI n9), (dI n10), (dI n11), (dI n12)]), (dI n13)]) ∧
 (∃ s3 : ByteArray,
 ((∃ n14 : Int,
 ((Says C 7 [(D.val (Value.string (s0)))] [(D.agg [(D.val (Value.string (s3))), D.nil]), (dI n14)]) ∧
 (∃ n15 : Int,
 (∃ n16 : Int,
 (∃ n17 : Int,
 (∃ n18 : Int,
 (∃ n19 : Int,
 (∃ n20 : Int,
 ((∃ n21 : Int,
 (∃ n22 : Int,
 (∃ n23 : Int,
 (∃ n24 : Int,
 (∃ n25 : Int,
 ((Says C 8 [(D.val (Value.string (s1)))] [(D.agg [(dI n15), (dI n16), (dI n17), (dI n18), (dI n19), (dI n20), D.nil, (dI n21), (dI n22), (dI n23), (dI n24)]), (dI n25)]) ∧
 (bcase (n2 == n14)
 (bcase (dL n1 1 cs1)
 (((Says C 9 [(D.agg [(D.val (Value.string (s2))), (Dw n1 1 cs1)]), (D.agg [(D.val (Value.string (s3))), D.nil])] kT) ∧
 (bcase (n13 == n25)
 (((Says C 10 [(D.agg [(dI n3), (dI n4), (dI n5), (dI n6), (dI n7), (dI n8), D.nil, (dI n9), (dI n10), (dI n11), (dI n12)]), (D.agg [(dI n15), (dI n16), (dI n17), (dI n18), (dI n19), (dI n20), D.nil, (dI n21), (dI n22), (dI n23), (dI n24)])] kT) ∧
 (k kT)) ∨
 ((Says C 10 [(D.agg [(dI n3), (dI n4), (dI n5), (dI n6), (dI n7), (dI n8), D.nil, (dI n9), (dI n10), (dI n11), (dI n12)]), (D.agg [(dI n15), (dI n16), (dI n17), (dI n18), (dI n19), (dI n20), D.nil, (dI n21), (dI n22), (dI n23), (dI n24)])] kF) ∧
 (k kF)))
 (k kF))) ∨
 ((Says C 9 [(D.agg [(D.val (Value.string (s2))), (Dw n1 1 cs1)]), (D.agg [(D.val (Value.string (s3))), D.nil])] kF) ∧
 (k kF)))
 False)
 (k kF)))))))) ∨
 (∃ n21 : Nat,
 (∃ cs2 : List Go.Value,
 (∃ n22 : Int,
 (∃ n23 : Int,
 (∃ n24 : Int,
 (∃ n25 : Int,
 (∃ n26 : Int,
 ((Says C 8 [(D.val (Value.string (s1)))] [(D.agg [(dI n15), (dI n16), (dI n17), (dI n18), (dI n19), (dI n20), (D.sl (n21) 5 (cs2)), (dI n22), (dI n23), (dI n24), (dI n25)]), (dI n26)]) ∧
 (bcase (n2 == n14)
 (bcase (dL n1 1 cs1)
 (((Says C 9 [(D.agg [(D.val (Value.string (s2))), (Dw n1 1 cs1)]), (D.agg [(D.val (Value.string (s3))), D.nil])] kT) ∧
 (bcase (n13 == n26)
 (bcase (dL n21 5 cs2)
 (((Says C 10 [(D.agg [(dI n3), (dI n4), (dI n5), (dI n6), (dI n7), (dI n8), D.nil, (dI n9), (dI n10), (dI n11), (dI n12)]), (D.agg [(dI n15), (dI n16), (dI n17), (dI n18), (dI n19), (dI n20), (Dw n21 5 cs2), (dI n22), (dI n23), (dI n24), (dI n25)])] kT) ∧
 (k kT)) ∨
 ((Says C 10 [(D.agg [(dI n3), (dI n4), (dI n5), (dI n6), (dI n7), (dI n8), D.nil, (dI n9), (dI n10), (dI n11), (dI n12)]), (D.agg [(dI n15), (dI n16), (dI n17), (dI n18), (dI n19), (dI n20), (Dw n21 5 cs2), (dI n22), (dI n23), (dI n24), (dI n25)])] kF) ∧
 (k kF)))
 False)
 (k kF))) ∨
 ((Says C 9 [(D.agg [(D.val (Value.string (s2))), (Dw n1 1 cs1)]), (D.agg [(D.val (Value.string (s3))), D.nil])] kF) ∧
 (k kF)))
 False)
 (k kF))))))))))))))))))) ∨
 (∃ n14 : Nat,
 (∃ cs2 : List Go.Value,
 (∃ n15 : Int,
 ((Says C 7 [(D.val (Value.string (s0)))] [(D.agg [(D.val (Value.string (s3))), (D.sl (n14) 1 (cs2))]), (dI n15)]) ∧
 (∃ n16 : Int,
 (∃ n17 : Int,
 (∃ n18 : Int,
 (∃ n19 : Int,
 (∃ n20 : Int,
 (∃ n21 : Int,
 ((∃ n22 : Int,
 (∃ n23 : Int,
 (∃ n24 : Int,
 (∃ n25 : Int,
 (∃ n26 : Int,
 ((Says C 8 [(D.val (Value.string (s1)))] [(D.agg [(dI n16), (dI n17), (dI n18), (dI n19), (dI n20), (dI n21), D.nil, (dI n22), (dI n23), (dI n24), (dI n25)]), (dI n26)]) ∧
 (bcase (n2 == n15)
 (bcase (dL n1 1 cs1)
 (bcase (dL n14 1 cs2)
 (((Says C 9 [(D.agg [(D.val (Value.string (s2))), (Dw n1 1 cs1)]), (D.agg [(D.val (Value.string (s3))), (Dw n14 1 cs2)])] kT) ∧
 (bcase (n13 == n26)
 (((Says C 10 [(D.agg [(dI n3), (dI n4), (dI n5), (dI n6), (dI n7), (dI n8), D.nil, (dI n9), (dI n10), (dI n11), (dI n12)]), (D.agg [(dI n16), (dI n17), (dI n18), (dI n19), (dI n20), (dI n21), D.nil, (dI n22), (dI n23), (dI n24), (dI n25)])] kT) ∧
 (k kT)) ∨
 ((Says C 10 [(D.agg [(dI n3), (dI n4), (dI n5), (dI n6), (dI n7), (dI n8), D.nil, (dI n9), (dI n10), (dI n11), (dI n12)]), (D.agg [(dI n16), (dI n17), (dI n18), (dI n19), (dI n20), (dI n21), D.nil, (dI n22), (dI n23), (dI n24), (dI n25)])] kF) ∧
 (k kF)))
 (k kF))) ∨
 ((Says C 9 [(D.agg [(D.val (Value.string (s2))), (Dw n1 1 cs1)]), (D.agg [(D.val (Value.string (s3))), (Dw n14 1 cs2)])] kF) ∧
 (k kF)))
 False)
 False)
 (k kF)))))))) ∨
 (∃ n22 : Nat,
 (∃ cs3 : List Go.Value,
 (∃ n23 : Int,
 (∃ n24 : Int,
 (∃ n25 : Int,
 (∃ n26 : Int,
 (∃ n27 : Int,
 ((Says C 8 [(D.val (Value.string (s1)))] [(D.agg [(dI n16), (dI n17), (dI n18), (dI n19), (dI n20), (dI n21), (D.sl (n22) 5 (cs3)), (dI n23), (dI n24), (dI n25), (dI n26)]), (dI n27)]) ∧
 (bcase (n2 == n15)
 (bcase (dL n1 1 cs1)
 (bcase (dL n14 1 cs2)
 (((Says C 9 [(D.agg [(D.val (Value.string (s2))), (Dw n1 1 cs1)]), (D.agg [(D.val (Value.string (s3))), (Dw n14 1 cs2)])] kT) ∧
 (bcase (n13 == n27)
 (bcase (dL n22 5 cs3)
 (((Says C 10 [(D.agg [(dI n3), (dI n4), (dI n5), (dI n6), (dI n7), (dI n8), D.nil, (dI n9), (dI n10), (dI n11), (dI n12)]), (D.agg [(dI n16), (dI n17), (dI n18), (dI n19), (dI n20), (dI n21), (Dw n22 5 cs3), (dI n23), (dI n24), (dI n25), (dI n26)])] kT) ∧
 (k kT)) ∨
 ((Says C 10 [(D.agg [(dI n3), (dI n4), (dI n5), (dI n6), (dI n7), (dI n8), D.nil, (dI n9), (dI n10), (dI n11), (dI n12)]), (D.agg [(dI n16), (dI n17), (dI n18), (dI n19), (dI n20), (dI n21), (Dw n22 5 cs3), (dI n23), (dI n24), (dI n25), (dI n26)])] kF) ∧
 (k kF)))
 False)
 (k kF))) ∨
 ((Says C 9 [(D.agg [(D.val (Value.string (s2))), (Dw n1 1 cs1)]), (D.agg [(D.val (Value.string (s3))), (Dw n14 1 cs2)])] kF) ∧
 (k kF)))
 False)
 False)
 (k kF))))))))))))))))))))))))))))) ∨
 (∃ n9 : Nat,
 (∃ cs2 : List Go.Value,
 (∃ n10 : Int,
 (∃ n11 : Int,
 (∃ n12 : Int,
 (∃ n13 : Int,
 (∃ n14 : Int,
 ((Says C 6 [(D.val (Value.string (s1)))] [(D.agg [(dI n3), (dI n4), (dI n5), (dI n6), (dI n7), (dI n8), (D.sl (n9) 5 (cs2)), (dI n10), (dI n11), (dI n12), (dI n13)]), (dI n14)]) ∧
 (∃ s3 : ByteArray,
 ((∃ n15 : Int,
 ((Says C 7 [(D.val (Value.string (s0)))] [(D.agg [(D.val (Value.string (s3))), D.nil]), (dI n15)]) ∧
 (∃ n16 : Int,
 (∃ n17 : Int,
 (∃ n18 : Int,
 (∃ n19 : Int,
 (∃ n20 : Int,
 (∃ n21 : Int,
 ((∃ n22 : Int,
 (∃ n23 : Int,
 (∃ n24 : Int,
 (∃ n25 : Int,
 (∃ n26 : Int,
 ((Says C 8 [(D.val (Value.string (s1)))] [(D.agg [(dI n16), (dI n17), (dI n18), (dI n19), (dI n20), (dI n21), D.nil, (dI n22), (dI n23), (dI n24), (dI n25)]), (dI n26)]) ∧
 (bcase (n2 == n15)
 (bcase (dL n1 1 cs1)
 (((Says C 9 [(D.agg [(D.val (Value.string (s2))), (Dw n1 1 cs1)]), (D.agg [(D.val (Value.string (s3))), D.nil])] kT) ∧
 (bcase (n14 == n26)
 (bcase (dL n9 5 cs2)
 (((Says C 10 [(D.agg [(dI n3), (dI n4), (dI n5), (dI n6), (dI n7), (dI n8), (Dw n9 5 cs2), (dI n10), (dI n11), (dI n12), (dI n13)]), (D.agg [(dI n16), (dI n17), (dI n18), (dI n19), (dI n20), (dI n21), D.nil, (dI n22), (dI n23), (dI n24), (dI n25)])] kT) ∧
 (k kT)) ∨
 ((Says C 10 [(D.agg [(dI n3), (dI n4), (dI n5), (dI n6), (dI n7), (dI n8), (Dw n9 5 cs2), (dI n10), (dI n11), (dI n12), (dI n13)]), (D.agg [(dI n16), (dI n17), (dI n18), (dI n19), (dI n20), (dI n21), D.nil, (dI n22), (dI n23), (dI n24), (dI n25)])] kF) ∧
 (k kF)))
 False)
 (k kF))) ∨
 ((Says C 9 [(D.agg [(D.val (Value.string (s2))), (Dw n1 1 cs1)]), (D.agg [(D.val (Value.string (s3))), D.nil])] kF) ∧
 (k kF)))
 False)
 (k kF)))))))) ∨
 (∃ n22 : Nat,
 (∃ cs3 : List Go.Value,
 (∃ n23 : Int,
 (∃ n24 : Int,
 (∃ n25 : Int,
 (∃ n26 : Int,
 (∃ n27 : Int,
 ((Says C 8 [(D.val (Value.string (s1)))] [(D.agg [(dI n16), (dI n17), (dI n18), (dI n19), (dI n20), (dI n21), (D.sl (n22) 5 (cs3)), (dI n23), (dI n24), (dI n25), (dI n26)]), (dI n27)]) ∧
 (bcase (n2 == n15)
 (bcase (dL n1 1 cs1)
 (((Says C 9 [(D.agg [(D.val (Value.string (s2))), (Dw n1 1 cs1)]), (D.agg [(D.val (Value.string (s3))), D.nil])] kT) ∧
 (bcase (n14 == n27)
 (bcase (dL n9 5 cs2)
 (bcase (dL n22 5 cs3)
 (((Says C 10 [(D.agg [(dI n3), (dI n4), (dI n5), (dI n6), (dI n7), (dI n8), (Dw n9 5 cs2), (dI n10), (dI n11), (dI n12), (dI n13)]), (D.agg [(dI n16), (dI n17), (dI n18), (dI n19), (dI n20), (dI n21), (Dw n22 5 cs3), (dI n23), (dI n24), (dI n25), (dI n26)])] kT) ∧
 (k kT)) ∨
 ((Says C 10 [(D.agg [(dI n3), (dI n4), (dI n5), (dI n6), (dI n7), (dI n8), (Dw n9 5 cs2), (dI n10), (dI n11), (dI n12), (dI n13)]), (D.agg [(dI n16), (dI n17), (dI n18), (dI n19), (dI n20), (dI n21), (Dw n22 5 cs3), (dI n23), (dI n24), (dI n25), (dI n26)])] kF) ∧
 (k kF)))
 False)
 False)
 (k kF))) ∨
 ((Says C 9 [(D.agg [(D.val (Value.string (s2))), (Dw n1 1 cs1)]), (D.agg [(D.val (Value.string (s3))), D.nil])] kF) ∧
 (k kF)))
 False)
 (k kF))))))))))))))))))) ∨
 (∃ n15 : Nat,
 (∃ cs3 : List Go.Value,
 (∃ n16 : Int,
 ((Says C 7 [(D.val (Value.string (s0)))] [(D.agg [(D.val (Value.string (s3))), (D.sl (n15) 1 (cs3))]), (dI n16)]) ∧
 (∃ n17 : Int,
 (∃ n18 : Int,
 (∃ n19 : Int,
 (∃ n20 : Int,
 (∃ n21 : Int,
 (∃ n22 : Int,
 ((∃ n23 : Int,
 (∃ n24 : Int,
 (∃ n25 : Int,
 (∃ n26 : Int,
 (∃ n27 : Int,
 ((Says C 8 [(D.val (Value.string (s1)))] [(D.agg [(dI n17), (dI n18), (dI n19), (dI n20), (dI n21), (dI n22), D.nil, (dI n23), (dI n24), (dI n25), (dI n26)]), (dI n27)]) ∧
 (bcase (n2 == n16)
 (bcase (dL n1 1 cs1)
 (bcase (dL n15 1 cs3)
 (((Says C 9 [(D.agg [(D.val (Value.string (s2))), (Dw n1 1 cs1)]), (D.agg [(D.val (Value.string (s3))), (Dw n15 1 cs3)])] kT) ∧
 (bcase (n14 == n27)
 (bcase (dL n9 5 cs2)
 (((Says C 10 [(D.agg [(dI n3), (dI n4), (dI n5), (dI n6), (dI n7), (dI n8), (Dw n9 5 cs2), (dI n10), (dI n11), (dI n12), (dI n13)]), (D.agg [(dI n17), (dI n18), (dI n19), (dI n20), (dI n21), (dI n22), D.nil, (dI n23), (dI n24), (dI n25), (dI n26)])] kT) ∧
 (k kT)) ∨
 ((Says C 10 [(D.agg [(dI n3), (dI n4), (dI n5), (dI n6), (dI n7), (dI n8), (Dw n9 5 cs2), (dI n10), (dI n11), (dI n12), (dI n13)]), (D.agg [(dI n17), (dI n18), (dI n19), (dI n20), (dI n21), (dI n22), D.nil, (dI n23), (dI n24), (dI n25), (dI n26)])] kF) ∧
 (k kF)))
 False)
 (k kF))) ∨
 ((Says C 9 [(D.agg [(D.val (Value.string (s2))), (Dw n1 1 cs1)]), (D.agg [(D.val (Value.string (s3))), (Dw n15 1 cs3)])] kF) ∧
 (k kF)))
 False)
 False)
 (k kF)))))))) ∨
 (∃ n23 : Nat,
 (∃ cs4 : List Go.Value,
 (∃ n24 : Int,
 (∃ n25 : Int,
 (∃ n26 : Int,
 (∃ n27 : Int,
 (∃ n28 : Int,
 ((Says C 8 [(D.val (Value.string (s1)))] [(D.agg [(dI n17), (dI n18), (dI n19), (dI n20), (dI n21), (dI n22), (D.sl (n23) 5 (cs4)), (dI n24), (dI n25), (dI n26), (dI n27)]), (dI n28)]) ∧
 (bcase (n2 == n16)
 (bcase (dL n1 1 cs1)
 (bcase (dL n15 1 cs3)
 (((Says C 9 [(D.agg [(D.val (Value.string (s2))), (Dw n1 1 cs1)]), (D.agg [(D.val (Value.string (s3))), (Dw n15 1 cs3)])] kT) ∧
 (bcase (n14 == n28)
 (bcase (dL n9 5 cs2)
 (bcase (dL n23 5 cs4)
 (((Says C 10 [(D.agg [(dI n3), (dI n4), (dI n5), (dI n6), (dI n7), (dI n8), (Dw n9 5 cs2), (dI n10), (dI n11), (dI n12), (dI n13)]), (D.agg [(dI n17), (dI n18), (dI n19), (dI n20), (dI n21), (dI n22), (Dw n23 5 cs4), (dI n24), (dI n25), (dI n26), (dI n27)])] kT) ∧
 (k kT)) ∨
 ((Says C 10 [(D.agg [(dI n3), (dI n4), (dI n5), (dI n6), (dI n7), (dI n8), (Dw n9 5 cs2), (dI n10), (dI n11), (dI n12), (dI n13)]), (D.agg [(dI n17), (dI n18), (dI n19), (dI n20), (dI n21), (dI n22), (Dw n23 5 cs4), (dI n24), (dI n25), (dI n26), (dI n27)])] kF) ∧
 (k kF)))
 False)
 False)
 (k kF))) ∨
 ((Says C 9 [(D.agg [(D.val (Value.string (s2))), (Dw n1 1 cs1)]), (D.agg [(D.val (Value.string (s3))), (Dw n15 1 cs3)])] kF) ∧
 (k kF)))
 False)
 False)
 (k kF))))))))))))))))))))))))))))))))))))))))))))))) ∨
 ((Says C 4 [] kF) ∧
 (k kF))) := by kernel_rfl
end Go.Proofs.G5m

/- Chapter 3: what the reference gives back, in data. -/
namespace Go.Proofs.G5m
open Go Go.Abs Go.Proofs Go.Str
set_option maxRecDepth 100000
/-- the thickness before a stand -/
def bfr (b : Int) (th : List Int) : Nat → Int
  | 0 => b
  | i + 1 => th.getD i 0
/-- thicknesses descend -/
def Desc : Int → List Int → Prop
  | _, [] => True
  | b, h :: l => (1 ≤ h ∧ h ≤ 1000) ∧ h ≤ b ∧ Desc h l
theorem desc_at : ∀ {l : List Int} {b : Int} (i : Nat) (hi : i < l.length), Desc b l → 1 ≤ b ∧ b ≤ 1000 → (1 ≤ l[i] ∧ l[i] ≤ 1000) ∧ l[i] ≤ bfr b l i ∧ 1 ≤ bfr b l i ∧ bfr b l i ≤ 1000
  | h :: l, b, 0, _, d, hb => ⟨d.1, d.2.1, hb⟩
  | h :: l, b, i + 1, hi, d, hb => by
    have hi' : i < l.length := by simpa using hi
    have := desc_at i hi' d.2.2 d.1
    have e : bfr b (h :: l) (i + 1) = bfr h l i := by cases i <;> simp [bfr]
    rw [e]; exact this
structure VS (r : Ru) (th : List Int) : Prop where
  rng : rngB r
  ord : ordB r
  n0 : 0 < r.ss.length
  n6 : r.ss.length ≤ 6
  len : th.length = r.ss.length
  desc : Desc r.st th
theorem VS.at {r : Ru} {th : List Int} (v : VS r th) {i : Nat} (hi : i < th.length) : (1 ≤ th[i] ∧ th[i] ≤ 1000) ∧ th[i] ≤ bfr r.st th i ∧ 1 ≤ bfr r.st th i ∧ bfr r.st th i ≤ 1000 := desc_at i hi v.desc v.rng.2.1.1
end Go.Proofs.G5m

/- Chapter 3: loads and margins of a draught, in data. -/
namespace Go.Proofs.G5m
open Go Go.Abs Go.Proofs Go.Str
set_option maxRecDepth 100000
/-- a draught of valid rules -/
structure DrOK (r : Ru) (k : Nat) (b h : Int) : Prop where
  rng : rngB r
  sts : ∀ s ∈ r.ss, stB s
  k : k < r.ss.length
  n : r.ss.length ≤ 6
  h1 : 1 ≤ h
  hb : h ≤ b
  b1 : b ≤ 1000
abbrev drD (k : Nat) (b h : Int) : D := .agg [dI k, dI b, dI h]
theorem mulB {a b : Int} (A B : Int) (ha : 0 ≤ a ∧ a ≤ A) (hb : 0 ≤ b ∧ b ≤ B) : 0 ≤ a * b ∧ a * b ≤ A * B :=
  ⟨Int.mul_nonneg ha.1 hb.1, Int.mul_le_mul ha.2 hb.2 hb.1 (by omega)⟩
theorem mulS {a b : Int} (A B : Int) (ha : -A ≤ a ∧ a ≤ A) (hb : 0 ≤ b ∧ b ≤ B) : -(A * B) ≤ a * b ∧ a * b ≤ A * B := by
  have hA : 0 ≤ A := by omega
  by_cases h : 0 ≤ a
  · have := mulB A B ⟨h, ha.2⟩ hb; have h2 : 0 ≤ A * B := Int.mul_nonneg hA (by omega); omega
  · have := mulB (a := -a) (b := b) A B ⟨by omega, by omega⟩ hb
    have h2 : 0 ≤ A * B := Int.mul_nonneg hA (by omega)
    rw [Int.neg_mul] at this; omega
def frc (w b h s f : Int) : Int := if b = h then 0 else w * (s * (b - h) + f * (b + h))
theorem frc_bd {w b h s f : Int} (hw : 1 ≤ w ∧ w ≤ 2500) (h1 : 1 ≤ h) (hb : h ≤ b) (b1 : b ≤ 1000) (hs : 0 ≤ s ∧ s ≤ 100) (hf : 0 ≤ f ∧ f ≤ 100) : (0 ≤ s * (b - h) ∧ s * (b - h) ≤ 100000) ∧ (0 ≤ f * (b + h) ∧ f * (b + h) ≤ 200000) ∧ (0 ≤ w * (s * (b - h) + f * (b + h)) ∧ w * (s * (b - h) + f * (b + h)) ≤ 750000000) ∧ 0 ≤ frc w b h s f ∧ frc w b h s f ≤ 750000000 := by
  have e1 := mulB (a := s) (b := b - h) 100 1000 hs (by omega)
  have e2 := mulB (a := f) (b := b + h) 100 2000 hf (by omega)
  have e3 := mulB (a := w) (b := s * (b - h) + f * (b + h)) 2500 300000 (by omega) (by omega)
  refine ⟨by omega, by omega, by omega, ?_⟩
  unfold frc; split <;> omega
theorem confB (r : Ru) (k : Nat) (b h s f : Int) (v : DrOK r k b h) (hs : 0 ≤ s ∧ s ≤ 100) (hf : 0 ≤ f ∧ f ≤ 100) : C5 99 [r.d, drD k b h, dI s, dI f] [dI (frc r.w b h s f)] := by
  refine con_flat hokP mixed Tryz.func99 rfl (by show 1 ≤ 400; omega) rfl (by kernel_rfl) (fun caps => ?_)
  show gfB _ _ r.w r.st r.fi r.hlo r.hhi r.co r.ss.length (caps 500) (vs5 r.ss) r.slo r.shi r.flo r.fhi (k : Int) b h s f _
  rw [gfB_text]
  have hw := v.rng.1
  have h1 := v.h1
  have h2 := v.hb
  have h3 := v.b1
  have e := frc_bd hw h1 h2 h3 hs hf
  refine bc_beq (fun g => ?_) (fun g => ?_)
  · show [dI 0] = _; rw [frc, if_pos g]
  · rw [w64 (z := b - h) (by omega) (by omega), w64 (z := s * (b - h)) (by omega) (by omega), w64 (z := b + h) (by omega) (by omega), w64 (z := f * (b + h)) (by omega) (by omega), w64 (z := s * (b - h) + f * (b + h)) (by omega) (by omega), w64 (by omega) (by omega)]
    simp only [Qv, true_and]
    rw [frc, if_neg g]
theorem DrOK.sl {r : Ru} {k : Nat} {b h : Int} (v : DrOK r k b h) : (0 ≤ r.slo ∧ r.slo ≤ 100) ∧ (0 ≤ r.shi ∧ r.shi ≤ 100) ∧ (0 ≤ r.flo ∧ r.flo ≤ 100) ∧ (0 ≤ r.fhi ∧ r.fhi ≤ 100) := by
  have := v.rng
  unfold rngB at this
  omega
abbrev fl (r : Ru) (b h : Int) : Int := frc r.w b h r.slo r.flo
abbrev fh (r : Ru) (b h : Int) : Int := frc r.w b h r.shi r.fhi
theorem DrOK.fl {r : Ru} {k : Nat} {b h : Int} (v : DrOK r k b h) : 0 ≤ fl r b h ∧ fl r b h ≤ 750000000 := (frc_bd v.rng.1 v.h1 v.hb v.b1 v.sl.1 v.sl.2.2.1).2.2.2
theorem DrOK.fh {r : Ru} {k : Nat} {b h : Int} (v : DrOK r k b h) : 0 ≤ fh r b h ∧ fh r b h ≤ 750000000 := (frc_bd v.rng.1 v.h1 v.hb v.b1 v.sl.2.1 v.sl.2.2.2).2.2.2
theorem confo (r : Ru) (k : Nat) (b h : Int) (v : DrOK r k b h) : C5 87 [r.d, drD k b h] [.agg [dI (fl r b h), dI (fh r b h)]] := by
  refine con_flat hokP mixed Tryz.func87 rfl (by show 1 ≤ 400; omega) rfl (by kernel_rfl) (fun caps => ?_)
  show gfo _ _ r.w r.st r.fi r.hlo r.hhi r.co r.ss.length (caps 500) (vs5 r.ss) r.slo r.shi r.flo r.fhi (k : Int) b h _
  rw [gfo_text]
  simp only [bc_t (v5le r.ss), v5_whole, Qv, true_and]
  exact ⟨_, ⟨confB r k b h r.slo r.flo v v.sl.1 v.sl.2.2.1⟩, _, ⟨confB r k b h r.shi r.fhi v v.sl.2.1 v.sl.2.2.2⟩, rfl⟩
theorem conto (r : Ru) (k : Nat) (b h : Int) (v : DrOK r k b h) : C5 70 [r.d, drD k b h] [.agg [dI (fl r b h * (b - h)), dI (fh r b h * (b - h))]] := by
  refine con_flat hokP mixed Tryz.func70 rfl (by show 1 ≤ 400; omega) rfl (by kernel_rfl) (fun caps => ?_)
  show gto _ _ r.w r.st r.fi r.hlo r.hhi r.co r.ss.length (caps 500) (vs5 r.ss) r.slo r.shi r.flo r.fhi (k : Int) b h _
  rw [gto_text, bc_t (v5le r.ss), v5_whole]
  have h1 := v.h1
  have h2 := v.hb
  have h3 := v.b1
  have e1 := mulB 750000000 1000 v.fl (show 0 ≤ b - h ∧ b - h ≤ 1000 by omega)
  have e2 := mulB 750000000 1000 v.fh (show 0 ≤ b - h ∧ b - h ≤ 1000 by omega)
  refine ⟨_, _, ⟨confo r k b h v⟩, ?_⟩
  rw [w64 (z := b - h) (by omega) (by omega), w64 (by omega) (by omega), w64 (by omega) (by omega)]
  simp only [Qv, true_and]
theorem conmT (l x y : Int) (hl : 0 ≤ l ∧ l ≤ 1000000000000) (hx : 0 ≤ x ∧ x ≤ 750000000000) (hy : 0 ≤ y ∧ y ≤ 750000000000) : C5 86 [dI l, .agg [dI x, dI y]] [.agg [dI (100 * (l - y)), dI (100 * (l - x))]] := by
  refine con_flat hokP mixed Tryz.func86 rfl (by show 0 ≤ 400; omega) rfl (by kernel_rfl) (fun caps => ?_)
  show gmT _ _ l x y _
  rw [gmT_text, w64 (z := l - y) (by omega) (by omega), w64 (z := l - x) (by omega) (by omega), w64 (by omega) (by omega), w64 (by omega) (by omega)]
def stA (r : Ru) (k : Nat) : Fv := r.ss.getD k ⟨0, 0, 0, 0, 0⟩
theorem stA_at {r : Ru} {k : Nat} (hk : k < r.ss.length) : stA r k = r.ss[k] := by simp [stA, List.getD, List.getElem?_eq_getElem hk]
def bit (r : Ru) (k : Nat) (b h f : Int) : Int := if b = h then 0 else f * (stA r k).a - 100 * (b - h)
theorem conbi (r : Ru) (k : Nat) (b h : Int) (v : DrOK r k b h) : C5 88 [r.d, drD k b h] [.agg [dI (bit r k b h r.flo), dI (bit r k b h r.fhi)]] := by
  refine con_flat hokP mixed Tryz.func88 rfl (by show 1 ≤ 400; omega) rfl (by kernel_rfl) (fun caps => ?_)
  show gbi _ _ r.w r.st r.fi r.hlo r.hhi r.co r.ss.length (caps 500) (vs5 r.ss) r.slo r.shi r.flo r.fhi (k : Int) b h _
  rw [gbi_text]
  simp only [Qv, eq_self, true_and, and_true]
  refine bc_beq (fun g => ?_) (fun g => ?_)
  · show [D.agg [dI 0, dI 0]] = _; rw [bit, bit, if_pos g, if_pos g]
  · have hk := v.k
    have h1 := v.h1
    have h2 := v.hb
    have h3 := v.b1
    have a1 := vs5_one r.ss k hk 0 (.int .i64 (r.ss[k]).a) rfl
    have hs := (v.sts _ (List.getElem_mem hk)).1
    simp only [Nat.add_zero] at a1
    simp only [bc_t (show (0 : Int) ≤ (k : Int) by omega), bc_t (show (k : Int) < (r.ss.length : Int) by omega), Int.toNat_natCast, at1 a1, eq_self, true_and, and_true, Int.one_mul]
    have e1 := mulB 100 1000 v.sl.2.2.1 (show 0 ≤ r.ss[k].a ∧ r.ss[k].a ≤ 1000 by omega)
    have e2 := mulB 100 1000 v.sl.2.2.2 (show 0 ≤ r.ss[k].a ∧ r.ss[k].a ≤ 1000 by omega)
    have b1 := v.sl.2.2
    rw [w64 (z := b - h) (by omega) (by omega), w64 (z := 100 * (b - h)) (by omega) (by omega), w64 (z := r.flo) (by omega) (by omega), w64 (z := r.fhi) (by omega) (by omega), w64 (z := r.flo * r.ss[k].a) (by omega) (by omega), w64 (z := r.fhi * r.ss[k].a) (by omega) (by omega), w64 (by omega) (by omega), w64 (by omega) (by omega)]
    rw [bit, bit, if_neg g, if_neg g, stA_at hk]
/-- the losses of some stands -/
def sumD : List Fv → Int
  | [] => 0
  | s :: r => s.d + sumD r
def sumE : List Fv → Int
  | [] => 0
  | s :: r => s.e + sumE r
theorem sumD_app (s : Fv) : ∀ l : List Fv, sumD (l ++ [s]) = sumD l + s.d
  | [] => by simp [sumD]
  | p :: r => by simp only [List.cons_append, sumD, sumD_app s r]; omega
theorem sumE_app (s : Fv) : ∀ l : List Fv, sumE (l ++ [s]) = sumE l + s.e
  | [] => by simp [sumE]
  | p :: r => by simp only [List.cons_append, sumE, sumE_app s r]; omega
theorem sumD_snoc {l : List Fv} {i : Nat} (h : i < l.length) : sumD (l.take (i + 1)) = sumD (l.take i) + l[i].d := by
  rw [List.take_succ_eq_append_getElem h, sumD_app]
theorem sumE_snoc {l : List Fv} {i : Nat} (h : i < l.length) : sumE (l.take (i + 1)) = sumE (l.take i) + l[i].e := by
  rw [List.take_succ_eq_append_getElem h, sumE_app]
theorem sum_bd {l : List Fv} (hs : ∀ s ∈ l, stB s) : ∀ i : Nat, i ≤ l.length → (0 ≤ sumD (l.take i) ∧ sumD (l.take i) ≤ 1000 * (i : Int)) ∧ 0 ≤ sumE (l.take i) ∧ sumE (l.take i) ≤ 1000 * (i : Int)
  | 0, _ => by simp [sumD, sumE]
  | i + 1, hi => by
    have := sum_bd hs i (by omega)
    have h2 := (hs _ (List.getElem_mem (show i < l.length by omega))).2.2
    rw [sumD_snoc (by omega), sumE_snoc (by omega)]
    omega
def hL (r : Ru) (k : Nat) (h : Int) : Int := 100 * (r.hlo - sumE (r.ss.take (k + 1))) + (r.st - h) * r.slo
def hH (r : Ru) (k : Nat) (h : Int) : Int := 100 * (r.hhi - sumD (r.ss.take (k + 1))) + (r.st - h) * r.shi
theorem DrOK.ht {r : Ru} {k : Nat} {b h : Int} (v : DrOK r k b h) : (-1000000000 ≤ hL r k h ∧ hL r k h ≤ 1000000000) ∧ -1000000000 ≤ hH r k h ∧ hH r k h ≤ 1000000000 := by
  have h1 := v.h1
  have h2 := v.hb
  have h3 := v.b1
  have hk := v.k
  have hn := v.n
  have hs := sum_bd v.sts (k + 1) (by omega)
  have hr := v.rng
  unfold rngB at hr
  have e1 := mulS (a := r.st - h) (b := r.slo) 1000 100 (by omega) (by omega)
  have e2 := mulS (a := r.st - h) (b := r.shi) 1000 100 (by omega) (by omega)
  unfold hL hH
  omega
theorem conhe (r : Ru) (k : Nat) (b h : Int) (v : DrOK r k b h) : C5 55 [r.d, drD k b h] [.agg [dI (hL r k h), dI (hH r k h)]] := by
  have hk := v.k
  have hn := v.n
  let inv : Nat × Nat × Nat → Prop := fun x => x.1 ≤ k + 1
  let st : Nat × Nat × Nat → Slots × Blocks := fun x => zhe1 (k + 1) x.2.1 ((k + 1 : Nat) : Int) x.1 r.w r.st r.fi r.hlo r.hhi r.co r.ss.length x.2.2 r.slo r.shi r.flo r.fhi (k : Int) b h 0 0 (sumD (r.ss.take x.1)) (sumE (r.ss.take x.1)) (vs5 r.ss)
  refine con_ofC (L := fun _ s b => ∃ x, inv x ∧ st x = (s, b)) hokP mixed Tryz.func55 rfl (by show 1 ≤ 400; omega) rfl (ids := [0]) (by kernel_rfl) rfl (fun caps hcap => ?_) (fun id hid => ?_)
  · show ghe _ _ r.w r.st r.fi r.hlo r.hhi r.co r.ss.length (caps 500) (vs5 r.ss) r.slo r.shi r.flo r.fhi (k : Int) b h _
    rw [ghe_text]
    have hc : r.ss.length ≤ caps 500 := by simp [capsL, layVals, layCells] at hcap; exact hcap
    rw [w64 (z := (k : Int) + 1) (by omega) (by omega), bc_t (show (0 : Int) ≤ (k : Int) + 1 by omega), bc_t (show (k : Int) + 1 ≤ (caps 500 : Int) by omega), show ((k : Int) + 1).toNat - 0 = k + 1 by omega]
    exact ⟨(0, caps 500 - 0, caps 500), Nat.zero_le _, rfl⟩
  · obtain rfl := List.mem_singleton.1 hid
    refine ⟨Nat × Nat × Nat, st, inv, fun x => k + 1 - x.1, ⟨fun s b h => h, by kernel_rfl, ?_⟩⟩
    rintro ⟨i, c1, c2⟩ hi
    have hi : i ≤ k + 1 := hi
    show rhe1 _ _ (k + 1) c1 ((k + 1 : Nat) : Int) i r.w r.st r.fi r.hlo r.hhi r.co r.ss.length c2 r.slo r.shi r.flo r.fhi (k : Int) b h 0 0 (sumD (r.ss.take i)) (sumE (r.ss.take i)) (vs5 r.ss) _ _ _
    rw [rhe1_text]
    refine bc_dec (fun g => ?_) (fun g => ?_)
    · have hi2 : i < r.ss.length := by omega
      simp only [bc_t (show (0 : Int) ≤ (i : Int) by omega), bc_t g, Int.toNat_natCast, at5 (vs5_all r.ss i hi2)]
      have hs := sum_bd v.sts (i + 1) (by omega)
      rw [sumD_snoc hi2, sumE_snoc hi2] at hs
      refine ⟨(i + 1, c1, c2), by show i + 1 ≤ k + 1; omega, by show k + 1 - (i + 1) < k + 1 - i; omega, ?_⟩
      show zhe1 _ _ _ _ _ _ _ _ _ _ _ _ _ _ _ _ _ _ _ _ _ _ _ _ = _
      rw [sumD_snoc hi2, sumE_snoc hi2, w64 (z := (i : Int) + 1) (by omega) (by omega), w64 (z := sumD _ + _) (by omega) (by omega), w64 (z := sumE _ + _) (by omega) (by omega)]; rfl
    · show (if 0 = 0 then _ else _)
      rw [if_pos rfl]
      obtain rfl : i = k + 1 := by omega
      show nhe2 _ _ r.w r.st r.fi r.hlo r.hhi r.co r.ss.length c2 r.slo r.shi r.flo r.fhi (k : Int) b h 0 0 (sumD (r.ss.take (k + 1))) (sumE (r.ss.take (k + 1))) (vs5 r.ss) _
      rw [nhe2_text]
      have h1 := v.h1
      have h2 := v.hb
      have h3 := v.b1
      have hs := sum_bd v.sts (k + 1) (by omega)
      have hr := v.rng
      unfold rngB at hr
      have e1 := mulS (a := r.st - h) (b := r.slo) 1000 100 (by omega) (by omega)
      have e2 := mulS (a := r.st - h) (b := r.shi) 1000 100 (by omega) (by omega)
      simp only [Int.one_mul]
      rw [w64 (z := r.hlo - _) (by omega) (by omega), w64 (z := r.hhi - _) (by omega) (by omega), w64 (z := 100 * (r.hlo - _)) (by omega) (by omega), w64 (z := 100 * (r.hhi - _)) (by omega) (by omega), w64 (z := r.st - h) (by omega) (by omega), w64 (z := r.st - h) (by omega) (by omega), w64 (z := (r.st - h) * r.slo) (by omega) (by omega), w64 (z := (r.st - h) * r.shi) (by omega) (by omega), w64 (by omega) (by omega), w64 (by omega) (by omega)]
      rfl
/-- the margins of a draught, by their limits -/
def mar (r : Ru) (k : Nat) (b h : Int) : List (Int × Int) := [(100 * ((stA r k).b - fh r b h), 100 * ((stA r k).b - fl r b h)), (100 * ((stA r k).c - fh r b h * (b - h)), 100 * ((stA r k).c - fl r b h * (b - h))), (bit r k b h r.flo, bit r k b h r.fhi), (hL r k h - 100 * r.co, hH r k h - 100 * r.co)]
def marD (l : List (Int × Int)) : D := .agg (l.flatMap fun p => [dI p.1, dI p.2])
theorem conma (r : Ru) (k : Nat) (b h : Int) (v : DrOK r k b h) : C5 68 [r.d, drD k b h] [marD (mar r k b h)] := by
  refine con_flat hokP mixed Tryz.func68 rfl (by show 1 ≤ 400; omega) rfl (by kernel_rfl) (fun caps => ?_)
  show gma _ _ r.w r.st r.fi r.hlo r.hhi r.co r.ss.length (caps 500) (vs5 r.ss) r.slo r.shi r.flo r.fhi (k : Int) b h _
  rw [gma_text]
  have hk := v.k
  have h1 := v.h1
  have h2 := v.hb
  have h3 := v.b1
  have hs := v.sts _ (List.getElem_mem hk)
  unfold stB at hs
  have hco := v.rng.2.2.1.2.2
  have e1 := mulB 750000000 1000 v.fl (show 0 ≤ b - h ∧ b - h ≤ 1000 by omega)
  have e2 := mulB 750000000 1000 v.fh (show 0 ≤ b - h ∧ b - h ≤ 1000 by omega)
  have hfl := v.fl
  have hfh := v.fh
  have hht := v.ht
  simp only [bc_t (show (0 : Int) ≤ (k : Int) by omega), bc_t (show (k : Int) < (r.ss.length : Int) by omega), Int.toNat_natCast, at5 (vs5_all r.ss k hk), Qv, eq_self, true_and, and_true, bc_t (v5le r.ss), v5_whole]
  refine ⟨_, _, ⟨conhe r k b h v⟩, _, _, ⟨confo r k b h v⟩, _, _, ⟨conmT _ _ _ (by omega) (by omega) (by omega)⟩, _, _, ⟨conto r k b h v⟩, _, _, ⟨conmT _ _ _ (by omega) (by omega) (by omega)⟩, _, _, ⟨conbi r k b h v⟩, ?_⟩
  rw [w64 (z := 100 * r.co) (by omega) (by omega), w64 (by omega) (by omega), w64 (by omega) (by omega)]
  simp only [marD, mar, stA_at hk, List.flatMap_cons, List.flatMap_nil, List.cons_append, List.nil_append]
end Go.Proofs.G5m

/- awake of chapter 3, for every tape: by what is known of some functions. -/
namespace Go.Proofs.G5m
open Go Go.Abs Go.Proofs Go.Str
set_option maxRecDepth 100000
def unFv : List Value → Option (List Fv)
  | [] => some []
  | .int .i64 a :: .int .i64 b :: .int .i64 c :: .int .i64 d :: .int .i64 e :: r => (unFv r).map (⟨a, b, c, d, e⟩ :: ·)
  | _ => none
theorem unFv_ok : ∀ {l : List Value} {ss : List Fv}, unFv l = some ss → l = vs5 ss := by
  intro l
  induction l using unFv.induct with
  | case1 => intro ss h; rw [unFv] at h; obtain rfl := Option.some.inj h; rfl
  | case2 a b c d e r ih =>
    intro ss h
    rw [unFv] at h
    obtain ⟨t, ht, rfl⟩ := Option.map_eq_some_iff.1 h
    rw [ih ht]; rfl
  | case3 l h1 h2 => intro ss h; rw [unFv] at h <;> first | (cases h; done) | assumption
def parR : D → Option Ru
  | .agg [.val (.int .i64 w), .val (.int .i64 st), .val (.int .i64 fi), .val (.int .i64 hlo), .val (.int .i64 hhi), .val (.int .i64 co), .sl n 5 l, .val (.int .i64 slo), .val (.int .i64 shi), .val (.int .i64 flo), .val (.int .i64 fhi)] =>
    match unFv l with
    | some ss => if ss.length = n then some ⟨w, st, fi, hlo, hhi, co, ss, slo, shi, flo, fhi⟩ else none
    | none => none
  | _ => none
theorem parR_ok {d : D} {r : Ru} (h : parR d = some r) : d = r.d := by
  unfold parR at h
  split at h
  · split at h
    · rename_i e
      split at h
      · obtain rfl := Option.some.inj h
        rename_i hn; subst hn
        rw [unFv_ok e]
      · cases h
    · cases h
  · cases h
def drB (r : Ru) (k : Int) (b h : Int) : Bool := decide (rngB r) && r.ss.all (fun s => decide (stB s)) && decide (0 ≤ k) && decide (k.toNat < r.ss.length) && decide (r.ss.length ≤ 6) && decide (1 ≤ h) && decide (h ≤ b) && decide (b ≤ 1000)
theorem drB_ok {r : Ru} {k b h : Int} (e : drB r k b h = true) : DrOK r k.toNat b h ∧ k = (k.toNat : Int) := by
  simp only [drB, Bool.and_eq_true, decide_eq_true_eq, List.all_eq_true] at e
  obtain ⟨⟨⟨⟨⟨⟨⟨h1, h2⟩, h3⟩, h4⟩, h5⟩, h6⟩, h7⟩, h8⟩ := e
  exact ⟨⟨h1, h2, h4, h5, h6, h7, h8⟩, by omega⟩
def marT (d : D) (k b h : Int) : Option (List D) :=
  match parR d with
  | some r => if drB r k b h = true then some [marD (mar r k.toNat b h)] else none
  | none => none
def torT (d : D) (k b h : Int) : Option (List D) :=
  match parR d with
  | some r => if drB r k b h = true then some [.agg [dI (fl r b h * (b - h)), dI (fh r b h * (b - h))]] else none
  | none => none
def keyD : List D → Int
  | [_, .agg [.val (.int _ k), .val (.int _ b), .val (.int _ h)], _] => k * 1000000 + b * 1000 + h
  | _ => -1
def lookK : List (List D × List D) → Int → List D → Option (List D)
  | [], _, _ => none
  | p :: r, q, ds => if keyD p.1 = q then (if dsEq p.1 ds then some p.2 else lookK r q ds) else lookK r q ds
theorem lookK_ok : ∀ {t : List (List D × List D)} {q : Int} {ds rs : List D}, lookK t q ds = some rs → (ds, rs) ∈ t
  | [], _, _, _, h => by cases h
  | p :: r, q, ds, rs, h => by
    unfold lookK at h
    split at h
    · split at h
      · rename_i e
        obtain rfl := Option.some.inj h
        rw [← dsEq_ok e]; exact List.mem_cons_self
      · exact List.mem_cons_of_mem _ (lookK_ok h)
    · exact List.mem_cons_of_mem _ (lookK_ok h)
def tabP : Tab := fun f =>
  if f = 68 then some fun ds => match ds with
    | [d, .agg [.val (.int .i64 k), .val (.int .i64 b), .val (.int .i64 h)]] => marT d k b h
    | _ => none
  else if f = 70 then some fun ds => match ds with
    | [d, .agg [.val (.int .i64 k), .val (.int .i64 b), .val (.int .i64 h)]] => torT d k b h
    | _ => none
  else if f = 30 then some fun ds => match ds with
    | [d] => (match parR d with | some r => if r.ss.length ≤ 6 then some [dI (chk r).1, dI (chk r).2] else none | none => none)
    | _ => none
  else if f = 51 then some fun ds => match ds with
    | [.val (.int .i64 n), .val (.int .i64 d)] => if -4611686018427387904 ≤ n ∧ n ≤ 4611686018427387904 ∧ 0 < d ∧ d ≤ 4611686018427387904 then some [.agg [dI (low n d).1, dI (low n d).2]] else none
    | _ => none
  else none
theorem tabP_ok : TabOK Tryz.prog tabP := by
  intro f t ht ds rs h
  unfold tabP at ht
  split at ht
  · rename_i e; subst e; obtain rfl := Option.some.inj ht
    simp only at h
    split at h
    · rename_i d k b hh
      unfold marT at h
      split at h
      · rename_i r hr
        split at h
        · rename_i hd
          obtain rfl := Option.some.inj h
          obtain ⟨hv, hk⟩ := drB_ok hd
          rw [parR_ok hr]
          have := conma r k.toNat b hh hv
          unfold drD at this
          rw [← hk] at this
          exact this
        · cases h
      · cases h
    · cases h
  · split at ht
    · rename_i e; subst e; obtain rfl := Option.some.inj ht
      simp only at h
      split at h
      · rename_i d k b hh
        unfold torT at h
        split at h
        · rename_i r hr
          split at h
          · rename_i hd
            obtain rfl := Option.some.inj h
            obtain ⟨hv, hk⟩ := drB_ok hd
            rw [parR_ok hr]
            have := conto r k.toNat b hh hv
            unfold drD at this
            rw [← hk] at this
            exact this
          · cases h
        · cases h
      · cases h
    · split at ht
      · rename_i e; subst e; obtain rfl := Option.some.inj ht
        simp only at h
        split at h
        · split at h
          · rename_i r hr
            split at h
            · obtain rfl := Option.some.inj h
              rw [parR_ok hr]
              exact conKR r (by omega)
            · cases h
          · cases h
        · cases h
      · split at ht
        · rename_i e; subst e; obtain rfl := Option.some.inj ht
          simp only at h
          split at h
          · split at h
            · rename_i hb
              obtain rfl := Option.some.inj h
              exact conlT _ _ ⟨hb.1, hb.2.1⟩ hb.2.2
            · cases h
          · cases h
        · cases ht
theorem look_all {tab : Tab} (ht : TabOK Tryz.prog tab) {f : FuncId} {lk : List (List D × List D)} (h : ∀ caps, (lk.all fun p => runOK Tryz.prog tab 1000 f p.1 p.2 caps) = true) (hc : (lk.all fun p => decide (countV p.1 ≤ 400)) = true) {ds rs : List D} (hm : (ds, rs) ∈ lk) : C5 f ds rs :=
  con_run ht mixed (by simpa using List.all_eq_true.1 hc _ hm) (fun caps => List.all_eq_true.1 (h caps) _ hm)
abbrev rulD : D := .agg [dI 10, dI 100, dI 60, dI 10000, dI 10000, dI 9000, .sl 2 5 [vI 300, vI 20000, vI 400000, vI 0, vI 100, vI 300, vI 20000, vI 400000, vI 0, vI 100], dI 2, dI 3, dI 7, dI 8]
abbrev oneD : D := .agg [dI 10, dI 100, dI 60, dI 10000, dI 10000, dI 9000, .sl 1 5 [vI 300, vI 20000, vI 400000, vI 0, vI 100], dI 2, dI 3, dI 7, dI 8]
abbrev bestD : D := .agg [.val (.string ⟨#[98, 101, 115, 116]⟩), .sl 2 1 [vI 80, vI 60]]
end Go.Proofs.G5m

/- awake of chapter 3: which draughts keep which limits. -/
namespace Go.Proofs.G5m
open Go Go.Abs Go.Proofs Go.Str
set_option maxRecDepth 100000
def lk1 : List (List D × List D) := [([rulD, drD 0 100 100, .sl 4 1 [vI 0, vI 1, vI 2, vI 3]], [dB true]),
  ([rulD, drD 0 100 90, .sl 4 1 [vI 0, vI 1, vI 2, vI 3]], [dB true]),
  ([rulD, drD 0 100 80, .sl 4 1 [vI 0, vI 1, vI 2, vI 3]], [dB true]),
  ([rulD, drD 0 100 70, .sl 4 1 [vI 0, vI 1, vI 2, vI 3]], [dB false]),
  ([rulD, drD 0 100 60, .sl 4 1 [vI 0, vI 1, vI 2, vI 3]], [dB false]),
  ([rulD, drD 0 90 90, .sl 4 1 [vI 0, vI 1, vI 2, vI 3]], [dB true]),
  ([rulD, drD 0 90 80, .sl 4 1 [vI 0, vI 1, vI 2, vI 3]], [dB true]),
  ([rulD, drD 0 90 70, .sl 4 1 [vI 0, vI 1, vI 2, vI 3]], [dB true]),
  ([rulD, drD 0 90 60, .sl 4 1 [vI 0, vI 1, vI 2, vI 3]], [dB false]),
  ([rulD, drD 0 80 80, .sl 4 1 [vI 0, vI 1, vI 2, vI 3]], [dB true]),
  ([rulD, drD 0 80 70, .sl 4 1 [vI 0, vI 1, vI 2, vI 3]], [dB true]),
  ([rulD, drD 0 80 60, .sl 4 1 [vI 0, vI 1, vI 2, vI 3]], [dB true]),
  ([rulD, drD 0 70 70, .sl 4 1 [vI 0, vI 1, vI 2, vI 3]], [dB true]),
  ([rulD, drD 0 70 60, .sl 4 1 [vI 0, vI 1, vI 2, vI 3]], [dB true]),
  ([rulD, drD 0 60 60, .sl 4 1 [vI 0, vI 1, vI 2, vI 3]], [dB true]),
  ([rulD, drD 1 100 100, .sl 4 1 [vI 0, vI 1, vI 2, vI 3]], [dB true]),
  ([rulD, drD 1 100 90, .sl 4 1 [vI 0, vI 1, vI 2, vI 3]], [dB true]),
  ([rulD, drD 1 100 80, .sl 4 1 [vI 0, vI 1, vI 2, vI 3]], [dB true]),
  ([rulD, drD 1 100 70, .sl 4 1 [vI 0, vI 1, vI 2, vI 3]], [dB false]),
  ([rulD, drD 1 100 60, .sl 4 1 [vI 0, vI 1, vI 2, vI 3]], [dB false]),
  ([rulD, drD 1 90 90, .sl 4 1 [vI 0, vI 1, vI 2, vI 3]], [dB true]),
  ([rulD, drD 1 90 80, .sl 4 1 [vI 0, vI 1, vI 2, vI 3]], [dB true]),
  ([rulD, drD 1 90 70, .sl 4 1 [vI 0, vI 1, vI 2, vI 3]], [dB true]),
  ([rulD, drD 1 90 60, .sl 4 1 [vI 0, vI 1, vI 2, vI 3]], [dB false]),
  ([rulD, drD 1 80 80, .sl 4 1 [vI 0, vI 1, vI 2, vI 3]], [dB true]),
  ([rulD, drD 1 80 70, .sl 4 1 [vI 0, vI 1, vI 2, vI 3]], [dB true]),
  ([rulD, drD 1 80 60, .sl 4 1 [vI 0, vI 1, vI 2, vI 3]], [dB true]),
  ([rulD, drD 1 70 70, .sl 4 1 [vI 0, vI 1, vI 2, vI 3]], [dB true]),
  ([rulD, drD 1 70 60, .sl 4 1 [vI 0, vI 1, vI 2, vI 3]], [dB true]),
  ([rulD, drD 1 60 60, .sl 4 1 [vI 0, vI 1, vI 2, vI 3]], [dB true])]
theorem run1 : ∀ caps, (lk1.all fun p => runOK Tryz.prog tabP 1000 92 p.1 p.2 caps) = true := by intro caps; kernel_rfl
end Go.Proofs.G5m

/- awake of chapter 3: which draughts keep which limits. -/
namespace Go.Proofs.G5m
open Go Go.Abs Go.Proofs Go.Str
set_option maxRecDepth 100000
def lk2 : List (List D × List D) := [([oneD, drD 0 100 100, .sl 4 1 [vI 0, vI 1, vI 2, vI 3]], [dB true]),
  ([oneD, drD 0 100 90, .sl 4 1 [vI 0, vI 1, vI 2, vI 3]], [dB true]),
  ([oneD, drD 0 100 80, .sl 4 1 [vI 0, vI 1, vI 2, vI 3]], [dB true]),
  ([oneD, drD 0 100 70, .sl 4 1 [vI 0, vI 1, vI 2, vI 3]], [dB false]),
  ([oneD, drD 0 100 60, .sl 4 1 [vI 0, vI 1, vI 2, vI 3]], [dB false]),
  ([oneD, drD 0 90 90, .sl 4 1 [vI 0, vI 1, vI 2, vI 3]], [dB true]),
  ([oneD, drD 0 90 80, .sl 4 1 [vI 0, vI 1, vI 2, vI 3]], [dB true]),
  ([oneD, drD 0 90 70, .sl 4 1 [vI 0, vI 1, vI 2, vI 3]], [dB true]),
  ([oneD, drD 0 90 60, .sl 4 1 [vI 0, vI 1, vI 2, vI 3]], [dB false]),
  ([oneD, drD 0 80 80, .sl 4 1 [vI 0, vI 1, vI 2, vI 3]], [dB true]),
  ([oneD, drD 0 80 70, .sl 4 1 [vI 0, vI 1, vI 2, vI 3]], [dB true]),
  ([oneD, drD 0 80 60, .sl 4 1 [vI 0, vI 1, vI 2, vI 3]], [dB true]),
  ([oneD, drD 0 70 70, .sl 4 1 [vI 0, vI 1, vI 2, vI 3]], [dB true]),
  ([oneD, drD 0 70 60, .sl 4 1 [vI 0, vI 1, vI 2, vI 3]], [dB true]),
  ([oneD, drD 0 60 60, .sl 4 1 [vI 0, vI 1, vI 2, vI 3]], [dB true]),
  ([oneD, drD 0 100 100, .nil], [dB true]),
  ([oneD, drD 0 100 90, .nil], [dB true]),
  ([oneD, drD 0 100 80, .nil], [dB true]),
  ([oneD, drD 0 100 70, .nil], [dB true]),
  ([oneD, drD 0 100 60, .nil], [dB true]),
  ([oneD, drD 0 90 90, .nil], [dB true]),
  ([oneD, drD 0 90 80, .nil], [dB true]),
  ([oneD, drD 0 90 70, .nil], [dB true]),
  ([oneD, drD 0 90 60, .nil], [dB true]),
  ([oneD, drD 0 80 80, .nil], [dB true]),
  ([oneD, drD 0 80 70, .nil], [dB true]),
  ([oneD, drD 0 80 60, .nil], [dB true]),
  ([oneD, drD 0 70 70, .nil], [dB true]),
  ([oneD, drD 0 70 60, .nil], [dB true]),
  ([oneD, drD 0 60 60, .nil], [dB true]),
  ([oneD, drD 0 100 100, .sl 1 1 [vI 0]], [dB true]),
  ([oneD, drD 0 100 90, .sl 1 1 [vI 0]], [dB true]),
  ([oneD, drD 0 100 80, .sl 1 1 [vI 0]], [dB true]),
  ([oneD, drD 0 100 70, .sl 1 1 [vI 0]], [dB true]),
  ([oneD, drD 0 100 60, .sl 1 1 [vI 0]], [dB true]),
  ([oneD, drD 0 90 90, .sl 1 1 [vI 0]], [dB true]),
  ([oneD, drD 0 90 80, .sl 1 1 [vI 0]], [dB true]),
  ([oneD, drD 0 90 70, .sl 1 1 [vI 0]], [dB true]),
  ([oneD, drD 0 90 60, .sl 1 1 [vI 0]], [dB true]),
  ([oneD, drD 0 80 80, .sl 1 1 [vI 0]], [dB true]),
  ([oneD, drD 0 80 70, .sl 1 1 [vI 0]], [dB true]),
  ([oneD, drD 0 80 60, .sl 1 1 [vI 0]], [dB true]),
  ([oneD, drD 0 70 70, .sl 1 1 [vI 0]], [dB true]),
  ([oneD, drD 0 70 60, .sl 1 1 [vI 0]], [dB true]),
  ([oneD, drD 0 60 60, .sl 1 1 [vI 0]], [dB true]),
  ([oneD, drD 0 100 100, .sl 1 1 [vI 1]], [dB true]),
  ([oneD, drD 0 100 90, .sl 1 1 [vI 1]], [dB true]),
  ([oneD, drD 0 100 80, .sl 1 1 [vI 1]], [dB true]),
  ([oneD, drD 0 100 70, .sl 1 1 [vI 1]], [dB false]),
  ([oneD, drD 0 100 60, .sl 1 1 [vI 1]], [dB false]),
  ([oneD, drD 0 90 90, .sl 1 1 [vI 1]], [dB true]),
  ([oneD, drD 0 90 80, .sl 1 1 [vI 1]], [dB true]),
  ([oneD, drD 0 90 70, .sl 1 1 [vI 1]], [dB true]),
  ([oneD, drD 0 90 60, .sl 1 1 [vI 1]], [dB true]),
  ([oneD, drD 0 80 80, .sl 1 1 [vI 1]], [dB true]),
  ([oneD, drD 0 80 70, .sl 1 1 [vI 1]], [dB true]),
  ([oneD, drD 0 80 60, .sl 1 1 [vI 1]], [dB true]),
  ([oneD, drD 0 70 70, .sl 1 1 [vI 1]], [dB true]),
  ([oneD, drD 0 70 60, .sl 1 1 [vI 1]], [dB true]),
  ([oneD, drD 0 60 60, .sl 1 1 [vI 1]], [dB true])]
theorem run2 : ∀ caps, (lk2.all fun p => runOK Tryz.prog tabP 1000 92 p.1 p.2 caps) = true := by intro caps; kernel_rfl
end Go.Proofs.G5m

/- awake of chapter 3: what is known of some calls. -/
namespace Go.Proofs.G5m
open Go Go.Abs Go.Proofs Go.Str
set_option maxRecDepth 100000
def lkH : List (List D × List D) := [([rulD, bestD], [dI 2, dI 0])]
def lkR : List (List D × List D) := [([rulD, bestD, .agg [dI 2, dI 8, dI 10000, .sl 2 1 [vI 50, vI 50]]], [.sl 2 2 [vI 49752, vI 5, vI 49504, vI 5], .val (.bool true), dI 0])]
def lkT : List (List D × List D) := [([rulD, bestD, dI 300], [.sl 2 2 [vI 375, vI 1, vI 500, vI 1], dI 0])]
def lkQ : List (List D × List D) := [([rulD, dI 10], [.sl 5 1 [vI 100, vI 90, vI 80, vI 70, vI 60]]), ([oneD, dI 10], [.sl 5 1 [vI 100, vI 90, vI 80, vI 70, vI 60]])]
theorem runH : ∀ caps, (lkH.all fun p => runOK Tryz.prog tabP 1000 11 p.1 p.2 caps) = true := by intro caps; kernel_rfl
theorem runR : ∀ caps, (lkR.all fun p => runOK Tryz.prog tabP 1000 17 p.1 p.2 caps) = true := by intro caps; kernel_rfl
theorem runT : ∀ caps, (lkT.all fun p => runOK Tryz.prog tabP 1000 16 p.1 p.2 caps) = true := by intro caps; kernel_rfl
theorem runQ : ∀ caps, (lkQ.all fun p => runOK Tryz.prog tabP 1000 73 p.1 p.2 caps) = true := by intro caps; kernel_rfl
end Go.Proofs.G5m

/- awake of chapter 3, for every tape: by tables. -/
namespace Go.Proofs.G5m
open Go Go.Abs Go.Proofs Go.Str
set_option maxRecDepth 100000
theorem runP : ∀ caps, ((lk1 ++ lk2).all fun p => runOK Tryz.prog tabP 1000 92 p.1 p.2 caps) = true := fun caps => by rw [List.all_append, run1, run2]; rfl
def tabA : Tab := fun f => if f == 92 then some (fun ds => lookK (lk1 ++ lk2) (keyD ds) ds) else if f == 11 then some (tabLook lkH) else if f == 17 then some (tabLook lkR) else if f == 16 then some (tabLook lkT) else if f == 73 then some (tabLook lkQ) else tabP f
theorem tabA_ok : TabOK Tryz.prog tabA := by
  intro f t ht ds rs h
  unfold tabA at ht
  split at ht
  · rename_i e; obtain rfl := Option.some.inj ht; rw [beq_iff_eq] at e; subst e; exact look_all tabP_ok runP (by kernel_rfl) (lookK_ok h)
  · split at ht
    · rename_i e; obtain rfl := Option.some.inj ht; rw [beq_iff_eq] at e; subst e; exact look_all tabP_ok runH (by kernel_rfl) (tabLook_ok h)
    · split at ht
      · rename_i e; obtain rfl := Option.some.inj ht; rw [beq_iff_eq] at e; subst e; exact look_all tabP_ok runR (by kernel_rfl) (tabLook_ok h)
      · split at ht
        · rename_i e; obtain rfl := Option.some.inj ht; rw [beq_iff_eq] at e; subst e; exact look_all tabP_ok runT (by kernel_rfl) (tabLook_ok h)
        · split at ht
          · rename_i e; obtain rfl := Option.some.inj ht; rw [beq_iff_eq] at e; subst e; exact look_all tabP_ok runQ (by kernel_rfl) (tabLook_ok h)
          · exact tabP_ok f t ht ds rs h
theorem runA : ∀ caps, runOK Tryz.prog tabA 1000 4 [] [.val (.bool true)] caps = true := by intro caps; kernel_rfl
theorem conA : C5 4 [] [.val (.bool true)] := con_run tabA_ok mixed (by show 0 ≤ 400; omega) runA
end Go.Proofs.G5m

/- PassParses in data. -/
namespace Go.Proofs.G5m
open Go Go.Abs Go.Proofs Go.Str
set_option maxRecDepth 100000
theorem bc_qt' {a : Int} {x y : Prop} : bcase (a == a) x y = x := by rw [show (a == a) = true by simp]; rfl
theorem resS_two (nm : List UInt8) (nums : W) (h : nums.length < 1000000) : (∃ nm' e, resS nm nums = [.agg [dS nm', .nil], dI e]) ∨ ∃ nm' l, l.length < 1000000 ∧ resS nm nums = [scD nm' l, dI 0] := by
  by_cases h0 : psE nm nums = 0
  · have e : resS nm nums = [.agg [dS nm, slT (numsW nums)], dI 0] := by unfold resS; rw [if_pos h0]
    by_cases hn : (numsW nums).length = 0
    · exact .inl ⟨nm, 0, by rw [e]; unfold slT; rw [if_pos hn]⟩
    · exact .inr ⟨nm, numsW nums, by rw [numsW, List.length_map]; exact h, by rw [e]; unfold slT; rw [if_neg hn]⟩
  · exact .inl ⟨[], psE nm nums, by unfold resS; rw [if_neg h0]⟩
theorem resR_two (o : Option Ru) : (∃ e, resR o = [zR, dI e]) ∨ ∃ r : Ru, (chk r).2 = 0 ∧ resR o = [r.d, dI 0] := by
  cases o with
  | none => exact .inl ⟨7, rfl⟩
  | some r =>
    by_cases h : (chk r).2 = 0
    · exact .inr ⟨r, h, by show (if (chk r).2 = 0 then _ else _) = _; rw [if_pos h]⟩
    · exact .inl ⟨(chk r).2, by show (if (chk r).2 = 0 then _ else _) = _; rw [if_neg h]; rfl⟩
theorem lawP (s t : List UInt8) : C5 3 [dS s, dS t] [dB true] := by
  refine con_flat hokX mixed Tryz.func3 rfl (by show 0 ≤ 400; omega) rfl (by kernel_rfl) (fun caps => ?_)
  show gLP _ _ (bs s) (bs t) _
  rw [gLP_text]
  refine .inl ⟨⟨conA⟩, ?_⟩
  simp only [bs_size]
  refine bc_dec (fun _ => trivial) (fun h1 => bc_dec (fun _ => trivial) (fun h2 => ?_))
  obtain ⟨nm, nums, hw⟩ : ∃ nm nums, cutA 32 [] s = nm :: nums := by
    cases h : cutA 32 [] s with
    | nil => exact absurd h cutA_ne
    | cons a r => exact ⟨a, r, rfl⟩
  have hlen : nums.length < 1000000 := by
    have h1 := cutA_len (c := 32) (l := s) (acc := [])
    rw [hw, List.length_cons] at h1
    have := List.count_le_length (a := (32 : UInt8)) (l := s)
    omega
  have cPS := conPS s nm nums (by omega) hw
  have crPS := conrPS s nm nums (by omega) hw
  have cPR := conPR t (by omega)
  have crPR := conrPR t (by omega)
  rw [← syn_same] at crPR
  rcases resS_two nm nums hlen with ⟨nm', e, hS⟩ | ⟨nm', l, hl, hS⟩
  · rw [hS] at cPS crPS
    rcases resR_two (synG (partsG t)) with ⟨e', hR⟩ | ⟨r, hr, hR⟩
    · rw [hR] at cPR crPR
      refine ⟨_, .inl ⟨_, ⟨cPS⟩, _, _, _, _, _, _, .inl ⟨_, _, _, _, _, ⟨cPR⟩, _, .inl ⟨_, ⟨crPS⟩, _, _, _, _, _, _, .inl ⟨_, _, _, _, _, ⟨crPR⟩, ?_⟩⟩⟩⟩⟩
      simp only [bc_qt']
      exact .inl ⟨⟨conSSo nm'⟩, .inl ⟨⟨conSRo⟩, trivial⟩⟩
    · rw [hR] at cPR crPR
      have cR := conSR r (by have := (num_chk hr).2.2; omega)
      refine ⟨_, .inl ⟨_, ⟨cPS⟩, _, _, _, _, _, _, .inr ⟨_, _, _, _, _, _, _, ⟨cPR⟩, _, .inl ⟨_, ⟨crPS⟩, _, _, _, _, _, _, .inr ⟨_, _, _, _, _, _, _, ⟨crPR⟩, ?_⟩⟩⟩⟩⟩
      simp only [Dw, Tk, bc_qt', bc_t (v5le r.ss), v5_whole]
      exact .inl ⟨⟨conSSo nm'⟩, .inl ⟨⟨cR⟩, trivial⟩⟩
  · rw [hS] at cPS crPS
    have cS := conSS nm' l (by omega)
    rcases resR_two (synG (partsG t)) with ⟨e', hR⟩ | ⟨r, hr, hR⟩
    · rw [hR] at cPR crPR
      refine ⟨_, .inr ⟨_, _, _, ⟨cPS⟩, _, _, _, _, _, _, .inl ⟨_, _, _, _, _, ⟨cPR⟩, _, .inr ⟨_, _, _, ⟨crPS⟩, _, _, _, _, _, _, .inl ⟨_, _, _, _, _, ⟨crPR⟩, ?_⟩⟩⟩⟩⟩
      simp only [Dw, Tk, bc_qt', bc_t (v1le l), vi_whole]
      exact .inl ⟨⟨cS⟩, .inl ⟨⟨conSRo⟩, trivial⟩⟩
    · rw [hR] at cPR crPR
      have cR := conSR r (by have := (num_chk hr).2.2; omega)
      refine ⟨_, .inr ⟨_, _, _, ⟨cPS⟩, _, _, _, _, _, _, .inr ⟨_, _, _, _, _, _, _, ⟨cPR⟩, _, .inr ⟨_, _, _, ⟨crPS⟩, _, _, _, _, _, _, .inr ⟨_, _, _, _, _, _, _, ⟨crPR⟩, ?_⟩⟩⟩⟩⟩
      simp only [Dw, Tk, bc_qt', bc_t (v1le l), vi_whole, bc_t (v5le r.ss), v5_whole]
      exact .inl ⟨⟨cS⟩, .inl ⟨⟨cR⟩, trivial⟩⟩
end Go.Proofs.G5m

/- PassParses: whatever the input, it returns true, and the input reads as it did. Condition: the listed library tables hold what the text of the program lays (the card ties that to the text). -/
namespace Go.Proofs.YtocehmejiaelcaaGreatDoor.K
open Go Go.Abs Go.RowKit Go.ChangeShapes Go.WideShapes Go.ChangeAt Go.Proofs Go.Flat Go.Proofs.G5m
set_option maxRecDepth 100000
namespace PassParses
abbrev shs : List Sh := [.one 9, .one 9]
theorem shapes : Tryz.f3.params.toList.mapM (argSh Tryz.prog) = some shs := by kernel_rfl
theorem all (ds : List D) (h : ShDs Tryz.prog shs ds) : Con Tryz.prog 3 ds [.val (.bool true)] := by
  cases h with | cons h1 t => cases t with | cons h2 t =>
  cases t
  obtain ⟨l, rfl⟩ := leaf_str Tryz.underlying9 h1
  obtain ⟨m, rfl⟩ := leaf_str Tryz.underlying9 h2
  exact lawP l m
def wArgs : Array Value := #[.string ⟨#[]⟩, .string ⟨#[]⟩]
theorem laid_met (os : Os) : laidMet Tryz.prog Rows.passParsesRow.laid ((laidWorld os).forCall (fun _ _ => 0) ⟨#[], wArgs, []⟩).memory :=
  laidMet_of_run' 8 (by kernel_rfl) (by kernel_rfl)
theorem reads (os : Os) {H : Type} (enc : TypeId × Value → H) : ∃ places, DataW.whole enc Tryz.prog ((laidWorld os).forCall (fun _ _ => 0) ⟨#[], wArgs, []⟩).memory Tryz.f3.params.toList Rows.passParsesSpec.vars false wArgs.toList 8 =
    some ([.lit (.string []), .lit (.string [])], [], places) :=
  ⟨[], by kernel_rfl⟩
theorem lifted (os : Os) (started : os.Started) (H : Type) (enc : TypeId × Value → H) (F : Stop.Interp) :
    ReturnsInHanded {} Tryz.checked os 3 .any ((OpenSpec.ofChange Rows.passParsesSpec).preRow enc Tryz.prog Tryz.f3 Rows.passParsesRow.domain false Rows.passParsesRow.laid) (((OpenSpec.ofChange Rows.passParsesSpec).at F).post enc Tryz.prog Tryz.f3 false true false false) := by
  obtain ⟨places, hx⟩ := reads os enc
  refine returnsInHanded_of_row (C := Tryz.checked) (s := OpenSpec.ofChange Rows.passParsesSpec) own started (by kernel_rfl) Tryz.func3
    (witness_row_at (enc := enc) (C := Tryz.checked) false (laidWorld os) wArgs rfl (by kernel_rfl) (by kernel_rfl) (by kernel_rfl)
      (OpenSpec.preRow_of_cond 8 hx (by kernel_rfl) (fun k hk => by cases hk) (by kernel_rfl) (laid_met os))) ?_
  intro W base args ds gs before hval hW h1 h2 h3 h4 h5 h6
  have hgood : GoodW Tryz.prog W := good_of h5
  exact law_shapes (tb := 4) (s := Rows.passParsesSpec) shapes all laidP mapsP slicesP (tsP (by kernel_rfl)) rfl Tryz.underlying4 rfl (fun ds h => by
    match ds, h with
    | [_, _], _ => exact ⟨rfl, rfl, rfl⟩) hval hW hgood
theorem said : Rows.PassParsesSaid :=
  OpenClaim.holds_of_cond 3 Tryz.f3 rfl rfl rfl rfl rfl rfl rfl ⟨rfl, rfl, rfl, rfl, rfl⟩ rfl rfl rfl rfl rfl (by kernel_rfl) Tryz.func3 (by kernel_rfl)
    (of_decide_eq_true (by kernel_rfl)) (by unfold Func.isWrapper; first | (rw [if_pos (by decide +kernel)]; kernel_rfl) | (rw [if_neg (by decide +kernel)]; exact ⟨rfl, rfl⟩))
    (fun os started H enc _ F => by rw [OpenClaim.pre_eq_preRow]; exact lifted os started H enc F)
theorem plain (f : FuncId) (fn : Func) (hf : Tryz.pinned.checked.prog.funcNamed "cobble/cobblelaw03.PassParses" = some f) (hfn : Tryz.pinned.checked.prog.funcs[f]? = some fn) :
    false = Tryz.pinned.checked.prog.looks [] ∧ ∀ (j : Nat) t, fn.params[j]? = some t → Tryz.pinned.checked.prog.wantsStandIn t = false := by
  obtain rfl : f = 3 := Option.some.inj ((show Tryz.prog.funcNamed "cobble/cobblelaw03.PassParses" = some 3 by kernel_rfl).symm.trans hf) |>.symm
  obtain rfl : fn = Tryz.f3 := (Option.some.inj (Tryz.func3.symm.trans hfn)).symm
  exact ⟨by kernel_rfl, noStand (by kernel_rfl)⟩
theorem card : Rows.PassParsesCardSaid :=
  Claim7.holds_tied_plain_at .later [] _ _ _ _ said (fun _ h => by cases h) (by kernel_rfl) (fun _ h => by cases h) passParses_row_tie rfl ⟨rfl, rfl⟩ (by kernel_rfl) rfl plain (by kernel_rfl)
#print axioms card
end PassParses
end Go.Proofs.YtocehmejiaelcaaGreatDoor.K
