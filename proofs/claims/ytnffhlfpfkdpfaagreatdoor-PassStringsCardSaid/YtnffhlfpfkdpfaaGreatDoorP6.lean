/- Texts of the proof, put together: GxXT, GxXP2, GxXP3, GStr5, GxXS, GxX1, GxX2, GxXW, GxX3. -/
import Derived.Test.YtnffhlfpfkdpfaaGreatDoorP5
import Derived.Test.YtnffhlfpfkdpfaaGreatDoorP4
/- What is left to show of each function, written out; the kernel reckons it. -/
namespace Go.Proofs.G5x
open Go Go.Abs Go.Proofs
set_option maxRecDepth 100000
set_option linter.unusedVariables false
def preX (C : Ct) : FuncId → Option Handler := fun g => if g == 10 then some (fixH C copyPR) else if g == 8 then some (fixH C copyPS) else if [32, 40, 33, 49, 38, 86, 44, 46, 7, 9, 17, 14, 11, 12, 50, 19, 20, 52, 15, 18].contains g then some (saidH Tryz.prog C) else preP C g
abbrev hX (C : Ct) : Handler := handlerX Tryz.prog (preX C) 12 6
def gaN (C : Ct) (L : AtLoop) (n0 : Nat) (c0 : Nat) (l0 : List Value) (k : List D → Prop) : Prop := jFn Tryz.prog (hX C) L [] 44 #[.slice (some ⟨500, 0, none⟩) n0 c0] (heapOf [(500, .sym l0 false 1)]) (dataK k)
theorem gaN_text (C : Ct) (L : AtLoop) (n0 : Nat) (c0 : Nat) (l0 : List Go.Value) (k : List D → Prop) : gaN C L n0 c0 l0 k =
 (L 0 [(Prod.mk 6 (Sl 500 (n0) (c0))), (Prod.mk 7 (vI ((↑n0 : Int)))), (Prod.mk 8 (vI 0))] [(Prod.mk 500 (AObj.sym (l0) false 1))]) := by kernel_rfl
abbrev zaN1 (n0 : Nat) (c1 : Nat) (x2 : Int) (x3 : Int) (l4 : List Value) : Slots × Blocks := ([(6, (Value.slice (some ⟨500, 0, none⟩) n0 c1)), (7, (Value.int .i64 x2)), (8, (Value.int .i64 x3))], [(500, (AObj.sym l4 false 1))])
def raN1 (C : Ct) (L : AtLoop) (n0 : Nat) (c1 : Nat) (x2 : Int) (x3 : Int) (l4 : List Value) (B : Bx) (X : Xx) (k : List D → Prop) : Prop := jRound Tryz.prog (hX C) L [] 44 0 [(6, (Value.slice (some ⟨500, 0, none⟩) n0 c1)), (7, (Value.int .i64 x2)), (8, (Value.int .i64 x3))] [(500, (AObj.sym l4 false 1))] B X (dataK k)
theorem raN1_text (C : Ct) (L : AtLoop) (n0 : Nat) (c1 : Nat) (x2 : Int) (x3 : Int) (l4 : List Go.Value) (B : Bx) (X : Xx) (k : List D → Prop) : raN1 C L n0 c1 x2 x3 l4 B X k =
 (bcase (decide (x3 < x2))
 (bcase (decide (0 ≤ x3))
 (bcase (decide (x3 < (↑n0 : Int)))
 (∃ s1 : ByteArray,
 ((At (l4) (0 + Int.toNat x3 * 1) 1 [(Value.string (s1))]) ∧
 (bcase ((↑(ByteArray.size s1) : Int) == 0)
 (k [(D.val (Value.bool false))])
 (bcase (decide ((↑(ByteArray.size s1) : Int) > 13))
 (k [(D.val (Value.bool false))])
 (bcase (decide ((↑(ByteArray.size s1) : Int) > 1))
 (∃ b1 : UInt8,
 ((ByteAt (s1) 0 (b1)) ∧
 (bcase ((↑(UInt8.toNat b1) : Int) == 48)
 (k [(D.val (Value.bool false))])
 (L 2 [(Prod.mk 4 (Value.string (s1))), (Prod.mk 6 (Sl 500 (n0) (c1))), (Prod.mk 7 (vI x2)), (Prod.mk 8 (vI x3)), (Prod.mk 31 (vI ((↑(ByteArray.size s1) : Int)))), (Prod.mk 32 (vI 0))] [(Prod.mk 500 (AObj.sym (l4) false 1))]))))
 (L 2 [(Prod.mk 4 (Value.string (s1))), (Prod.mk 6 (Sl 500 (n0) (c1))), (Prod.mk 7 (vI x2)), (Prod.mk 8 (vI x3)), (Prod.mk 31 (vI ((↑(ByteArray.size s1) : Int)))), (Prod.mk 32 (vI 0))] [(Prod.mk 500 (AObj.sym (l4) false 1))]))))))
 False)
 False)
 (X 0 [] [])) := by kernel_rfl
abbrev zaN2 (s0 : ByteArray) (n1 : Nat) (c2 : Nat) (x3 : Int) (x4 : Int) (x5 : Int) (x6 : Int) (l7 : List Value) : Slots × Blocks := ([(4, (Value.string s0)), (6, (Value.slice (some ⟨500, 0, none⟩) n1 c2)), (7, (Value.int .i64 x3)), (8, (Value.int .i64 x4)), (31, (Value.int .i64 x5)), (32, (Value.int .i64 x6))], [(500, (AObj.sym l7 false 1))])
def raN2 (C : Ct) (L : AtLoop) (s0 : ByteArray) (n1 : Nat) (c2 : Nat) (x3 : Int) (x4 : Int) (x5 : Int) (x6 : Int) (l7 : List Value) (B : Bx) (X : Xx) (k : List D → Prop) : Prop := jRound2 Tryz.prog (hX C) L [] 44 0 2 [(4, (Value.string s0)), (6, (Value.slice (some ⟨500, 0, none⟩) n1 c2)), (7, (Value.int .i64 x3)), (8, (Value.int .i64 x4)), (31, (Value.int .i64 x5)), (32, (Value.int .i64 x6))] [(500, (AObj.sym l7 false 1))] B X (dataK k)
theorem raN2_text (C : Ct) (L : AtLoop) (s0 : ByteArray) (n1 : Nat) (c2 : Nat) (x3 : Int) (x4 : Int) (x5 : Int) (x6 : Int) (l7 : List Go.Value) (B : Bx) (X : Xx) (k : List D → Prop) : raN2 C L s0 n1 c2 x3 x4 x5 x6 l7 B X k =
 (bcase (decide (x6 < x5))
 (bcase (decide (0 ≤ x6))
 (∃ b1 : UInt8,
 ((ByteAt (s0) (Int.toNat x6) (b1)) ∧
 (((Says C 84 [(D.val (Value.int IntKind.u8 ((↑(UInt8.toNat b1) : Int))))] [(D.val (Value.bool true))]) ∧
 (B [(Prod.mk 4 (Value.string (s0))), (Prod.mk 6 (Sl 500 (n1) (c2))), (Prod.mk 7 (vI x3)), (Prod.mk 8 (vI x4)), (Prod.mk 31 (vI x5)), (Prod.mk 32 (vI (IntKind.wrap .i64 (x6 + 1))))] [(Prod.mk 500 (AObj.sym (l7) false 1))])) ∨
 ((Says C 84 [(D.val (Value.int IntKind.u8 ((↑(UInt8.toNat b1) : Int))))] [(D.val (Value.bool false))]) ∧
 (k [(D.val (Value.bool false))])))))
 False)
 (X 2 [(Prod.mk 6 (Sl 500 (n1) (c2))), (Prod.mk 7 (vI x3)), (Prod.mk 8 (vI x4))] [(Prod.mk 500 (AObj.sym (l7) false 1))])) := by kernel_rfl
def naN3 (C : Ct) (L : AtLoop) (k : List D → Prop) : Prop := jNext Tryz.prog (hX C) L [] 44 0 .normal [] [] (dataK k)
theorem naN3_text (C : Ct) (L : AtLoop) (k : List D → Prop) : naN3 C L k =
 (k [(D.val (Value.bool true))]) := by kernel_rfl
def iaN4 (C : Ct) (L : AtLoop) (n0 : Nat) (c1 : Nat) (x2 : Int) (x3 : Int) (l4 : List Value) (B : Bx) (X : Xx) (k : List D → Prop) : Prop := jIn Tryz.prog (hX C) L [] 44 0 2 .normal [(6, (Value.slice (some ⟨500, 0, none⟩) n0 c1)), (7, (Value.int .i64 x2)), (8, (Value.int .i64 x3))] [(500, (AObj.sym l4 false 1))] B X (dataK k)
theorem iaN4_text (C : Ct) (L : AtLoop) (n0 : Nat) (c1 : Nat) (x2 : Int) (x3 : Int) (l4 : List Go.Value) (B : Bx) (X : Xx) (k : List D → Prop) : iaN4 C L n0 c1 x2 x3 l4 B X k =
 (B [(Prod.mk 6 (Sl 500 (n0) (c1))), (Prod.mk 7 (vI x2)), (Prod.mk 8 (vI (IntKind.wrap .i64 (x3 + 1))))] [(Prod.mk 500 (AObj.sym (l4) false 1))]) := by kernel_rfl
def gnO (C : Ct) (L : AtLoop) (s0 : ByteArray) (k : List D → Prop) : Prop := wpFn Tryz.prog (hX C) L 0 46 #[.string s0] (heapOf []) (dataK k)
theorem gnO_text (C : Ct) (L : AtLoop) (s0 : ByteArray) (k : List D → Prop) : gnO C L s0 k =
 (L 0 [(Prod.mk 0 (Value.string (s0))), (Prod.mk 3 (vI 0)), (Prod.mk 6 (vI ((↑(ByteArray.size s0) : Int)))), (Prod.mk 7 (vI 0))] []) := by kernel_rfl
abbrev znO1 (s0 : ByteArray) (x1 : Int) (x2 : Int) (x3 : Int) : Slots × Blocks := ([(0, (Value.string s0)), (3, (Value.int .i64 x1)), (6, (Value.int .i64 x2)), (7, (Value.int .i64 x3))], [])
def rnO1 (C : Ct) (L : AtLoop) (s0 : ByteArray) (x1 : Int) (x2 : Int) (x3 : Int) (B : Bx) (X : Xx) (k : List D → Prop) : Prop := wpRound Tryz.prog (hX C) L 46 0 [(0, (Value.string s0)), (3, (Value.int .i64 x1)), (6, (Value.int .i64 x2)), (7, (Value.int .i64 x3))] [] B X (dataK k)
theorem rnO1_text (C : Ct) (L : AtLoop) (s0 : ByteArray) (x1 : Int) (x2 : Int) (x3 : Int) (B : Bx) (X : Xx) (k : List D → Prop) : rnO1 C L s0 x1 x2 x3 B X k =
 (bcase (decide (x3 < x2))
 (bcase (decide (0 ≤ x3))
 (∃ b1 : UInt8,
 ((ByteAt (s0) (Int.toNat x3) (b1)) ∧
 (B [(Prod.mk 0 (Value.string (s0))), (Prod.mk 3 (vI (IntKind.wrap .i64 (IntKind.wrap .i64 (10 * x1) + IntKind.wrap .i64 (IntKind.wrap IntKind.u8 ((↑(UInt8.toNat b1) : Int) - 48)))))), (Prod.mk 6 (vI x2)), (Prod.mk 7 (vI (IntKind.wrap .i64 (x3 + 1))))] [])))
 False)
 (X 0 [(Prod.mk 3 (vI x1))] [])) := by kernel_rfl
def nnO2 (C : Ct) (L : AtLoop) (x0 : Int) (k : List D → Prop) : Prop := wpNext Tryz.prog (hX C) L 46 0 .normal [(3, (Value.int .i64 x0))] [] (dataK k)
theorem nnO2_text (C : Ct) (L : AtLoop) (x0 : Int) (k : List D → Prop) : nnO2 C L x0 k =
 (k [(D.val (vI x0))]) := by kernel_rfl
def gFS (C : Ct) (L : AtLoop) (s0 : ByteArray) (n1 : Nat) (c1 : Nat) (l1 : List Value) (k : List D → Prop) : Prop := wpFn Tryz.prog (hX C) L 0 7 #[.agg #[.string s0, .slice (some ⟨500, 0, none⟩) n1 c1]] (heapOf [(500, .sym l1 false 1)]) (dataK k)
theorem gFS_text (C : Ct) (L : AtLoop) (s0 : ByteArray) (n1 : Nat) (c1 : Nat) (l1 : List Go.Value) (k : List D → Prop) : gFS C L s0 n1 c1 l1 k =
 (L 0 [(Prod.mk 3 (Sl 1000 1 1)), (Prod.mk 10 (Sl 500 (n1) (c1))), (Prod.mk 11 (vI ((↑n1 : Int)))), (Prod.mk 12 (vI 0))] [(Prod.mk 1000 (AObj.cells [(Value.string (s0))] 9 false 1)), (Prod.mk 500 (AObj.sym (l1) false 1))]) := by kernel_rfl
abbrev zFS1 (n0 : Nat) (n1 : Nat) (c2 : Nat) (x3 : Int) (x4 : Int) (s5 : ByteArray) (l6 : List Value) : Slots × Blocks := ([(3, (Value.slice (some ⟨1000, 0, none⟩) n0 n0)), (10, (Value.slice (some ⟨500, 0, none⟩) n1 c2)), (11, (Value.int .i64 x3)), (12, (Value.int .i64 x4))], [(1000, (AObj.cells [(Value.string s5)] 9 false 1)), (500, (AObj.sym l6 false 1))])
def rFS1 (C : Ct) (L : AtLoop) (n0 : Nat) (n1 : Nat) (c2 : Nat) (x3 : Int) (x4 : Int) (s5 : ByteArray) (l6 : List Value) (B : Bx) (X : Xx) (k : List D → Prop) : Prop := wpRound Tryz.prog (hX C) L 7 0 [(3, (Value.slice (some ⟨1000, 0, none⟩) n0 n0)), (10, (Value.slice (some ⟨500, 0, none⟩) n1 c2)), (11, (Value.int .i64 x3)), (12, (Value.int .i64 x4))] [(1000, (AObj.cells [(Value.string s5)] 9 false 1)), (500, (AObj.sym l6 false 1))] B X (dataK k)
theorem rFS1_text (C : Ct) (L : AtLoop) (n0 : Nat) (n1 : Nat) (c2 : Nat) (x3 : Int) (x4 : Int) (s5 : ByteArray) (l6 : List Go.Value) (B : Bx) (X : Xx) (k : List D → Prop) : rFS1 C L n0 n1 c2 x3 x4 s5 l6 B X k =
 (bcase (decide (x4 < x3))
 (bcase (decide (0 ≤ x4))
 (bcase (decide (x4 < (↑n1 : Int)))
 (∃ n2 : Int,
 ((At (l6) (0 + Int.toNat x4 * 1) 1 [(vI n2)]) ∧
 (∃ s1 : ByteArray,
 ((Says C 32 [(D.val (vI n2))] [(D.val (Value.string (s1)))]) ∧
 (bcase (decide (n0 < n0 + 1))
 (bcase (decide ((2 * (n0 + 1) + 768) * 16 ≤ 281474976710656))
 (bcase (decide (n0 + 1 ≤ 1099511627776))
 (bcase (decide (0 + n0 * 1 ≤ List.length [Value.string s5]))
 (bcase (Bool.false || List.all (List.take (n0 * 1) (List.drop 0 [Value.string s5])) cellP)
 (B [(Prod.mk 3 (Sl 1000 (n0 + 1) (n0 + 1))), (Prod.mk 10 (Sl 500 (n1) (c2))), (Prod.mk 11 (vI x3)), (Prod.mk 12 (vI (IntKind.wrap .i64 (x4 + 1))))] [(Prod.mk 1000 (AObj.sym ((List.take (n0 * 1) (List.drop 0 [Value.string s5])) ++ [(Value.string (s1))]) true 1)), (Prod.mk 500 (AObj.sym (l6) false 1))])
 False)
 False)
 False)
 False)
 False)))))
 False)
 False)
 (X 0 [(Prod.mk 3 (Sl 1000 (n0) (n0)))] [(Prod.mk 1000 (AObj.cells [(Value.string (s5))] 9 false 1))])) := by kernel_rfl
abbrev zFS2 (n0 : Nat) (n1 : Nat) (c2 : Nat) (x3 : Int) (x4 : Int) (l5 : List Value) (l6 : List Value) : Slots × Blocks := ([(3, (Value.slice (some ⟨1000, 0, none⟩) n0 n0)), (10, (Value.slice (some ⟨500, 0, none⟩) n1 c2)), (11, (Value.int .i64 x3)), (12, (Value.int .i64 x4))], [(1000, (AObj.sym l5 true 1)), (500, (AObj.sym l6 false 1))])
def rFS2 (C : Ct) (L : AtLoop) (n0 : Nat) (n1 : Nat) (c2 : Nat) (x3 : Int) (x4 : Int) (l5 : List Value) (l6 : List Value) (B : Bx) (X : Xx) (k : List D → Prop) : Prop := wpRound Tryz.prog (hX C) L 7 0 [(3, (Value.slice (some ⟨1000, 0, none⟩) n0 n0)), (10, (Value.slice (some ⟨500, 0, none⟩) n1 c2)), (11, (Value.int .i64 x3)), (12, (Value.int .i64 x4))] [(1000, (AObj.sym l5 true 1)), (500, (AObj.sym l6 false 1))] B X (dataK k)
theorem rFS2_text (C : Ct) (L : AtLoop) (n0 : Nat) (n1 : Nat) (c2 : Nat) (x3 : Int) (x4 : Int) (l5 : List Go.Value) (l6 : List Go.Value) (B : Bx) (X : Xx) (k : List D → Prop) : rFS2 C L n0 n1 c2 x3 x4 l5 l6 B X k =
 (bcase (decide (x4 < x3))
 (bcase (decide (0 ≤ x4))
 (bcase (decide (x4 < (↑n1 : Int)))
 (∃ n2 : Int,
 ((At (l6) (0 + Int.toNat x4 * 1) 1 [(vI n2)]) ∧
 (∃ s1 : ByteArray,
 ((Says C 32 [(D.val (vI n2))] [(D.val (Value.string (s1)))]) ∧
 (bcase (decide (n0 < n0 + 1))
 (bcase (decide ((2 * (n0 + 1) + 768) * 16 ≤ 281474976710656))
 (bcase (decide (n0 + 1 ≤ 1099511627776))
 (bcase (decide (0 + n0 * 1 ≤ List.length l5))
 (bcase (decide (0 + n0 * 1 = List.length l5))
 (B [(Prod.mk 3 (Sl 1000 (n0 + 1) (n0 + 1))), (Prod.mk 10 (Sl 500 (n1) (c2))), (Prod.mk 11 (vI x3)), (Prod.mk 12 (vI (IntKind.wrap .i64 (x4 + 1))))] [(Prod.mk 1000 (AObj.sym ((List.take (n0 * 1) (List.drop 0 l5)) ++ [(Value.string (s1))]) true 1)), (Prod.mk 500 (AObj.sym (l6) false 1))])
 False)
 False)
 False)
 False)
 False)))))
 False)
 False)
 (X 0 [(Prod.mk 3 (Sl 1000 (n0) (n0)))] [(Prod.mk 1000 (AObj.sym (l5) true 1))])) := by kernel_rfl
def nFS3 (C : Ct) (L : AtLoop) (n0 : Nat) (s1 : ByteArray) (k : List D → Prop) : Prop := wpNext Tryz.prog (hX C) L 7 0 .normal [(3, (Value.slice (some ⟨1000, 0, none⟩) n0 n0))] [(1000, (AObj.cells [(Value.string s1)] 9 false 1))] (dataK k)
theorem nFS3_text (C : Ct) (L : AtLoop) (n0 : Nat) (s1 : ByteArray) (k : List D → Prop) : nFS3 C L n0 s1 k =
 (bcase (decide (0 + n0 * 1 ≤ List.length [Value.string s1]))
 (bcase (List.all (List.take (n0 * 1) (List.drop 0 [Value.string s1])) cellP)
 (∃ s2 : ByteArray,
 ((Says C 33 [(D.sl (n0) 1 (List.take (n0 * 1) (List.drop 0 [Value.string s1]))), (D.val (Value.string ({ data := #[32] })))] [(D.val (Value.string (s2)))]) ∧
 (k [(D.val (Value.string (s2)))])))
 False)
 False) := by kernel_rfl
def nFS4 (C : Ct) (L : AtLoop) (n0 : Nat) (l1 : List Value) (k : List D → Prop) : Prop := wpNext Tryz.prog (hX C) L 7 0 .normal [(3, (Value.slice (some ⟨1000, 0, none⟩) n0 n0))] [(1000, (AObj.sym l1 true 1))] (dataK k)
theorem nFS4_text (C : Ct) (L : AtLoop) (n0 : Nat) (l1 : List Go.Value) (k : List D → Prop) : nFS4 C L n0 l1 k =
 (bcase (decide (0 + n0 * 1 ≤ List.length l1))
 (∃ s1 : ByteArray,
 ((Says C 33 [(D.sl (n0) 1 (List.take (n0 * 1) (List.drop 0 l1))), (D.val (Value.string ({ data := #[32] })))] [(D.val (Value.string (s1)))]) ∧
 (k [(D.val (Value.string (s1)))])))
 False) := by kernel_rfl
def gFR (C : Ct) (L : AtLoop) (x0 : Int) (x1 : Int) (x2 : Int) (x3 : Int) (x4 : Int) (x5 : Int) (n6 : Nat) (c6 : Nat) (l6 : List Value) (x7 : Int) (x8 : Int) (x9 : Int) (x10 : Int) (k : List D → Prop) : Prop := wpFn Tryz.prog (hX C) L 0 9 #[.agg #[.int .i64 x0, .int .i64 x1, .int .i64 x2, .int .i64 x3, .int .i64 x4, .int .i64 x5, .slice (some ⟨500, 0, none⟩) n6 c6, .int .i64 x7, .int .i64 x8, .int .i64 x9, .int .i64 x10]] (heapOf [(500, .sym l6 false 5)]) (dataK k)
theorem gFR_text (C : Ct) (L : AtLoop) (x0 : Int) (x1 : Int) (x2 : Int) (x3 : Int) (x4 : Int) (x5 : Int) (n6 : Nat) (c6 : Nat) (l6 : List Go.Value) (x7 : Int) (x8 : Int) (x9 : Int) (x10 : Int) (k : List D → Prop) : gFR C L x0 x1 x2 x3 x4 x5 n6 c6 l6 x7 x8 x9 x10 k =
 (((Qv (Value.agg [(Pt 1000 0), (Pt 1000 1), (Pt 1000 2), (Pt 1000 3), (Pt 1000 4), (Pt 1000 5), (Pt 1000 7), (Pt 1000 8), (Pt 1000 9), (Pt 1000 10)].toArray)) ∧
 ((Qv (Pt 1000 10)) ∧
 ((Qv (Pt 1000 9)) ∧
 ((Qv (Pt 1000 0)) ∧
 ((Qv (Pt 1000 0)) ∧
 ((Qv (Pt 1000 9)) ∧
 ((Qv (Pt 1000 9)) ∧
 ((Qv (Pt 1000 0)) ∧
 ((Qv (Pt 1000 0)) ∧
 ((Qv (Pt 1000 8)) ∧
 ((Qv (Pt 1000 7)) ∧
 ((Qv (Pt 1000 0)) ∧
 ((Qv (Pt 1000 0)) ∧
 ((Qv (Pt 1000 7)) ∧
 ((Qv (Pt 1000 7)) ∧
 ((Qv (Pt 1000 0)) ∧
 ((Qv (Pt 1000 0)) ∧
 ((Qv (Pt 1000 5)) ∧
 ((Qv (Pt 1000 0)) ∧
 ((Qv (Pt 1000 0)) ∧
 ((Qv (Pt 1000 4)) ∧
 ((Qv (Pt 1000 3)) ∧
 ((Qv (Pt 1000 0)) ∧
 ((Qv (Pt 1000 0)) ∧
 ((Qv (Pt 1000 3)) ∧
 ((Qv (Pt 1000 3)) ∧
 ((Qv (Pt 1000 0)) ∧
 ((Qv (Pt 1000 0)) ∧
 ((Qv (Pt 1000 2)) ∧
 ((Qv (Pt 1000 0)) ∧
 ((Qv (Pt 1000 0)) ∧
 ((Qv (Pt 1000 1)) ∧
 ((Qv (Pt 1000 0)) ∧
 ((Qv (Pt 1000 0)) ∧
 ((Qv (Pt 1000 0)) ∧
 ((Qv (Pt 1000 0)) ∧
 ((Qv (Pt 1000 0)) ∧
 True))))))))))))))))))))))))))))))))))))) ∧
 (True ∧
 (∃ s1 : ByteArray,
 ((Says C 32 [(D.val (vI x0))] [(D.val (Value.string (s1)))]) ∧
 (∃ s2 : ByteArray,
 ((Says C 32 [(D.val (vI x1))] [(D.val (Value.string (s2)))]) ∧
 (∃ s3 : ByteArray,
 ((Says C 32 [(D.val (vI x2))] [(D.val (Value.string (s3)))]) ∧
 (∃ s4 : ByteArray,
 ((Says C 32 [(D.val (vI x3))] [(D.val (Value.string (s4)))]) ∧
 (∃ s5 : ByteArray,
 ((Says C 32 [(D.val (vI x4))] [(D.val (Value.string (s5)))]) ∧
 (∃ s6 : ByteArray,
 ((Says C 32 [(D.val (vI x5))] [(D.val (Value.string (s6)))]) ∧
 (∃ s7 : ByteArray,
 ((Says C 32 [(D.val (vI x7))] [(D.val (Value.string (s7)))]) ∧
 (∃ s8 : ByteArray,
 ((Says C 32 [(D.val (vI x8))] [(D.val (Value.string (s8)))]) ∧
 (∃ s9 : ByteArray,
 ((Says C 32 [(D.val (vI x9))] [(D.val (Value.string (s9)))]) ∧
 (∃ s10 : ByteArray,
 ((Says C 32 [(D.val (vI x10))] [(D.val (Value.string (s10)))]) ∧
 (∃ s11 : ByteArray,
 ((Says C 33 [(D.sl 10 1 [(Value.string (s1)), (Value.string (s2)), (Value.string (s3)), (Value.string (s4)), (Value.string (s5)), (Value.string (s6)), (Value.string (s7)), (Value.string (s8)), (Value.string (s9)), (Value.string (s10))]), (D.val (Value.string ({ data := #[32] })))] [(D.val (Value.string (s11)))]) ∧
 (L 0 [(Prod.mk 4 (Sl 1000 1 1)), (Prod.mk 13 (Sl 500 (n6) (c6))), (Prod.mk 14 (vI ((↑n6 : Int)))), (Prod.mk 15 (vI 0))] [(Prod.mk 1000 (AObj.cells [(Value.string (s11))] 9 false 1)), (Prod.mk 500 (AObj.sym (l6) false 5))]))))))))))))))))))))))))) := by kernel_rfl
abbrev zFR1 (n0 : Nat) (n1 : Nat) (c2 : Nat) (x3 : Int) (x4 : Int) (s5 : ByteArray) (l6 : List Value) : Slots × Blocks := ([(4, (Value.slice (some ⟨1000, 0, none⟩) n0 n0)), (13, (Value.slice (some ⟨500, 0, none⟩) n1 c2)), (14, (Value.int .i64 x3)), (15, (Value.int .i64 x4))], [(1000, (AObj.cells [(Value.string s5)] 9 false 1)), (500, (AObj.sym l6 false 5))])
def rFR1 (C : Ct) (L : AtLoop) (n0 : Nat) (n1 : Nat) (c2 : Nat) (x3 : Int) (x4 : Int) (s5 : ByteArray) (l6 : List Value) (B : Bx) (X : Xx) (k : List D → Prop) : Prop := wpRound Tryz.prog (hX C) L 9 0 [(4, (Value.slice (some ⟨1000, 0, none⟩) n0 n0)), (13, (Value.slice (some ⟨500, 0, none⟩) n1 c2)), (14, (Value.int .i64 x3)), (15, (Value.int .i64 x4))] [(1000, (AObj.cells [(Value.string s5)] 9 false 1)), (500, (AObj.sym l6 false 5))] B X (dataK k)
theorem rFR1_text (C : Ct) (L : AtLoop) (n0 : Nat) (n1 : Nat) (c2 : Nat) (x3 : Int) (x4 : Int) (s5 : ByteArray) (l6 : List Go.Value) (B : Bx) (X : Xx) (k : List D → Prop) : rFR1 C L n0 n1 c2 x3 x4 s5 l6 B X k =
 (bcase (decide (x4 < x3))
 (bcase (decide (0 ≤ x4))
 (bcase (decide (x4 < (↑n1 : Int)))
 (∃ n2 : Int,
 (∃ n3 : Int,
 (∃ n4 : Int,
 (∃ n5 : Int,
 (∃ n6 : Int,
 ((At (l6) (0 + Int.toNat x4 * 5) 5 [(vI n2), (vI n3), (vI n4), (vI n5), (vI n6)]) ∧
 (((Qv (Value.agg [(Pt 1001 0), (Pt 1001 1), (Pt 1001 2), (Pt 1001 3), (Pt 1001 4)].toArray)) ∧
 ((Qv (Pt 1001 4)) ∧
 ((Qv (Pt 1001 3)) ∧
 ((Qv (Pt 1001 0)) ∧
 ((Qv (Pt 1001 0)) ∧
 ((Qv (Pt 1001 3)) ∧
 ((Qv (Pt 1001 3)) ∧
 ((Qv (Pt 1001 0)) ∧
 ((Qv (Pt 1001 0)) ∧
 ((Qv (Pt 1001 2)) ∧
 ((Qv (Pt 1001 0)) ∧
 ((Qv (Pt 1001 0)) ∧
 ((Qv (Pt 1001 1)) ∧
 ((Qv (Pt 1001 0)) ∧
 ((Qv (Pt 1001 0)) ∧
 ((Qv (Pt 1001 0)) ∧
 ((Qv (Pt 1001 0)) ∧
 ((Qv (Pt 1001 0)) ∧
 True)))))))))))))))))) ∧
 (True ∧
 (∃ s1 : ByteArray,
 ((Says C 32 [(D.val (vI n2))] [(D.val (Value.string (s1)))]) ∧
 (∃ s2 : ByteArray,
 ((Says C 32 [(D.val (vI n3))] [(D.val (Value.string (s2)))]) ∧
 (∃ s3 : ByteArray,
 ((Says C 32 [(D.val (vI n4))] [(D.val (Value.string (s3)))]) ∧
 (∃ s4 : ByteArray,
 ((Says C 32 [(D.val (vI n5))] [(D.val (Value.string (s4)))]) ∧
 (∃ s6 : ByteArray,
 ((Says C 32 [(D.val (vI n6))] [(D.val (Value.string (s6)))]) ∧
 (∃ s7 : ByteArray,
 ((Says C 33 [(D.sl 5 1 [(Value.string (s1)), (Value.string (s2)), (Value.string (s3)), (Value.string (s4)), (Value.string (s6))]), (D.val (Value.string ({ data := #[32] })))] [(D.val (Value.string (s7)))]) ∧
 (bcase (decide (n0 < n0 + 1))
 (bcase (decide ((2 * (n0 + 1) + 768) * 16 ≤ 281474976710656))
 (bcase (decide (n0 + 1 ≤ 1099511627776))
 (bcase (decide (0 + n0 * 1 ≤ List.length [Value.string s5]))
 (bcase (Bool.false || List.all (List.take (n0 * 1) (List.drop 0 [Value.string s5])) cellP)
 (B [(Prod.mk 4 (Sl 1000 (n0 + 1) (n0 + 1))), (Prod.mk 13 (Sl 500 (n1) (c2))), (Prod.mk 14 (vI x3)), (Prod.mk 15 (vI (IntKind.wrap .i64 (x4 + 1))))] [(Prod.mk 1000 (AObj.sym ((List.take (n0 * 1) (List.drop 0 [Value.string s5])) ++ [(Value.string (s7))]) true 1)), (Prod.mk 500 (AObj.sym (l6) false 5))])
 False)
 False)
 False)
 False)
 False)))))))))))))))))))))
 False)
 False)
 (X 0 [(Prod.mk 4 (Sl 1000 (n0) (n0)))] [(Prod.mk 1000 (AObj.cells [(Value.string (s5))] 9 false 1))])) := by kernel_rfl
abbrev zFR2 (n0 : Nat) (n1 : Nat) (c2 : Nat) (x3 : Int) (x4 : Int) (l5 : List Value) (l6 : List Value) : Slots × Blocks := ([(4, (Value.slice (some ⟨1000, 0, none⟩) n0 n0)), (13, (Value.slice (some ⟨500, 0, none⟩) n1 c2)), (14, (Value.int .i64 x3)), (15, (Value.int .i64 x4))], [(1000, (AObj.sym l5 true 1)), (500, (AObj.sym l6 false 5))])
def rFR2 (C : Ct) (L : AtLoop) (n0 : Nat) (n1 : Nat) (c2 : Nat) (x3 : Int) (x4 : Int) (l5 : List Value) (l6 : List Value) (B : Bx) (X : Xx) (k : List D → Prop) : Prop := wpRound Tryz.prog (hX C) L 9 0 [(4, (Value.slice (some ⟨1000, 0, none⟩) n0 n0)), (13, (Value.slice (some ⟨500, 0, none⟩) n1 c2)), (14, (Value.int .i64 x3)), (15, (Value.int .i64 x4))] [(1000, (AObj.sym l5 true 1)), (500, (AObj.sym l6 false 5))] B X (dataK k)
theorem rFR2_text (C : Ct) (L : AtLoop) (n0 : Nat) (n1 : Nat) (c2 : Nat) (x3 : Int) (x4 : Int) (l5 : List Go.Value) (l6 : List Go.Value) (B : Bx) (X : Xx) (k : List D → Prop) : rFR2 C L n0 n1 c2 x3 x4 l5 l6 B X k =
 (bcase (decide (x4 < x3))
 (bcase (decide (0 ≤ x4))
 (bcase (decide (x4 < (↑n1 : Int)))
 (∃ n2 : Int,
 (∃ n3 : Int,
 (∃ n4 : Int,
 (∃ n5 : Int,
 (∃ n6 : Int,
 ((At (l6) (0 + Int.toNat x4 * 5) 5 [(vI n2), (vI n3), (vI n4), (vI n5), (vI n6)]) ∧
 (((Qv (Value.agg [(Pt 1001 0), (Pt 1001 1), (Pt 1001 2), (Pt 1001 3), (Pt 1001 4)].toArray)) ∧
 ((Qv (Pt 1001 4)) ∧
 ((Qv (Pt 1001 3)) ∧
 ((Qv (Pt 1001 0)) ∧
 ((Qv (Pt 1001 0)) ∧
 ((Qv (Pt 1001 3)) ∧
 ((Qv (Pt 1001 3)) ∧
 ((Qv (Pt 1001 0)) ∧
 ((Qv (Pt 1001 0)) ∧
 ((Qv (Pt 1001 2)) ∧
 ((Qv (Pt 1001 0)) ∧
 ((Qv (Pt 1001 0)) ∧
 ((Qv (Pt 1001 1)) ∧
 ((Qv (Pt 1001 0)) ∧
 ((Qv (Pt 1001 0)) ∧
 ((Qv (Pt 1001 0)) ∧
 ((Qv (Pt 1001 0)) ∧
 ((Qv (Pt 1001 0)) ∧
 True)))))))))))))))))) ∧
 (True ∧
 (∃ s1 : ByteArray,
 ((Says C 32 [(D.val (vI n2))] [(D.val (Value.string (s1)))]) ∧
 (∃ s2 : ByteArray,
 ((Says C 32 [(D.val (vI n3))] [(D.val (Value.string (s2)))]) ∧
 (∃ s3 : ByteArray,
 ((Says C 32 [(D.val (vI n4))] [(D.val (Value.string (s3)))]) ∧
 (∃ s4 : ByteArray,
 ((Says C 32 [(D.val (vI n5))] [(D.val (Value.string (s4)))]) ∧
 (∃ s5 : ByteArray,
 ((Says C 32 [(D.val (vI n6))] [(D.val (Value.string (s5)))]) ∧
 (∃ s6 : ByteArray,
 ((Says C 33 [(D.sl 5 1 [(Value.string (s1)), (Value.string (s2)), (Value.string (s3)), (Value.string (s4)), (Value.string (s5))]), (D.val (Value.string ({ data := #[32] })))] [(D.val (Value.string (s6)))]) ∧
 (bcase (decide (n0 < n0 + 1))
 (bcase (decide ((2 * (n0 + 1) + 768) * 16 ≤ 281474976710656))
 (bcase (decide (n0 + 1 ≤ 1099511627776))
 (bcase (decide (0 + n0 * 1 ≤ List.length l5))
 (bcase (decide (0 + n0 * 1 = List.length l5))
 (B [(Prod.mk 4 (Sl 1000 (n0 + 1) (n0 + 1))), (Prod.mk 13 (Sl 500 (n1) (c2))), (Prod.mk 14 (vI x3)), (Prod.mk 15 (vI (IntKind.wrap .i64 (x4 + 1))))] [(Prod.mk 1000 (AObj.sym ((List.take (n0 * 1) (List.drop 0 l5)) ++ [(Value.string (s6))]) true 1)), (Prod.mk 500 (AObj.sym (l6) false 5))])
 False)
 False)
 False)
 False)
 False)))))))))))))))))))))
 False)
 False)
 (X 0 [(Prod.mk 4 (Sl 1000 (n0) (n0)))] [(Prod.mk 1000 (AObj.sym (l5) true 1))])) := by kernel_rfl
def nFR3 (C : Ct) (L : AtLoop) (n0 : Nat) (s1 : ByteArray) (k : List D → Prop) : Prop := wpNext Tryz.prog (hX C) L 9 0 .normal [(4, (Value.slice (some ⟨1000, 0, none⟩) n0 n0))] [(1000, (AObj.cells [(Value.string s1)] 9 false 1))] (dataK k)
theorem nFR3_text (C : Ct) (L : AtLoop) (n0 : Nat) (s1 : ByteArray) (k : List D → Prop) : nFR3 C L n0 s1 k =
 (bcase (decide (0 + n0 * 1 ≤ List.length [Value.string s1]))
 (bcase (List.all (List.take (n0 * 1) (List.drop 0 [Value.string s1])) cellP)
 (∃ s2 : ByteArray,
 ((Says C 33 [(D.sl (n0) 1 (List.take (n0 * 1) (List.drop 0 [Value.string s1]))), (D.val (Value.string ({ data := #[32, 59, 32] })))] [(D.val (Value.string (s2)))]) ∧
 (k [(D.val (Value.string (s2)))])))
 False)
 False) := by kernel_rfl
def nFR4 (C : Ct) (L : AtLoop) (n0 : Nat) (l1 : List Value) (k : List D → Prop) : Prop := wpNext Tryz.prog (hX C) L 9 0 .normal [(4, (Value.slice (some ⟨1000, 0, none⟩) n0 n0))] [(1000, (AObj.sym l1 true 1))] (dataK k)
theorem nFR4_text (C : Ct) (L : AtLoop) (n0 : Nat) (l1 : List Go.Value) (k : List D → Prop) : nFR4 C L n0 l1 k =
 (bcase (decide (0 + n0 * 1 ≤ List.length l1))
 (∃ s1 : ByteArray,
 ((Says C 33 [(D.sl (n0) 1 (List.take (n0 * 1) (List.drop 0 l1))), (D.val (Value.string ({ data := #[32, 59, 32] })))] [(D.val (Value.string (s1)))]) ∧
 (k [(D.val (Value.string (s1)))])))
 False) := by kernel_rfl
def gPS (C : Ct) (L : AtLoop) (s0 : ByteArray) (k : List D → Prop) : Prop := wpFn Tryz.prog (hX C) L 0 17 #[.string s0] (heapOf []) (dataK k)
theorem gPS_text (C : Ct) (L : AtLoop) (s0 : ByteArray) (k : List D → Prop) : gPS C L s0 k =
 (((Says C 40 [(D.val (Value.string (s0))), (D.val (Value.string ({ data := #[32] })))] [D.nil]) ∧
 False) ∨
 (∃ n1 : Nat,
 (∃ cs1 : List Go.Value,
 ((Says C 40 [(D.val (Value.string (s0))), (D.val (Value.string ({ data := #[32] })))] [(D.sl (n1) 1 (cs1))]) ∧
 (bcase (decide (0 < (↑n1 : Int)))
 (∃ s1 : ByteArray,
 ((At (cs1) 0 1 [(Value.string (s1))]) ∧
 (bcase (decide (1 ≤ (↑n1 : Int)))
 (bcase (decide (n1 ≤ n1))
 (bcase (AObj.isOpen (AObj.sym cs1 Bool.true 1) 0 n1)
 (((bcase (decide (1 ≤ (↑n1 : Int)))
 (bcase (decide (n1 ≤ n1))
 (bcase (AObj.isOpen (AObj.sym cs1 Bool.true 1) 0 n1)
 (Qv (Value.slice (some (Addr.mk 1001 1 none)) (n1 - 1) (n1 - 1)))
 False)
 False)
 False) ∧
 ((Qv (Sl 1001 (n1) (n1))) ∧
 ((∃ s2 : ByteArray,
 ((At (cs1) 0 1 [(Value.string (s2))]) ∧
 ((Value.string (s2)) = (Value.string (s1))))) ∧
 ((bcase (decide (0 < (↑n1 : Int)))
 (Qv (Pt 1001 0))
 False) ∧
 ((Qv (Sl 1001 (n1) (n1))) ∧
 True))))) ∧
 (((bcase (decide (1 ≤ (↑n1 : Int)))
 (bcase (decide (n1 ≤ n1))
 (bcase (AObj.isOpen (AObj.sym cs1 Bool.true 1) 0 n1)
 (Qv (Value.slice (some (Addr.mk 1001 1 none)) (n1 - 1) (n1 - 1)))
 False)
 False)
 False) ∧
 ((Qv (Sl 1001 (n1) (n1))) ∧
 True)) ∧
 (True ∧
 (bcase (ByteArray.toList s1 == ByteArray.toList { data := #[] })
 (k [(D.agg [(D.val (Value.string ({ data := #[] }))), D.nil]), (D.val (vI 7))])
 (bcase (decide (1 + (n1 - 1) * 1 ≤ List.length cs1))
 (((Says C 44 [(D.sl (n1 - 1) 1 (List.take ((n1 - 1) * 1) (List.drop 1 cs1)))] [(D.val (Value.bool true))]) ∧
 (((Says C 45 [(D.val (Value.string (s1)))] [(D.val (Value.bool true))]) ∧
 (bcase (decide ((↑(n1 - 1) : Int) > 6))
 (k [(D.agg [(D.val (Value.string ({ data := #[] }))), D.nil]), (D.val (vI 8))])
 (L 1 [(Prod.mk 2 (Pt 1000 0)), (Prod.mk 7 (Pt 1001 0)), (Prod.mk 38 (Value.slice (some (Addr.mk 1002 1 none)) (n1 - 1) (n1 - 1))), (Prod.mk 39 (vI ((↑(n1 - 1) : Int)))), (Prod.mk 40 (vI 0))] [(Prod.mk 1000 (AObj.cells [(Value.string ({ data := #[] })), (Value.slice none 0 0)] 29 false 2)), (Prod.mk 1001 (AObj.cells [(Value.string (s1)), (Value.slice none 0 0)] 29 false 2)), (Prod.mk 1002 (AObj.sym (cs1) true 1))]))) ∨
 ((Says C 45 [(D.val (Value.string (s1)))] [(D.val (Value.bool false))]) ∧
 (k [(D.agg [(D.val (Value.string ({ data := #[] }))), D.nil]), (D.val (vI 4))])))) ∨
 ((Says C 44 [(D.sl (n1 - 1) 1 (List.take ((n1 - 1) * 1) (List.drop 1 cs1)))] [(D.val (Value.bool false))]) ∧
 (k [(D.agg [(D.val (Value.string ({ data := #[] }))), D.nil]), (D.val (vI 7))])))
 False)))))
 False)
 False)
 False)))
 False))))) := by kernel_rfl
abbrev zPS1 (o0 : Nat) (n1 : Nat) (x2 : Int) (x3 : Int) (s4 : ByteArray) (s5 : ByteArray) (l6 : List Value) : Slots × Blocks := ([(2, (Value.pointer (some ⟨1000, 0, none⟩))), (7, (Value.pointer (some ⟨1001, 0, none⟩))), (38, (Value.slice (some ⟨1002, o0, none⟩) n1 n1)), (39, (Value.int .i64 x2)), (40, (Value.int .i64 x3))], [(1000, (AObj.cells [(Value.string s4), (Value.slice none 0 0)] 29 false 2)), (1001, (AObj.cells [(Value.string s5), (Value.slice none 0 0)] 29 false 2)), (1002, (AObj.sym l6 true 1))])
def rPS1 (C : Ct) (L : AtLoop) (o0 : Nat) (n1 : Nat) (x2 : Int) (x3 : Int) (s4 : ByteArray) (s5 : ByteArray) (l6 : List Value) (B : Bx) (X : Xx) (k : List D → Prop) : Prop := wpRound Tryz.prog (hX C) L 17 1 [(2, (Value.pointer (some ⟨1000, 0, none⟩))), (7, (Value.pointer (some ⟨1001, 0, none⟩))), (38, (Value.slice (some ⟨1002, o0, none⟩) n1 n1)), (39, (Value.int .i64 x2)), (40, (Value.int .i64 x3))] [(1000, (AObj.cells [(Value.string s4), (Value.slice none 0 0)] 29 false 2)), (1001, (AObj.cells [(Value.string s5), (Value.slice none 0 0)] 29 false 2)), (1002, (AObj.sym l6 true 1))] B X (dataK k)
theorem rPS1_text (C : Ct) (L : AtLoop) (o0 : Nat) (n1 : Nat) (x2 : Int) (x3 : Int) (s4 : ByteArray) (s5 : ByteArray) (l6 : List Go.Value) (B : Bx) (X : Xx) (k : List D → Prop) : rPS1 C L o0 n1 x2 x3 s4 s5 l6 B X k =
 (bcase (decide (x3 < x2))
 (bcase (decide (0 ≤ x3))
 (bcase (decide (x3 < (↑n1 : Int)))
 (∃ s1 : ByteArray,
 ((At (l6) (o0 + Int.toNat x3 * 1) 1 [(Value.string (s1))]) ∧
 (∃ n2 : Int,
 ((Says C 46 [(D.val (Value.string (s1)))] [(D.val (vI n2))]) ∧
 (∃ n3 : Int,
 ((Says C 47 [(D.val (vI n2))] [(D.val (vI n3))]) ∧
 (bcase (n3 != 0)
 (k [(D.agg [(D.val (Value.string ({ data := #[] }))), D.nil]), (D.val (vI n3))])
 (B [(Prod.mk 2 (Pt 1000 0)), (Prod.mk 7 (Pt 1001 0)), (Prod.mk 38 (Value.slice (some (Addr.mk 1002 (o0) none)) (n1) (n1))), (Prod.mk 39 (vI x2)), (Prod.mk 40 (vI (IntKind.wrap .i64 (x3 + 1))))] [(Prod.mk 1000 (AObj.cells [(Value.string (s4)), (Value.slice none 0 0)] 29 false 2)), (Prod.mk 1001 (AObj.cells [(Value.string (s5)), (Sl 1003 1 1)] 29 false 2)), (Prod.mk 1002 (AObj.sym (l6) true 1)), (Prod.mk 1003 (AObj.sym [(vI n2)] true 1))]))))))))
 False)
 False)
 (X 1 [(Prod.mk 2 (Pt 1000 0)), (Prod.mk 7 (Pt 1001 0))] [(Prod.mk 1000 (AObj.cells [(Value.string (s4)), (Value.slice none 0 0)] 29 false 2)), (Prod.mk 1001 (AObj.cells [(Value.string (s5)), (Value.slice none 0 0)] 29 false 2))])) := by kernel_rfl
abbrev zPS2 (o0 : Nat) (n1 : Nat) (x2 : Int) (x3 : Int) (s4 : ByteArray) (s5 : ByteArray) (n6 : Nat) (l7 : List Value) (l8 : List Value) : Slots × Blocks := ([(2, (Value.pointer (some ⟨1000, 0, none⟩))), (7, (Value.pointer (some ⟨1001, 0, none⟩))), (38, (Value.slice (some ⟨1002, o0, none⟩) n1 n1)), (39, (Value.int .i64 x2)), (40, (Value.int .i64 x3))], [(1000, (AObj.cells [(Value.string s4), (Value.slice none 0 0)] 29 false 2)), (1001, (AObj.cells [(Value.string s5), (Value.slice (some ⟨1003, 0, none⟩) n6 n6)] 29 false 2)), (1002, (AObj.sym l7 true 1)), (1003, (AObj.sym l8 true 1))])
def rPS2 (C : Ct) (L : AtLoop) (o0 : Nat) (n1 : Nat) (x2 : Int) (x3 : Int) (s4 : ByteArray) (s5 : ByteArray) (n6 : Nat) (l7 : List Value) (l8 : List Value) (B : Bx) (X : Xx) (k : List D → Prop) : Prop := wpRound Tryz.prog (hX C) L 17 1 [(2, (Value.pointer (some ⟨1000, 0, none⟩))), (7, (Value.pointer (some ⟨1001, 0, none⟩))), (38, (Value.slice (some ⟨1002, o0, none⟩) n1 n1)), (39, (Value.int .i64 x2)), (40, (Value.int .i64 x3))] [(1000, (AObj.cells [(Value.string s4), (Value.slice none 0 0)] 29 false 2)), (1001, (AObj.cells [(Value.string s5), (Value.slice (some ⟨1003, 0, none⟩) n6 n6)] 29 false 2)), (1002, (AObj.sym l7 true 1)), (1003, (AObj.sym l8 true 1))] B X (dataK k)
theorem rPS2_text (C : Ct) (L : AtLoop) (o0 : Nat) (n1 : Nat) (x2 : Int) (x3 : Int) (s4 : ByteArray) (s5 : ByteArray) (n6 : Nat) (l7 : List Go.Value) (l8 : List Go.Value) (B : Bx) (X : Xx) (k : List D → Prop) : rPS2 C L o0 n1 x2 x3 s4 s5 n6 l7 l8 B X k =
 (bcase (decide (x3 < x2))
 (bcase (decide (0 ≤ x3))
 (bcase (decide (x3 < (↑n1 : Int)))
 (∃ s1 : ByteArray,
 ((At (l7) (o0 + Int.toNat x3 * 1) 1 [(Value.string (s1))]) ∧
 (∃ n2 : Int,
 ((Says C 46 [(D.val (Value.string (s1)))] [(D.val (vI n2))]) ∧
 (∃ n3 : Int,
 ((Says C 47 [(D.val (vI n2))] [(D.val (vI n3))]) ∧
 (bcase (n3 != 0)
 (k [(D.agg [(D.val (Value.string ({ data := #[] }))), D.nil]), (D.val (vI n3))])
 (bcase (decide (n6 < n6 + 1))
 (bcase (decide ((2 * (n6 + 1) + 768) * 8 ≤ 281474976710656))
 (bcase (decide (n6 + 1 ≤ 1099511627776))
 (bcase (decide (0 + n6 * 1 ≤ List.length l8))
 (bcase (decide (0 + n6 * 1 = List.length l8))
 (B [(Prod.mk 2 (Pt 1000 0)), (Prod.mk 7 (Pt 1001 0)), (Prod.mk 38 (Value.slice (some (Addr.mk 1002 (o0) none)) (n1) (n1))), (Prod.mk 39 (vI x2)), (Prod.mk 40 (vI (IntKind.wrap .i64 (x3 + 1))))] [(Prod.mk 1000 (AObj.cells [(Value.string (s4)), (Value.slice none 0 0)] 29 false 2)), (Prod.mk 1001 (AObj.cells [(Value.string (s5)), (Sl 1003 (n6 + 1) (n6 + 1))] 29 false 2)), (Prod.mk 1002 (AObj.sym (l7) true 1)), (Prod.mk 1003 (AObj.sym ((List.take (n6 * 1) (List.drop 0 l8)) ++ [(vI n2)]) true 1))])
 False)
 False)
 False)
 False)
 False))))))))
 False)
 False)
 (X 1 [(Prod.mk 2 (Pt 1000 0)), (Prod.mk 7 (Pt 1001 0))] [(Prod.mk 1000 (AObj.cells [(Value.string (s4)), (Value.slice none 0 0)] 29 false 2)), (Prod.mk 1001 (AObj.cells [(Value.string (s5)), (Sl 1002 (n6) (n6))] 29 false 2)), (Prod.mk 1002 (AObj.sym (l8) true 1))])) := by kernel_rfl
def nPS3 (C : Ct) (L : AtLoop) (s0 : ByteArray) (s1 : ByteArray) (k : List D → Prop) : Prop := wpNext Tryz.prog (hX C) L 17 1 .normal [(2, (Value.pointer (some ⟨1000, 0, none⟩))), (7, (Value.pointer (some ⟨1001, 0, none⟩)))] [(1000, (AObj.cells [(Value.string s0), (Value.slice none 0 0)] 29 false 2)), (1001, (AObj.cells [(Value.string s1), (Value.slice none 0 0)] 29 false 2))] (dataK k)
theorem nPS3_text (C : Ct) (L : AtLoop) (s0 : ByteArray) (s1 : ByteArray) (k : List D → Prop) : nPS3 C L s0 s1 k =
 (k [(D.agg [(D.val (Value.string (s1))), D.nil]), (D.val (vI 0))]) := by kernel_rfl
def nPS4 (C : Ct) (L : AtLoop) (s0 : ByteArray) (s1 : ByteArray) (n2 : Nat) (l3 : List Value) (k : List D → Prop) : Prop := wpNext Tryz.prog (hX C) L 17 1 .normal [(2, (Value.pointer (some ⟨1000, 0, none⟩))), (7, (Value.pointer (some ⟨1001, 0, none⟩)))] [(1000, (AObj.cells [(Value.string s0), (Value.slice none 0 0)] 29 false 2)), (1001, (AObj.cells [(Value.string s1), (Value.slice (some ⟨1002, 0, none⟩) n2 n2)] 29 false 2)), (1002, (AObj.sym l3 true 1))] (dataK k)
theorem nPS4_text (C : Ct) (L : AtLoop) (s0 : ByteArray) (s1 : ByteArray) (n2 : Nat) (l3 : List Go.Value) (k : List D → Prop) : nPS4 C L s0 s1 n2 l3 k =
 (((Qv (n2)) ∧
 ((List.length l3) = (n2 * 1))) ∧
 (k [(D.agg [(D.val (Value.string (s1))), (D.sl (n2) 1 (l3))]), (D.val (vI 0))])) := by kernel_rfl
def gcR (C : Ct) (L : AtLoop) (x0 : Int) (x1 : Int) (x2 : Int) (x3 : Int) (x4 : Int) (x5 : Int) (n6 : Nat) (c6 : Nat) (l6 : List Value) (x7 : Int) (x8 : Int) (x9 : Int) (x10 : Int) (k : List D → Prop) : Prop := wpFn Tryz.prog (hX C) L 0 10 #[.agg #[.int .i64 x0, .int .i64 x1, .int .i64 x2, .int .i64 x3, .int .i64 x4, .int .i64 x5, .slice (some ⟨500, 0, none⟩) n6 c6, .int .i64 x7, .int .i64 x8, .int .i64 x9, .int .i64 x10]] (heapOf [(500, .sym l6 false 5)]) (dataK k)
theorem gcR_text (C : Ct) (L : AtLoop) (x0 : Int) (x1 : Int) (x2 : Int) (x3 : Int) (x4 : Int) (x5 : Int) (n6 : Nat) (c6 : Nat) (l6 : List Go.Value) (x7 : Int) (x8 : Int) (x9 : Int) (x10 : Int) (k : List D → Prop) : gcR C L x0 x1 x2 x3 x4 x5 n6 c6 l6 x7 x8 x9 x10 k =
 (bcase (decide (0 + n6 * 5 ≤ List.length l6))
 (bcase (n6 == 0)
 (((0 = 0) ∧
 (0 = 0)) ∧
 (k [(D.agg [(D.val (vI x0)), (D.val (vI x1)), (D.val (vI x2)), (D.val (vI x3)), (D.val (vI x4)), (D.val (vI x5)), (D.sl 0 5 []), (D.val (vI x7)), (D.val (vI x8)), (D.val (vI x9)), (D.val (vI x10))])]))
 (bcase (decide (0 < 0 + n6))
 (bcase (decide ((2 * (0 + n6) + 768) * 40 ≤ 281474976710656))
 (bcase (decide (0 + n6 ≤ 1099511627776))
 (((Qv (0 + n6)) ∧
 ((List.length (List.take 0 (List.drop 0 []) ++ List.take (n6 * 5) (List.drop 0 l6))) = ((0 + n6) * 5))) ∧
 (k [(D.agg [(D.val (vI x0)), (D.val (vI x1)), (D.val (vI x2)), (D.val (vI x3)), (D.val (vI x4)), (D.val (vI x5)), (D.sl (0 + n6) 5 ([] ++ (List.take (n6 * 5) (List.drop 0 l6)))), (D.val (vI x7)), (D.val (vI x8)), (D.val (vI x9)), (D.val (vI x10))])]))
 False)
 False)
 False))
 False) := by kernel_rfl
def gcRn (C : Ct) (L : AtLoop) (x0 : Int) (x1 : Int) (x2 : Int) (x3 : Int) (x4 : Int) (x5 : Int) (x7 : Int) (x8 : Int) (x9 : Int) (x10 : Int) (k : List D → Prop) : Prop := wpFn Tryz.prog (hX C) L 0 10 #[.agg #[.int .i64 x0, .int .i64 x1, .int .i64 x2, .int .i64 x3, .int .i64 x4, .int .i64 x5, .slice none 0 0, .int .i64 x7, .int .i64 x8, .int .i64 x9, .int .i64 x10]] (heapOf []) (dataK k)
theorem gcRn_text (C : Ct) (L : AtLoop) (x0 : Int) (x1 : Int) (x2 : Int) (x3 : Int) (x4 : Int) (x5 : Int) (x7 : Int) (x8 : Int) (x9 : Int) (x10 : Int) (k : List D → Prop) : gcRn C L x0 x1 x2 x3 x4 x5 x7 x8 x9 x10 k =
 (((0 = 0) ∧
 (0 = 0)) ∧
 (k [(D.agg [(D.val (vI x0)), (D.val (vI x1)), (D.val (vI x2)), (D.val (vI x3)), (D.val (vI x4)), (D.val (vI x5)), (D.sl 0 5 []), (D.val (vI x7)), (D.val (vI x8)), (D.val (vI x9)), (D.val (vI x10))])])) := by kernel_rfl
def gcS (C : Ct) (L : AtLoop) (s0 : ByteArray) (n1 : Nat) (c1 : Nat) (l1 : List Value) (k : List D → Prop) : Prop := wpFn Tryz.prog (hX C) L 0 8 #[.agg #[.string s0, .slice (some ⟨500, 0, none⟩) n1 c1]] (heapOf [(500, .sym l1 false 1)]) (dataK k)
theorem gcS_text (C : Ct) (L : AtLoop) (s0 : ByteArray) (n1 : Nat) (c1 : Nat) (l1 : List Go.Value) (k : List D → Prop) : gcS C L s0 n1 c1 l1 k =
 (((Qv (Sl 500 (n1) (c1))) ∧
 ((Qv (Pt 1000 1)) ∧
 ((Qv (Value.string (s0))) ∧
 ((Qv (Pt 1000 0)) ∧
 True)))) ∧
 (bcase (decide (0 + n1 * 1 ≤ List.length l1))
 (bcase (n1 == 0)
 (((Qv (Value.agg [(Value.string (s0)), (Sl 1003 0 0)].toArray)) ∧
 ((Qv (Pt 1000 1)) ∧
 ((Qv (Value.string (s0))) ∧
 ((Qv (Pt 1000 0)) ∧
 True)))) ∧
 (True ∧
 (((0 = 0) ∧
 (0 = 0)) ∧
 (k [(D.agg [(D.val (Value.string (s0))), (D.sl 0 1 [])])]))))
 (bcase (decide (0 < 0 + n1))
 (bcase (decide ((2 * (0 + n1) + 768) * 8 ≤ 281474976710656))
 (bcase (decide (0 + n1 ≤ 1099511627776))
 (((Qv (Value.agg [(Value.string (s0)), (Sl 1003 (0 + n1) (0 + n1))].toArray)) ∧
 ((Qv (Pt 1000 1)) ∧
 ((Qv (Value.string (s0))) ∧
 ((Qv (Pt 1000 0)) ∧
 True)))) ∧
 (True ∧
 (((Qv (0 + n1)) ∧
 ((List.length (List.take 0 (List.drop 0 []) ++ List.take (n1 * 1) (List.drop 0 l1))) = ((0 + n1) * 1))) ∧
 (k [(D.agg [(D.val (Value.string (s0))), (D.sl (0 + n1) 1 ([] ++ (List.take (n1 * 1) (List.drop 0 l1))))])]))))
 False)
 False)
 False))
 False)) := by kernel_rfl
def gcSn (C : Ct) (L : AtLoop) (s0 : ByteArray) (k : List D → Prop) : Prop := wpFn Tryz.prog (hX C) L 0 8 #[.agg #[.string s0, .slice none 0 0]] (heapOf []) (dataK k)
theorem gcSn_text (C : Ct) (L : AtLoop) (s0 : ByteArray) (k : List D → Prop) : gcSn C L s0 k =
 (((Qv (Value.slice none 0 0)) ∧
 ((Qv (Pt 1000 1)) ∧
 ((Qv (Value.string (s0))) ∧
 ((Qv (Pt 1000 0)) ∧
 True)))) ∧
 (((Qv (Value.agg [(Value.string (s0)), (Sl 1003 0 0)].toArray)) ∧
 ((Qv (Pt 1000 1)) ∧
 ((Qv (Value.string (s0))) ∧
 ((Qv (Pt 1000 0)) ∧
 True)))) ∧
 (True ∧
 (((0 = 0) ∧
 (0 = 0)) ∧
 (k [(D.agg [(D.val (Value.string (s0))), (D.sl 0 1 [])])]))))) := by kernel_rfl
def gCCn (C : Ct) (L : AtLoop) (k : List D → Prop) : Prop := wpFn Tryz.prog (hP C) L 0 82 #[.slice none 0 0] (heapOf []) (dataK k)
theorem gCCn_text (C : Ct) (L : AtLoop) (k : List D → Prop) : gCCn C L k =
 (k [(D.val (vI 10))]) := by kernel_rfl
def gKRn (C : Ct) (L : AtLoop) (x0 : Int) (x1 : Int) (x2 : Int) (x3 : Int) (x4 : Int) (x5 : Int) (x7 : Int) (x8 : Int) (x9 : Int) (x10 : Int) (k : List D → Prop) : Prop := wpFn Tryz.prog (hP C) L 0 42 #[.agg #[.int .i64 x0, .int .i64 x1, .int .i64 x2, .int .i64 x3, .int .i64 x4, .int .i64 x5, .slice none 0 0, .int .i64 x7, .int .i64 x8, .int .i64 x9, .int .i64 x10]] (heapOf []) (dataK k)
theorem gKRn_text (C : Ct) (L : AtLoop) (x0 : Int) (x1 : Int) (x2 : Int) (x3 : Int) (x4 : Int) (x5 : Int) (x7 : Int) (x8 : Int) (x9 : Int) (x10 : Int) (k : List D → Prop) : gKRn C L x0 x1 x2 x3 x4 x5 x7 x8 x9 x10 k =
 (((Qv (Value.slice none 0 0)) ∧
 ((Qv (Pt 1000 6)) ∧
 (((Qv (Sl 1006 4 4)) ∧
 (Qv (some (AObj.cells [(vI x2), (vI x1), (vI x3), (vI x4), (vI x7), (vI x8), (vI x9), (vI x10)] 23 false 2)))) ∧
 ((Qv (Value.agg [(vI x9), (vI x10)].toArray)) ∧
 ((Qv (Pt 1000 9)) ∧
 ((Qv (Value.agg [(vI x7), (vI x8)].toArray)) ∧
 ((Qv (Pt 1000 7)) ∧
 ((Qv (Value.agg [(vI x3), (vI x4)].toArray)) ∧
 ((Qv (Pt 1000 3)) ∧
 ((Qv (Value.agg [(vI x2), (vI x1)].toArray)) ∧
 ((Qv (vI x1)) ∧
 ((Qv (Pt 1000 1)) ∧
 ((Qv (vI x2)) ∧
 ((Qv (Pt 1000 2)) ∧
 (((Qv (Sl 1005 2 2)) ∧
 (Qv (some (AObj.cells [(vI x9), (vI x10)] 3 false 1)))) ∧
 ((Qv (vI x10)) ∧
 ((Qv (Pt 1000 10)) ∧
 ((Qv (Pt 1000 9)) ∧
 ((Qv (vI x9)) ∧
 ((Qv (Pt 1000 9)) ∧
 ((Qv (Pt 1000 9)) ∧
 (((Qv (Sl 1004 2 2)) ∧
 (Qv (some (AObj.cells [(vI x7), (vI x8)] 3 false 1)))) ∧
 ((Qv (vI x8)) ∧
 ((Qv (Pt 1000 8)) ∧
 ((Qv (Pt 1000 7)) ∧
 ((Qv (vI x7)) ∧
 ((Qv (Pt 1000 7)) ∧
 ((Qv (Pt 1000 7)) ∧
 (((Qv (Sl 1003 3 3)) ∧
 (Qv (some (AObj.cells [(vI x3), (vI x4), (vI x5)] 3 false 1)))) ∧
 ((Qv (vI x5)) ∧
 ((Qv (Pt 1000 5)) ∧
 ((Qv (vI x4)) ∧
 ((Qv (Pt 1000 4)) ∧
 ((Qv (Pt 1000 3)) ∧
 ((Qv (vI x3)) ∧
 ((Qv (Pt 1000 3)) ∧
 ((Qv (Pt 1000 3)) ∧
 (((Qv (Sl 1002 2 2)) ∧
 (Qv (some (AObj.cells [(vI x1), (vI x2)] 3 false 1)))) ∧
 ((Qv (vI x2)) ∧
 ((Qv (Pt 1000 2)) ∧
 ((Qv (vI x1)) ∧
 ((Qv (Pt 1000 1)) ∧
 (((Qv (Sl 1001 1 1)) ∧
 (Qv (some (AObj.cells [(vI x0)] 3 false 1)))) ∧
 ((Qv (vI x0)) ∧
 ((Qv (Pt 1000 0)) ∧
 True))))))))))))))))))))))))))))))))))))))))))))) ∧
 (∃ n1 : Int,
 ((Says C 64 [(D.val (vI 1)), (D.val (vI 2500)), (D.sl 1 1 [(vI x0)])] [(D.val (vI n1))]) ∧
 (((Qv (Value.slice none 0 0)) ∧
 ((Qv (Pt 1000 6)) ∧
 (((Qv (Sl 1006 4 4)) ∧
 (Qv (some (AObj.cells [(vI x2), (vI x1), (vI x3), (vI x4), (vI x7), (vI x8), (vI x9), (vI x10)] 23 false 2)))) ∧
 ((Qv (Value.agg [(vI x9), (vI x10)].toArray)) ∧
 ((Qv (Pt 1000 9)) ∧
 ((Qv (Value.agg [(vI x7), (vI x8)].toArray)) ∧
 ((Qv (Pt 1000 7)) ∧
 ((Qv (Value.agg [(vI x3), (vI x4)].toArray)) ∧
 ((Qv (Pt 1000 3)) ∧
 ((Qv (Value.agg [(vI x2), (vI x1)].toArray)) ∧
 ((Qv (vI x1)) ∧
 ((Qv (Pt 1000 1)) ∧
 ((Qv (vI x2)) ∧
 ((Qv (Pt 1000 2)) ∧
 (((Qv (Sl 1005 2 2)) ∧
 (Qv (some (AObj.cells [(vI x9), (vI x10)] 3 false 1)))) ∧
 ((Qv (vI x10)) ∧
 ((Qv (Pt 1000 10)) ∧
 ((Qv (Pt 1000 9)) ∧
 ((Qv (vI x9)) ∧
 ((Qv (Pt 1000 9)) ∧
 ((Qv (Pt 1000 9)) ∧
 (((Qv (Sl 1004 2 2)) ∧
 (Qv (some (AObj.cells [(vI x7), (vI x8)] 3 false 1)))) ∧
 ((Qv (vI x8)) ∧
 ((Qv (Pt 1000 8)) ∧
 ((Qv (Pt 1000 7)) ∧
 ((Qv (vI x7)) ∧
 ((Qv (Pt 1000 7)) ∧
 ((Qv (Pt 1000 7)) ∧
 (((Qv (Sl 1003 3 3)) ∧
 (Qv (some (AObj.cells [(vI x3), (vI x4), (vI x5)] 3 false 1)))) ∧
 ((Qv (vI x5)) ∧
 ((Qv (Pt 1000 5)) ∧
 ((Qv (vI x4)) ∧
 ((Qv (Pt 1000 4)) ∧
 ((Qv (Pt 1000 3)) ∧
 ((Qv (vI x3)) ∧
 ((Qv (Pt 1000 3)) ∧
 ((Qv (Pt 1000 3)) ∧
 (((Qv (Sl 1002 2 2)) ∧
 (Qv (some (AObj.cells [(vI x1), (vI x2)] 3 false 1)))) ∧
 ((Qv (vI x2)) ∧
 ((Qv (Pt 1000 2)) ∧
 ((Qv (vI x1)) ∧
 ((Qv (Pt 1000 1)) ∧
 ((Qv (vI x0)) ∧
 ((Qv (Pt 1000 0)) ∧
 True)))))))))))))))))))))))))))))))))))))))))))) ∧
 (∃ n2 : Int,
 ((Says C 64 [(D.val (vI 1)), (D.val (vI 1000)), (D.sl 2 1 [(vI x1), (vI x2)])] [(D.val (vI n2))]) ∧
 (((Qv (Value.slice none 0 0)) ∧
 ((Qv (Pt 1000 6)) ∧
 (((Qv (Sl 1006 4 4)) ∧
 (Qv (some (AObj.cells [(vI x2), (vI x1), (vI x3), (vI x4), (vI x7), (vI x8), (vI x9), (vI x10)] 23 false 2)))) ∧
 ((Qv (Value.agg [(vI x9), (vI x10)].toArray)) ∧
 ((Qv (Pt 1000 9)) ∧
 ((Qv (Value.agg [(vI x7), (vI x8)].toArray)) ∧
 ((Qv (Pt 1000 7)) ∧
 ((Qv (Value.agg [(vI x3), (vI x4)].toArray)) ∧
 ((Qv (Pt 1000 3)) ∧
 ((Qv (Value.agg [(vI x2), (vI x1)].toArray)) ∧
 ((Qv (vI x1)) ∧
 ((Qv (Pt 1000 1)) ∧
 ((Qv (vI x2)) ∧
 ((Qv (Pt 1000 2)) ∧
 (((Qv (Sl 1005 2 2)) ∧
 (Qv (some (AObj.cells [(vI x9), (vI x10)] 3 false 1)))) ∧
 ((Qv (vI x10)) ∧
 ((Qv (Pt 1000 10)) ∧
 ((Qv (Pt 1000 9)) ∧
 ((Qv (vI x9)) ∧
 ((Qv (Pt 1000 9)) ∧
 ((Qv (Pt 1000 9)) ∧
 (((Qv (Sl 1004 2 2)) ∧
 (Qv (some (AObj.cells [(vI x7), (vI x8)] 3 false 1)))) ∧
 ((Qv (vI x8)) ∧
 ((Qv (Pt 1000 8)) ∧
 ((Qv (Pt 1000 7)) ∧
 ((Qv (vI x7)) ∧
 ((Qv (Pt 1000 7)) ∧
 ((Qv (Pt 1000 7)) ∧
 (((Qv (Sl 1003 3 3)) ∧
 (Qv (some (AObj.cells [(vI x3), (vI x4), (vI x5)] 3 false 1)))) ∧
 ((Qv (vI x5)) ∧
 ((Qv (Pt 1000 5)) ∧
 ((Qv (vI x4)) ∧
 ((Qv (Pt 1000 4)) ∧
 ((Qv (Pt 1000 3)) ∧
 ((Qv (vI x3)) ∧
 ((Qv (Pt 1000 3)) ∧
 ((Qv (Pt 1000 3)) ∧
 ((Qv (vI x2)) ∧
 ((Qv (Pt 1000 2)) ∧
 ((Qv (vI x1)) ∧
 ((Qv (Pt 1000 1)) ∧
 ((Qv (vI x0)) ∧
 ((Qv (Pt 1000 0)) ∧
 True))))))))))))))))))))))))))))))))))))))))))) ∧
 (∃ n3 : Int,
 ((Says C 64 [(D.val (vI 0)), (D.val (vI 20000)), (D.sl 3 1 [(vI x3), (vI x4), (vI x5)])] [(D.val (vI n3))]) ∧
 (((Qv (Value.slice none 0 0)) ∧
 ((Qv (Pt 1000 6)) ∧
 (((Qv (Sl 1006 4 4)) ∧
 (Qv (some (AObj.cells [(vI x2), (vI x1), (vI x3), (vI x4), (vI x7), (vI x8), (vI x9), (vI x10)] 23 false 2)))) ∧
 ((Qv (Value.agg [(vI x9), (vI x10)].toArray)) ∧
 ((Qv (Pt 1000 9)) ∧
 ((Qv (Value.agg [(vI x7), (vI x8)].toArray)) ∧
 ((Qv (Pt 1000 7)) ∧
 ((Qv (Value.agg [(vI x3), (vI x4)].toArray)) ∧
 ((Qv (Pt 1000 3)) ∧
 ((Qv (Value.agg [(vI x2), (vI x1)].toArray)) ∧
 ((Qv (vI x1)) ∧
 ((Qv (Pt 1000 1)) ∧
 ((Qv (vI x2)) ∧
 ((Qv (Pt 1000 2)) ∧
 (((Qv (Sl 1005 2 2)) ∧
 (Qv (some (AObj.cells [(vI x9), (vI x10)] 3 false 1)))) ∧
 ((Qv (vI x10)) ∧
 ((Qv (Pt 1000 10)) ∧
 ((Qv (Pt 1000 9)) ∧
 ((Qv (vI x9)) ∧
 ((Qv (Pt 1000 9)) ∧
 ((Qv (Pt 1000 9)) ∧
 (((Qv (Sl 1004 2 2)) ∧
 (Qv (some (AObj.cells [(vI x7), (vI x8)] 3 false 1)))) ∧
 ((Qv (vI x8)) ∧
 ((Qv (Pt 1000 8)) ∧
 ((Qv (Pt 1000 7)) ∧
 ((Qv (vI x7)) ∧
 ((Qv (Pt 1000 7)) ∧
 ((Qv (Pt 1000 7)) ∧
 ((Qv (vI x5)) ∧
 ((Qv (Pt 1000 5)) ∧
 ((Qv (vI x4)) ∧
 ((Qv (Pt 1000 4)) ∧
 ((Qv (Pt 1000 3)) ∧
 ((Qv (vI x3)) ∧
 ((Qv (Pt 1000 3)) ∧
 ((Qv (Pt 1000 3)) ∧
 ((Qv (vI x2)) ∧
 ((Qv (Pt 1000 2)) ∧
 ((Qv (vI x1)) ∧
 ((Qv (Pt 1000 1)) ∧
 ((Qv (vI x0)) ∧
 ((Qv (Pt 1000 0)) ∧
 True)))))))))))))))))))))))))))))))))))))))))) ∧
 (∃ n4 : Int,
 ((Says C 64 [(D.val (vI 1)), (D.val (vI 100)), (D.sl 2 1 [(vI x7), (vI x8)])] [(D.val (vI n4))]) ∧
 (((Qv (Value.slice none 0 0)) ∧
 ((Qv (Pt 1000 6)) ∧
 (((Qv (Sl 1006 4 4)) ∧
 (Qv (some (AObj.cells [(vI x2), (vI x1), (vI x3), (vI x4), (vI x7), (vI x8), (vI x9), (vI x10)] 23 false 2)))) ∧
 ((Qv (Value.agg [(vI x9), (vI x10)].toArray)) ∧
 ((Qv (Pt 1000 9)) ∧
 ((Qv (Value.agg [(vI x7), (vI x8)].toArray)) ∧
 ((Qv (Pt 1000 7)) ∧
 ((Qv (Value.agg [(vI x3), (vI x4)].toArray)) ∧
 ((Qv (Pt 1000 3)) ∧
 ((Qv (Value.agg [(vI x2), (vI x1)].toArray)) ∧
 ((Qv (vI x1)) ∧
 ((Qv (Pt 1000 1)) ∧
 ((Qv (vI x2)) ∧
 ((Qv (Pt 1000 2)) ∧
 (((Qv (Sl 1005 2 2)) ∧
 (Qv (some (AObj.cells [(vI x9), (vI x10)] 3 false 1)))) ∧
 ((Qv (vI x10)) ∧
 ((Qv (Pt 1000 10)) ∧
 ((Qv (Pt 1000 9)) ∧
 ((Qv (vI x9)) ∧
 ((Qv (Pt 1000 9)) ∧
 ((Qv (Pt 1000 9)) ∧
 ((Qv (vI x8)) ∧
 ((Qv (Pt 1000 8)) ∧
 ((Qv (Pt 1000 7)) ∧
 ((Qv (vI x7)) ∧
 ((Qv (Pt 1000 7)) ∧
 ((Qv (Pt 1000 7)) ∧
 ((Qv (vI x5)) ∧
 ((Qv (Pt 1000 5)) ∧
 ((Qv (vI x4)) ∧
 ((Qv (Pt 1000 4)) ∧
 ((Qv (Pt 1000 3)) ∧
 ((Qv (vI x3)) ∧
 ((Qv (Pt 1000 3)) ∧
 ((Qv (Pt 1000 3)) ∧
 ((Qv (vI x2)) ∧
 ((Qv (Pt 1000 2)) ∧
 ((Qv (vI x1)) ∧
 ((Qv (Pt 1000 1)) ∧
 ((Qv (vI x0)) ∧
 ((Qv (Pt 1000 0)) ∧
 True))))))))))))))))))))))))))))))))))))))))) ∧
 (∃ n5 : Int,
 ((Says C 64 [(D.val (vI 0)), (D.val (vI 100)), (D.sl 2 1 [(vI x9), (vI x10)])] [(D.val (vI n5))]) ∧
 (((Qv (Value.slice none 0 0)) ∧
 ((Qv (Pt 1000 6)) ∧
 (((Qv (Sl 1006 4 4)) ∧
 (Qv (some (AObj.cells [(vI x2), (vI x1), (vI x3), (vI x4), (vI x7), (vI x8), (vI x9), (vI x10)] 23 false 2)))) ∧
 ((Qv (Value.agg [(vI x9), (vI x10)].toArray)) ∧
 ((Qv (Pt 1000 9)) ∧
 ((Qv (Value.agg [(vI x7), (vI x8)].toArray)) ∧
 ((Qv (Pt 1000 7)) ∧
 ((Qv (Value.agg [(vI x3), (vI x4)].toArray)) ∧
 ((Qv (Pt 1000 3)) ∧
 ((Qv (Value.agg [(vI x2), (vI x1)].toArray)) ∧
 ((Qv (vI x1)) ∧
 ((Qv (Pt 1000 1)) ∧
 ((Qv (vI x2)) ∧
 ((Qv (Pt 1000 2)) ∧
 ((Qv (vI x10)) ∧
 ((Qv (Pt 1000 10)) ∧
 ((Qv (Pt 1000 9)) ∧
 ((Qv (vI x9)) ∧
 ((Qv (Pt 1000 9)) ∧
 ((Qv (Pt 1000 9)) ∧
 ((Qv (vI x8)) ∧
 ((Qv (Pt 1000 8)) ∧
 ((Qv (Pt 1000 7)) ∧
 ((Qv (vI x7)) ∧
 ((Qv (Pt 1000 7)) ∧
 ((Qv (Pt 1000 7)) ∧
 ((Qv (vI x5)) ∧
 ((Qv (Pt 1000 5)) ∧
 ((Qv (vI x4)) ∧
 ((Qv (Pt 1000 4)) ∧
 ((Qv (Pt 1000 3)) ∧
 ((Qv (vI x3)) ∧
 ((Qv (Pt 1000 3)) ∧
 ((Qv (Pt 1000 3)) ∧
 ((Qv (vI x2)) ∧
 ((Qv (Pt 1000 2)) ∧
 ((Qv (vI x1)) ∧
 ((Qv (Pt 1000 1)) ∧
 ((Qv (vI x0)) ∧
 ((Qv (Pt 1000 0)) ∧
 True)))))))))))))))))))))))))))))))))))))))) ∧
 (∃ n6 : Int,
 ((Says C 81 [(D.sl 4 2 [(vI x2), (vI x1), (vI x3), (vI x4), (vI x7), (vI x8), (vI x9), (vI x10)])] [(D.val (vI n6))]) ∧
 (((Qv (Value.slice none 0 0)) ∧
 ((Qv (Pt 1000 6)) ∧
 ((Qv (Value.agg [(vI x9), (vI x10)].toArray)) ∧
 ((Qv (Pt 1000 9)) ∧
 ((Qv (Value.agg [(vI x7), (vI x8)].toArray)) ∧
 ((Qv (Pt 1000 7)) ∧
 ((Qv (Value.agg [(vI x3), (vI x4)].toArray)) ∧
 ((Qv (Pt 1000 3)) ∧
 ((Qv (Value.agg [(vI x2), (vI x1)].toArray)) ∧
 ((Qv (vI x1)) ∧
 ((Qv (Pt 1000 1)) ∧
 ((Qv (vI x2)) ∧
 ((Qv (Pt 1000 2)) ∧
 ((Qv (vI x10)) ∧
 ((Qv (Pt 1000 10)) ∧
 ((Qv (Pt 1000 9)) ∧
 ((Qv (vI x9)) ∧
 ((Qv (Pt 1000 9)) ∧
 ((Qv (Pt 1000 9)) ∧
 ((Qv (vI x8)) ∧
 ((Qv (Pt 1000 8)) ∧
 ((Qv (Pt 1000 7)) ∧
 ((Qv (vI x7)) ∧
 ((Qv (Pt 1000 7)) ∧
 ((Qv (Pt 1000 7)) ∧
 ((Qv (vI x5)) ∧
 ((Qv (Pt 1000 5)) ∧
 ((Qv (vI x4)) ∧
 ((Qv (Pt 1000 4)) ∧
 ((Qv (Pt 1000 3)) ∧
 ((Qv (vI x3)) ∧
 ((Qv (Pt 1000 3)) ∧
 ((Qv (Pt 1000 3)) ∧
 ((Qv (vI x2)) ∧
 ((Qv (Pt 1000 2)) ∧
 ((Qv (vI x1)) ∧
 ((Qv (Pt 1000 1)) ∧
 ((Qv (vI x0)) ∧
 ((Qv (Pt 1000 0)) ∧
 True))))))))))))))))))))))))))))))))))))))) ∧
 (∃ n7 : Int,
 ((Says C 82 [D.nil] [(D.val (vI n7))]) ∧
 ((((Qv (Sl 1007 7 7)) ∧
 (Qv (some (AObj.cells [(vI n1), (vI n2), (vI n3), (vI n4), (vI n5), (vI n6), (vI n7)] 37 false 1)))) ∧
 ((Qv (Pt 1000 6)) ∧
 ((Qv (Value.agg [(vI x9), (vI x10)].toArray)) ∧
 ((Qv (Pt 1000 9)) ∧
 ((Qv (Value.agg [(vI x7), (vI x8)].toArray)) ∧
 ((Qv (Pt 1000 7)) ∧
 ((Qv (Value.agg [(vI x3), (vI x4)].toArray)) ∧
 ((Qv (Pt 1000 3)) ∧
 ((Qv (Value.agg [(vI x2), (vI x1)].toArray)) ∧
 ((Qv (vI x1)) ∧
 ((Qv (Pt 1000 1)) ∧
 ((Qv (vI x2)) ∧
 ((Qv (Pt 1000 2)) ∧
 ((Qv (vI x10)) ∧
 ((Qv (Pt 1000 10)) ∧
 ((Qv (Pt 1000 9)) ∧
 ((Qv (vI x9)) ∧
 ((Qv (Pt 1000 9)) ∧
 ((Qv (Pt 1000 9)) ∧
 ((Qv (vI x8)) ∧
 ((Qv (Pt 1000 8)) ∧
 ((Qv (Pt 1000 7)) ∧
 ((Qv (vI x7)) ∧
 ((Qv (Pt 1000 7)) ∧
 ((Qv (Pt 1000 7)) ∧
 ((Qv (vI x5)) ∧
 ((Qv (Pt 1000 5)) ∧
 ((Qv (vI x4)) ∧
 ((Qv (Pt 1000 4)) ∧
 ((Qv (Pt 1000 3)) ∧
 ((Qv (vI x3)) ∧
 ((Qv (Pt 1000 3)) ∧
 ((Qv (Pt 1000 3)) ∧
 ((Qv (vI x2)) ∧
 ((Qv (Pt 1000 2)) ∧
 ((Qv (vI x1)) ∧
 ((Qv (Pt 1000 1)) ∧
 ((Qv (vI x0)) ∧
 ((Qv (Pt 1000 0)) ∧
 True))))))))))))))))))))))))))))))))))))))) ∧
 (∃ n8 : Int,
 ((Says C 63 [(D.sl 7 1 [(vI n1), (vI n2), (vI n3), (vI n4), (vI n5), (vI n6), (vI n7)])] [(D.val (vI n8))]) ∧
 (((Qv (Pt 1000 6)) ∧
 ((Qv (Value.agg [(vI x9), (vI x10)].toArray)) ∧
 ((Qv (Pt 1000 9)) ∧
 ((Qv (Value.agg [(vI x7), (vI x8)].toArray)) ∧
 ((Qv (Pt 1000 7)) ∧
 ((Qv (Value.agg [(vI x3), (vI x4)].toArray)) ∧
 ((Qv (Pt 1000 3)) ∧
 ((Qv (Value.agg [(vI x2), (vI x1)].toArray)) ∧
 ((Qv (vI x1)) ∧
 ((Qv (Pt 1000 1)) ∧
 ((Qv (vI x2)) ∧
 ((Qv (Pt 1000 2)) ∧
 ((Qv (vI x10)) ∧
 ((Qv (Pt 1000 10)) ∧
 ((Qv (Pt 1000 9)) ∧
 ((Qv (vI x9)) ∧
 ((Qv (Pt 1000 9)) ∧
 ((Qv (Pt 1000 9)) ∧
 ((Qv (vI x8)) ∧
 ((Qv (Pt 1000 8)) ∧
 ((Qv (Pt 1000 7)) ∧
 ((Qv (vI x7)) ∧
 ((Qv (Pt 1000 7)) ∧
 ((Qv (Pt 1000 7)) ∧
 ((Qv (vI x5)) ∧
 ((Qv (Pt 1000 5)) ∧
 ((Qv (vI x4)) ∧
 ((Qv (Pt 1000 4)) ∧
 ((Qv (Pt 1000 3)) ∧
 ((Qv (vI x3)) ∧
 ((Qv (Pt 1000 3)) ∧
 ((Qv (Pt 1000 3)) ∧
 ((Qv (vI x2)) ∧
 ((Qv (Pt 1000 2)) ∧
 ((Qv (vI x1)) ∧
 ((Qv (Pt 1000 1)) ∧
 ((Qv (vI x0)) ∧
 ((Qv (Pt 1000 0)) ∧
 True)))))))))))))))))))))))))))))))))))))) ∧
 (True ∧
 (bcase (n8 != 0)
 (k [(D.val (vI 0)), (D.val (vI n8))])
 (L 0 [(Prod.mk 66 (Value.slice none 0 0)), (Prod.mk 67 (vI 0)), (Prod.mk 68 (vI 0))] [])))))))))))))))))))))))))))) := by kernel_rfl
end Go.Proofs.G5x

/- Chapter 3: what rules and schedules are valid, in data. -/
namespace Go.Proofs.G5x
open Go Go.Abs Go.Proofs Go.Str
set_option maxRecDepth 100000
/-- rules: the stands are radius, force, torque, and the two ends of the loss -/
structure Ru where
  w : Int
  st : Int
  fi : Int
  hlo : Int
  hhi : Int
  co : Int
  ss : List Fv
  slo : Int
  shi : Int
  flo : Int
  fhi : Int
abbrev Ru.d (r : Ru) : D := .agg [dI r.w, dI r.st, dI r.fi, dI r.hlo, dI r.hhi, dI r.co, .sl r.ss.length 5 (vs5 r.ss), dI r.slo, dI r.shi, dI r.flo, dI r.fhi]
abbrev Ru.dn (r : Ru) : D := .agg [dI r.w, dI r.st, dI r.fi, dI r.hlo, dI r.hhi, dI r.co, .nil, dI r.slo, dI r.shi, dI r.flo, dI r.fhi]
def wE (lo hi : Int) : List Int → Int
  | [] => 0
  | x :: r => if x < lo ∨ x > hi then 2 else wE lo hi r
def eE : List (Int × Int) → Int
  | [] => 0
  | p :: r => if p.1 > p.2 then 9 else eE r
def cntE (n : Nat) : Int := if n = 0 then 10 else if n > 6 then 8 else 0
def rngB (r : Ru) : Prop := (1 ≤ r.w ∧ r.w ≤ 2500) ∧ ((1 ≤ r.st ∧ r.st ≤ 1000) ∧ 1 ≤ r.fi ∧ r.fi ≤ 1000) ∧ ((0 ≤ r.hlo ∧ r.hlo ≤ 20000) ∧ (0 ≤ r.hhi ∧ r.hhi ≤ 20000) ∧ 0 ≤ r.co ∧ r.co ≤ 20000) ∧ ((1 ≤ r.slo ∧ r.slo ≤ 100) ∧ 1 ≤ r.shi ∧ r.shi ≤ 100) ∧ (0 ≤ r.flo ∧ r.flo ≤ 100) ∧ 0 ≤ r.fhi ∧ r.fhi ≤ 100
def ordB (r : Ru) : Prop := r.fi ≤ r.st ∧ r.hlo ≤ r.hhi ∧ r.slo ≤ r.shi ∧ r.flo ≤ r.fhi
instance (r : Ru) : Decidable (rngB r) := by unfold rngB; infer_instance
instance (r : Ru) : Decidable (ordB r) := by unfold ordB; infer_instance
def headE (r : Ru) : Int := if rngB r then if ordB r then cntE r.ss.length else 9 else 2
def stB (s : Fv) : Prop := (1 ≤ s.a ∧ s.a ≤ 1000) ∧ ((0 ≤ s.b ∧ s.b ≤ 1000000000000) ∧ 0 ≤ s.c ∧ s.c ≤ 1000000000000) ∧ (0 ≤ s.d ∧ s.d ≤ 1000) ∧ 0 ≤ s.e ∧ s.e ≤ 1000
instance (s : Fv) : Decidable (stB s) := by unfold stB; infer_instance
def stE (s : Fv) : Int := if stB s then if s.d ≤ s.e then 0 else 9 else 2
def stsE : Int → List Fv → Int × Int
  | _, [] => (0, 0)
  | i, s :: r => if stE s = 0 then stsE (i + 1) r else (i, stE s)
def chk (r : Ru) : Int × Int := if headE r = 0 then stsE 0 r.ss else (0, headE r)
theorem fst0_z (r : List Int) : fst0 (0 :: r) = fst0 r := by rw [fst0, if_pos rfl]
theorem fst0_n {a : Int} (h : a ≠ 0) (r : List Int) : fst0 (a :: r) = a := by rw [fst0, if_neg h]
theorem wE1 (lo hi a : Int) : wE lo hi [a] = if lo ≤ a ∧ a ≤ hi then 0 else 2 := by
  simp only [wE]; split <;> split <;> first | rfl | omega
theorem wE2 (lo hi a b : Int) : wE lo hi [a, b] = if (lo ≤ a ∧ a ≤ hi) ∧ lo ≤ b ∧ b ≤ hi then 0 else 2 := by
  simp only [wE]; repeat' split
  all_goals first | rfl | omega
theorem wE3 (lo hi a b c : Int) : wE lo hi [a, b, c] = if (lo ≤ a ∧ a ≤ hi) ∧ (lo ≤ b ∧ b ≤ hi) ∧ lo ≤ c ∧ c ≤ hi then 0 else 2 := by
  simp only [wE]; repeat' split
  all_goals first | rfl | omega
theorem eE1 (a b : Int) : eE [(a, b)] = if a ≤ b then 0 else 9 := by
  simp only [eE]; repeat' split
  all_goals first | rfl | omega
theorem eE4 (a b c d e f g h : Int) : eE [(a, b), (c, d), (e, f), (g, h)] = if a ≤ b ∧ c ≤ d ∧ e ≤ f ∧ g ≤ h then 0 else 9 := by
  simp only [eE]; repeat' split
  all_goals first | rfl | omega
theorem headE_eq (r : Ru) : fst0 [wE 1 2500 [r.w], wE 1 1000 [r.st, r.fi], wE 0 20000 [r.hlo, r.hhi, r.co], wE 1 100 [r.slo, r.shi], wE 0 100 [r.flo, r.fhi], eE [(r.fi, r.st), (r.hlo, r.hhi), (r.slo, r.shi), (r.flo, r.fhi)], cntE r.ss.length] = headE r := by
  rw [wE1, wE2, wE3, wE2, wE2, eE4]
  have two : ∀ {c : Prop} [Decidable c] (l : List Int) , ¬ c → fst0 ((if c then 0 else 2) :: l) = 2 := fun l h => by rw [if_neg h]; rfl
  have bad : ¬ rngB r → headE r = 2 := fun h => by rw [headE, if_neg h]
  by_cases h1 : 1 ≤ r.w ∧ r.w ≤ 2500
  · rw [if_pos h1, fst0_z]
    by_cases h2 : (1 ≤ r.st ∧ r.st ≤ 1000) ∧ 1 ≤ r.fi ∧ r.fi ≤ 1000
    · rw [if_pos h2, fst0_z]
      by_cases h3 : (0 ≤ r.hlo ∧ r.hlo ≤ 20000) ∧ (0 ≤ r.hhi ∧ r.hhi ≤ 20000) ∧ 0 ≤ r.co ∧ r.co ≤ 20000
      · rw [if_pos h3, fst0_z]
        by_cases h4 : (1 ≤ r.slo ∧ r.slo ≤ 100) ∧ 1 ≤ r.shi ∧ r.shi ≤ 100
        · rw [if_pos h4, fst0_z]
          by_cases h5 : (0 ≤ r.flo ∧ r.flo ≤ 100) ∧ 0 ≤ r.fhi ∧ r.fhi ≤ 100
          · rw [if_pos h5, fst0_z, headE, if_pos (show rngB r from ⟨h1, h2, h3, h4, h5⟩)]
            by_cases h6 : r.fi ≤ r.st ∧ r.hlo ≤ r.hhi ∧ r.slo ≤ r.shi ∧ r.flo ≤ r.fhi
            · rw [if_pos h6, fst0_z, if_pos (show ordB r from h6)]
              by_cases h7 : cntE r.ss.length = 0
              · rw [h7]; rfl
              · rw [fst0_n h7]
            · rw [if_neg h6, if_neg (show ¬ ordB r from h6)]; rfl
          · rw [two _ h5, bad (fun h => h5 h.2.2.2.2)]
        · rw [two _ h4, bad (fun h => h4 h.2.2.2.1)]
      · rw [two _ h3, bad (fun h => h3 h.2.2.1)]
    · rw [two _ h2, bad (fun h => h2 h.2.1)]
  · rw [two _ h1, bad (fun h => h1 h.1)]
theorem stE_eq (s : Fv) : fst0 [wE 1 1000 [s.a], wE 0 1000000000000 [s.b, s.c], wE 0 1000 [s.d, s.e], eE [(s.d, s.e)]] = stE s := by
  rw [wE1, wE2, wE2, eE1]
  have two : ∀ {c : Prop} [Decidable c] (l : List Int) , ¬ c → fst0 ((if c then 0 else 2) :: l) = 2 := fun l h => by rw [if_neg h]; rfl
  have bad : ¬ stB s → stE s = 2 := fun h => by rw [stE, if_neg h]
  by_cases h1 : 1 ≤ s.a ∧ s.a ≤ 1000
  · rw [if_pos h1, fst0_z]
    by_cases h2 : (0 ≤ s.b ∧ s.b ≤ 1000000000000) ∧ 0 ≤ s.c ∧ s.c ≤ 1000000000000
    · rw [if_pos h2, fst0_z]
      by_cases h3 : (0 ≤ s.d ∧ s.d ≤ 1000) ∧ 0 ≤ s.e ∧ s.e ≤ 1000
      · rw [if_pos h3, fst0_z, stE, if_pos (show stB s from ⟨h1, h2, h3⟩)]
        by_cases h4 : s.d ≤ s.e
        · rw [if_pos h4]; rfl
        · rw [if_neg h4]; rfl
      · rw [two _ h3, bad (fun h => h3 h.2.2)]
    · rw [two _ h2, bad (fun h => h2 h.2.1)]
  · rw [two _ h1, bad (fun h => h1 h.1)]
theorem wE_drop {lo hi : Int} (l : List Int) (i : Nat) (h : i < l.length) : wE lo hi (l.drop i) = if l[i] < lo ∨ l[i] > hi then 2 else wE lo hi (l.drop (i + 1)) := by
  rw [List.drop_eq_getElem_cons h]; rfl
theorem conCW (lo hi : Int) (l : List Int) (hlen : l.length < 1000000000) : C5 64 [dI lo, dI hi, .sl l.length 1 (vi l)] [dI (wE lo hi l)] := by
  let inv : Nat × Nat → Prop := fun x => x.1 ≤ l.length ∧ wE lo hi l = wE lo hi (l.drop x.1)
  let st : Nat × Nat → Slots × Blocks := fun x => zCW1 lo hi l.length x.2 l.length x.1 (vi l)
  refine con_of (L := fun _ s b => ∃ x, inv x ∧ st x = (s, b)) hokE mixed Tryz.func64 rfl (by show 1 ≤ 400; omega) rfl (ids := [0]) (by kernel_rfl) rfl (fun caps => ?_) (fun id hid => ?_)
  · show gCW _ _ lo hi l.length (caps 500) (vi l) _
    rw [gCW_text]
    exact ⟨(0, caps 500), ⟨by simp, rfl⟩, rfl⟩
  · obtain rfl := List.mem_singleton.1 hid
    refine ⟨Nat × Nat, st, inv, fun x => l.length - x.1, ⟨fun s b h => h, by kernel_rfl, ?_⟩⟩
    rintro ⟨i, cap⟩ ⟨hi', hr⟩
    simp only at hi' hr
    show rCW1 _ _ lo hi l.length cap l.length i (vi l) _ _ _
    rw [rCW1_text]
    refine bc_dec (fun h => ?_) (fun h => ?_)
    · have hi2 : i < l.length := by omega
      rw [wE_drop l i hi2] at hr
      simp only [bc_t h, bc_t (show (0 : Int) ≤ (i : Int) by omega), Int.toNat_natCast, at1 (vi_at l i hi2)]
      refine bc_dec (fun h1 => ?_) (fun h1 => bc_dec (fun h2 => ?_) (fun h2 => ?_))
      · rw [if_pos (.inl h1)] at hr; show [dI 2] = _; rw [hr]
      · rw [if_pos (.inr h2)] at hr; show [dI 2] = _; rw [hr]
      · rw [if_neg (by omega)] at hr
        refine ⟨(i + 1, cap), ⟨hi2, hr⟩, by show l.length - (i + 1) < l.length - i; omega, ?_⟩
        rw [w64 (by omega) (by omega)]; rfl
    · show (if 0 = 0 then _ else _)
      rw [if_pos rfl]
      show nCW2 _ _ _
      rw [nCW2_text]
      have : i = l.length := by omega
      rw [this, List.drop_length] at hr
      show [dI 0] = _
      rw [hr]; rfl
theorem eE_drop (l : List (Int × Int)) (i : Nat) (h : i < l.length) : eE (l.drop i) = if l[i].1 > l[i].2 then 9 else eE (l.drop (i + 1)) := by
  rw [List.drop_eq_getElem_cons h]; rfl
theorem conCN (l : List (Int × Int)) (hlen : l.length < 1000000000) : C5 81 [.sl l.length 2 (vp l)] [dI (eE l)] := by
  let inv : Nat × Nat → Prop := fun x => x.1 ≤ l.length ∧ eE l = eE (l.drop x.1)
  let st : Nat × Nat → Slots × Blocks := fun x => zCN1 l.length x.2 l.length x.1 (vp l)
  refine con_of (L := fun _ s b => ∃ x, inv x ∧ st x = (s, b)) hokE mixed Tryz.func81 rfl (by show 1 ≤ 400; omega) rfl (ids := [0]) (by kernel_rfl) rfl (fun caps => ?_) (fun id hid => ?_)
  · show gCN _ _ l.length (caps 500) (vp l) _
    rw [gCN_text]
    exact ⟨(0, caps 500), ⟨by simp, rfl⟩, rfl⟩
  · obtain rfl := List.mem_singleton.1 hid
    refine ⟨Nat × Nat, st, inv, fun x => l.length - x.1, ⟨fun s b h => h, by kernel_rfl, ?_⟩⟩
    rintro ⟨i, cap⟩ ⟨hi', hr⟩
    simp only at hi' hr
    show rCN1 _ _ l.length cap l.length i (vp l) _ _ _
    rw [rCN1_text]
    refine bc_dec (fun h => ?_) (fun h => ?_)
    · have hi2 : i < l.length := by omega
      rw [eE_drop l i hi2] at hr
      simp only [bc_t h, bc_t (show (0 : Int) ≤ (i : Int) by omega), Int.toNat_natCast, at2 (vp_two l i hi2)]
      refine bc_dec (fun h1 => ?_) (fun h1 => ?_)
      · rw [if_pos h1] at hr; show [dI 9] = _; rw [hr]
      · rw [if_neg h1] at hr
        refine ⟨(i + 1, cap), ⟨hi2, hr⟩, by show l.length - (i + 1) < l.length - i; omega, ?_⟩
        rw [w64 (by omega) (by omega)]; rfl
    · show (if 0 = 0 then _ else _)
      rw [if_pos rfl]
      show nCN2 _ _ _
      rw [nCN2_text]
      have : i = l.length := by omega
      rw [this, List.drop_length] at hr
      show [dI 0] = _
      rw [hr]; rfl
theorem conCC (l : List Fv) : C5 82 [.sl l.length 5 (vs5 l)] [dI (cntE l.length)] := by
  refine con_flat hokE mixed Tryz.func82 rfl (by show 1 ≤ 400; omega) rfl (by kernel_rfl) (fun caps => ?_)
  show gCC _ _ l.length (caps 500) (vs5 l) _
  rw [gCC_text]; unfold cntE
  refine bc_beq (fun h => ?_) (fun h => bc_dec (fun h2 => ?_) (fun h2 => ?_))
  · show _ = _; rw [if_pos (by omega)]
  · show _ = _; rw [if_neg (by omega), if_pos (by omega)]
  · show _ = _; rw [if_neg (by omega), if_neg (by omega)]
theorem conCS (s : Fv) : C5 83 [.agg [dI s.a, dI s.b, dI s.c, dI s.d, dI s.e]] [dI (stE s)] := by
  refine con_flat hokP mixed Tryz.func83 rfl (by show 0 ≤ 400; omega) rfl (by kernel_rfl) (fun caps => ?_)
  show gCS _ _ s.a s.b s.c s.d s.e _
  rw [gCS_text]
  simp only [Qv, eq_self, true_and, and_true]
  refine ⟨_, ⟨conCW 1 1000 [s.a] (by simp)⟩, _, ⟨conCW 0 1000000000000 [s.b, s.c] (by simp)⟩, _, ⟨conCW 0 1000 [s.d, s.e] (by simp)⟩, _, ⟨conCN [(s.d, s.e)] (by simp)⟩, _, ⟨conFE [_, _, _, _] (by simp)⟩, ?_⟩
  show [dI _] = [dI _]
  rw [stE_eq]
theorem conCT (h : Int) : C5 47 [dI h] [dI (wE 1 1000 [h])] := by
  refine con_flat hokP mixed Tryz.func47 rfl (by show 0 ≤ 400; omega) rfl (by kernel_rfl) (fun caps => ?_)
  show gCT _ _ h _
  rw [gCT_text]
  exact ⟨_, ⟨conCW 1 1000 [h] (by simp)⟩, rfl⟩
theorem stsE_drop (l : List Fv) (i : Nat) (h : i < l.length) : stsE i (l.drop i) = if stE l[i] = 0 then stsE ((i + 1 : Nat) : Int) (l.drop (i + 1)) else ((i : Int), stE l[i]) := by
  rw [List.drop_eq_getElem_cons h]; rfl
theorem conKR (r : Ru) (hlen : r.ss.length < 1000000000) : C5 42 [r.d] [dI (chk r).1, dI (chk r).2] := by
  let inv : Nat × Nat → Prop := fun x => x.1 ≤ r.ss.length ∧ chk r = stsE x.1 (r.ss.drop x.1)
  let st : Nat × Nat → Slots × Blocks := fun x => zKR1 r.ss.length x.2 r.ss.length x.1 (vs5 r.ss)
  refine con_of (L := fun _ s b => ∃ x, inv x ∧ st x = (s, b)) hokP mixed Tryz.func42 rfl (by show 1 ≤ 400; omega) rfl (ids := [0]) (by kernel_rfl) rfl (fun caps => ?_) (fun id hid => ?_)
  · show gKR _ _ r.w r.st r.fi r.hlo r.hhi r.co r.ss.length (caps 500) (vs5 r.ss) r.slo r.shi r.flo r.fhi _
    rw [gKR_text]
    simp only [Qv, eq_self, true_and, and_true]
    refine ⟨_, ⟨conCW 1 2500 [r.w] (by simp)⟩, _, ⟨conCW 1 1000 [r.st, r.fi] (by simp)⟩, _, ⟨conCW 0 20000 [r.hlo, r.hhi, r.co] (by simp)⟩, _, ⟨conCW 1 100 [r.slo, r.shi] (by simp)⟩, _, ⟨conCW 0 100 [r.flo, r.fhi] (by simp)⟩, _, ⟨conCN [(r.fi, r.st), (r.hlo, r.hhi), (r.slo, r.shi), (r.flo, r.fhi)] (by simp)⟩, ?_⟩
    rw [bc_t (v5le r.ss), v5_whole]
    refine ⟨_, ⟨conCC r.ss⟩, _, ⟨conFE [_, _, _, _, _, _, _] (by simp)⟩, ?_⟩
    rw [headE_eq]
    refine bc_bne (fun h => ?_) (fun h => ⟨(0, caps 500), ⟨Nat.zero_le _, by rw [chk, if_pos h]; rfl⟩, rfl⟩)
    show [dI 0, dI (headE r)] = _
    rw [chk, if_neg h]
  · obtain rfl := List.mem_singleton.1 hid
    refine ⟨Nat × Nat, st, inv, fun x => r.ss.length - x.1, ⟨fun s b h => h, by kernel_rfl, ?_⟩⟩
    rintro ⟨i, cap⟩ ⟨hi', hr⟩
    simp only at hi' hr
    show rKR1 _ _ r.ss.length cap r.ss.length i (vs5 r.ss) _ _ _
    rw [rKR1_text]
    refine bc_dec (fun h => ?_) (fun h => ?_)
    · have hi2 : i < r.ss.length := by omega
      rw [stsE_drop r.ss i hi2] at hr
      simp only [bc_t h, bc_t (show (0 : Int) ≤ (i : Int) by omega), Int.toNat_natCast, at5 (vs5_all r.ss i hi2)]
      refine ⟨_, ⟨conCS r.ss[i]⟩, bc_bne (fun h1 => ?_) (fun h1 => ?_)⟩
      · rw [if_neg h1] at hr; show [dI (i : Int), dI (stE _)] = _; rw [hr]
      · rw [if_pos h1] at hr
        refine ⟨(i + 1, cap), ⟨hi2, hr⟩, by show r.ss.length - (i + 1) < r.ss.length - i; omega, ?_⟩
        rw [w64 (by omega) (by omega)]; rfl
    · show (if 0 = 0 then _ else _)
      rw [if_pos rfl]
      show nKR2 _ _ _
      rw [nKR2_text]
      have : i = r.ss.length := by omega
      rw [this, List.drop_length] at hr
      show [dI 0, dI 0] = _
      rw [hr]; rfl
/-- a schedule's errors, for rules without one -/
def thE (n : Nat) (fi : Int) : Int → Int → List Int → Int × Int
  | _, before, [] => if before ≠ fi then ((n : Int) - 1, 14) else (0, 0)
  | i, before, h :: l => if ¬ (1 ≤ h ∧ h ≤ 1000) then (i, 2) else if h > before then (i, 9) else thE n fi (i + 1) h l
def schE (r : Ru) (nm : List UInt8) (th : List Int) : Int × Int := if nameOK nm = true then if th.length = r.ss.length then thE r.ss.length r.fi 0 r.st th else (0, 10) else (0, 4)
abbrev scD (nm : List UInt8) (th : List Int) : D := .agg [dS nm, .sl th.length 1 (vi th)]
theorem thE_drop {n : Nat} {fi b : Int} (l : List Int) (i : Nat) (h : i < l.length) : thE n fi i b (l.drop i) = if ¬ (1 ≤ l[i] ∧ l[i] ≤ 1000) then ((i : Int), 2) else if l[i] > b then ((i : Int), 9) else thE n fi ((i + 1 : Nat) : Int) l[i] (l.drop (i + 1)) := by
  rw [List.drop_eq_getElem_cons h]; rfl
end Go.Proofs.G5x

/- Chapter 3: the reference's checks, in data. -/
namespace Go.Proofs.G5x
open Go Go.Abs Go.Proofs Go.Str
set_option maxRecDepth 100000
theorem sayW {a b c : Int} {A B : Prop} (h1 : b ≤ a ∧ a ≤ c → A) (h2 : ¬ (b ≤ a ∧ a ≤ c) → B) : (Says C5 78 [dI a, dI b, dI c] [.val (.bool true)] ∧ A) ∨ (Says C5 78 [dI a, dI b, dI c] [.val (.bool false)] ∧ B) := by
  by_cases h : b ≤ a ∧ a ≤ c
  · exact .inl ⟨sayWt h, h1 h⟩
  · exact .inr ⟨sayWf h, h2 h⟩
theorem chk_rng {r : Ru} (h : ¬ rngB r) : chk r = (0, 2) := by
  have : headE r = 2 := by rw [headE, if_neg h]
  rw [chk, this]; rfl
theorem chk_ord {r : Ru} (h1 : rngB r) (h2 : ¬ ordB r) : chk r = (0, 9) := by
  have : headE r = 9 := by rw [headE, if_pos h1, if_neg h2]
  rw [chk, this]; rfl
theorem chk_cnt {r : Ru} (h1 : rngB r) (h2 : ordB r) : chk r = if cntE r.ss.length = 0 then stsE 0 r.ss else (0, cntE r.ss.length) := by
  rw [chk, headE, if_pos h1, if_pos h2]
theorem conRK (r : Ru) (hlen : r.ss.length < 1000000000) : C5 39 [r.d] [dI (chk r).1, dI (chk r).2] := by
  let inv : Nat × Nat → Prop := fun x => x.1 ≤ r.ss.length ∧ chk r = stsE x.1 (r.ss.drop x.1)
  let st : Nat × Nat → Slots × Blocks := fun x => zRK1 x.1 r.w r.st r.fi r.hlo r.hhi r.co r.ss.length x.2 r.slo r.shi r.flo r.fhi (vs5 r.ss)
  refine con_of (L := fun _ s b => ∃ x, inv x ∧ st x = (s, b)) hokP mixed Tryz.func39 rfl (by show 1 ≤ 400; omega) rfl (ids := [0]) (by kernel_rfl) rfl (fun caps => ?_) (fun id hid => ?_)
  · show gRK _ _ r.w r.st r.fi r.hlo r.hhi r.co r.ss.length (caps 500) (vs5 r.ss) r.slo r.shi r.flo r.fhi _
    rw [gRK_text]
    have bad : ¬ rngB r → [dI 0, dI 2] = [dI (chk r).1, dI (chk r).2] := fun h => by rw [chk_rng h]
    refine sayW (fun h1 => ?_) (fun h1 => bad (fun h => h1 h.1))
    refine sayW (fun h2 => ?_) (fun h2 => bad (fun h => h2 h.2.1.1))
    refine sayW (fun h3 => ?_) (fun h3 => bad (fun h => h3 h.2.1.2))
    refine sayW (fun h4 => ?_) (fun h4 => bad (fun h => h4 h.2.2.1.1))
    refine sayW (fun h5 => ?_) (fun h5 => bad (fun h => h5 h.2.2.1.2.1))
    refine sayW (fun h6 => ?_) (fun h6 => bad (fun h => h6 h.2.2.1.2.2))
    refine sayW (fun h7 => ?_) (fun h7 => bad (fun h => h7 h.2.2.2.1.1))
    refine sayW (fun h8 => ?_) (fun h8 => bad (fun h => h8 h.2.2.2.1.2))
    refine sayW (fun h9 => ?_) (fun h9 => bad (fun h => h9 h.2.2.2.2.1))
    refine sayW (fun h10 => ?_) (fun h10 => bad (fun h => h10 h.2.2.2.2.2))
    have hr : rngB r := ⟨h1, ⟨h2, h3⟩, ⟨h4, h5, h6⟩, ⟨h7, h8⟩, h9, h10⟩
    have bad2 : ¬ ordB r → [dI 0, dI 9] = [dI (chk r).1, dI (chk r).2] := fun h => by rw [chk_ord hr h]
    refine bc_dec (fun g1 => bad2 (fun h => by have := h.1; omega)) (fun g1 => ?_)
    refine bc_dec (fun g2 => bad2 (fun h => by have := h.2.1; omega)) (fun g2 => ?_)
    refine bc_dec (fun g3 => bad2 (fun h => by have := h.2.2.1; omega)) (fun g3 => ?_)
    refine bc_dec (fun g4 => bad2 (fun h => by have := h.2.2.2; omega)) (fun g4 => ?_)
    have ho : ordB r := ⟨by omega, by omega, by omega, by omega⟩
    have hc := chk_cnt hr ho
    refine bc_beq (fun g5 => ?_) (fun g5 => bc_dec (fun g6 => ?_) (fun g6 => ?_))
    · have e : cntE r.ss.length = 10 := by rw [cntE, if_pos (by omega)]
      rw [hc, e]; rfl
    · have e : cntE r.ss.length = 8 := by rw [cntE, if_neg (by omega), if_pos (by omega)]
      rw [hc, e]; rfl
    · have e : cntE r.ss.length = 0 := by rw [cntE, if_neg (by omega), if_neg (by omega)]
      exact ⟨(0, caps 500), ⟨Nat.zero_le _, by rw [hc, e]; rfl⟩, rfl⟩
  · obtain rfl := List.mem_singleton.1 hid
    refine ⟨Nat × Nat, st, inv, fun x => r.ss.length - x.1, ⟨fun s b h => h, by kernel_rfl, ?_⟩⟩
    rintro ⟨i, cap⟩ ⟨hi', hr⟩
    simp only at hi' hr
    show rRK1 _ _ i r.w r.st r.fi r.hlo r.hhi r.co r.ss.length cap r.slo r.shi r.flo r.fhi (vs5 r.ss) _ _ _
    rw [rRK1_text]
    refine bc_dec (fun h => ?_) (fun h => ?_)
    · have hi2 : i < r.ss.length := by omega
      rw [stsE_drop r.ss i hi2] at hr
      simp only [bc_t h, bc_t (show (0 : Int) ≤ (i : Int) by omega), Int.toNat_natCast, at5 (vs5_all r.ss i hi2)]
      have bad : ¬ stB r.ss[i] → [dI (i : Int), dI 2] = [dI (chk r).1, dI (chk r).2] := fun h => by
        have e : stE r.ss[i] = 2 := by rw [stE, if_neg h]
        rw [e, if_neg (by omega)] at hr; rw [hr]
      refine sayW (fun h1 => ?_) (fun h1 => bad (fun h => h1 h.1))
      refine sayW (fun h2 => ?_) (fun h2 => bad (fun h => h2 h.2.1.1))
      refine sayW (fun h3 => ?_) (fun h3 => bad (fun h => h3 h.2.1.2))
      refine sayW (fun h4 => ?_) (fun h4 => bad (fun h => h4 h.2.2.1))
      refine sayW (fun h5 => ?_) (fun h5 => bad (fun h => h5 h.2.2.2))
      have hb : stB r.ss[i] := ⟨h1, ⟨h2, h3⟩, h4, h5⟩
      refine bc_dec (fun h6 => ?_) (fun h6 => ?_)
      · have e : stE r.ss[i] = 9 := by rw [stE, if_pos hb, if_neg (by omega)]
        rw [e, if_neg (by omega)] at hr
        show [dI (i : Int), dI 9] = _
        rw [hr]
      · have e : stE r.ss[i] = 0 := by rw [stE, if_pos hb, if_pos (by omega)]
        rw [if_pos e] at hr
        refine ⟨(i + 1, cap), ⟨hi2, hr⟩, by show r.ss.length - (i + 1) < r.ss.length - i; omega, ?_⟩
        rw [w64 (by omega) (by omega)]; rfl
    · show (if 0 = 0 then _ else _)
      rw [if_pos rfl]
      show nRK2 _ _ _
      rw [nRK2_text]
      have : i = r.ss.length := by omega
      rw [this, List.drop_length] at hr
      show [dI 0, dI 0] = _
      rw [hr]; rfl
theorem conRKn (r : Ru) (hnil : r.ss = []) : C5 39 [r.dn] [dI (chk r).1, dI (chk r).2] := by
  refine con_of (L := fun _ s b => False) hokP mixed Tryz.func39 rfl (by show 0 ≤ 400; omega) rfl (ids := [0]) (by kernel_rfl) rfl (fun caps => ?_) (fun id hid => ?_)
  · show gRKn _ _ r.w r.st r.fi r.hlo r.hhi r.co r.slo r.shi r.flo r.fhi _
    rw [gRKn_text]
    have bad : ¬ rngB r → [dI 0, dI 2] = [dI (chk r).1, dI (chk r).2] := fun h => by rw [chk_rng h]
    refine sayW (fun h1 => ?_) (fun h1 => bad (fun h => h1 h.1))
    refine sayW (fun h2 => ?_) (fun h2 => bad (fun h => h2 h.2.1.1))
    refine sayW (fun h3 => ?_) (fun h3 => bad (fun h => h3 h.2.1.2))
    refine sayW (fun h4 => ?_) (fun h4 => bad (fun h => h4 h.2.2.1.1))
    refine sayW (fun h5 => ?_) (fun h5 => bad (fun h => h5 h.2.2.1.2.1))
    refine sayW (fun h6 => ?_) (fun h6 => bad (fun h => h6 h.2.2.1.2.2))
    refine sayW (fun h7 => ?_) (fun h7 => bad (fun h => h7 h.2.2.2.1.1))
    refine sayW (fun h8 => ?_) (fun h8 => bad (fun h => h8 h.2.2.2.1.2))
    refine sayW (fun h9 => ?_) (fun h9 => bad (fun h => h9 h.2.2.2.2.1))
    refine sayW (fun h10 => ?_) (fun h10 => bad (fun h => h10 h.2.2.2.2.2))
    have hr : rngB r := ⟨h1, ⟨h2, h3⟩, ⟨h4, h5, h6⟩, ⟨h7, h8⟩, h9, h10⟩
    have bad2 : ¬ ordB r → [dI 0, dI 9] = [dI (chk r).1, dI (chk r).2] := fun h => by rw [chk_ord hr h]
    refine bc_dec (fun g1 => bad2 (fun h => by have := h.1; omega)) (fun g1 => ?_)
    refine bc_dec (fun g2 => bad2 (fun h => by have := h.2.1; omega)) (fun g2 => ?_)
    refine bc_dec (fun g3 => bad2 (fun h => by have := h.2.2.1; omega)) (fun g3 => ?_)
    refine bc_dec (fun g4 => bad2 (fun h => by have := h.2.2.2; omega)) (fun g4 => ?_)
    have ho : ordB r := ⟨by omega, by omega, by omega, by omega⟩
    have hc := chk_cnt hr ho
    have e : cntE r.ss.length = 10 := by rw [hnil]; rfl
    first
      | (refine bc_beq (fun g5 => ?_) (fun g5 => absurd rfl g5); rw [hc, e]; rfl)
      | (rw [hc, e]; rfl)
  · obtain rfl := List.mem_singleton.1 hid
    exact ⟨Unit, fun _ => ([], []), fun _ => False, fun _ => 0, ⟨fun s b h => h.elim, by kernel_rfl, fun _ h => h.elim⟩⟩
theorem conRE (r : Ru) (hlen : r.ss.length < 1000000000) : C5 13 [r.d] [dI (chk r).2] := by
  refine con_flat hokP mixed Tryz.func13 rfl (by show 1 ≤ 400; omega) rfl (by kernel_rfl) (fun caps => ?_)
  show gRE _ _ r.w r.st r.fi r.hlo r.hhi r.co r.ss.length (caps 500) (vs5 r.ss) r.slo r.shi r.flo r.fhi _
  rw [gRE_text, bc_t (v5le r.ss), v5_whole]
  exact ⟨_, _, ⟨conRK r hlen⟩, rfl⟩
theorem conREn (r : Ru) (hnil : r.ss = []) : C5 13 [r.dn] [dI (chk r).2] := by
  refine con_flat hokP mixed Tryz.func13 rfl (by show 0 ≤ 400; omega) rfl (by kernel_rfl) (fun caps => ?_)
  show gREn _ _ r.w r.st r.fi r.hlo r.hhi r.co r.slo r.shi r.flo r.fhi _
  rw [gREn_text]
  exact ⟨_, _, ⟨conRKn r hnil⟩, rfl⟩
theorem conRS (r : Ru) (nm : List UInt8) (th : List Int) (hlen : r.ss.length < 1000000000) (hth : th.length < 1000000000) : C5 43 [r.d, scD nm th] [dI (schE r nm th).1, dI (schE r nm th).2] := by
  let inv : Nat × Nat × Nat × Int → Prop := fun x => x.1 ≤ th.length ∧ schE r nm th = thE r.ss.length r.fi x.1 x.2.2.2 (th.drop x.1)
  let st : Nat × Nat × Nat × Int → Slots × Blocks := fun x => zRS1 x.2.2.2 x.1 r.w r.st r.fi r.hlo r.hhi r.co r.ss.length x.2.1 r.slo r.shi r.flo r.fhi (bs nm) th.length x.2.2.1 (vs5 r.ss) (vi th)
  refine con_of (L := fun _ s b => ∃ x, inv x ∧ st x = (s, b)) hokP mixed Tryz.func43 rfl (by show 2 ≤ 400; omega) rfl (ids := [0]) (by kernel_rfl) rfl (fun caps => ?_) (fun id hid => ?_)
  · show gRS _ _ r.w r.st r.fi r.hlo r.hhi r.co r.ss.length (caps 500) (vs5 r.ss) r.slo r.shi r.flo r.fhi (bs nm) th.length (caps 501) (vi th) _
    rw [gRS_text]
    refine sayOr (conIN nm) (fun hn => bc_bne (fun h2 => ?_) (fun h2 => ?_)) (fun hn => ?_)
    · show [dI 0, dI 10] = _
      rw [schE, if_pos hn, if_neg (by omega)]
    · exact ⟨(0, caps 500, caps 501, r.st), ⟨Nat.zero_le _, by rw [schE, if_pos hn, if_pos (by omega)]; rfl⟩, rfl⟩
    · show [dI 0, dI 4] = _
      rw [schE, if_neg (by rw [hn]; simp)]
  · obtain rfl := List.mem_singleton.1 hid
    refine ⟨Nat × Nat × Nat × Int, st, inv, fun x => th.length - x.1, ⟨fun s b h => h, by kernel_rfl, ?_⟩⟩
    rintro ⟨i, c1, c2, b⟩ ⟨hi', hr⟩
    simp only at hi' hr
    show rRS1 _ _ b i r.w r.st r.fi r.hlo r.hhi r.co r.ss.length c1 r.slo r.shi r.flo r.fhi (bs nm) th.length c2 (vs5 r.ss) (vi th) _ _ _
    rw [rRS1_text]
    refine bc_dec (fun h => ?_) (fun h => ?_)
    · have hi2 : i < th.length := by omega
      rw [thE_drop th i hi2] at hr
      simp only [bc_t h, bc_t (show (0 : Int) ≤ (i : Int) by omega), Int.toNat_natCast, at1 (vi_at th i hi2)]
      refine sayW (fun h3 => ?_) (fun h3 => ?_)
      · rw [if_neg (fun hh => hh h3)] at hr
        refine bc_dec (fun h4 => ?_) (fun h4 => ?_)
        · rw [if_pos h4] at hr; show [dI (i : Int), dI 9] = _; rw [hr]
        · rw [if_neg h4] at hr
          refine ⟨(i + 1, c1, c2, th[i]), ⟨hi2, hr⟩, by show th.length - (i + 1) < th.length - i; omega, ?_⟩
          rw [w64 (by omega) (by omega)]; rfl
      · rw [if_pos h3] at hr
        show [dI (i : Int), dI 2] = _
        rw [hr]
    · show (if 0 = 0 then _ else _)
      rw [if_pos rfl]
      show nRS2 _ _ b r.w r.st r.fi r.hlo r.hhi r.co r.ss.length c1 r.slo r.shi r.flo r.fhi (vs5 r.ss) _
      rw [nRS2_text]
      have : i = th.length := by omega
      rw [this, List.drop_length, thE] at hr
      refine bc_bne (fun h2 => ?_) (fun h2 => ?_)
      · rw [if_pos h2] at hr; rw [hr, w64 (by omega) (by omega)]
      · rw [if_neg (by omega)] at hr; rw [hr]
end Go.Proofs.G5x

/- Parts between " ; " against words that are grouped at ";" (no program in it). -/
namespace Go.Str
open Go
/-- pieces between " ; " -/
def cut3 : List UInt8 → List UInt8 → List (List UInt8)
  | acc, [] => [acc]
  | acc, b :: r => if ([32, 59, 32] : List UInt8).isPrefixOf (b :: r) then acc :: cut3 [] (r.drop 2) else cut3 (acc ++ [b]) r
termination_by _ l => l.length
decreasing_by all_goals (simp only [List.length_cons, List.length_drop]; omega)
theorem pre3 {l : List UInt8} (h : ([32, 59, 32] : List UInt8).isPrefixOf l = true) : l = 32 :: 59 :: 32 :: l.drop 3 := by
  rw [List.isPrefixOf_iff_prefix] at h
  obtain ⟨t, rfl⟩ := h
  rfl
theorem cut3_hit {acc r : List UInt8} : cut3 acc (32 :: 59 :: 32 :: r) = acc :: cut3 [] r := by
  rw [cut3, if_pos (by simp [List.isPrefixOf])]; rfl
theorem cut3_skip {acc r : List UInt8} {b : UInt8} (h : ([32, 59, 32] : List UInt8).isPrefixOf (b :: r) = false) : cut3 acc (b :: r) = cut3 (acc ++ [b]) r := by
  rw [cut3, if_neg (by rw [h]; decide)]
theorem cut3_nil {acc : List UInt8} : cut3 acc [] = [acc] := by rw [cut3]
theorem cut3_ne (acc l : List UInt8) : cut3 acc l ≠ [] := by
  cases l with
  | nil => rw [cut3_nil]; simp
  | cons b r =>
    rw [cut3]; split
    · simp
    · exact cut3_ne _ r
termination_by l.length
theorem pre3_no {b : UInt8} {a r : List UInt8} (h : (59 : UInt8) ∉ b :: a) (hr : ∀ x q, r = x :: q → x = 32) : ([32, 59, 32] : List UInt8).isPrefixOf (b :: (a ++ r)) = false := by
  cases hp : ([32, 59, 32] : List UInt8).isPrefixOf (b :: (a ++ r)) with
  | false => rfl
  | true =>
    have e := pre3 hp
    cases a with
    | nil =>
      rw [List.nil_append] at e
      simp only [List.cons.injEq] at e
      cases r with
      | nil => simp at e
      | cons x q => simp only [List.cons.injEq] at e; rw [hr x q rfl] at e; exact absurd e.2.1 (by decide)
    | cons x q =>
      simp only [List.cons_append, List.cons.injEq] at e
      exact absurd (by rw [e.2.1]; simp) h
theorem cut3_miss : ∀ {l acc : List UInt8}, (59 : UInt8) ∉ l → cut3 acc l = [acc ++ l]
  | [], acc, _ => by rw [cut3_nil]; simp
  | b :: r, acc, h => by
    have := pre3_no (a := r) (r := []) h (by simp)
    rw [List.append_nil] at this
    rw [cut3_skip this, cut3_miss (fun hm => h (List.mem_cons_of_mem _ hm))]
    simp
theorem cut3_part : ∀ {a r acc : List UInt8}, (59 : UInt8) ∉ a → cut3 acc (a ++ 32 :: 59 :: 32 :: r) = (acc ++ a) :: cut3 [] r
  | [], r, acc, _ => by rw [List.nil_append, cut3_hit]; simp
  | b :: a, r, acc, h => by
    rw [List.cons_append, cut3_skip (pre3_no h (by rintro x q e; simp only [List.cons.injEq] at e; exact e.1.symm)), cut3_part (fun hm => h (List.mem_cons_of_mem _ hm))]
    simp
/-- joined with " ; " -/
def j3 : List (List UInt8) → List UInt8
  | [] => []
  | [p] => p
  | p :: q :: r => p ++ 32 :: 59 :: 32 :: j3 (q :: r)
theorem cut3_j3 : ∀ {ps : List (List UInt8)}, ps ≠ [] → (∀ p ∈ ps, (59 : UInt8) ∉ p) → cut3 [] (j3 ps) = ps
  | [], h, _ => absurd rfl h
  | [p], _, h => by rw [j3, cut3_miss (h p (by simp))]; simp
  | p :: q :: r, _, h => by
    rw [j3, cut3_part (h p (by simp)), cut3_j3 (by simp) (fun x hx => h x (List.mem_cons_of_mem _ hx))]
    simp
/-- strings.Split at " ; " -/
theorem index3 : ∀ (l : List UInt8), (Lib.index l [32, 59, 32] = -1 ∧ ∀ acc, cut3 acc l = [acc ++ l]) ∨ ∃ a r, l = a ++ 32 :: 59 :: 32 :: r ∧ (∀ acc, cut3 acc l = (acc ++ a) :: cut3 [] r) ∧ Lib.index l [32, 59, 32] = (a.length : Nat)
  | [] => .inl ⟨rfl, fun acc => by rw [cut3_nil]; simp⟩
  | b :: l => by
    cases hp : ([32, 59, 32] : List UInt8).isPrefixOf (b :: l) with
    | true =>
      have e := pre3 hp
      refine .inr ⟨[], (b :: l).drop 3, e, fun acc => ?_, ?_⟩
      · conv => lhs; rw [e]
        rw [cut3_hit]; simp
      · rw [Lib.index, if_pos hp]; rfl
    | false =>
      rcases index3 l with ⟨h1, h2⟩ | ⟨a, r, h0, h2, h3⟩
      · refine .inl ⟨?_, fun acc => by rw [cut3_skip hp, h2]; simp⟩
        rw [Lib.index, if_neg (by rw [hp]; decide), h1]; rfl
      · refine .inr ⟨b :: a, r, by rw [h0]; rfl, fun acc => by rw [cut3_skip hp, h2]; simp, ?_⟩
        rw [Lib.index, if_neg (by rw [hp]; decide), h3, if_neg (by simp only [beq_iff_eq]; omega)]
        simp
theorem split3 : ∀ (n : Nat) (l : List UInt8), l.length ≤ n → (Lib.splitB (bs [32, 59, 32]) 0 (Lib.countB (bs l) (bs [32, 59, 32])) (bs l)) = (cut3 [] l).map bs := by
  have hs : (bs [32, 59, 32]).size = 3 := by rw [bs_size]; rfl
  intro n
  induction n with
  | zero =>
    intro l hl
    obtain rfl : l = [] := List.length_eq_zero_iff.1 (by omega)
    rw [Lib.countB_miss _ _ rfl, cut3_nil]; rfl
  | succ n ih =>
    intro l hl
    rcases index3 l with ⟨h1, h2⟩ | ⟨a, r, rfl, h2, h3⟩
    · have h1' : Lib.indexB (bs l) (bs [32, 59, 32]) = -1 := by unfold Lib.indexB; simpa [bs] using h1
      rw [Lib.countB_miss _ _ h1', Lib.splitB_zero, h2]; simp
    · have h3' : Lib.indexB (bs (a ++ 32 :: 59 :: 32 :: r)) (bs [32, 59, 32]) = (a.length : Nat) := by unfold Lib.indexB; simpa [bs] using h3
      rw [Lib.countB_hit _ _ _ (by rw [hs]; decide) h3', Nat.add_comm, Lib.splitB_hit _ _ _ _ _ h3', h2]
      have e1 : (bs (a ++ 32 :: 59 :: 32 :: r)).extract 0 (a.length + 0) = bs a := by rw [bs_extract]; simp
      have e2 : (bs (a ++ 32 :: 59 :: 32 :: r)).extract (a.length + (bs [32, 59, 32]).size) (bs (a ++ 32 :: 59 :: 32 :: r)).size = bs r := by
        rw [bs_extract, hs, bs_size]
        congr 1
        have : (a ++ 32 :: 59 :: 32 :: r).drop (a.length + 3) = r := by
          rw [← List.drop_drop]; simp
        rw [this]
        simp only [List.length_append, List.length_cons]
        rw [List.take_of_length_le (by omega)]
      rw [e1, e2, ih r (by simp at hl; omega)]
      simp
/-! ### Groups of words -/
abbrev jn (ws : List (List UInt8)) : List UInt8 := Lib.join ws [32]
/-- words, in groups between ";" -/
def grp : List (List UInt8) → List (List UInt8) → List (List (List UInt8))
  | acc, [] => [acc]
  | acc, w :: r => if w = [59] then acc :: grp [] r else grp (acc ++ [w]) r
/-- groups, one behind another -/
def fl : List (List (List UInt8)) → List (List UInt8)
  | [] => []
  | [g] => g
  | g :: h :: r => g ++ [59] :: fl (h :: r)
/-- groups of numbers, none of them empty -/
structure GoodG (d : Nat) (G : List (List (List UInt8))) : Prop where
  ne : G ≠ []
  some : ∀ g ∈ G, g ≠ []
  num : ∀ g ∈ G, ∀ w ∈ g, okNum d w = true
theorem okNum_59 {d : Nat} {w : List UInt8} (h : okNum d w = true) : (32 : UInt8) ∉ w ∧ (59 : UInt8) ∉ w ∧ w ≠ [59] :=
  ⟨okNum_mem h (by decide), okNum_mem h (by decide), fun e => okNum_mem h (c := 59) (by decide) (by rw [e]; simp)⟩
theorem mem_join {c b : UInt8} : ∀ {ws : List (List UInt8)}, b ∈ Lib.join ws [c] → b = c ∨ ∃ w ∈ ws, b ∈ w
  | [], h => by simp [Lib.join_nil] at h
  | w :: r, h => by
    rw [Lib.join_cons] at h
    rcases List.mem_append.1 h with h | h
    · exact .inr ⟨w, by simp, h⟩
    · simp only [Lib.joinTail, List.mem_flatten, List.mem_map] at h
      obtain ⟨l, ⟨x, hx, rfl⟩, hb⟩ := h
      rcases List.mem_append.1 hb with hb | hb
      · exact .inl (by simpa using hb)
      · exact .inr ⟨x, List.mem_cons_of_mem _ hx, hb⟩
abbrev partsG (t : List UInt8) : List (List (List UInt8)) := (cut3 [] t).map (cutA 32 [])
end Go.Str

/- Chapter 3, strings: what they mean. -/
namespace Go.Proofs.G5x
open Go Go.Abs Go.Proofs Go.Str
set_option maxRecDepth 100000
abbrev W := List (List UInt8)
def okW (ws : W) : Bool := ws.all (okNum 13)
def numsW (ws : W) : List Int := ws.map (numF 0)
def mkS (l : List Int) : Fv := ⟨l.getD 0 0, l.getD 1 0, l.getD 2 0, l.getD 3 0, l.getD 4 0⟩
def mkR (l : List Int) (ss : List Fv) : Ru := ⟨l.getD 0 0, l.getD 1 0, l.getD 2 0, l.getD 3 0, l.getD 4 0, l.getD 5 0, ss, l.getD 6 0, l.getD 7 0, l.getD 8 0, l.getD 9 0⟩
def okP (n : Nat) (g : W) : Bool := decide (g.length = n) && okW g
/-- rules by their groups of words -/
def synG : List W → Option Ru
  | [] => none
  | g :: gs => if okP 10 g && gs.all (okP 5) then some (mkR (numsW g) (gs.map fun h => mkS (numsW h))) else none
def zeroR : Ru := ⟨0, 0, 0, 0, 0, 0, [], 0, 0, 0, 0⟩
def resR (o : Option Ru) : List D := match o with
  | none => [zeroR.dn, dI 7]
  | some r => if (chk r).2 = 0 then [r.d, dI 0] else [zeroR.dn, dI (chk r).2]
theorem okW_mem {ws : W} (h : okW ws = true) {w : List UInt8} (hw : w ∈ ws) : okNum 13 w = true := List.all_eq_true.1 h w hw
/-! ### Schedules -/
def psE (nm : List UInt8) (nums : W) : Int := if nm.length = 0 ∨ okW nums = false then 7 else if nameOK nm = false then 4 else if 6 < nums.length then 8 else if ∀ n ∈ numsW nums, 1 ≤ n ∧ n ≤ 1000 then 0 else 2
def slT (l : List Int) : D := if l.length = 0 then .nil else .sl l.length 1 (vi l)
def resS (nm : List UInt8) (nums : W) : List D := if psE nm nums = 0 then [.agg [dS nm, slT (numsW nums)], dI 0] else [.agg [dS [], .nil], dI (psE nm nums)]
/-! ### Formats -/
def fS (nm : List UInt8) (th : List Int) : List UInt8 := jn (nm :: th.map Lib.itoa)
def rNs (r : Ru) : List Int := [r.w, r.st, r.fi, r.hlo, r.hhi, r.co, r.slo, r.shi, r.flo, r.fhi]
def sNs (s : Fv) : List Int := [s.a, s.b, s.c, s.d, s.e]
def fR (r : Ru) : List UInt8 := j3 (jn ((rNs r).map Lib.itoa) :: r.ss.map fun s => jn ((sNs s).map Lib.itoa))
theorem itoa_num {n : Int} (h : 0 ≤ n ∧ n < 10000000000000) : okNum 13 (Lib.itoa n) = true ∧ numF 0 (Lib.itoa n) = n := by
  rw [itoa_nn h.1]
  have hl : (dec n.toNat).length ≤ 13 := dec_len 13 n.toNat (by decide) (by have := h.2; omega)
  exact ⟨okNum_dec hl, by rw [dec_num _ _ (Nat.le_refl _)]; omega⟩
theorem nums_itoa : ∀ {l : List Int}, (∀ n ∈ l, 0 ≤ n ∧ n < 10000000000000) → okW (l.map Lib.itoa) = true ∧ numsW (l.map Lib.itoa) = l
  | [], _ => ⟨rfl, rfl⟩
  | n :: r, h => by
    obtain ⟨h1, h2⟩ := itoa_num (h n (by simp))
    obtain ⟨h3, h4⟩ := nums_itoa (l := r) (fun m hm => h m (List.mem_cons_of_mem _ hm))
    refine ⟨by simp only [okW, List.map_cons, List.all_cons, h1, Bool.true_and]; exact h3, ?_⟩
    show numF 0 (Lib.itoa n) :: numsW (r.map Lib.itoa) = n :: r
    rw [h2, h4]
theorem words_jn {ws : W} (h0 : ws ≠ []) (h : okW ws = true) : cutA 32 [] (jn ws) = ws := cutA_join h0 fun w hw => (okNum_59 (okW_mem h hw)).1
theorem jn_59 {ws : W} (h : okW ws = true) : (59 : UInt8) ∉ jn ws := fun hm => by
  rcases mem_join hm with h1 | ⟨w, hw, hb⟩
  · exact absurd h1 (by decide)
  · exact (okNum_59 (okW_mem h hw)).2.1 hb
structure NumR (r : Ru) : Prop where
  head : ∀ n ∈ rNs r, 0 ≤ n ∧ n < 10000000000000
  all : ∀ s ∈ r.ss, ∀ n ∈ sNs s, 0 ≤ n ∧ n < 10000000000000
theorem syn_fR {r : Ru} (h : NumR r) : synG (partsG (fR r)) = some r := by
  have h1 := nums_itoa h.head
  have e : partsG (fR r) = (rNs r).map Lib.itoa :: r.ss.map (fun s => (sNs s).map Lib.itoa) := by
    show (cut3 [] (j3 (jn ((rNs r).map Lib.itoa) :: r.ss.map fun s => jn ((sNs s).map Lib.itoa)))).map (cutA 32 []) = _
    rw [cut3_j3 (by simp)]
    · rw [List.map_cons, words_jn (by simp [rNs]) h1.1, List.map_map]
      congr 1
      refine List.map_congr_left fun s hs => ?_
      exact words_jn (by simp [sNs]) (nums_itoa (h.all s hs)).1
    · intro p hp
      rcases List.mem_cons.1 hp with rfl | hp
      · exact jn_59 h1.1
      · obtain ⟨s, hs, rfl⟩ := List.mem_map.1 hp
        exact jn_59 (nums_itoa (h.all s hs)).1
  rw [e, synG, if_pos]
  · rw [h1.2, List.map_map]
    congr 1
    have : (r.ss.map ((fun h => mkS (numsW h)) ∘ fun s => (sNs s).map Lib.itoa)) = r.ss := by
      conv => rhs; rw [← List.map_id r.ss]
      refine List.map_congr_left fun s hs => ?_
      show mkS (numsW ((sNs s).map Lib.itoa)) = s
      rw [(nums_itoa (h.all s hs)).2]; rfl
    rw [this]; rfl
  · simp only [Bool.and_eq_true, List.all_eq_true]
    refine ⟨by simp only [okP, Bool.and_eq_true, decide_eq_true_eq]; exact ⟨by simp [rNs], h1.1⟩, fun q hq => ?_⟩
    obtain ⟨s, hs, rfl⟩ := List.mem_map.1 hq
    simp only [okP, Bool.and_eq_true, decide_eq_true_eq]; exact ⟨by simp [sNs], (nums_itoa (h.all s hs)).1⟩
theorem stsE_zero : ∀ {l : List Fv} {i : Int}, (stsE i l).2 = 0 → ∀ s ∈ l, stE s = 0
  | [], _, _, _, hs => by simp at hs
  | t :: r, i, h, s, hs => by
    rw [stsE] at h
    split at h
    · rename_i h0
      rcases List.mem_cons.1 hs with rfl | hs
      · exact h0
      · exact stsE_zero h s hs
    · rename_i h0; exact absurd h h0
theorem num_chk {r : Ru} (h : (chk r).2 = 0) : NumR r ∧ 1 ≤ r.ss.length ∧ r.ss.length ≤ 6 := by
  unfold chk at h
  split at h
  · rename_i h0
    unfold headE at h0
    split at h0
    · rename_i hr
      split at h0
      · unfold cntE at h0
        refine ⟨⟨fun n hn => ?_, fun s hs n hn => ?_⟩, ?_⟩
        · unfold rngB at hr
          simp only [rNs, List.mem_cons, List.not_mem_nil, or_false] at hn
          rcases hn with rfl | rfl | rfl | rfl | rfl | rfl | rfl | rfl | rfl | rfl <;> omega
        · have h1 := stsE_zero h s hs
          unfold stE at h1
          split at h1
          · rename_i hb
            unfold stB at hb
            simp only [sNs, List.mem_cons, List.not_mem_nil, or_false] at hn
            rcases hn with rfl | rfl | rfl | rfl | rfl <;> omega
          · exact absurd h1 (by decide)
        · repeat' split at h0
          all_goals omega
      · exact absurd h0 (by decide)
    · exact absurd h0 (by decide)
  · rename_i h0; exact absurd h h0
end Go.Proofs.G5x

/- Chapter 3, strings: numbers, words, in data. -/
namespace Go.Proofs.G5x
open Go Go.Abs Go.Proofs Go.Str
set_option maxRecDepth 100000
theorem preXOK : PreOK Tryz.prog (preX C5) := by
  intro g h he args ats H k hk
  unfold preX at he
  rcases ite_so he with ⟨e, rfl⟩ | he
  · exact fixH_ok (fun _ _ _ h => h) _ _ _ _ _ hk
  rcases ite_so he with ⟨e, rfl⟩ | he
  · exact fixH_ok (fun _ _ _ h => h) _ _ _ _ _ hk
  rcases ite_so he with ⟨e, rfl⟩ | he
  · exact saidH_ok (fun _ _ _ h => h) _ _ _ _ _ hk
  · exact prePOK g h he args ats H k hk
theorem hokX : HandlerOK Tryz.prog (hX C5) := handlerX_ok mixed preXOK (by decide) 6
theorem okNum_of {d : Nat} {l : List UInt8} (h1 : 1 ≤ l.length) (h2 : l.length ≤ d) (h3 : 1 < l.length → l.head? ≠ some 48) (h4 : l.all isDig = true) : okNum d l = true := by
  unfold okNum
  simp only [h1, h2, h4, decide_true, Bool.and_true, Bool.true_and, Bool.not_eq_true', Bool.and_eq_false_iff, decide_eq_false_iff_not, beq_eq_false_iff_ne]
  by_cases h : 1 < l.length
  · exact .inr (h3 h)
  · exact .inl h
theorem okW_drop {ws : W} {i : Nat} (h : i < ws.length) : okW (ws.drop i) = (okNum 13 ws[i] && okW (ws.drop (i + 1))) := by
  rw [List.drop_eq_getElem_cons h]; rfl
theorem head0 {l : List UInt8} (h : 0 < l.length) : l[0]? = some l[0] ∧ l.head? = some l[0] := by
  cases l with
  | nil => simp at h
  | cons a r => exact ⟨rfl, rfl⟩
theorem conaN (ws : W) (hn : ws.length < 1000000000) : C5 44 [dSs ws] [dB (okW ws)] := by
  let inv : Nat × Nat → Prop := fun x => x.1 ≤ ws.length ∧ okW ws = okW (ws.drop x.1)
  let st : Nat × Nat → Slots × Blocks := fun x => zaN1 ws.length x.2 ws.length x.1 (strs ws)
  refine con_J hokX mixed [] (L := fun _ s' bl => ∃ y, inv y ∧ st y = (s', bl)) Tryz.func44 rfl (by show 1 ≤ 400; omega) rfl (pts := [0]) (loops := [0]) (by kernel_rfl) (by kernel_rfl) (fun caps _ => ?_) (fun id q1 q2 => absurd q1 q2) (fun id hid => ?_)
  · show gaN _ _ ws.length (caps 500) (strs ws) _
    rw [gaN_text]
    exact ⟨(0, caps 500), ⟨Nat.zero_le _, rfl⟩, rfl⟩
  · obtain rfl := List.mem_singleton.1 hid
    refine ⟨⟨_, st, inv, fun y => ws.length - y.1, fun s' bl h => h, [2], [2], by kernel_rfl, by kernel_rfl, ?_⟩⟩
    rintro ⟨i, c⟩ ⟨hi, hok⟩
    have hi : i ≤ ws.length := hi
    have hok : okW ws = okW (ws.drop i) := hok
    let w : List UInt8 := ws.getD i []
    let inv2 : Nat → Prop := fun j => (i < ws.length ∧ j ≤ w.length) ∧ (1 ≤ w.length ∧ w.length ≤ 13 ∧ (1 < w.length → w.head? ≠ some 48)) ∧ w.all isDig = (w.drop j).all isDig
    let st2 : Nat → Slots × Blocks := fun j => zaN2 (bs w) ws.length c ws.length i w.length j (strs ws)
    refine ⟨fun _ s' bl => ∃ j, inv2 j ∧ st2 j = (s', bl), ?_, fun id2 q1 q2 => absurd q1 q2, fun id2 hid2 => ?_⟩
    · show raN1 _ _ ws.length c ws.length (i : Int) (strs ws) _ _ _
      rw [raN1_text]
      refine bc_dec (fun h => ?_) (fun h => ?_)
      · have h1 : i < ws.length := by omega
        have ew : w = ws[i] := by show ws.getD i [] = _; rw [List.getD_eq_getElem?_getD, List.getElem?_eq_getElem h1]; rfl
        rw [okW_drop h1, ← ew] at hok
        have bad : okNum 13 w = false → (fun r => r = [dB (okW ws)]) [dB false] := fun hb => by rw [hok, hb]; rfl
        simp only [bc_t (show (0 : Int) ≤ (i : Int) by omega), bc_t h, Int.toNat_natCast, atS (strs_at ws i h1)]
        rw [← ew]
        simp only [bs_size]
        refine bc_beq (fun q => ?_) (fun q => bc_dec (fun q2 => ?_) (fun q2 => bc_dec (fun q3 => ?_) (fun q3 => ?_)))
        · exact bad (by have : w.length = 0 := by omega
                        rw [List.length_eq_zero_iff.1 this]; exact okNum_nil)
        · exact bad (by cases h : okNum 13 w with
                        | false => rfl
                        | true => have := okNum_inv h; omega)
        · obtain ⟨e1, e2⟩ := head0 (l := w) (by omega)
          simp only [byte1 e1]
          refine bc_beq (fun q4 => ?_) (fun q4 => ?_)
          · refine bad ?_
            cases h : okNum 13 w with
            | false => rfl
            | true => exact absurd (by rw [e2]; congr 1; exact u8_eq (by rw [q4]; rfl)) ((okNum_inv h).2.2.1 (by omega))
          · refine ⟨0, ⟨⟨h1, Nat.zero_le _⟩, ⟨by omega, by omega, fun _ e => ?_⟩, rfl⟩, rfl⟩
            rw [e2] at e
            exact q4 (by rw [Option.some.inj e]; rfl)
        · exact ⟨0, ⟨⟨h1, Nat.zero_le _⟩, ⟨by omega, by omega, fun h => by omega⟩, rfl⟩, rfl⟩
      · show (if 0 = 0 then _ else _)
        rw [if_pos rfl]
        show naN3 _ _ _
        rw [naN3_text]
        show [dB true] = [dB (okW ws)]
        rw [hok, List.drop_eq_nil_of_le (by omega)]; rfl
    · obtain rfl := List.mem_singleton.1 hid2
      refine ⟨⟨Nat, st2, inv2, fun j => w.length - j, fun s' bl h => h, [], by kernel_rfl, by kernel_rfl, fun j hj => ⟨fun _ _ _ => False, ?_, fun id3 h3 => by cases h3⟩⟩⟩
      obtain ⟨⟨h1, hj1⟩, ⟨g1, g2, g3⟩, hd⟩ := hj
      have ew : w = ws[i] := by show ws.getD i [] = _; rw [List.getD_eq_getElem?_getD, List.getElem?_eq_getElem h1]; rfl
      rw [okW_drop h1, ← ew] at hok
      show raN2 _ _ (bs w) ws.length c ws.length (i : Int) w.length (j : Int) (strs ws) _ _ _
      rw [raN2_text]
      refine bc_dec (fun h => ?_) (fun h => ?_)
      · have h2 : j < w.length := by omega
        simp only [bc_t (show (0 : Int) ≤ (j : Int) by omega), Int.toNat_natCast, byte1 (List.getElem?_eq_getElem h2)]
        rw [List.drop_eq_getElem_cons h2, List.all_cons] at hd
        have c1 := coniD w[j]
        cases hq : isDig w[j] with
        | true =>
          rw [hq] at c1 hd
          refine .inl ⟨⟨c1⟩, j + 1, ⟨⟨h1, by omega⟩, ⟨g1, g2, g3⟩, by simpa using hd⟩, by omega, ?_⟩
          rw [w64 (by omega) (by omega)]; rfl
        | false =>
          rw [hq] at c1 hd
          refine .inr ⟨⟨c1⟩, ?_⟩
          show [dB false] = [dB (okW ws)]
          have : okNum 13 w = false := by
            cases h : okNum 13 w with
            | false => rfl
            | true => rw [(okNum_inv h).2.2.2] at hd; simp at hd
          rw [hok, this]; rfl
      · simp only [if_true]
        show iaN4 _ _ ws.length c ws.length (i : Int) (strs ws) _ _ _
        rw [iaN4_text]
        have : okNum 13 w = true := okNum_of g1 g2 g3 (by rw [hd, List.drop_eq_nil_of_le (by omega)]; rfl)
        rw [this, Bool.true_and] at hok
        refine ⟨(i + 1, c), ⟨by show i + 1 ≤ ws.length; omega, hok⟩, by show ws.length - (i + 1) < ws.length - i; omega, ?_⟩
        rw [w64 (by omega) (by omega)]; rfl
theorem numF_take {l : List UInt8} {j : Nat} (h : j < l.length) (n : Int) : numF n (l.take (j + 1)) = 10 * numF n (l.take j) + ((l[j].toNat : Int) - 48) := by
  rw [List.take_succ_eq_append_getElem h, numF_append]; rfl
theorem connO (w : List UInt8) (hw : okNum 13 w = true) : C5 46 [dS w] [dI (numF 0 w)] := by
  obtain ⟨h1, h13, -, hd⟩ := okNum_inv hw
  let inv : Nat → Prop := fun i => i ≤ w.length
  let st : Nat → Slots × Blocks := fun i => znO1 (bs w) (numF 0 (w.take i)) w.length i
  refine con_of (L := fun _ s b => ∃ x, inv x ∧ st x = (s, b)) hokX mixed Tryz.func46 rfl (by show 0 ≤ 400; omega) rfl (ids := [0]) (by kernel_rfl) rfl (fun caps => ?_) (fun id hid => ?_)
  · show gnO _ _ (bs w) _
    rw [gnO_text]
    exact ⟨0, Nat.zero_le _, by simp only [bs_size]; rfl⟩
  · obtain rfl := List.mem_singleton.1 hid
    refine ⟨_, st, inv, fun i => w.length - i, ⟨fun s b h => h, by kernel_rfl, ?_⟩⟩
    intro i hi
    have hi : i ≤ w.length := hi
    show rnO1 _ _ (bs w) (numF 0 (w.take i)) w.length (i : Int) _ _ _
    rw [rnO1_text]
    refine bc_dec (fun h => ?_) (fun h => ?_)
    · have h2 : i < w.length := by omega
      have hdi : isDig w[i] = true := List.all_eq_true.1 hd _ (List.getElem_mem h2)
      have hb : 48 ≤ w[i].toNat ∧ w[i].toNat ≤ 57 := by unfold isDig at hdi; simp at hdi; omega
      have hg := numF_ge (w.take i) 0 (by decide) (by rw [List.all_eq_true]; exact fun x hx => List.all_eq_true.1 hd x (List.mem_of_mem_take hx))
      have hp : (10 : Int) ^ (w.take i).length ≤ 10 ^ 13 := pow10_le (by rw [List.length_take]; omega)
      have h13' : (10 : Int) ^ 13 = 10000000000000 := by decide
      simp only [bc_t (show (0 : Int) ≤ (i : Int) by omega), Int.toNat_natCast, byte1 (List.getElem?_eq_getElem h2)]
      refine ⟨i + 1, by show i + 1 ≤ w.length; omega, by show w.length - (i + 1) < w.length - i; omega, ?_⟩
      have u8 : IntKind.wrap .u8 ((w[i].toNat : Int) - 48) = (w[i].toNat : Int) - 48 := by
        show ((w[i].toNat : Int) - 48) % 256 = _
        omega
      rw [u8, w64 (z := 10 * numF 0 (w.take i)) (by omega) (by omega), w64 (z := (w[i].toNat : Int) - 48) (by omega) (by omega), w64 (by omega) (by omega), w64 (by omega) (by omega), ← numF_take h2]; rfl
    · show (if 0 = 0 then _ else _)
      rw [if_pos rfl]
      show nnO2 _ _ _ _
      rw [nnO2_text]
      show [dI (numF 0 (w.take i))] = _
      rw [List.take_of_length_le (by omega)]
theorem nums_snoc {ws : W} {i : Nat} (h : i < ws.length) : vi (numsW (ws.take i)) ++ [vI (numF 0 ws[i])] = vi (numsW (ws.take (i + 1))) := by
  rw [List.take_succ_eq_append_getElem h, numsW, numsW, List.map_append, vi, vi, List.map_append]; rfl
end Go.Proofs.G5x

/- Chapter 3, strings: the schedule of a string, in data. -/
namespace Go.Proofs.G5x
open Go Go.Abs Go.Proofs Go.Str
set_option maxRecDepth 100000
theorem bcT' {x y : Prop} : bcase true x y = x := rfl
theorem bc_o {cs : List Value} {n : Nat} (h : cs.length = n) {x y : Prop} : bcase (AObj.isOpen (.sym cs true 1) 0 n) x y = x := by
  rw [show AObj.isOpen (.sym cs true 1) 0 n = true by simp [AObj.isOpen, h]]; rfl
theorem tl0 : ByteArray.toList { data := #[] } = [] := by have := bs_toList []; exact this
theorem tail_strs (a : List UInt8) (r : W) {n : Nat} (h : n = (a :: r).length) : List.take ((n - 1) * 1) (List.drop 1 (strs (a :: r))) = strs r := by
  subst h; simp [strs, List.take_of_length_le]
theorem strs_at1 (a : List UInt8) (r : W) (i : Nat) (h : i < r.length) : At (strs (a :: r)) (1 + i * 1) 1 [str r[i]] := by
  have := strs_at (a :: r) (i + 1) (by simp; omega)
  rw [show 0 + (i + 1) * 1 = 1 + i * 1 by omega] at this
  exact this
theorem psE_7 {nm : List UInt8} {nums : W} (h : nm.length = 0 ∨ okW nums = false) : resS nm nums = [.agg [dS [], .nil], dI 7] := by
  have e : psE nm nums = 7 := by unfold psE; rw [if_pos h]
  unfold resS; rw [e]; rfl
theorem psE_4 {nm : List UInt8} {nums : W} (h : ¬ (nm.length = 0 ∨ okW nums = false)) (h4 : nameOK nm = false) : resS nm nums = [.agg [dS [], .nil], dI 4] := by
  have e : psE nm nums = 4 := by unfold psE; rw [if_neg h, if_pos h4]
  unfold resS; rw [e]; rfl
theorem psE_8 {nm : List UInt8} {nums : W} (h : ¬ (nm.length = 0 ∨ okW nums = false)) (h4 : ¬ nameOK nm = false) (h8 : 6 < nums.length) : resS nm nums = [.agg [dS [], .nil], dI 8] := by
  have e : psE nm nums = 8 := by unfold psE; rw [if_neg h, if_neg h4, if_pos h8]
  unfold resS; rw [e]; rfl
theorem psE_2 {nm : List UInt8} {nums : W} (h : ¬ (nm.length = 0 ∨ okW nums = false)) (h4 : ¬ nameOK nm = false) (h8 : ¬ 6 < nums.length) (h2 : ¬ ∀ n ∈ numsW nums, 1 ≤ n ∧ n ≤ 1000) : resS nm nums = [.agg [dS [], .nil], dI 2] := by
  have e : psE nm nums = 2 := by unfold psE; rw [if_neg h, if_neg h4, if_neg h8, if_neg h2]
  unfold resS; rw [e]; rfl
theorem psE_0 {nm : List UInt8} {nums : W} (h : ¬ (nm.length = 0 ∨ okW nums = false)) (h4 : ¬ nameOK nm = false) (h8 : ¬ 6 < nums.length) (h2 : ∀ n ∈ numsW nums, 1 ≤ n ∧ n ≤ 1000) : resS nm nums = [.agg [dS nm, slT (numsW nums)], dI 0] := by
  have e : psE nm nums = 0 := by unfold psE; rw [if_neg h, if_neg h4, if_neg h8, if_pos h2]
  unfold resS; rw [e, if_pos rfl]
theorem nums_at {ws : W} {i : Nat} (h : i < ws.length) : numF 0 ws[i] ∈ numsW ws := List.mem_map.2 ⟨_, List.getElem_mem h, rfl⟩
theorem nums_take {ws : W} {i : Nat} (h : i < ws.length) {Q : Int → Prop} (h1 : ∀ n ∈ numsW (ws.take i), Q n) (h2 : Q (numF 0 ws[i])) : ∀ n ∈ numsW (ws.take (i + 1)), Q n := by
  intro n hn
  rw [List.take_succ_eq_append_getElem h, numsW, List.map_append] at hn
  rcases List.mem_append.1 hn with hn | hn
  · exact h1 n hn
  · simp at hn; rw [hn]; exact h2
theorem isEmp {l : List UInt8} : (l == ([] : List UInt8)) = decide (l.length = 0) := by cases l <;> simp
structure PsOK (nm : List UInt8) (nums : W) : Prop where
  a : ¬ (nm.length = 0 ∨ okW nums = false)
  b : ¬ nameOK nm = false
  c : ¬ 6 < nums.length
theorem conPS (s nm : List UInt8) (nums : W) (hs : s.length < 1000000) (hw : cutA 32 [] s = nm :: nums) : C5 17 [dS s] (resS nm nums) := by
  have hlen : nums.length < 1000000 := by
    have h1 := cutA_len (c := 32) (l := s) (acc := [])
    rw [hw, List.length_cons] at h1
    have := List.count_le_length (a := (32 : UInt8)) (l := s)
    omega
  let inv : Nat → Prop := fun i => PsOK nm nums ∧ i ≤ nums.length ∧ ∀ n ∈ numsW (nums.take i), 1 ≤ n ∧ n ≤ 1000
  let st : Nat → Slots × Blocks := fun i => match i with
    | 0 => zPS1 1 nums.length nums.length ((0 : Nat) : Int) (bs []) (bs nm) (strs (nm :: nums))
    | i + 1 => zPS2 1 nums.length nums.length ((i + 1 : Nat) : Int) (bs []) (bs nm) (i + 1) (strs (nm :: nums)) (vi (numsW (nums.take (i + 1))))
  have cSp := conSp s 32 (by omega)
  rw [hw] at cSp
  refine con_of (L := fun _ s b => ∃ x, inv x ∧ st x = (s, b)) hokX mixed Tryz.func17 rfl (by show 0 ≤ 400; omega) rfl (ids := [1]) (by kernel_rfl) rfl (fun caps => ?_) (fun id hid => ?_)
  · show gPS _ _ (bs s) _
    rw [gPS_text]
    refine .inr ⟨_, _, ⟨cSp⟩, ?_⟩
    have p0 : (0 : Int) < ((nm :: nums).length : Int) := by simp only [List.length_cons]; omega
    have p1 : (1 : Int) ≤ ((nm :: nums).length : Int) := by simp only [List.length_cons]; omega
    have p2 : (nm :: nums).length ≤ (nm :: nums).length := Nat.le_refl _
    have p3 : 1 + ((nm :: nums).length - 1) * 1 ≤ (strs (nm :: nums)).length := by simp only [strs_length, List.length_cons]; omega
    have a0 : At (strs (nm :: nums)) 0 1 [str nm] := strs_at (nm :: nums) 0 (by simp)
    simp only [bc_t p0, bc_t p1, bc_t p2, bc_o (strs_length _), bc_t p3, atS a0, bs_toList, tl0, isEmp, tail_strs nm nums rfl, Qv, eq_self, true_and, and_true]
    have c1 := conaN nums (by omega)
    have c2 := coniN nm
    refine bc_dec (fun h => ?_) (fun h => ?_)
    · show _ = resS nm nums; rw [psE_7 (.inl h)]
    · cases hok : okW nums with
      | false =>
        rw [hok] at c1
        refine .inr ⟨⟨c1⟩, ?_⟩
        show _ = resS nm nums; rw [psE_7 (.inr hok)]
      | true =>
        rw [hok] at c1
        have g1 : ¬ (nm.length = 0 ∨ okW nums = false) := by rw [hok]; simp; exact fun e => h (by rw [e]; rfl)
        cases hnm : nameOK nm with
        | false =>
          rw [hnm] at c2
          refine .inl ⟨⟨c1⟩, .inr ⟨⟨c2⟩, ?_⟩⟩
          show _ = resS nm nums; rw [psE_4 g1 hnm]
        | true =>
          rw [hnm] at c2
          have g2 : ¬ nameOK nm = false := by rw [hnm]; decide
          refine .inl ⟨⟨c1⟩, .inl ⟨⟨c2⟩, bc_dec (fun q => ?_) (fun q => ?_)⟩⟩
          · show _ = resS nm nums; rw [psE_8 g1 g2 (by simp only [List.length_cons] at q; omega)]
          · exact ⟨0, ⟨⟨g1, g2, by simp only [List.length_cons] at q; omega⟩, Nat.zero_le _, by simp [numsW]⟩, rfl⟩
  · obtain rfl := List.mem_singleton.1 hid
    refine ⟨_, st, inv, fun i => nums.length - i, ⟨fun s b h => h, by kernel_rfl, ?_⟩⟩
    rintro i ⟨⟨g1, g2, g3⟩, hi, hall⟩
    have hok : okW nums = true := by cases h : okW nums with
      | true => rfl
      | false => exact absurd (.inr h) g1
    have cO : ∀ (h : i < nums.length), C5 46 [dS nums[i]] [dI (numF 0 nums[i])] := fun h => connO _ (okW_mem hok (List.getElem_mem h))
    have cT : ∀ (h : i < nums.length), C5 47 [dI (numF 0 nums[i])] [dI (if 1 ≤ numF 0 nums[i] ∧ numF 0 nums[i] ≤ 1000 then 0 else 2)] := fun h => by
      have c := conCT (numF 0 nums[i])
      rw [wE1] at c; exact c
    cases i with
    | zero =>
      show rPS1 _ _ 1 nums.length nums.length ((0 : Nat) : Int) (bs []) (bs nm) (strs (nm :: nums)) _ _ _
      rw [rPS1_text]
      refine bc_dec (fun h => ?_) (fun h => ?_)
      · have h1 : 0 < nums.length := by omega
        simp only [bc_t (show (0 : Int) ≤ ((0 : Nat) : Int) by omega), bc_t h, Int.toNat_natCast, atS (strs_at1 nm nums 0 h1)]
        refine ⟨_, ⟨cO h1⟩, _, ⟨cT h1⟩, ?_⟩
        by_cases hr : (1 : Int) ≤ numF 0 nums[0] ∧ numF 0 nums[0] ≤ (1000 : Int)
        · rw [if_pos hr]
          refine bc_bne (fun q => absurd rfl q) (fun _ => ?_)
          refine ⟨1, ⟨⟨g1, g2, g3⟩, by omega, nums_take h1 hall hr⟩, by show nums.length - 1 < nums.length - 0; omega, ?_⟩
          show zPS2 _ _ _ _ _ _ _ _ (vi (numsW (nums.take (0 + 1)))) = _
          rw [← nums_snoc h1, w64 (by omega) (by omega)]; rfl
        · rw [if_neg hr]
          refine bc_bne (fun _ => ?_) (fun q => absurd q (by decide))
          show _ = resS nm nums
          rw [psE_2 g1 g2 g3 (fun hh => hr (hh _ (nums_at h1)))]
      · show (if 1 = 1 then _ else _)
        rw [if_pos rfl]
        show nPS3 _ _ (bs []) (bs nm) _
        rw [nPS3_text]
        have : nums = [] := List.length_eq_zero_iff.1 (by omega)
        show _ = resS nm nums
        rw [psE_0 g1 g2 g3 (by rw [this]; simp [numsW]), this]; rfl
    | succ i =>
      show rPS2 _ _ 1 nums.length nums.length ((i + 1 : Nat) : Int) (bs []) (bs nm) (i + 1) (strs (nm :: nums)) (vi (numsW (nums.take (i + 1)))) _ _ _
      rw [rPS2_text]
      have hT : (vi (numsW (nums.take (i + 1)))).length = i + 1 := by simp [numsW]; omega
      refine bc_dec (fun h => ?_) (fun h => ?_)
      · have h1 : i + 1 < nums.length := by omega
        simp only [bc_t (show (0 : Int) ≤ ((i + 1 : Nat) : Int) by omega), bc_t h, Int.toNat_natCast, atS (strs_at1 nm nums (i + 1) h1)]
        refine ⟨_, ⟨cO h1⟩, _, ⟨cT h1⟩, ?_⟩
        by_cases hr : 1 ≤ numF 0 nums[i + 1] ∧ numF 0 nums[i + 1] ≤ 1000
        · rw [if_pos hr]
          refine bc_bne (fun q => absurd rfl q) (fun _ => ?_)
          refine bc_yes (by omega) (bc_yes (by omega) (bc_yes (by omega) (bc_yes (by omega) (bc_yes (by omega) ?_))))
          refine ⟨i + 2, ⟨⟨g1, g2, g3⟩, by omega, nums_take h1 hall hr⟩, by show nums.length - (i + 2) < nums.length - (i + 1); omega, ?_⟩
          show zPS2 _ _ _ _ _ _ _ _ (vi (numsW (nums.take (i + 1 + 1)))) = _
          rw [← nums_snoc h1, show List.take ((i + 1) * 1) (List.drop 0 (vi (numsW (nums.take (i + 1))))) = vi (numsW (nums.take (i + 1))) by rw [List.drop_zero, List.take_of_length_le (by omega)], w64 (by omega) (by omega)]; rfl
        · rw [if_neg hr]
          refine bc_bne (fun _ => ?_) (fun q => absurd q (by decide))
          show _ = resS nm nums
          rw [psE_2 g1 g2 g3 (fun hh => hr (hh _ (nums_at h1)))]
      · show (if 1 = 1 then _ else _)
        rw [if_pos rfl]
        show nPS4 _ _ (bs []) (bs nm) (i + 1) (vi (numsW (nums.take (i + 1)))) _
        rw [nPS4_text]
        have e : i + 1 = nums.length := by omega
        refine ⟨⟨rfl, by omega⟩, ?_⟩
        rw [e, List.take_length] at hall ⊢
        show _ = resS nm nums
        rw [psE_0 g1 g2 g3 hall]
        unfold slT
        rw [if_neg (by rw [numsW, List.length_map]; omega), numsW, List.length_map]
end Go.Proofs.G5x

/- What is left to show of each function, written out; the kernel reckons it. -/
namespace Go.Proofs.G5x
open Go Go.Abs Go.Proofs
set_option maxRecDepth 100000
set_option linter.unusedVariables false
def gPR (C : Ct) (L : AtLoop) (s0 : ByteArray) (k : List D → Prop) : Prop := wpFn Tryz.prog (hX C) L 0 14 #[.string s0] (heapOf []) (dataK k)
theorem gPR_text (C : Ct) (L : AtLoop) (s0 : ByteArray) (k : List D → Prop) : gPR C L s0 k =
 (((Says C 40 [(D.val (Value.string (s0))), (D.val (Value.string ({ data := #[32, 59, 32] })))] [D.nil]) ∧
 (((Qv (Value.agg [(Pt 1001 0), (Pt 1001 1), (Pt 1001 2), (Pt 1001 3), (Pt 1001 4), (Pt 1001 5), (Pt 1001 7), (Pt 1001 8), (Pt 1001 9), (Pt 1001 10)].toArray)) ∧
 ((Qv (Pt 1001 10)) ∧
 ((Qv (Pt 1001 9)) ∧
 ((Qv (Pt 1001 0)) ∧
 ((Qv (Pt 1001 0)) ∧
 ((Qv (Pt 1001 9)) ∧
 ((Qv (Pt 1001 9)) ∧
 ((Qv (Pt 1001 0)) ∧
 ((Qv (Pt 1001 0)) ∧
 ((Qv (Pt 1001 8)) ∧
 ((Qv (Pt 1001 7)) ∧
 ((Qv (Pt 1001 0)) ∧
 ((Qv (Pt 1001 0)) ∧
 ((Qv (Pt 1001 7)) ∧
 ((Qv (Pt 1001 7)) ∧
 ((Qv (Pt 1001 0)) ∧
 ((Qv (Pt 1001 0)) ∧
 ((Qv (Pt 1001 5)) ∧
 ((Qv (Pt 1001 0)) ∧
 ((Qv (Pt 1001 0)) ∧
 ((Qv (Pt 1001 4)) ∧
 ((Qv (Pt 1001 3)) ∧
 ((Qv (Pt 1001 0)) ∧
 ((Qv (Pt 1001 0)) ∧
 ((Qv (Pt 1001 3)) ∧
 ((Qv (Pt 1001 3)) ∧
 ((Qv (Pt 1001 0)) ∧
 ((Qv (Pt 1001 0)) ∧
 ((Qv (Pt 1001 2)) ∧
 ((Qv (Pt 1001 0)) ∧
 ((Qv (Pt 1001 0)) ∧
 ((Qv (Pt 1001 1)) ∧
 ((Qv (Pt 1001 0)) ∧
 ((Qv (Pt 1001 0)) ∧
 ((Qv (Pt 1001 0)) ∧
 ((Qv (Pt 1001 0)) ∧
 ((Qv (Pt 1001 0)) ∧
 True))))))))))))))))))))))))))))))))))))) ∧
 (True ∧
 False))) ∨
 (∃ n1 : Nat,
 (∃ cs1 : List Go.Value,
 ((Says C 40 [(D.val (Value.string (s0))), (D.val (Value.string ({ data := #[32, 59, 32] })))] [(D.sl (n1) 1 (cs1))]) ∧
 (((Qv (Value.agg [(Pt 1001 0), (Pt 1001 1), (Pt 1001 2), (Pt 1001 3), (Pt 1001 4), (Pt 1001 5), (Pt 1001 7), (Pt 1001 8), (Pt 1001 9), (Pt 1001 10)].toArray)) ∧
 ((Qv (Pt 1001 10)) ∧
 ((Qv (Pt 1001 9)) ∧
 ((Qv (Pt 1001 0)) ∧
 ((Qv (Pt 1001 0)) ∧
 ((Qv (Pt 1001 9)) ∧
 ((Qv (Pt 1001 9)) ∧
 ((Qv (Pt 1001 0)) ∧
 ((Qv (Pt 1001 0)) ∧
 ((Qv (Pt 1001 8)) ∧
 ((Qv (Pt 1001 7)) ∧
 ((Qv (Pt 1001 0)) ∧
 ((Qv (Pt 1001 0)) ∧
 ((Qv (Pt 1001 7)) ∧
 ((Qv (Pt 1001 7)) ∧
 ((Qv (Pt 1001 0)) ∧
 ((Qv (Pt 1001 0)) ∧
 ((Qv (Pt 1001 5)) ∧
 ((Qv (Pt 1001 0)) ∧
 ((Qv (Pt 1001 0)) ∧
 ((Qv (Pt 1001 4)) ∧
 ((Qv (Pt 1001 3)) ∧
 ((Qv (Pt 1001 0)) ∧
 ((Qv (Pt 1001 0)) ∧
 ((Qv (Pt 1001 3)) ∧
 ((Qv (Pt 1001 3)) ∧
 ((Qv (Pt 1001 0)) ∧
 ((Qv (Pt 1001 0)) ∧
 ((Qv (Pt 1001 2)) ∧
 ((Qv (Pt 1001 0)) ∧
 ((Qv (Pt 1001 0)) ∧
 ((Qv (Pt 1001 1)) ∧
 ((Qv (Pt 1001 0)) ∧
 ((Qv (Pt 1001 0)) ∧
 ((Qv (Pt 1001 0)) ∧
 ((Qv (Pt 1001 0)) ∧
 ((Qv (Pt 1001 0)) ∧
 True))))))))))))))))))))))))))))))))))))) ∧
 (True ∧
 (bcase (decide (0 < (↑n1 : Int)))
 (∃ s1 : ByteArray,
 ((At (cs1) 0 1 [(Value.string (s1))]) ∧
 (((Qv (Sl 1004 10 10)) ∧
 ((∃ s2 : ByteArray,
 ((At (cs1) 0 1 [(Value.string (s2))]) ∧
 ((Value.string (s2)) = (Value.string (s1))))) ∧
 ((bcase (decide (0 < (↑n1 : Int)))
 (Qv (Pt 1002 0))
 False) ∧
 ((Qv (Sl 1002 (n1) (n1))) ∧
 True)))) ∧
 (((Says C 40 [(D.val (Value.string (s1))), (D.val (Value.string ({ data := #[32] })))] [D.nil]) ∧
 (((Qv (Value.bool true)) ∧
 ((bcase (decide (0 < (↑n1 : Int)))
 (Qv (Pt 1002 0))
 False) ∧
 ((Qv (Sl 1002 (n1) (n1))) ∧
 True))) ∧
 (k [(D.agg [(D.val (vI 0)), (D.val (vI 0)), (D.val (vI 0)), (D.val (vI 0)), (D.val (vI 0)), (D.val (vI 0)), D.nil, (D.val (vI 0)), (D.val (vI 0)), (D.val (vI 0)), (D.val (vI 0))]), (D.val (vI 7))]))) ∨
 (∃ n2 : Nat,
 (∃ cs2 : List Go.Value,
 ((Says C 40 [(D.val (Value.string (s1))), (D.val (Value.string ({ data := #[32] })))] [(D.sl (n2) 1 (cs2))]) ∧
 (bcase ((↑n2 : Int) != (↑10 : Int))
 (((Qv (Value.bool true)) ∧
 ((bcase (decide (0 < (↑n1 : Int)))
 (Qv (Pt 1002 0))
 False) ∧
 ((Qv (Sl 1002 (n1) (n1))) ∧
 True))) ∧
 (k [(D.agg [(D.val (vI 0)), (D.val (vI 0)), (D.val (vI 0)), (D.val (vI 0)), (D.val (vI 0)), (D.val (vI 0)), D.nil, (D.val (vI 0)), (D.val (vI 0)), (D.val (vI 0)), (D.val (vI 0))]), (D.val (vI 7))]))
 (bcase (decide (0 + n2 * 1 ≤ List.length cs2))
 (((Says C 44 [(D.sl (n2) 1 (List.take (n2 * 1) (List.drop 0 cs2)))] [(D.val (Value.bool true))]) ∧
 (bcase (decide (0 < (↑n2 : Int)))
 (bcase (decide (0 < (↑n2 : Int)))
 (∃ s2 : ByteArray,
 ((At (cs2) 0 1 [(Value.string (s2))]) ∧
 (((Qv (Value.string (s2))) ∧
 ((Qv (Pt 1001 0)) ∧
 ((Qv (Pt 1004 0)) ∧
 ((Qv (vI 0)) ∧
 ((Qv (Sl 1004 10 10)) ∧
 True))))) ∧
 (∃ n3 : Int,
 ((Says C 46 [(D.val (Value.string (s2)))] [(D.val (vI n3))]) ∧
 (((Qv (Pt 1001 0)) ∧
 ((Qv (Pt 1001 0)) ∧
 ((Qv (Pt 1004 0)) ∧
 ((Qv (vI 0)) ∧
 ((Qv (Sl 1004 10 10)) ∧
 True))))) ∧
 (True ∧
 (bcase (decide (IntKind.wrap .i64 (0 + 1) < (↑n2 : Int)))
 (bcase (decide (IntKind.wrap .i64 (0 + 1) < (↑n2 : Int)))
 (∃ s3 : ByteArray,
 ((At (cs2) 1 1 [(Value.string (s3))]) ∧
 (((Qv (Value.string (s3))) ∧
 ((Qv (Pt 1001 1)) ∧
 ((Qv (Pt 1004 1)) ∧
 ((Qv (vI 1)) ∧
 ((Qv (Sl 1004 10 10)) ∧
 True))))) ∧
 (∃ n4 : Int,
 ((Says C 46 [(D.val (Value.string (s3)))] [(D.val (vI n4))]) ∧
 (((Qv (Pt 1001 1)) ∧
 ((Qv (Pt 1001 1)) ∧
 ((Qv (Pt 1004 1)) ∧
 ((Qv (vI 1)) ∧
 ((Qv (Sl 1004 10 10)) ∧
 True))))) ∧
 (True ∧
 (bcase (decide (IntKind.wrap .i64 (IntKind.wrap .i64 (0 + 1) + 1) < (↑n2 : Int)))
 (bcase (decide (IntKind.wrap .i64 (IntKind.wrap .i64 (0 + 1) + 1) < (↑n2 : Int)))
 (∃ s4 : ByteArray,
 ((At (cs2) 2 1 [(Value.string (s4))]) ∧
 (((Qv (Value.string (s4))) ∧
 ((Qv (Pt 1001 2)) ∧
 ((Qv (Pt 1004 2)) ∧
 ((Qv (vI 2)) ∧
 ((Qv (Sl 1004 10 10)) ∧
 True))))) ∧
 (∃ n5 : Int,
 ((Says C 46 [(D.val (Value.string (s4)))] [(D.val (vI n5))]) ∧
 (((Qv (Pt 1001 2)) ∧
 ((Qv (Pt 1001 2)) ∧
 ((Qv (Pt 1004 2)) ∧
 ((Qv (vI 2)) ∧
 ((Qv (Sl 1004 10 10)) ∧
 True))))) ∧
 (True ∧
 (bcase (decide (IntKind.wrap .i64 (IntKind.wrap .i64 (IntKind.wrap .i64 (0 + 1) + 1) + 1) < (↑n2 : Int)))
 (bcase (decide (IntKind.wrap .i64 (IntKind.wrap .i64 (IntKind.wrap .i64 (0 + 1) + 1) + 1) < (↑n2 : Int)))
 (∃ s5 : ByteArray,
 ((At (cs2) 3 1 [(Value.string (s5))]) ∧
 (((Qv (Value.string (s5))) ∧
 ((Qv (Pt 1001 3)) ∧
 ((Qv (Pt 1004 3)) ∧
 ((Qv (vI 3)) ∧
 ((Qv (Sl 1004 10 10)) ∧
 True))))) ∧
 (∃ n6 : Int,
 ((Says C 46 [(D.val (Value.string (s5)))] [(D.val (vI n6))]) ∧
 (((Qv (Pt 1001 3)) ∧
 ((Qv (Pt 1001 3)) ∧
 ((Qv (Pt 1004 3)) ∧
 ((Qv (vI 3)) ∧
 ((Qv (Sl 1004 10 10)) ∧
 True))))) ∧
 (True ∧
 (bcase (decide (IntKind.wrap .i64 (IntKind.wrap .i64 (IntKind.wrap .i64 (IntKind.wrap .i64 (0 + 1) + 1) + 1) + 1) < (↑n2 : Int)))
 (bcase (decide (IntKind.wrap .i64 (IntKind.wrap .i64 (IntKind.wrap .i64 (IntKind.wrap .i64 (0 + 1) + 1) + 1) + 1) < (↑n2 : Int)))
 (∃ s6 : ByteArray,
 ((At (cs2) 4 1 [(Value.string (s6))]) ∧
 (((Qv (Value.string (s6))) ∧
 ((Qv (Pt 1001 4)) ∧
 ((Qv (Pt 1004 4)) ∧
 ((Qv (vI 4)) ∧
 ((Qv (Sl 1004 10 10)) ∧
 True))))) ∧
 (∃ n7 : Int,
 ((Says C 46 [(D.val (Value.string (s6)))] [(D.val (vI n7))]) ∧
 (((Qv (Pt 1001 4)) ∧
 ((Qv (Pt 1001 4)) ∧
 ((Qv (Pt 1004 4)) ∧
 ((Qv (vI 4)) ∧
 ((Qv (Sl 1004 10 10)) ∧
 True))))) ∧
 (True ∧
 (bcase (decide (IntKind.wrap .i64 (IntKind.wrap .i64 (IntKind.wrap .i64 (IntKind.wrap .i64 (IntKind.wrap .i64 (0 + 1) + 1) + 1) + 1) + 1) < (↑n2 : Int)))
 (bcase (decide (IntKind.wrap .i64 (IntKind.wrap .i64 (IntKind.wrap .i64 (IntKind.wrap .i64 (IntKind.wrap .i64 (0 + 1) + 1) + 1) + 1) + 1) < (↑n2 : Int)))
 (∃ s7 : ByteArray,
 ((At (cs2) 5 1 [(Value.string (s7))]) ∧
 (((Qv (Value.string (s7))) ∧
 ((Qv (Pt 1001 5)) ∧
 ((Qv (Pt 1004 5)) ∧
 ((Qv (vI 5)) ∧
 ((Qv (Sl 1004 10 10)) ∧
 True))))) ∧
 (∃ n8 : Int,
 ((Says C 46 [(D.val (Value.string (s7)))] [(D.val (vI n8))]) ∧
 (((Qv (Pt 1001 5)) ∧
 ((Qv (Pt 1001 5)) ∧
 ((Qv (Pt 1004 5)) ∧
 ((Qv (vI 5)) ∧
 ((Qv (Sl 1004 10 10)) ∧
 True))))) ∧
 (True ∧
 (bcase (decide (IntKind.wrap .i64 (IntKind.wrap .i64 (IntKind.wrap .i64 (IntKind.wrap .i64 (IntKind.wrap .i64 (IntKind.wrap .i64 (0 + 1) + 1) + 1) + 1) + 1) + 1) < (↑n2 : Int)))
 (bcase (decide (IntKind.wrap .i64 (IntKind.wrap .i64 (IntKind.wrap .i64 (IntKind.wrap .i64 (IntKind.wrap .i64 (IntKind.wrap .i64 (0 + 1) + 1) + 1) + 1) + 1) + 1) < (↑n2 : Int)))
 (∃ s8 : ByteArray,
 ((At (cs2) 6 1 [(Value.string (s8))]) ∧
 (((Qv (Value.string (s8))) ∧
 ((Qv (Pt 1001 7)) ∧
 ((Qv (Pt 1004 6)) ∧
 ((Qv (vI 6)) ∧
 ((Qv (Sl 1004 10 10)) ∧
 True))))) ∧
 (∃ n9 : Int,
 ((Says C 46 [(D.val (Value.string (s8)))] [(D.val (vI n9))]) ∧
 (((Qv (Pt 1001 7)) ∧
 ((Qv (Pt 1001 7)) ∧
 ((Qv (Pt 1004 6)) ∧
 ((Qv (vI 6)) ∧
 ((Qv (Sl 1004 10 10)) ∧
 True))))) ∧
 (True ∧
 (bcase (decide (IntKind.wrap .i64 (IntKind.wrap .i64 (IntKind.wrap .i64 (IntKind.wrap .i64 (IntKind.wrap .i64 (IntKind.wrap .i64 (IntKind.wrap .i64 (0 + 1) + 1) + 1) + 1) + 1) + 1) + 1) < (↑n2 : Int)))
 (bcase (decide (IntKind.wrap .i64 (IntKind.wrap .i64 (IntKind.wrap .i64 (IntKind.wrap .i64 (IntKind.wrap .i64 (IntKind.wrap .i64 (IntKind.wrap .i64 (0 + 1) + 1) + 1) + 1) + 1) + 1) + 1) < (↑n2 : Int)))
 (∃ s9 : ByteArray,
 ((At (cs2) 7 1 [(Value.string (s9))]) ∧
 (((Qv (Value.string (s9))) ∧
 ((Qv (Pt 1001 8)) ∧
 ((Qv (Pt 1004 7)) ∧
 ((Qv (vI 7)) ∧
 ((Qv (Sl 1004 10 10)) ∧
 True))))) ∧
 (∃ n10 : Int,
 ((Says C 46 [(D.val (Value.string (s9)))] [(D.val (vI n10))]) ∧
 (((Qv (Pt 1001 8)) ∧
 ((Qv (Pt 1001 8)) ∧
 ((Qv (Pt 1004 7)) ∧
 ((Qv (vI 7)) ∧
 ((Qv (Sl 1004 10 10)) ∧
 True))))) ∧
 (True ∧
 (bcase (decide (IntKind.wrap .i64 (IntKind.wrap .i64 (IntKind.wrap .i64 (IntKind.wrap .i64 (IntKind.wrap .i64 (IntKind.wrap .i64 (IntKind.wrap .i64 (IntKind.wrap .i64 (0 + 1) + 1) + 1) + 1) + 1) + 1) + 1) + 1) < (↑n2 : Int)))
 (bcase (decide (IntKind.wrap .i64 (IntKind.wrap .i64 (IntKind.wrap .i64 (IntKind.wrap .i64 (IntKind.wrap .i64 (IntKind.wrap .i64 (IntKind.wrap .i64 (IntKind.wrap .i64 (0 + 1) + 1) + 1) + 1) + 1) + 1) + 1) + 1) < (↑n2 : Int)))
 (∃ s10 : ByteArray,
 ((At (cs2) 8 1 [(Value.string (s10))]) ∧
 (((Qv (Value.string (s10))) ∧
 ((Qv (Pt 1001 9)) ∧
 ((Qv (Pt 1004 8)) ∧
 ((Qv (vI 8)) ∧
 ((Qv (Sl 1004 10 10)) ∧
 True))))) ∧
 (∃ n11 : Int,
 ((Says C 46 [(D.val (Value.string (s10)))] [(D.val (vI n11))]) ∧
 (((Qv (Pt 1001 9)) ∧
 ((Qv (Pt 1001 9)) ∧
 ((Qv (Pt 1004 8)) ∧
 ((Qv (vI 8)) ∧
 ((Qv (Sl 1004 10 10)) ∧
 True))))) ∧
 (True ∧
 (bcase (decide (IntKind.wrap .i64 (IntKind.wrap .i64 (IntKind.wrap .i64 (IntKind.wrap .i64 (IntKind.wrap .i64 (IntKind.wrap .i64 (IntKind.wrap .i64 (IntKind.wrap .i64 (IntKind.wrap .i64 (0 + 1) + 1) + 1) + 1) + 1) + 1) + 1) + 1) + 1) < (↑n2 : Int)))
 (bcase (decide (IntKind.wrap .i64 (IntKind.wrap .i64 (IntKind.wrap .i64 (IntKind.wrap .i64 (IntKind.wrap .i64 (IntKind.wrap .i64 (IntKind.wrap .i64 (IntKind.wrap .i64 (IntKind.wrap .i64 (0 + 1) + 1) + 1) + 1) + 1) + 1) + 1) + 1) + 1) < (↑n2 : Int)))
 (∃ s11 : ByteArray,
 ((At (cs2) 9 1 [(Value.string (s11))]) ∧
 (((Qv (Value.string (s11))) ∧
 ((Qv (Pt 1001 10)) ∧
 ((Qv (Pt 1004 9)) ∧
 ((Qv (vI 9)) ∧
 ((Qv (Sl 1004 10 10)) ∧
 True))))) ∧
 (∃ n12 : Int,
 ((Says C 46 [(D.val (Value.string (s11)))] [(D.val (vI n12))]) ∧
 (((Qv (Pt 1001 10)) ∧
 ((Qv (Pt 1001 10)) ∧
 ((Qv (Pt 1004 9)) ∧
 ((Qv (vI 9)) ∧
 ((Qv (Sl 1004 10 10)) ∧
 True))))) ∧
 (True ∧
 (bcase (decide (IntKind.wrap .i64 (IntKind.wrap .i64 (IntKind.wrap .i64 (IntKind.wrap .i64 (IntKind.wrap .i64 (IntKind.wrap .i64 (IntKind.wrap .i64 (IntKind.wrap .i64 (IntKind.wrap .i64 (IntKind.wrap .i64 (0 + 1) + 1) + 1) + 1) + 1) + 1) + 1) + 1) + 1) + 1) < (↑n2 : Int)))
 (bcase (decide (IntKind.wrap .i64 (IntKind.wrap .i64 (IntKind.wrap .i64 (IntKind.wrap .i64 (IntKind.wrap .i64 (IntKind.wrap .i64 (IntKind.wrap .i64 (IntKind.wrap .i64 (IntKind.wrap .i64 (IntKind.wrap .i64 (0 + 1) + 1) + 1) + 1) + 1) + 1) + 1) + 1) + 1) + 1) < (↑n2 : Int)))
 (∃ s12 : ByteArray,
 ((At (cs2) 10 1 [(Value.string (s12))]) ∧
 False))
 False)
 (((Qv (Value.bool false)) ∧
 ((bcase (decide (0 < (↑n1 : Int)))
 (Qv (Pt 1002 0))
 False) ∧
 ((Qv (Sl 1002 (n1) (n1))) ∧
 True))) ∧
 (bcase (decide (1 ≤ (↑n1 : Int)))
 (bcase (decide (n1 ≤ n1))
 (bcase (AObj.isOpen (AObj.sym cs1 Bool.true 1) 0 n1)
 (L 0 [(Prod.mk 2 (Pt 1000 0)), (Prod.mk 4 (Pt 1001 0)), (Prod.mk 24 (Value.slice (some (Addr.mk 1002 1 none)) (n1 - 1) (n1 - 1))), (Prod.mk 25 (vI ((↑(n1 - 1) : Int)))), (Prod.mk 26 (vI 0))] [(Prod.mk 1000 (AObj.cells [(vI 0), (vI 0), (vI 0), (vI 0), (vI 0), (vI 0), (Value.slice none 0 0), (vI 0), (vI 0), (vI 0), (vI 0)] 26 false 11)), (Prod.mk 1001 (AObj.cells [(vI n3), (vI n4), (vI n5), (vI n6), (vI n7), (vI n8), (Value.slice none 0 0), (vI n9), (vI n10), (vI n11), (vI n12)] 26 false 11)), (Prod.mk 1002 (AObj.sym (cs1) true 1))])
 False)
 False)
 False))))))))))
 False)
 (((Qv (Value.bool false)) ∧
 ((bcase (decide (0 < (↑n1 : Int)))
 (Qv (Pt 1002 0))
 False) ∧
 ((Qv (Sl 1002 (n1) (n1))) ∧
 True))) ∧
 (bcase (decide (1 ≤ (↑n1 : Int)))
 (bcase (decide (n1 ≤ n1))
 (bcase (AObj.isOpen (AObj.sym cs1 Bool.true 1) 0 n1)
 (L 0 [(Prod.mk 2 (Pt 1000 0)), (Prod.mk 4 (Pt 1001 0)), (Prod.mk 24 (Value.slice (some (Addr.mk 1002 1 none)) (n1 - 1) (n1 - 1))), (Prod.mk 25 (vI ((↑(n1 - 1) : Int)))), (Prod.mk 26 (vI 0))] [(Prod.mk 1000 (AObj.cells [(vI 0), (vI 0), (vI 0), (vI 0), (vI 0), (vI 0), (Value.slice none 0 0), (vI 0), (vI 0), (vI 0), (vI 0)] 26 false 11)), (Prod.mk 1001 (AObj.cells [(vI n3), (vI n4), (vI n5), (vI n6), (vI n7), (vI n8), (Value.slice none 0 0), (vI n9), (vI n10), (vI n11), (vI 0)] 26 false 11)), (Prod.mk 1002 (AObj.sym (cs1) true 1))])
 False)
 False)
 False))))))))))
 False)
 (((Qv (Value.bool false)) ∧
 ((bcase (decide (0 < (↑n1 : Int)))
 (Qv (Pt 1002 0))
 False) ∧
 ((Qv (Sl 1002 (n1) (n1))) ∧
 True))) ∧
 (bcase (decide (1 ≤ (↑n1 : Int)))
 (bcase (decide (n1 ≤ n1))
 (bcase (AObj.isOpen (AObj.sym cs1 Bool.true 1) 0 n1)
 (L 0 [(Prod.mk 2 (Pt 1000 0)), (Prod.mk 4 (Pt 1001 0)), (Prod.mk 24 (Value.slice (some (Addr.mk 1002 1 none)) (n1 - 1) (n1 - 1))), (Prod.mk 25 (vI ((↑(n1 - 1) : Int)))), (Prod.mk 26 (vI 0))] [(Prod.mk 1000 (AObj.cells [(vI 0), (vI 0), (vI 0), (vI 0), (vI 0), (vI 0), (Value.slice none 0 0), (vI 0), (vI 0), (vI 0), (vI 0)] 26 false 11)), (Prod.mk 1001 (AObj.cells [(vI n3), (vI n4), (vI n5), (vI n6), (vI n7), (vI n8), (Value.slice none 0 0), (vI n9), (vI n10), (vI 0), (vI 0)] 26 false 11)), (Prod.mk 1002 (AObj.sym (cs1) true 1))])
 False)
 False)
 False))))))))))
 False)
 (((Qv (Value.bool false)) ∧
 ((bcase (decide (0 < (↑n1 : Int)))
 (Qv (Pt 1002 0))
 False) ∧
 ((Qv (Sl 1002 (n1) (n1))) ∧
 True))) ∧
 (bcase (decide (1 ≤ (↑n1 : Int)))
 (bcase (decide (n1 ≤ n1))
 (bcase (AObj.isOpen (AObj.sym cs1 Bool.true 1) 0 n1)
 (L 0 [(Prod.mk 2 (Pt 1000 0)), (Prod.mk 4 (Pt 1001 0)), (Prod.mk 24 (Value.slice (some (Addr.mk 1002 1 none)) (n1 - 1) (n1 - 1))), (Prod.mk 25 (vI ((↑(n1 - 1) : Int)))), (Prod.mk 26 (vI 0))] [(Prod.mk 1000 (AObj.cells [(vI 0), (vI 0), (vI 0), (vI 0), (vI 0), (vI 0), (Value.slice none 0 0), (vI 0), (vI 0), (vI 0), (vI 0)] 26 false 11)), (Prod.mk 1001 (AObj.cells [(vI n3), (vI n4), (vI n5), (vI n6), (vI n7), (vI n8), (Value.slice none 0 0), (vI n9), (vI 0), (vI 0), (vI 0)] 26 false 11)), (Prod.mk 1002 (AObj.sym (cs1) true 1))])
 False)
 False)
 False))))))))))
 False)
 (((Qv (Value.bool false)) ∧
 ((bcase (decide (0 < (↑n1 : Int)))
 (Qv (Pt 1002 0))
 False) ∧
 ((Qv (Sl 1002 (n1) (n1))) ∧
 True))) ∧
 (bcase (decide (1 ≤ (↑n1 : Int)))
 (bcase (decide (n1 ≤ n1))
 (bcase (AObj.isOpen (AObj.sym cs1 Bool.true 1) 0 n1)
 (L 0 [(Prod.mk 2 (Pt 1000 0)), (Prod.mk 4 (Pt 1001 0)), (Prod.mk 24 (Value.slice (some (Addr.mk 1002 1 none)) (n1 - 1) (n1 - 1))), (Prod.mk 25 (vI ((↑(n1 - 1) : Int)))), (Prod.mk 26 (vI 0))] [(Prod.mk 1000 (AObj.cells [(vI 0), (vI 0), (vI 0), (vI 0), (vI 0), (vI 0), (Value.slice none 0 0), (vI 0), (vI 0), (vI 0), (vI 0)] 26 false 11)), (Prod.mk 1001 (AObj.cells [(vI n3), (vI n4), (vI n5), (vI n6), (vI n7), (vI n8), (Value.slice none 0 0), (vI 0), (vI 0), (vI 0), (vI 0)] 26 false 11)), (Prod.mk 1002 (AObj.sym (cs1) true 1))])
 False)
 False)
 False))))))))))
 False)
 (((Qv (Value.bool false)) ∧
 ((bcase (decide (0 < (↑n1 : Int)))
 (Qv (Pt 1002 0))
 False) ∧
 ((Qv (Sl 1002 (n1) (n1))) ∧
 True))) ∧
 (bcase (decide (1 ≤ (↑n1 : Int)))
 (bcase (decide (n1 ≤ n1))
 (bcase (AObj.isOpen (AObj.sym cs1 Bool.true 1) 0 n1)
 (L 0 [(Prod.mk 2 (Pt 1000 0)), (Prod.mk 4 (Pt 1001 0)), (Prod.mk 24 (Value.slice (some (Addr.mk 1002 1 none)) (n1 - 1) (n1 - 1))), (Prod.mk 25 (vI ((↑(n1 - 1) : Int)))), (Prod.mk 26 (vI 0))] [(Prod.mk 1000 (AObj.cells [(vI 0), (vI 0), (vI 0), (vI 0), (vI 0), (vI 0), (Value.slice none 0 0), (vI 0), (vI 0), (vI 0), (vI 0)] 26 false 11)), (Prod.mk 1001 (AObj.cells [(vI n3), (vI n4), (vI n5), (vI n6), (vI n7), (vI 0), (Value.slice none 0 0), (vI 0), (vI 0), (vI 0), (vI 0)] 26 false 11)), (Prod.mk 1002 (AObj.sym (cs1) true 1))])
 False)
 False)
 False))))))))))
 False)
 (((Qv (Value.bool false)) ∧
 ((bcase (decide (0 < (↑n1 : Int)))
 (Qv (Pt 1002 0))
 False) ∧
 ((Qv (Sl 1002 (n1) (n1))) ∧
 True))) ∧
 (bcase (decide (1 ≤ (↑n1 : Int)))
 (bcase (decide (n1 ≤ n1))
 (bcase (AObj.isOpen (AObj.sym cs1 Bool.true 1) 0 n1)
 (L 0 [(Prod.mk 2 (Pt 1000 0)), (Prod.mk 4 (Pt 1001 0)), (Prod.mk 24 (Value.slice (some (Addr.mk 1002 1 none)) (n1 - 1) (n1 - 1))), (Prod.mk 25 (vI ((↑(n1 - 1) : Int)))), (Prod.mk 26 (vI 0))] [(Prod.mk 1000 (AObj.cells [(vI 0), (vI 0), (vI 0), (vI 0), (vI 0), (vI 0), (Value.slice none 0 0), (vI 0), (vI 0), (vI 0), (vI 0)] 26 false 11)), (Prod.mk 1001 (AObj.cells [(vI n3), (vI n4), (vI n5), (vI n6), (vI 0), (vI 0), (Value.slice none 0 0), (vI 0), (vI 0), (vI 0), (vI 0)] 26 false 11)), (Prod.mk 1002 (AObj.sym (cs1) true 1))])
 False)
 False)
 False))))))))))
 False)
 (((Qv (Value.bool false)) ∧
 ((bcase (decide (0 < (↑n1 : Int)))
 (Qv (Pt 1002 0))
 False) ∧
 ((Qv (Sl 1002 (n1) (n1))) ∧
 True))) ∧
 (bcase (decide (1 ≤ (↑n1 : Int)))
 (bcase (decide (n1 ≤ n1))
 (bcase (AObj.isOpen (AObj.sym cs1 Bool.true 1) 0 n1)
 (L 0 [(Prod.mk 2 (Pt 1000 0)), (Prod.mk 4 (Pt 1001 0)), (Prod.mk 24 (Value.slice (some (Addr.mk 1002 1 none)) (n1 - 1) (n1 - 1))), (Prod.mk 25 (vI ((↑(n1 - 1) : Int)))), (Prod.mk 26 (vI 0))] [(Prod.mk 1000 (AObj.cells [(vI 0), (vI 0), (vI 0), (vI 0), (vI 0), (vI 0), (Value.slice none 0 0), (vI 0), (vI 0), (vI 0), (vI 0)] 26 false 11)), (Prod.mk 1001 (AObj.cells [(vI n3), (vI n4), (vI n5), (vI 0), (vI 0), (vI 0), (Value.slice none 0 0), (vI 0), (vI 0), (vI 0), (vI 0)] 26 false 11)), (Prod.mk 1002 (AObj.sym (cs1) true 1))])
 False)
 False)
 False))))))))))
 False)
 (((Qv (Value.bool false)) ∧
 ((bcase (decide (0 < (↑n1 : Int)))
 (Qv (Pt 1002 0))
 False) ∧
 ((Qv (Sl 1002 (n1) (n1))) ∧
 True))) ∧
 (bcase (decide (1 ≤ (↑n1 : Int)))
 (bcase (decide (n1 ≤ n1))
 (bcase (AObj.isOpen (AObj.sym cs1 Bool.true 1) 0 n1)
 (L 0 [(Prod.mk 2 (Pt 1000 0)), (Prod.mk 4 (Pt 1001 0)), (Prod.mk 24 (Value.slice (some (Addr.mk 1002 1 none)) (n1 - 1) (n1 - 1))), (Prod.mk 25 (vI ((↑(n1 - 1) : Int)))), (Prod.mk 26 (vI 0))] [(Prod.mk 1000 (AObj.cells [(vI 0), (vI 0), (vI 0), (vI 0), (vI 0), (vI 0), (Value.slice none 0 0), (vI 0), (vI 0), (vI 0), (vI 0)] 26 false 11)), (Prod.mk 1001 (AObj.cells [(vI n3), (vI n4), (vI 0), (vI 0), (vI 0), (vI 0), (Value.slice none 0 0), (vI 0), (vI 0), (vI 0), (vI 0)] 26 false 11)), (Prod.mk 1002 (AObj.sym (cs1) true 1))])
 False)
 False)
 False))))))))))
 False)
 (((Qv (Value.bool false)) ∧
 ((bcase (decide (0 < (↑n1 : Int)))
 (Qv (Pt 1002 0))
 False) ∧
 ((Qv (Sl 1002 (n1) (n1))) ∧
 True))) ∧
 (bcase (decide (1 ≤ (↑n1 : Int)))
 (bcase (decide (n1 ≤ n1))
 (bcase (AObj.isOpen (AObj.sym cs1 Bool.true 1) 0 n1)
 (L 0 [(Prod.mk 2 (Pt 1000 0)), (Prod.mk 4 (Pt 1001 0)), (Prod.mk 24 (Value.slice (some (Addr.mk 1002 1 none)) (n1 - 1) (n1 - 1))), (Prod.mk 25 (vI ((↑(n1 - 1) : Int)))), (Prod.mk 26 (vI 0))] [(Prod.mk 1000 (AObj.cells [(vI 0), (vI 0), (vI 0), (vI 0), (vI 0), (vI 0), (Value.slice none 0 0), (vI 0), (vI 0), (vI 0), (vI 0)] 26 false 11)), (Prod.mk 1001 (AObj.cells [(vI n3), (vI 0), (vI 0), (vI 0), (vI 0), (vI 0), (Value.slice none 0 0), (vI 0), (vI 0), (vI 0), (vI 0)] 26 false 11)), (Prod.mk 1002 (AObj.sym (cs1) true 1))])
 False)
 False)
 False))))))))))
 False)
 (((Qv (Value.bool false)) ∧
 ((bcase (decide (0 < (↑n1 : Int)))
 (Qv (Pt 1002 0))
 False) ∧
 ((Qv (Sl 1002 (n1) (n1))) ∧
 True))) ∧
 (bcase (decide (1 ≤ (↑n1 : Int)))
 (bcase (decide (n1 ≤ n1))
 (bcase (AObj.isOpen (AObj.sym cs1 Bool.true 1) 0 n1)
 (L 0 [(Prod.mk 2 (Pt 1000 0)), (Prod.mk 4 (Pt 1001 0)), (Prod.mk 24 (Value.slice (some (Addr.mk 1002 1 none)) (n1 - 1) (n1 - 1))), (Prod.mk 25 (vI ((↑(n1 - 1) : Int)))), (Prod.mk 26 (vI 0))] [(Prod.mk 1000 (AObj.cells [(vI 0), (vI 0), (vI 0), (vI 0), (vI 0), (vI 0), (Value.slice none 0 0), (vI 0), (vI 0), (vI 0), (vI 0)] 26 false 11)), (Prod.mk 1001 (AObj.cells [(vI 0), (vI 0), (vI 0), (vI 0), (vI 0), (vI 0), (Value.slice none 0 0), (vI 0), (vI 0), (vI 0), (vI 0)] 26 false 11)), (Prod.mk 1002 (AObj.sym (cs1) true 1))])
 False)
 False)
 False)))) ∨
 ((Says C 44 [(D.sl (n2) 1 (List.take (n2 * 1) (List.drop 0 cs2)))] [(D.val (Value.bool false))]) ∧
 (((Qv (Value.bool true)) ∧
 ((bcase (decide (0 < (↑n1 : Int)))
 (Qv (Pt 1002 0))
 False) ∧
 ((Qv (Sl 1002 (n1) (n1))) ∧
 True))) ∧
 (k [(D.agg [(D.val (vI 0)), (D.val (vI 0)), (D.val (vI 0)), (D.val (vI 0)), (D.val (vI 0)), (D.val (vI 0)), D.nil, (D.val (vI 0)), (D.val (vI 0)), (D.val (vI 0)), (D.val (vI 0))]), (D.val (vI 7))]))))
 False)))))))))
 False))))))) := by kernel_rfl
abbrev zPR1 (o0 : Nat) (n1 : Nat) (x2 : Int) (x3 : Int) (x4 : Int) (x5 : Int) (x6 : Int) (x7 : Int) (x8 : Int) (x9 : Int) (x10 : Int) (x11 : Int) (x12 : Int) (x13 : Int) (x14 : Int) (x15 : Int) (x16 : Int) (x17 : Int) (x18 : Int) (x19 : Int) (x20 : Int) (x21 : Int) (x22 : Int) (x23 : Int) (l24 : List Value) : Slots × Blocks := ([(2, (Value.pointer (some ⟨1000, 0, none⟩))), (4, (Value.pointer (some ⟨1001, 0, none⟩))), (24, (Value.slice (some ⟨1002, o0, none⟩) n1 n1)), (25, (Value.int .i64 x2)), (26, (Value.int .i64 x3))], [(1000, (AObj.cells [(Value.int .i64 x4), (Value.int .i64 x5), (Value.int .i64 x6), (Value.int .i64 x7), (Value.int .i64 x8), (Value.int .i64 x9), (Value.slice none 0 0), (Value.int .i64 x10), (Value.int .i64 x11), (Value.int .i64 x12), (Value.int .i64 x13)] 26 false 11)), (1001, (AObj.cells [(Value.int .i64 x14), (Value.int .i64 x15), (Value.int .i64 x16), (Value.int .i64 x17), (Value.int .i64 x18), (Value.int .i64 x19), (Value.slice none 0 0), (Value.int .i64 x20), (Value.int .i64 x21), (Value.int .i64 x22), (Value.int .i64 x23)] 26 false 11)), (1002, (AObj.sym l24 true 1))])
def rPR1 (C : Ct) (L : AtLoop) (o0 : Nat) (n1 : Nat) (x2 : Int) (x3 : Int) (x4 : Int) (x5 : Int) (x6 : Int) (x7 : Int) (x8 : Int) (x9 : Int) (x10 : Int) (x11 : Int) (x12 : Int) (x13 : Int) (x14 : Int) (x15 : Int) (x16 : Int) (x17 : Int) (x18 : Int) (x19 : Int) (x20 : Int) (x21 : Int) (x22 : Int) (x23 : Int) (l24 : List Value) (B : Bx) (X : Xx) (k : List D → Prop) : Prop := wpRound Tryz.prog (hX C) L 14 0 [(2, (Value.pointer (some ⟨1000, 0, none⟩))), (4, (Value.pointer (some ⟨1001, 0, none⟩))), (24, (Value.slice (some ⟨1002, o0, none⟩) n1 n1)), (25, (Value.int .i64 x2)), (26, (Value.int .i64 x3))] [(1000, (AObj.cells [(Value.int .i64 x4), (Value.int .i64 x5), (Value.int .i64 x6), (Value.int .i64 x7), (Value.int .i64 x8), (Value.int .i64 x9), (Value.slice none 0 0), (Value.int .i64 x10), (Value.int .i64 x11), (Value.int .i64 x12), (Value.int .i64 x13)] 26 false 11)), (1001, (AObj.cells [(Value.int .i64 x14), (Value.int .i64 x15), (Value.int .i64 x16), (Value.int .i64 x17), (Value.int .i64 x18), (Value.int .i64 x19), (Value.slice none 0 0), (Value.int .i64 x20), (Value.int .i64 x21), (Value.int .i64 x22), (Value.int .i64 x23)] 26 false 11)), (1002, (AObj.sym l24 true 1))] B X (dataK k)
theorem rPR1_text (C : Ct) (L : AtLoop) (o0 : Nat) (n1 : Nat) (x2 : Int) (x3 : Int) (x4 : Int) (x5 : Int) (x6 : Int) (x7 : Int) (x8 : Int) (x9 : Int) (x10 : Int) (x11 : Int) (x12 : Int) (x13 : Int) (x14 : Int) (x15 : Int) (x16 : Int) (x17 : Int) (x18 : Int) (x19 : Int) (x20 : Int) (x21 : Int) (x22 : Int) (x23 : Int) (l24 : List Go.Value) (B : Bx) (X : Xx) (k : List D → Prop) : rPR1 C L o0 n1 x2 x3 x4 x5 x6 x7 x8 x9 x10 x11 x12 x13 x14 x15 x16 x17 x18 x19 x20 x21 x22 x23 l24 B X k =
 (bcase (decide (x3 < x2))
 (bcase (decide (0 ≤ x3))
 (bcase (decide (x3 < (↑n1 : Int)))
 (∃ s1 : ByteArray,
 ((At (l24) (o0 + Int.toNat x3 * 1) 1 [(Value.string (s1))]) ∧
 (((Qv (Value.agg [(Pt 1003 0), (Pt 1003 1), (Pt 1003 2), (Pt 1003 3), (Pt 1003 4)].toArray)) ∧
 ((Qv (Pt 1003 4)) ∧
 ((Qv (Pt 1003 3)) ∧
 ((Qv (Pt 1003 0)) ∧
 ((Qv (Pt 1003 0)) ∧
 ((Qv (Pt 1003 3)) ∧
 ((Qv (Pt 1003 3)) ∧
 ((Qv (Pt 1003 0)) ∧
 ((Qv (Pt 1003 0)) ∧
 ((Qv (Pt 1003 2)) ∧
 ((Qv (Pt 1003 0)) ∧
 ((Qv (Pt 1003 0)) ∧
 ((Qv (Pt 1003 1)) ∧
 ((Qv (Pt 1003 0)) ∧
 ((Qv (Pt 1003 0)) ∧
 ((Qv (Pt 1003 0)) ∧
 ((Qv (Pt 1003 0)) ∧
 ((Qv (Pt 1003 0)) ∧
 True)))))))))))))))))) ∧
 (True ∧
 (((Says C 40 [(D.val (Value.string (s1))), (D.val (Value.string ({ data := #[32] })))] [D.nil]) ∧
 (k [(D.agg [(D.val (vI 0)), (D.val (vI 0)), (D.val (vI 0)), (D.val (vI 0)), (D.val (vI 0)), (D.val (vI 0)), D.nil, (D.val (vI 0)), (D.val (vI 0)), (D.val (vI 0)), (D.val (vI 0))]), (D.val (vI 7))])) ∨
 (∃ n2 : Nat,
 (∃ cs1 : List Go.Value,
 ((Says C 40 [(D.val (Value.string (s1))), (D.val (Value.string ({ data := #[32] })))] [(D.sl (n2) 1 (cs1))]) ∧
 (bcase ((↑n2 : Int) != (↑5 : Int))
 (k [(D.agg [(D.val (vI 0)), (D.val (vI 0)), (D.val (vI 0)), (D.val (vI 0)), (D.val (vI 0)), (D.val (vI 0)), D.nil, (D.val (vI 0)), (D.val (vI 0)), (D.val (vI 0)), (D.val (vI 0))]), (D.val (vI 7))])
 (bcase (decide (0 + n2 * 1 ≤ List.length cs1))
 (((Says C 44 [(D.sl (n2) 1 (List.take (n2 * 1) (List.drop 0 cs1)))] [(D.val (Value.bool true))]) ∧
 (bcase (decide (0 < (↑n2 : Int)))
 (bcase (decide (0 < (↑n2 : Int)))
 (∃ s2 : ByteArray,
 ((At (cs1) 0 1 [(Value.string (s2))]) ∧
 (((Qv (Value.string (s2))) ∧
 ((Qv (Pt 1003 0)) ∧
 ((Qv (Pt 1005 0)) ∧
 ((Qv (vI 0)) ∧
 ((Qv (Sl 1005 5 5)) ∧
 True))))) ∧
 (∃ n3 : Int,
 ((Says C 46 [(D.val (Value.string (s2)))] [(D.val (vI n3))]) ∧
 (((Qv (Pt 1003 0)) ∧
 ((Qv (Pt 1003 0)) ∧
 ((Qv (Pt 1005 0)) ∧
 ((Qv (vI 0)) ∧
 ((Qv (Sl 1005 5 5)) ∧
 True))))) ∧
 (True ∧
 (bcase (decide (IntKind.wrap .i64 (0 + 1) < (↑n2 : Int)))
 (bcase (decide (IntKind.wrap .i64 (0 + 1) < (↑n2 : Int)))
 (∃ s3 : ByteArray,
 ((At (cs1) 1 1 [(Value.string (s3))]) ∧
 (((Qv (Value.string (s3))) ∧
 ((Qv (Pt 1003 1)) ∧
 ((Qv (Pt 1005 1)) ∧
 ((Qv (vI 1)) ∧
 ((Qv (Sl 1005 5 5)) ∧
 True))))) ∧
 (∃ n4 : Int,
 ((Says C 46 [(D.val (Value.string (s3)))] [(D.val (vI n4))]) ∧
 (((Qv (Pt 1003 1)) ∧
 ((Qv (Pt 1003 1)) ∧
 ((Qv (Pt 1005 1)) ∧
 ((Qv (vI 1)) ∧
 ((Qv (Sl 1005 5 5)) ∧
 True))))) ∧
 (True ∧
 (bcase (decide (IntKind.wrap .i64 (IntKind.wrap .i64 (0 + 1) + 1) < (↑n2 : Int)))
 (bcase (decide (IntKind.wrap .i64 (IntKind.wrap .i64 (0 + 1) + 1) < (↑n2 : Int)))
 (∃ s4 : ByteArray,
 ((At (cs1) 2 1 [(Value.string (s4))]) ∧
 (((Qv (Value.string (s4))) ∧
 ((Qv (Pt 1003 2)) ∧
 ((Qv (Pt 1005 2)) ∧
 ((Qv (vI 2)) ∧
 ((Qv (Sl 1005 5 5)) ∧
 True))))) ∧
 (∃ n5 : Int,
 ((Says C 46 [(D.val (Value.string (s4)))] [(D.val (vI n5))]) ∧
 (((Qv (Pt 1003 2)) ∧
 ((Qv (Pt 1003 2)) ∧
 ((Qv (Pt 1005 2)) ∧
 ((Qv (vI 2)) ∧
 ((Qv (Sl 1005 5 5)) ∧
 True))))) ∧
 (True ∧
 (bcase (decide (IntKind.wrap .i64 (IntKind.wrap .i64 (IntKind.wrap .i64 (0 + 1) + 1) + 1) < (↑n2 : Int)))
 (bcase (decide (IntKind.wrap .i64 (IntKind.wrap .i64 (IntKind.wrap .i64 (0 + 1) + 1) + 1) < (↑n2 : Int)))
 (∃ s5 : ByteArray,
 ((At (cs1) 3 1 [(Value.string (s5))]) ∧
 (((Qv (Value.string (s5))) ∧
 ((Qv (Pt 1003 3)) ∧
 ((Qv (Pt 1005 3)) ∧
 ((Qv (vI 3)) ∧
 ((Qv (Sl 1005 5 5)) ∧
 True))))) ∧
 (∃ n6 : Int,
 ((Says C 46 [(D.val (Value.string (s5)))] [(D.val (vI n6))]) ∧
 (((Qv (Pt 1003 3)) ∧
 ((Qv (Pt 1003 3)) ∧
 ((Qv (Pt 1005 3)) ∧
 ((Qv (vI 3)) ∧
 ((Qv (Sl 1005 5 5)) ∧
 True))))) ∧
 (True ∧
 (bcase (decide (IntKind.wrap .i64 (IntKind.wrap .i64 (IntKind.wrap .i64 (IntKind.wrap .i64 (0 + 1) + 1) + 1) + 1) < (↑n2 : Int)))
 (bcase (decide (IntKind.wrap .i64 (IntKind.wrap .i64 (IntKind.wrap .i64 (IntKind.wrap .i64 (0 + 1) + 1) + 1) + 1) < (↑n2 : Int)))
 (∃ s6 : ByteArray,
 ((At (cs1) 4 1 [(Value.string (s6))]) ∧
 (((Qv (Value.string (s6))) ∧
 ((Qv (Pt 1003 4)) ∧
 ((Qv (Pt 1005 4)) ∧
 ((Qv (vI 4)) ∧
 ((Qv (Sl 1005 5 5)) ∧
 True))))) ∧
 (∃ n7 : Int,
 ((Says C 46 [(D.val (Value.string (s6)))] [(D.val (vI n7))]) ∧
 (((Qv (Pt 1003 4)) ∧
 ((Qv (Pt 1003 4)) ∧
 ((Qv (Pt 1005 4)) ∧
 ((Qv (vI 4)) ∧
 ((Qv (Sl 1005 5 5)) ∧
 True))))) ∧
 (True ∧
 (bcase (decide (IntKind.wrap .i64 (IntKind.wrap .i64 (IntKind.wrap .i64 (IntKind.wrap .i64 (IntKind.wrap .i64 (0 + 1) + 1) + 1) + 1) + 1) < (↑n2 : Int)))
 (bcase (decide (IntKind.wrap .i64 (IntKind.wrap .i64 (IntKind.wrap .i64 (IntKind.wrap .i64 (IntKind.wrap .i64 (0 + 1) + 1) + 1) + 1) + 1) < (↑n2 : Int)))
 (∃ s7 : ByteArray,
 ((At (cs1) 5 1 [(Value.string (s7))]) ∧
 False))
 False)
 (B [(Prod.mk 2 (Pt 1000 0)), (Prod.mk 4 (Pt 1001 0)), (Prod.mk 24 (Value.slice (some (Addr.mk 1002 (o0) none)) (n1) (n1))), (Prod.mk 25 (vI x2)), (Prod.mk 26 (vI (IntKind.wrap .i64 (x3 + 1))))] [(Prod.mk 1000 (AObj.cells [(vI x4), (vI x5), (vI x6), (vI x7), (vI x8), (vI x9), (Value.slice none 0 0), (vI x10), (vI x11), (vI x12), (vI x13)] 26 false 11)), (Prod.mk 1001 (AObj.cells [(vI x14), (vI x15), (vI x16), (vI x17), (vI x18), (vI x19), (Sl 1003 1 1), (vI x20), (vI x21), (vI x22), (vI x23)] 26 false 11)), (Prod.mk 1002 (AObj.sym (l24) true 1)), (Prod.mk 1003 (AObj.sym [(vI n3), (vI n4), (vI n5), (vI n6), (vI n7)] true 5))])))))))))
 False)
 (B [(Prod.mk 2 (Pt 1000 0)), (Prod.mk 4 (Pt 1001 0)), (Prod.mk 24 (Value.slice (some (Addr.mk 1002 (o0) none)) (n1) (n1))), (Prod.mk 25 (vI x2)), (Prod.mk 26 (vI (IntKind.wrap .i64 (x3 + 1))))] [(Prod.mk 1000 (AObj.cells [(vI x4), (vI x5), (vI x6), (vI x7), (vI x8), (vI x9), (Value.slice none 0 0), (vI x10), (vI x11), (vI x12), (vI x13)] 26 false 11)), (Prod.mk 1001 (AObj.cells [(vI x14), (vI x15), (vI x16), (vI x17), (vI x18), (vI x19), (Sl 1003 1 1), (vI x20), (vI x21), (vI x22), (vI x23)] 26 false 11)), (Prod.mk 1002 (AObj.sym (l24) true 1)), (Prod.mk 1003 (AObj.sym [(vI n3), (vI n4), (vI n5), (vI n6), (vI 0)] true 5))])))))))))
 False)
 (B [(Prod.mk 2 (Pt 1000 0)), (Prod.mk 4 (Pt 1001 0)), (Prod.mk 24 (Value.slice (some (Addr.mk 1002 (o0) none)) (n1) (n1))), (Prod.mk 25 (vI x2)), (Prod.mk 26 (vI (IntKind.wrap .i64 (x3 + 1))))] [(Prod.mk 1000 (AObj.cells [(vI x4), (vI x5), (vI x6), (vI x7), (vI x8), (vI x9), (Value.slice none 0 0), (vI x10), (vI x11), (vI x12), (vI x13)] 26 false 11)), (Prod.mk 1001 (AObj.cells [(vI x14), (vI x15), (vI x16), (vI x17), (vI x18), (vI x19), (Sl 1003 1 1), (vI x20), (vI x21), (vI x22), (vI x23)] 26 false 11)), (Prod.mk 1002 (AObj.sym (l24) true 1)), (Prod.mk 1003 (AObj.sym [(vI n3), (vI n4), (vI n5), (vI 0), (vI 0)] true 5))])))))))))
 False)
 (B [(Prod.mk 2 (Pt 1000 0)), (Prod.mk 4 (Pt 1001 0)), (Prod.mk 24 (Value.slice (some (Addr.mk 1002 (o0) none)) (n1) (n1))), (Prod.mk 25 (vI x2)), (Prod.mk 26 (vI (IntKind.wrap .i64 (x3 + 1))))] [(Prod.mk 1000 (AObj.cells [(vI x4), (vI x5), (vI x6), (vI x7), (vI x8), (vI x9), (Value.slice none 0 0), (vI x10), (vI x11), (vI x12), (vI x13)] 26 false 11)), (Prod.mk 1001 (AObj.cells [(vI x14), (vI x15), (vI x16), (vI x17), (vI x18), (vI x19), (Sl 1003 1 1), (vI x20), (vI x21), (vI x22), (vI x23)] 26 false 11)), (Prod.mk 1002 (AObj.sym (l24) true 1)), (Prod.mk 1003 (AObj.sym [(vI n3), (vI n4), (vI 0), (vI 0), (vI 0)] true 5))])))))))))
 False)
 (B [(Prod.mk 2 (Pt 1000 0)), (Prod.mk 4 (Pt 1001 0)), (Prod.mk 24 (Value.slice (some (Addr.mk 1002 (o0) none)) (n1) (n1))), (Prod.mk 25 (vI x2)), (Prod.mk 26 (vI (IntKind.wrap .i64 (x3 + 1))))] [(Prod.mk 1000 (AObj.cells [(vI x4), (vI x5), (vI x6), (vI x7), (vI x8), (vI x9), (Value.slice none 0 0), (vI x10), (vI x11), (vI x12), (vI x13)] 26 false 11)), (Prod.mk 1001 (AObj.cells [(vI x14), (vI x15), (vI x16), (vI x17), (vI x18), (vI x19), (Sl 1003 1 1), (vI x20), (vI x21), (vI x22), (vI x23)] 26 false 11)), (Prod.mk 1002 (AObj.sym (l24) true 1)), (Prod.mk 1003 (AObj.sym [(vI n3), (vI 0), (vI 0), (vI 0), (vI 0)] true 5))])))))))))
 False)
 (B [(Prod.mk 2 (Pt 1000 0)), (Prod.mk 4 (Pt 1001 0)), (Prod.mk 24 (Value.slice (some (Addr.mk 1002 (o0) none)) (n1) (n1))), (Prod.mk 25 (vI x2)), (Prod.mk 26 (vI (IntKind.wrap .i64 (x3 + 1))))] [(Prod.mk 1000 (AObj.cells [(vI x4), (vI x5), (vI x6), (vI x7), (vI x8), (vI x9), (Value.slice none 0 0), (vI x10), (vI x11), (vI x12), (vI x13)] 26 false 11)), (Prod.mk 1001 (AObj.cells [(vI x14), (vI x15), (vI x16), (vI x17), (vI x18), (vI x19), (Sl 1003 1 1), (vI x20), (vI x21), (vI x22), (vI x23)] 26 false 11)), (Prod.mk 1002 (AObj.sym (l24) true 1)), (Prod.mk 1003 (AObj.sym [(vI 0), (vI 0), (vI 0), (vI 0), (vI 0)] true 5))]))) ∨
 ((Says C 44 [(D.sl (n2) 1 (List.take (n2 * 1) (List.drop 0 cs1)))] [(D.val (Value.bool false))]) ∧
 (k [(D.agg [(D.val (vI 0)), (D.val (vI 0)), (D.val (vI 0)), (D.val (vI 0)), (D.val (vI 0)), (D.val (vI 0)), D.nil, (D.val (vI 0)), (D.val (vI 0)), (D.val (vI 0)), (D.val (vI 0))]), (D.val (vI 7))])))
 False))))))))))
 False)
 False)
 (X 0 [(Prod.mk 2 (Pt 1000 0)), (Prod.mk 4 (Pt 1001 0))] [(Prod.mk 1000 (AObj.cells [(vI x4), (vI x5), (vI x6), (vI x7), (vI x8), (vI x9), (Value.slice none 0 0), (vI x10), (vI x11), (vI x12), (vI x13)] 26 false 11)), (Prod.mk 1001 (AObj.cells [(vI x14), (vI x15), (vI x16), (vI x17), (vI x18), (vI x19), (Value.slice none 0 0), (vI x20), (vI x21), (vI x22), (vI x23)] 26 false 11))])) := by kernel_rfl
abbrev zPR2 (o0 : Nat) (n1 : Nat) (x2 : Int) (x3 : Int) (x4 : Int) (x5 : Int) (x6 : Int) (x7 : Int) (x8 : Int) (x9 : Int) (x10 : Int) (x11 : Int) (x12 : Int) (x13 : Int) (x14 : Int) (x15 : Int) (x16 : Int) (x17 : Int) (x18 : Int) (x19 : Int) (n20 : Nat) (x21 : Int) (x22 : Int) (x23 : Int) (x24 : Int) (l25 : List Value) (l26 : List Value) : Slots × Blocks := ([(2, (Value.pointer (some ⟨1000, 0, none⟩))), (4, (Value.pointer (some ⟨1001, 0, none⟩))), (24, (Value.slice (some ⟨1002, o0, none⟩) n1 n1)), (25, (Value.int .i64 x2)), (26, (Value.int .i64 x3))], [(1000, (AObj.cells [(Value.int .i64 x4), (Value.int .i64 x5), (Value.int .i64 x6), (Value.int .i64 x7), (Value.int .i64 x8), (Value.int .i64 x9), (Value.slice none 0 0), (Value.int .i64 x10), (Value.int .i64 x11), (Value.int .i64 x12), (Value.int .i64 x13)] 26 false 11)), (1001, (AObj.cells [(Value.int .i64 x14), (Value.int .i64 x15), (Value.int .i64 x16), (Value.int .i64 x17), (Value.int .i64 x18), (Value.int .i64 x19), (Value.slice (some ⟨1003, 0, none⟩) n20 n20), (Value.int .i64 x21), (Value.int .i64 x22), (Value.int .i64 x23), (Value.int .i64 x24)] 26 false 11)), (1002, (AObj.sym l25 true 1)), (1003, (AObj.sym l26 true 5))])
def rPR2 (C : Ct) (L : AtLoop) (o0 : Nat) (n1 : Nat) (x2 : Int) (x3 : Int) (x4 : Int) (x5 : Int) (x6 : Int) (x7 : Int) (x8 : Int) (x9 : Int) (x10 : Int) (x11 : Int) (x12 : Int) (x13 : Int) (x14 : Int) (x15 : Int) (x16 : Int) (x17 : Int) (x18 : Int) (x19 : Int) (n20 : Nat) (x21 : Int) (x22 : Int) (x23 : Int) (x24 : Int) (l25 : List Value) (l26 : List Value) (B : Bx) (X : Xx) (k : List D → Prop) : Prop := wpRound Tryz.prog (hX C) L 14 0 [(2, (Value.pointer (some ⟨1000, 0, none⟩))), (4, (Value.pointer (some ⟨1001, 0, none⟩))), (24, (Value.slice (some ⟨1002, o0, none⟩) n1 n1)), (25, (Value.int .i64 x2)), (26, (Value.int .i64 x3))] [(1000, (AObj.cells [(Value.int .i64 x4), (Value.int .i64 x5), (Value.int .i64 x6), (Value.int .i64 x7), (Value.int .i64 x8), (Value.int .i64 x9), (Value.slice none 0 0), (Value.int .i64 x10), (Value.int .i64 x11), (Value.int .i64 x12), (Value.int .i64 x13)] 26 false 11)), (1001, (AObj.cells [(Value.int .i64 x14), (Value.int .i64 x15), (Value.int .i64 x16), (Value.int .i64 x17), (Value.int .i64 x18), (Value.int .i64 x19), (Value.slice (some ⟨1003, 0, none⟩) n20 n20), (Value.int .i64 x21), (Value.int .i64 x22), (Value.int .i64 x23), (Value.int .i64 x24)] 26 false 11)), (1002, (AObj.sym l25 true 1)), (1003, (AObj.sym l26 true 5))] B X (dataK k)
theorem rPR2_text (C : Ct) (L : AtLoop) (o0 : Nat) (n1 : Nat) (x2 : Int) (x3 : Int) (x4 : Int) (x5 : Int) (x6 : Int) (x7 : Int) (x8 : Int) (x9 : Int) (x10 : Int) (x11 : Int) (x12 : Int) (x13 : Int) (x14 : Int) (x15 : Int) (x16 : Int) (x17 : Int) (x18 : Int) (x19 : Int) (n20 : Nat) (x21 : Int) (x22 : Int) (x23 : Int) (x24 : Int) (l25 : List Go.Value) (l26 : List Go.Value) (B : Bx) (X : Xx) (k : List D → Prop) : rPR2 C L o0 n1 x2 x3 x4 x5 x6 x7 x8 x9 x10 x11 x12 x13 x14 x15 x16 x17 x18 x19 n20 x21 x22 x23 x24 l25 l26 B X k =
 (bcase (decide (x3 < x2))
 (bcase (decide (0 ≤ x3))
 (bcase (decide (x3 < (↑n1 : Int)))
 (∃ s1 : ByteArray,
 ((At (l25) (o0 + Int.toNat x3 * 1) 1 [(Value.string (s1))]) ∧
 (((Qv (Value.agg [(Pt 1004 0), (Pt 1004 1), (Pt 1004 2), (Pt 1004 3), (Pt 1004 4)].toArray)) ∧
 ((Qv (Pt 1004 4)) ∧
 ((Qv (Pt 1004 3)) ∧
 ((Qv (Pt 1004 0)) ∧
 ((Qv (Pt 1004 0)) ∧
 ((Qv (Pt 1004 3)) ∧
 ((Qv (Pt 1004 3)) ∧
 ((Qv (Pt 1004 0)) ∧
 ((Qv (Pt 1004 0)) ∧
 ((Qv (Pt 1004 2)) ∧
 ((Qv (Pt 1004 0)) ∧
 ((Qv (Pt 1004 0)) ∧
 ((Qv (Pt 1004 1)) ∧
 ((Qv (Pt 1004 0)) ∧
 ((Qv (Pt 1004 0)) ∧
 ((Qv (Pt 1004 0)) ∧
 ((Qv (Pt 1004 0)) ∧
 ((Qv (Pt 1004 0)) ∧
 True)))))))))))))))))) ∧
 (True ∧
 (((Says C 40 [(D.val (Value.string (s1))), (D.val (Value.string ({ data := #[32] })))] [D.nil]) ∧
 (k [(D.agg [(D.val (vI 0)), (D.val (vI 0)), (D.val (vI 0)), (D.val (vI 0)), (D.val (vI 0)), (D.val (vI 0)), D.nil, (D.val (vI 0)), (D.val (vI 0)), (D.val (vI 0)), (D.val (vI 0))]), (D.val (vI 7))])) ∨
 (∃ n2 : Nat,
 (∃ cs1 : List Go.Value,
 ((Says C 40 [(D.val (Value.string (s1))), (D.val (Value.string ({ data := #[32] })))] [(D.sl (n2) 1 (cs1))]) ∧
 (bcase ((↑n2 : Int) != (↑5 : Int))
 (k [(D.agg [(D.val (vI 0)), (D.val (vI 0)), (D.val (vI 0)), (D.val (vI 0)), (D.val (vI 0)), (D.val (vI 0)), D.nil, (D.val (vI 0)), (D.val (vI 0)), (D.val (vI 0)), (D.val (vI 0))]), (D.val (vI 7))])
 (bcase (decide (0 + n2 * 1 ≤ List.length cs1))
 (((Says C 44 [(D.sl (n2) 1 (List.take (n2 * 1) (List.drop 0 cs1)))] [(D.val (Value.bool true))]) ∧
 (bcase (decide (0 < (↑n2 : Int)))
 (bcase (decide (0 < (↑n2 : Int)))
 (∃ s2 : ByteArray,
 ((At (cs1) 0 1 [(Value.string (s2))]) ∧
 (((Qv (Value.string (s2))) ∧
 ((Qv (Pt 1004 0)) ∧
 ((Qv (Pt 1006 0)) ∧
 ((Qv (vI 0)) ∧
 ((Qv (Sl 1006 5 5)) ∧
 True))))) ∧
 (∃ n3 : Int,
 ((Says C 46 [(D.val (Value.string (s2)))] [(D.val (vI n3))]) ∧
 (((Qv (Pt 1004 0)) ∧
 ((Qv (Pt 1004 0)) ∧
 ((Qv (Pt 1006 0)) ∧
 ((Qv (vI 0)) ∧
 ((Qv (Sl 1006 5 5)) ∧
 True))))) ∧
 (True ∧
 (bcase (decide (IntKind.wrap .i64 (0 + 1) < (↑n2 : Int)))
 (bcase (decide (IntKind.wrap .i64 (0 + 1) < (↑n2 : Int)))
 (∃ s3 : ByteArray,
 ((At (cs1) 1 1 [(Value.string (s3))]) ∧
 (((Qv (Value.string (s3))) ∧
 ((Qv (Pt 1004 1)) ∧
 ((Qv (Pt 1006 1)) ∧
 ((Qv (vI 1)) ∧
 ((Qv (Sl 1006 5 5)) ∧
 True))))) ∧
 (∃ n4 : Int,
 ((Says C 46 [(D.val (Value.string (s3)))] [(D.val (vI n4))]) ∧
 (((Qv (Pt 1004 1)) ∧
 ((Qv (Pt 1004 1)) ∧
 ((Qv (Pt 1006 1)) ∧
 ((Qv (vI 1)) ∧
 ((Qv (Sl 1006 5 5)) ∧
 True))))) ∧
 (True ∧
 (bcase (decide (IntKind.wrap .i64 (IntKind.wrap .i64 (0 + 1) + 1) < (↑n2 : Int)))
 (bcase (decide (IntKind.wrap .i64 (IntKind.wrap .i64 (0 + 1) + 1) < (↑n2 : Int)))
 (∃ s4 : ByteArray,
 ((At (cs1) 2 1 [(Value.string (s4))]) ∧
 (((Qv (Value.string (s4))) ∧
 ((Qv (Pt 1004 2)) ∧
 ((Qv (Pt 1006 2)) ∧
 ((Qv (vI 2)) ∧
 ((Qv (Sl 1006 5 5)) ∧
 True))))) ∧
 (∃ n5 : Int,
 ((Says C 46 [(D.val (Value.string (s4)))] [(D.val (vI n5))]) ∧
 (((Qv (Pt 1004 2)) ∧
 ((Qv (Pt 1004 2)) ∧
 ((Qv (Pt 1006 2)) ∧
 ((Qv (vI 2)) ∧
 ((Qv (Sl 1006 5 5)) ∧
 True))))) ∧
 (True ∧
 (bcase (decide (IntKind.wrap .i64 (IntKind.wrap .i64 (IntKind.wrap .i64 (0 + 1) + 1) + 1) < (↑n2 : Int)))
 (bcase (decide (IntKind.wrap .i64 (IntKind.wrap .i64 (IntKind.wrap .i64 (0 + 1) + 1) + 1) < (↑n2 : Int)))
 (∃ s5 : ByteArray,
 ((At (cs1) 3 1 [(Value.string (s5))]) ∧
 (((Qv (Value.string (s5))) ∧
 ((Qv (Pt 1004 3)) ∧
 ((Qv (Pt 1006 3)) ∧
 ((Qv (vI 3)) ∧
 ((Qv (Sl 1006 5 5)) ∧
 True))))) ∧
 (∃ n6 : Int,
 ((Says C 46 [(D.val (Value.string (s5)))] [(D.val (vI n6))]) ∧
 (((Qv (Pt 1004 3)) ∧
 ((Qv (Pt 1004 3)) ∧
 ((Qv (Pt 1006 3)) ∧
 ((Qv (vI 3)) ∧
 ((Qv (Sl 1006 5 5)) ∧
 True))))) ∧
 (True ∧
 (bcase (decide (IntKind.wrap .i64 (IntKind.wrap .i64 (IntKind.wrap .i64 (IntKind.wrap .i64 (0 + 1) + 1) + 1) + 1) < (↑n2 : Int)))
 (bcase (decide (IntKind.wrap .i64 (IntKind.wrap .i64 (IntKind.wrap .i64 (IntKind.wrap .i64 (0 + 1) + 1) + 1) + 1) < (↑n2 : Int)))
 (∃ s6 : ByteArray,
 ((At (cs1) 4 1 [(Value.string (s6))]) ∧
 (((Qv (Value.string (s6))) ∧
 ((Qv (Pt 1004 4)) ∧
 ((Qv (Pt 1006 4)) ∧
 ((Qv (vI 4)) ∧
 ((Qv (Sl 1006 5 5)) ∧
 True))))) ∧
 (∃ n7 : Int,
 ((Says C 46 [(D.val (Value.string (s6)))] [(D.val (vI n7))]) ∧
 (((Qv (Pt 1004 4)) ∧
 ((Qv (Pt 1004 4)) ∧
 ((Qv (Pt 1006 4)) ∧
 ((Qv (vI 4)) ∧
 ((Qv (Sl 1006 5 5)) ∧
 True))))) ∧
 (True ∧
 (bcase (decide (IntKind.wrap .i64 (IntKind.wrap .i64 (IntKind.wrap .i64 (IntKind.wrap .i64 (IntKind.wrap .i64 (0 + 1) + 1) + 1) + 1) + 1) < (↑n2 : Int)))
 (bcase (decide (IntKind.wrap .i64 (IntKind.wrap .i64 (IntKind.wrap .i64 (IntKind.wrap .i64 (IntKind.wrap .i64 (0 + 1) + 1) + 1) + 1) + 1) < (↑n2 : Int)))
 (∃ s7 : ByteArray,
 ((At (cs1) 5 1 [(Value.string (s7))]) ∧
 False))
 False)
 (bcase (decide (n20 < n20 + 1))
 (bcase (decide ((2 * (n20 + 1) + 768) * 40 ≤ 281474976710656))
 (bcase (decide (n20 + 1 ≤ 1099511627776))
 (bcase (decide (0 + n20 * 5 ≤ List.length l26))
 (bcase (decide (0 + n20 * 5 = List.length l26))
 (B [(Prod.mk 2 (Pt 1000 0)), (Prod.mk 4 (Pt 1001 0)), (Prod.mk 24 (Value.slice (some (Addr.mk 1002 (o0) none)) (n1) (n1))), (Prod.mk 25 (vI x2)), (Prod.mk 26 (vI (IntKind.wrap .i64 (x3 + 1))))] [(Prod.mk 1000 (AObj.cells [(vI x4), (vI x5), (vI x6), (vI x7), (vI x8), (vI x9), (Value.slice none 0 0), (vI x10), (vI x11), (vI x12), (vI x13)] 26 false 11)), (Prod.mk 1001 (AObj.cells [(vI x14), (vI x15), (vI x16), (vI x17), (vI x18), (vI x19), (Sl 1003 (n20 + 1) (n20 + 1)), (vI x21), (vI x22), (vI x23), (vI x24)] 26 false 11)), (Prod.mk 1002 (AObj.sym (l25) true 1)), (Prod.mk 1003 (AObj.sym ((List.take (n20 * 5) (List.drop 0 l26)) ++ [(vI n3), (vI n4), (vI n5), (vI n6), (vI n7)]) true 5))])
 False)
 False)
 False)
 False)
 False)))))))))
 False)
 (bcase (decide (n20 < n20 + 1))
 (bcase (decide ((2 * (n20 + 1) + 768) * 40 ≤ 281474976710656))
 (bcase (decide (n20 + 1 ≤ 1099511627776))
 (bcase (decide (0 + n20 * 5 ≤ List.length l26))
 (bcase (decide (0 + n20 * 5 = List.length l26))
 (B [(Prod.mk 2 (Pt 1000 0)), (Prod.mk 4 (Pt 1001 0)), (Prod.mk 24 (Value.slice (some (Addr.mk 1002 (o0) none)) (n1) (n1))), (Prod.mk 25 (vI x2)), (Prod.mk 26 (vI (IntKind.wrap .i64 (x3 + 1))))] [(Prod.mk 1000 (AObj.cells [(vI x4), (vI x5), (vI x6), (vI x7), (vI x8), (vI x9), (Value.slice none 0 0), (vI x10), (vI x11), (vI x12), (vI x13)] 26 false 11)), (Prod.mk 1001 (AObj.cells [(vI x14), (vI x15), (vI x16), (vI x17), (vI x18), (vI x19), (Sl 1003 (n20 + 1) (n20 + 1)), (vI x21), (vI x22), (vI x23), (vI x24)] 26 false 11)), (Prod.mk 1002 (AObj.sym (l25) true 1)), (Prod.mk 1003 (AObj.sym ((List.take (n20 * 5) (List.drop 0 l26)) ++ [(vI n3), (vI n4), (vI n5), (vI n6), (vI 0)]) true 5))])
 False)
 False)
 False)
 False)
 False)))))))))
 False)
 (bcase (decide (n20 < n20 + 1))
 (bcase (decide ((2 * (n20 + 1) + 768) * 40 ≤ 281474976710656))
 (bcase (decide (n20 + 1 ≤ 1099511627776))
 (bcase (decide (0 + n20 * 5 ≤ List.length l26))
 (bcase (decide (0 + n20 * 5 = List.length l26))
 (B [(Prod.mk 2 (Pt 1000 0)), (Prod.mk 4 (Pt 1001 0)), (Prod.mk 24 (Value.slice (some (Addr.mk 1002 (o0) none)) (n1) (n1))), (Prod.mk 25 (vI x2)), (Prod.mk 26 (vI (IntKind.wrap .i64 (x3 + 1))))] [(Prod.mk 1000 (AObj.cells [(vI x4), (vI x5), (vI x6), (vI x7), (vI x8), (vI x9), (Value.slice none 0 0), (vI x10), (vI x11), (vI x12), (vI x13)] 26 false 11)), (Prod.mk 1001 (AObj.cells [(vI x14), (vI x15), (vI x16), (vI x17), (vI x18), (vI x19), (Sl 1003 (n20 + 1) (n20 + 1)), (vI x21), (vI x22), (vI x23), (vI x24)] 26 false 11)), (Prod.mk 1002 (AObj.sym (l25) true 1)), (Prod.mk 1003 (AObj.sym ((List.take (n20 * 5) (List.drop 0 l26)) ++ [(vI n3), (vI n4), (vI n5), (vI 0), (vI 0)]) true 5))])
 False)
 False)
 False)
 False)
 False)))))))))
 False)
 (bcase (decide (n20 < n20 + 1))
 (bcase (decide ((2 * (n20 + 1) + 768) * 40 ≤ 281474976710656))
 (bcase (decide (n20 + 1 ≤ 1099511627776))
 (bcase (decide (0 + n20 * 5 ≤ List.length l26))
 (bcase (decide (0 + n20 * 5 = List.length l26))
 (B [(Prod.mk 2 (Pt 1000 0)), (Prod.mk 4 (Pt 1001 0)), (Prod.mk 24 (Value.slice (some (Addr.mk 1002 (o0) none)) (n1) (n1))), (Prod.mk 25 (vI x2)), (Prod.mk 26 (vI (IntKind.wrap .i64 (x3 + 1))))] [(Prod.mk 1000 (AObj.cells [(vI x4), (vI x5), (vI x6), (vI x7), (vI x8), (vI x9), (Value.slice none 0 0), (vI x10), (vI x11), (vI x12), (vI x13)] 26 false 11)), (Prod.mk 1001 (AObj.cells [(vI x14), (vI x15), (vI x16), (vI x17), (vI x18), (vI x19), (Sl 1003 (n20 + 1) (n20 + 1)), (vI x21), (vI x22), (vI x23), (vI x24)] 26 false 11)), (Prod.mk 1002 (AObj.sym (l25) true 1)), (Prod.mk 1003 (AObj.sym ((List.take (n20 * 5) (List.drop 0 l26)) ++ [(vI n3), (vI n4), (vI 0), (vI 0), (vI 0)]) true 5))])
 False)
 False)
 False)
 False)
 False)))))))))
 False)
 (bcase (decide (n20 < n20 + 1))
 (bcase (decide ((2 * (n20 + 1) + 768) * 40 ≤ 281474976710656))
 (bcase (decide (n20 + 1 ≤ 1099511627776))
 (bcase (decide (0 + n20 * 5 ≤ List.length l26))
 (bcase (decide (0 + n20 * 5 = List.length l26))
 (B [(Prod.mk 2 (Pt 1000 0)), (Prod.mk 4 (Pt 1001 0)), (Prod.mk 24 (Value.slice (some (Addr.mk 1002 (o0) none)) (n1) (n1))), (Prod.mk 25 (vI x2)), (Prod.mk 26 (vI (IntKind.wrap .i64 (x3 + 1))))] [(Prod.mk 1000 (AObj.cells [(vI x4), (vI x5), (vI x6), (vI x7), (vI x8), (vI x9), (Value.slice none 0 0), (vI x10), (vI x11), (vI x12), (vI x13)] 26 false 11)), (Prod.mk 1001 (AObj.cells [(vI x14), (vI x15), (vI x16), (vI x17), (vI x18), (vI x19), (Sl 1003 (n20 + 1) (n20 + 1)), (vI x21), (vI x22), (vI x23), (vI x24)] 26 false 11)), (Prod.mk 1002 (AObj.sym (l25) true 1)), (Prod.mk 1003 (AObj.sym ((List.take (n20 * 5) (List.drop 0 l26)) ++ [(vI n3), (vI 0), (vI 0), (vI 0), (vI 0)]) true 5))])
 False)
 False)
 False)
 False)
 False)))))))))
 False)
 (bcase (decide (n20 < n20 + 1))
 (bcase (decide ((2 * (n20 + 1) + 768) * 40 ≤ 281474976710656))
 (bcase (decide (n20 + 1 ≤ 1099511627776))
 (bcase (decide (0 + n20 * 5 ≤ List.length l26))
 (bcase (decide (0 + n20 * 5 = List.length l26))
 (B [(Prod.mk 2 (Pt 1000 0)), (Prod.mk 4 (Pt 1001 0)), (Prod.mk 24 (Value.slice (some (Addr.mk 1002 (o0) none)) (n1) (n1))), (Prod.mk 25 (vI x2)), (Prod.mk 26 (vI (IntKind.wrap .i64 (x3 + 1))))] [(Prod.mk 1000 (AObj.cells [(vI x4), (vI x5), (vI x6), (vI x7), (vI x8), (vI x9), (Value.slice none 0 0), (vI x10), (vI x11), (vI x12), (vI x13)] 26 false 11)), (Prod.mk 1001 (AObj.cells [(vI x14), (vI x15), (vI x16), (vI x17), (vI x18), (vI x19), (Sl 1003 (n20 + 1) (n20 + 1)), (vI x21), (vI x22), (vI x23), (vI x24)] 26 false 11)), (Prod.mk 1002 (AObj.sym (l25) true 1)), (Prod.mk 1003 (AObj.sym ((List.take (n20 * 5) (List.drop 0 l26)) ++ [(vI 0), (vI 0), (vI 0), (vI 0), (vI 0)]) true 5))])
 False)
 False)
 False)
 False)
 False))) ∨
 ((Says C 44 [(D.sl (n2) 1 (List.take (n2 * 1) (List.drop 0 cs1)))] [(D.val (Value.bool false))]) ∧
 (k [(D.agg [(D.val (vI 0)), (D.val (vI 0)), (D.val (vI 0)), (D.val (vI 0)), (D.val (vI 0)), (D.val (vI 0)), D.nil, (D.val (vI 0)), (D.val (vI 0)), (D.val (vI 0)), (D.val (vI 0))]), (D.val (vI 7))])))
 False))))))))))
 False)
 False)
 (X 0 [(Prod.mk 2 (Pt 1000 0)), (Prod.mk 4 (Pt 1001 0))] [(Prod.mk 1000 (AObj.cells [(vI x4), (vI x5), (vI x6), (vI x7), (vI x8), (vI x9), (Value.slice none 0 0), (vI x10), (vI x11), (vI x12), (vI x13)] 26 false 11)), (Prod.mk 1001 (AObj.cells [(vI x14), (vI x15), (vI x16), (vI x17), (vI x18), (vI x19), (Sl 1002 (n20) (n20)), (vI x21), (vI x22), (vI x23), (vI x24)] 26 false 11)), (Prod.mk 1002 (AObj.sym (l26) true 5))])) := by kernel_rfl
def nPR3 (C : Ct) (L : AtLoop) (x0 : Int) (x1 : Int) (x2 : Int) (x3 : Int) (x4 : Int) (x5 : Int) (x6 : Int) (x7 : Int) (x8 : Int) (x9 : Int) (x10 : Int) (x11 : Int) (x12 : Int) (x13 : Int) (x14 : Int) (x15 : Int) (x16 : Int) (x17 : Int) (x18 : Int) (x19 : Int) (k : List D → Prop) : Prop := wpNext Tryz.prog (hX C) L 14 0 .normal [(2, (Value.pointer (some ⟨1000, 0, none⟩))), (4, (Value.pointer (some ⟨1001, 0, none⟩)))] [(1000, (AObj.cells [(Value.int .i64 x0), (Value.int .i64 x1), (Value.int .i64 x2), (Value.int .i64 x3), (Value.int .i64 x4), (Value.int .i64 x5), (Value.slice none 0 0), (Value.int .i64 x6), (Value.int .i64 x7), (Value.int .i64 x8), (Value.int .i64 x9)] 26 false 11)), (1001, (AObj.cells [(Value.int .i64 x10), (Value.int .i64 x11), (Value.int .i64 x12), (Value.int .i64 x13), (Value.int .i64 x14), (Value.int .i64 x15), (Value.slice none 0 0), (Value.int .i64 x16), (Value.int .i64 x17), (Value.int .i64 x18), (Value.int .i64 x19)] 26 false 11))] (dataK k)
theorem nPR3_text (C : Ct) (L : AtLoop) (x0 : Int) (x1 : Int) (x2 : Int) (x3 : Int) (x4 : Int) (x5 : Int) (x6 : Int) (x7 : Int) (x8 : Int) (x9 : Int) (x10 : Int) (x11 : Int) (x12 : Int) (x13 : Int) (x14 : Int) (x15 : Int) (x16 : Int) (x17 : Int) (x18 : Int) (x19 : Int) (k : List D → Prop) : nPR3 C L x0 x1 x2 x3 x4 x5 x6 x7 x8 x9 x10 x11 x12 x13 x14 x15 x16 x17 x18 x19 k =
 (∃ n1 : Int,
 (∃ n2 : Int,
 ((Says C 42 [(D.agg [(D.val (vI x10)), (D.val (vI x11)), (D.val (vI x12)), (D.val (vI x13)), (D.val (vI x14)), (D.val (vI x15)), D.nil, (D.val (vI x16)), (D.val (vI x17)), (D.val (vI x18)), (D.val (vI x19))])] [(D.val (vI n1)), (D.val (vI n2))]) ∧
 (bcase (n2 != 0)
 (k [(D.agg [(D.val (vI 0)), (D.val (vI 0)), (D.val (vI 0)), (D.val (vI 0)), (D.val (vI 0)), (D.val (vI 0)), D.nil, (D.val (vI 0)), (D.val (vI 0)), (D.val (vI 0)), (D.val (vI 0))]), (D.val (vI n2))])
 (k [(D.agg [(D.val (vI x10)), (D.val (vI x11)), (D.val (vI x12)), (D.val (vI x13)), (D.val (vI x14)), (D.val (vI x15)), D.nil, (D.val (vI x16)), (D.val (vI x17)), (D.val (vI x18)), (D.val (vI x19))]), (D.val (vI 0))]))))) := by kernel_rfl
def nPR4 (C : Ct) (L : AtLoop) (x0 : Int) (x1 : Int) (x2 : Int) (x3 : Int) (x4 : Int) (x5 : Int) (x6 : Int) (x7 : Int) (x8 : Int) (x9 : Int) (x10 : Int) (x11 : Int) (x12 : Int) (x13 : Int) (x14 : Int) (x15 : Int) (n16 : Nat) (x17 : Int) (x18 : Int) (x19 : Int) (x20 : Int) (l21 : List Value) (k : List D → Prop) : Prop := wpNext Tryz.prog (hX C) L 14 0 .normal [(2, (Value.pointer (some ⟨1000, 0, none⟩))), (4, (Value.pointer (some ⟨1001, 0, none⟩)))] [(1000, (AObj.cells [(Value.int .i64 x0), (Value.int .i64 x1), (Value.int .i64 x2), (Value.int .i64 x3), (Value.int .i64 x4), (Value.int .i64 x5), (Value.slice none 0 0), (Value.int .i64 x6), (Value.int .i64 x7), (Value.int .i64 x8), (Value.int .i64 x9)] 26 false 11)), (1001, (AObj.cells [(Value.int .i64 x10), (Value.int .i64 x11), (Value.int .i64 x12), (Value.int .i64 x13), (Value.int .i64 x14), (Value.int .i64 x15), (Value.slice (some ⟨1002, 0, none⟩) n16 n16), (Value.int .i64 x17), (Value.int .i64 x18), (Value.int .i64 x19), (Value.int .i64 x20)] 26 false 11)), (1002, (AObj.sym l21 true 5))] (dataK k)
theorem nPR4_text (C : Ct) (L : AtLoop) (x0 : Int) (x1 : Int) (x2 : Int) (x3 : Int) (x4 : Int) (x5 : Int) (x6 : Int) (x7 : Int) (x8 : Int) (x9 : Int) (x10 : Int) (x11 : Int) (x12 : Int) (x13 : Int) (x14 : Int) (x15 : Int) (n16 : Nat) (x17 : Int) (x18 : Int) (x19 : Int) (x20 : Int) (l21 : List Go.Value) (k : List D → Prop) : nPR4 C L x0 x1 x2 x3 x4 x5 x6 x7 x8 x9 x10 x11 x12 x13 x14 x15 n16 x17 x18 x19 x20 l21 k =
 (bcase (decide (0 + n16 * 5 ≤ List.length l21))
 (∃ n1 : Int,
 (∃ n2 : Int,
 ((Says C 42 [(D.agg [(D.val (vI x10)), (D.val (vI x11)), (D.val (vI x12)), (D.val (vI x13)), (D.val (vI x14)), (D.val (vI x15)), (D.sl (n16) 5 (List.take (n16 * 5) (List.drop 0 l21))), (D.val (vI x17)), (D.val (vI x18)), (D.val (vI x19)), (D.val (vI x20))])] [(D.val (vI n1)), (D.val (vI n2))]) ∧
 (bcase (n2 != 0)
 (k [(D.agg [(D.val (vI 0)), (D.val (vI 0)), (D.val (vI 0)), (D.val (vI 0)), (D.val (vI 0)), (D.val (vI 0)), D.nil, (D.val (vI 0)), (D.val (vI 0)), (D.val (vI 0)), (D.val (vI 0))]), (D.val (vI n2))])
 (((Qv (n16)) ∧
 ((List.length l21) = (n16 * 5))) ∧
 (k [(D.agg [(D.val (vI x10)), (D.val (vI x11)), (D.val (vI x12)), (D.val (vI x13)), (D.val (vI x14)), (D.val (vI x15)), (D.sl (n16) 5 (l21)), (D.val (vI x17)), (D.val (vI x18)), (D.val (vI x19)), (D.val (vI x20))]), (D.val (vI 0))]))))))
 False) := by kernel_rfl
def preY (C : Ct) : FuncId → Option Handler := fun g => if g == 48 then some (saidH Tryz.prog C) else preX C g
abbrev hY (C : Ct) : Handler := handlerX Tryz.prog (preY C) 12 6
def gSS (C : Ct) (L : AtLoop) (s0 : ByteArray) (n1 : Nat) (c1 : Nat) (l1 : List Value) (s2 : ByteArray) (n3 : Nat) (c3 : Nat) (l3 : List Value) (k : List D → Prop) : Prop := wpFn Tryz.prog (hY C) L 0 18 #[.agg #[.string s0, .slice (some ⟨500, 0, none⟩) n1 c1], .agg #[.string s2, .slice (some ⟨501, 0, none⟩) n3 c3]] (heapOf [(500, .sym l1 false 1), (501, .sym l3 false 1)]) (dataK k)
theorem gSS_text (C : Ct) (L : AtLoop) (s0 : ByteArray) (n1 : Nat) (c1 : Nat) (l1 : List Go.Value) (s2 : ByteArray) (n3 : Nat) (c3 : Nat) (l3 : List Go.Value) (k : List D → Prop) : gSS C L s0 n1 c1 l1 s2 n3 c3 l3 k =
 (bcase (ByteArray.toList s0 == ByteArray.toList s2)
 (bcase (decide (0 + n1 * 1 ≤ List.length l1))
 (bcase (decide (0 + n3 * 1 ≤ List.length l3))
 (((Says C 48 [(D.sl (n1) 1 (List.take (n1 * 1) (List.drop 0 l1))), (D.sl (n3) 1 (List.take (n3 * 1) (List.drop 0 l3)))] [(D.val (Value.bool true))]) ∧
 (k [(D.val (Value.bool true))])) ∨
 ((Says C 48 [(D.sl (n1) 1 (List.take (n1 * 1) (List.drop 0 l1))), (D.sl (n3) 1 (List.take (n3 * 1) (List.drop 0 l3)))] [(D.val (Value.bool false))]) ∧
 (k [(D.val (Value.bool false))])))
 False)
 False)
 (k [(D.val (Value.bool false))])) := by kernel_rfl
def gIn (C : Ct) (L : AtLoop) (n0 : Nat) (c0 : Nat) (l0 : List Value) (n1 : Nat) (c1 : Nat) (l1 : List Value) (k : List D → Prop) : Prop := wpFn Tryz.prog (hE C) L 0 48 #[.slice (some ⟨500, 0, none⟩) n0 c0, .slice (some ⟨501, 0, none⟩) n1 c1] (heapOf [(500, .sym l0 false 1), (501, .sym l1 false 1)]) (dataK k)
theorem gIn_text (C : Ct) (L : AtLoop) (n0 : Nat) (c0 : Nat) (l0 : List Go.Value) (n1 : Nat) (c1 : Nat) (l1 : List Go.Value) (k : List D → Prop) : gIn C L n0 c0 l0 n1 c1 l1 k =
 (bcase ((↑n0 : Int) != (↑n1 : Int))
 (k [(D.val (Value.bool false))])
 (L 0 [(Prod.mk 0 (Sl 500 (n0) (c0))), (Prod.mk 1 (Sl 501 (n1) (c1))), (Prod.mk 5 (vI 0))] [(Prod.mk 500 (AObj.sym (l0) false 1)), (Prod.mk 501 (AObj.sym (l1) false 1))])) := by kernel_rfl
abbrev zIn1 (n0 : Nat) (c1 : Nat) (n2 : Nat) (c3 : Nat) (x4 : Int) (l5 : List Value) (l6 : List Value) : Slots × Blocks := ([(0, (Value.slice (some ⟨500, 0, none⟩) n0 c1)), (1, (Value.slice (some ⟨501, 0, none⟩) n2 c3)), (5, (Value.int .i64 x4))], [(500, (AObj.sym l5 false 1)), (501, (AObj.sym l6 false 1))])
def rIn1 (C : Ct) (L : AtLoop) (n0 : Nat) (c1 : Nat) (n2 : Nat) (c3 : Nat) (x4 : Int) (l5 : List Value) (l6 : List Value) (B : Bx) (X : Xx) (k : List D → Prop) : Prop := wpRound Tryz.prog (hE C) L 48 0 [(0, (Value.slice (some ⟨500, 0, none⟩) n0 c1)), (1, (Value.slice (some ⟨501, 0, none⟩) n2 c3)), (5, (Value.int .i64 x4))] [(500, (AObj.sym l5 false 1)), (501, (AObj.sym l6 false 1))] B X (dataK k)
theorem rIn1_text (C : Ct) (L : AtLoop) (n0 : Nat) (c1 : Nat) (n2 : Nat) (c3 : Nat) (x4 : Int) (l5 : List Go.Value) (l6 : List Go.Value) (B : Bx) (X : Xx) (k : List D → Prop) : rIn1 C L n0 c1 n2 c3 x4 l5 l6 B X k =
 (bcase (decide (x4 < (↑n0 : Int)))
 (bcase (decide (0 ≤ x4))
 (bcase (decide (x4 < (↑n0 : Int)))
 (∃ n1 : Int,
 ((At (l5) (0 + Int.toNat x4 * 1) 1 [(vI n1)]) ∧
 (bcase (decide (0 ≤ x4))
 (bcase (decide (x4 < (↑n2 : Int)))
 (∃ n3 : Int,
 ((At (l6) (0 + Int.toNat x4 * 1) 1 [(vI n3)]) ∧
 (bcase (n1 != n3)
 (((bcase (n1 != n3)
 (Qv (Value.bool true))
 ((Value.bool false) = (Value.bool true))) ∧
 ((∃ n4 : Int,
 ((At (l6) (0 + Int.toNat x4 * 1) 1 [(vI n4)]) ∧
 ((vI n4) = (vI n3)))) ∧
 ((bcase (decide (0 ≤ x4))
 (bcase (decide (x4 < (↑n2 : Int)))
 (Qv (Pt 501 (0 + Int.toNat x4 * 1)))
 False)
 False) ∧
 ((Qv (vI x4)) ∧
 ((Qv (Sl 501 (n2) (c3))) ∧
 ((∃ n4 : Int,
 ((At (l5) (0 + Int.toNat x4 * 1) 1 [(vI n4)]) ∧
 ((vI n4) = (vI n1)))) ∧
 ((bcase (decide (0 ≤ x4))
 (bcase (decide (x4 < (↑n0 : Int)))
 (Qv (Pt 500 (0 + Int.toNat x4 * 1)))
 False)
 False) ∧
 ((Qv (vI x4)) ∧
 ((Qv (Sl 500 (n0) (c1))) ∧
 True))))))))) ∧
 (k [(D.val (Value.bool false))]))
 (((bcase (n1 != n3)
 ((Value.bool true) = (Value.bool false))
 (Qv (Value.bool false))) ∧
 ((∃ n4 : Int,
 ((At (l6) (0 + Int.toNat x4 * 1) 1 [(vI n4)]) ∧
 ((vI n4) = (vI n3)))) ∧
 ((bcase (decide (0 ≤ x4))
 (bcase (decide (x4 < (↑n2 : Int)))
 (Qv (Pt 501 (0 + Int.toNat x4 * 1)))
 False)
 False) ∧
 ((Qv (vI x4)) ∧
 ((Qv (Sl 501 (n2) (c3))) ∧
 ((∃ n4 : Int,
 ((At (l5) (0 + Int.toNat x4 * 1) 1 [(vI n4)]) ∧
 ((vI n4) = (vI n1)))) ∧
 ((bcase (decide (0 ≤ x4))
 (bcase (decide (x4 < (↑n0 : Int)))
 (Qv (Pt 500 (0 + Int.toNat x4 * 1)))
 False)
 False) ∧
 ((Qv (vI x4)) ∧
 ((Qv (Sl 500 (n0) (c1))) ∧
 True))))))))) ∧
 (B [(Prod.mk 0 (Sl 500 (n0) (c1))), (Prod.mk 1 (Sl 501 (n2) (c3))), (Prod.mk 5 (vI (IntKind.wrap .i64 (x4 + 1))))] [(Prod.mk 500 (AObj.sym (l5) false 1)), (Prod.mk 501 (AObj.sym (l6) false 1))])))))
 False)
 False)))
 False)
 False)
 (X 0 [] [])) := by kernel_rfl
def nIn2 (C : Ct) (L : AtLoop) (k : List D → Prop) : Prop := wpNext Tryz.prog (hE C) L 48 0 .normal [] [] (dataK k)
theorem nIn2_text (C : Ct) (L : AtLoop) (k : List D → Prop) : nIn2 C L k =
 (k [(D.val (Value.bool true))]) := by kernel_rfl
end Go.Proofs.G5x

/- Chapter 3, strings: the rules of a string, by the program, in data. -/
namespace Go.Proofs.G5x
open Go Go.Abs Go.Proofs Go.Str
set_option maxRecDepth 100000
/-- strings.Split at " ; " -/
theorem conSp3 (l : List UInt8) (hl : l.length < 4294967281) : C5 40 [dS l, dS [32, 59, 32]] [dSs (cut3 [] l)] := by
  intro w args hg hr
  rw [reads2 hr]
  obtain ⟨m, hm⟩ := hMax hg
  refine (Tryz.strings_Split (bs l) (bs [32, 59, 32]) m w (by rw [bs_size]; exact hl) hm (by rw [bs_size]; show 1 ≤ 3; decide)).mono ?_
  rintro e w' ⟨rfl, rfl⟩
  have hsp := split3 l.length l (Nat.le_refl _)
  have hlen : Lib.countB (bs l) (bs [32, 59, 32]) + 1 = (cut3 [] l).length := by
    have := Lib.splitB_all (bs [32, 59, 32]) (by rw [bs_size]; show 1 ≤ 3; decide) 0 _ (bs l) rfl
    rw [← this, hsp, List.length_map]
  have hcs : (Lib.splitB (bs [32, 59, 32]) 0 (Lib.countB (bs l) (bs [32, 59, 32])) (bs l)).map Value.string = strs (cut3 [] l) := by rw [hsp, List.map_map]; rfl
  rw [hlen, hcs]
  have hlen2 : (strs (cut3 [] l)).length = (cut3 [] l).length := by simp [strs]
  refine ⟨⟨[.slice _ _ _], [w.heap.size], rfl, .cons ?_ (.nil _)⟩, (Go.RowKit.Below.refl _ _).alloc (Nat.le_refl _) _⟩
  refine .sl [] _ 1 _ w.heap.size 0 _ (strs (cut3 [] l)).toArray _ (alloc_get _ _) (Nat.le_refl _) (by simp) (by simp) (Nat.le_refl _) ?_ (by simp) ?_
  · rw [hlen2]; simp [List.take_of_length_le]
  · intro v hv
    obtain ⟨x, _, rfl⟩ := List.mem_map.1 hv
    rfl
theorem conCCn : C5 82 [.nil] [dI 10] := by
  refine con_flat hokP mixed Tryz.func82 rfl (by show 0 ≤ 400; omega) rfl (by kernel_rfl) (fun caps => ?_)
  show gCCn _ _ _
  rw [gCCn_text]
theorem headE_nil {r : Ru} (h : r.ss = []) : headE r ≠ 0 := by
  have hc : cntE r.ss.length = 10 := by rw [h]; rfl
  unfold headE; rw [hc]
  split
  · split <;> decide
  · decide
theorem chk_nil {r : Ru} (h : r.ss = []) : chk r = (0, headE r) ∧ (chk r).2 ≠ 0 := by
  have e : chk r = (0, headE r) := by rw [chk, if_neg (headE_nil h)]
  exact ⟨e, by rw [e]; exact headE_nil h⟩
theorem conKRn (r : Ru) (hn : r.ss = []) : C5 42 [r.dn] [dI (chk r).1, dI (chk r).2] := by
  refine con_of (L := fun _ s b => False) hokP mixed Tryz.func42 rfl (by show 0 ≤ 400; omega) rfl (ids := [0]) (by kernel_rfl) rfl (fun caps => ?_) (fun id hid => ?_)
  · show gKRn _ _ r.w r.st r.fi r.hlo r.hhi r.co r.slo r.shi r.flo r.fhi _
    rw [gKRn_text]
    simp only [Qv, eq_self, true_and, and_true]
    refine ⟨_, ⟨conCW 1 2500 [r.w] (by simp)⟩, _, ⟨conCW 1 1000 [r.st, r.fi] (by simp)⟩, _, ⟨conCW 0 20000 [r.hlo, r.hhi, r.co] (by simp)⟩, _, ⟨conCW 1 100 [r.slo, r.shi] (by simp)⟩, _, ⟨conCW 0 100 [r.flo, r.fhi] (by simp)⟩, _, ⟨conCN [(r.fi, r.st), (r.hlo, r.hhi), (r.slo, r.shi), (r.flo, r.fhi)] (by simp)⟩, ?_⟩
    refine ⟨_, ⟨conCCn⟩, _, ⟨conFE [_, _, _, _, _, _, _] (by simp)⟩, ?_⟩
    have hc : (10 : Int) = cntE r.ss.length := by rw [hn]; rfl
    rw [hc, headE_eq]
    refine bc_bne (fun h => ?_) (fun h => absurd h (headE_nil hn))
    show [dI 0, dI (headE r)] = _
    rw [(chk_nil hn).1]
  · obtain rfl := List.mem_singleton.1 hid
    exact ⟨Unit, fun _ => ([], []), fun _ => False, fun _ => 0, ⟨fun _ _ h => h.elim, by kernel_rfl, fun _ h => h.elim⟩⟩
theorem wr1 : IntKind.wrap .i64 (0 + 1) = 1 := by rfl
theorem wr2 : IntKind.wrap .i64 (1 + 1) = 2 := by rfl
theorem wr3 : IntKind.wrap .i64 (2 + 1) = 3 := by rfl
theorem wr4 : IntKind.wrap .i64 (3 + 1) = 4 := by rfl
theorem wr5 : IntKind.wrap .i64 (4 + 1) = 5 := by rfl
theorem wr6 : IntKind.wrap .i64 (5 + 1) = 6 := by rfl
theorem wr7 : IntKind.wrap .i64 (6 + 1) = 7 := by rfl
theorem wr8 : IntKind.wrap .i64 (7 + 1) = 8 := by rfl
theorem wr9 : IntKind.wrap .i64 (8 + 1) = 9 := by rfl
theorem wr10 : IntKind.wrap .i64 (9 + 1) = 10 := by rfl
theorem len5 {α : Type} {l : List α} (h : l.length = 5) : ∃ a b c d e, l = [a, b, c, d, e] := by
  match l, h with
  | [a, b, c, d, e], _ => exact ⟨a, b, c, d, e, rfl⟩
theorem len10 {α : Type} {l : List α} (h : l.length = 10) : ∃ a b c d e f g i j k, l = [a, b, c, d, e, f, g, i, j, k] := by
  match l, h with
  | [a, b, c, d, e, f, g, i, j, k], _ => exact ⟨a, b, c, d, e, f, g, i, j, k, rfl⟩
/-- stands by their parts -/
def stD (ps : List (List UInt8)) : List Fv := ps.map fun p => mkS (numsW (cutA 32 [] p))
theorem stD_snoc {ps : List (List UInt8)} {i : Nat} (h : i < ps.length) : stD (ps.take (i + 1)) = stD (ps.take i) ++ [mkS (numsW (cutA 32 [] ps[i]))] := by
  rw [List.take_succ_eq_append_getElem h, stD, stD, List.map_append]; rfl
theorem vs5_snoc (l : List Fv) (s : Fv) : vs5 (l ++ [s]) = vs5 l ++ [vI s.a, vI s.b, vI s.c, vI s.d, vI s.e] := by
  rw [vs5, List.flatMap_append]; rfl
abbrev zR : D := .agg [dI 0, dI 0, dI 0, dI 0, dI 0, dI 0, .nil, dI 0, dI 0, dI 0, dI 0]
theorem syn_no0 {g : W} {gs : List W} (h : okP 10 g = false) : synG (g :: gs) = none := by rw [synG, h]; rfl
theorem syn_noI {g : W} {gs : List W} {q : W} (hq : q ∈ gs) (h : okP 5 q = false) : synG (g :: gs) = none := by
  rw [synG, if_neg]
  intro hh
  simp only [Bool.and_eq_true, List.all_eq_true] at hh
  rw [hh.2 q hq] at h; cases h
theorem okP_yes {n : Nat} {g : W} (h1 : g.length = n) (h2 : okW g = true) : okP n g = true := by simp [okP, h1, h2]
theorem conPR (t : List UInt8) (ht : t.length < 1000000) : C5 14 [dS t] (resR (synG (partsG t))) := by
  obtain ⟨p0, ps, hc⟩ : ∃ p0 ps, cut3 [] t = p0 :: ps := by
    cases h : cut3 [] t with
    | nil => exact absurd h (cut3_ne _ _)
    | cons a r => exact ⟨a, r, rfl⟩
  have htot : ∀ (n : Nat) (l acc : List UInt8), l.length ≤ n → (cut3 acc l).length ≤ l.length + 1 ∧ ∀ p ∈ cut3 acc l, p.length ≤ acc.length + l.length := by
    intro n
    induction n with
    | zero =>
      intro l acc hl
      obtain rfl : l = [] := List.length_eq_zero_iff.1 (by omega)
      rw [cut3_nil]; simp
    | succ n ih =>
      intro l acc hl
      cases l with
      | nil => rw [cut3_nil]; simp
      | cons b r =>
        cases hp : ([32, 59, 32] : List UInt8).isPrefixOf (b :: r) with
        | false =>
          rw [cut3_skip hp]
          have := ih r (acc ++ [b]) (by simp at hl; omega)
          refine ⟨by simp; omega, fun p hp => ?_⟩
          have := this.2 p hp
          simp at this ⊢; omega
        | true =>
          have e := pre3 hp
          have hlen : ((b :: r).drop 3).length + 3 = (b :: r).length := by
            have := congrArg List.length e
            simp only [List.length_cons] at this ⊢; omega
          rw [e, cut3_hit]
          have := ih ((b :: r).drop 3) [] (by omega)
          refine ⟨by simp only [List.length_cons] at hlen this ⊢; omega, fun p hp => ?_⟩
          rcases List.mem_cons.1 hp with rfl | hp
          · omega
          · have := this.2 p hp
            simp only [List.length_nil, List.length_cons] at this hlen ⊢; omega
  have hT := htot _ t [] (Nat.le_refl _)
  rw [hc] at hT
  have hlen : ps.length < 1000000 := by have := hT.1; simp at this; omega
  have hp : ∀ p ∈ p0 :: ps, p.length < 1000000 := fun p h => by have := hT.2 p h; simp at this; omega
  have hG : partsG t = cutA 32 [] p0 :: ps.map (cutA 32 []) := by show (cut3 [] t).map _ = _; rw [hc]; rfl
  rw [hG]
  have cS3 := conSp3 t (by omega)
  rw [hc] at cS3
  have cS : ∀ p ∈ p0 :: ps, C5 40 [dS p, dS [32]] [dSs (cutA 32 [] p)] := fun p h => conSp p 32 (by have := hp p h; omega)
  have nS : ∀ p ∈ p0 :: ps, (cutA 32 [] p).length < 1000000000 := fun p h => by
    have h1 := cutA_len (c := 32) (l := p) (acc := [])
    have := List.count_le_length (a := (32 : UInt8)) (l := p)
    have := hp p h; omega
  let R0 : Ru := mkR (numsW (cutA 32 [] p0)) []
  let S : Nat → List Fv := fun i => stD (ps.take i)
  let inv : Nat → Prop := fun i => i ≤ ps.length ∧ okP 10 (cutA 32 [] p0) = true ∧ ∀ p ∈ ps.take i, okP 5 (cutA 32 [] p) = true
  let st : Nat → Slots × Blocks := fun i => match i with
    | 0 => zPR1 1 ps.length ps.length ((0 : Nat) : Int) 0 0 0 0 0 0 0 0 0 0 R0.w R0.st R0.fi R0.hlo R0.hhi R0.co R0.slo R0.shi R0.flo R0.fhi (strs (p0 :: ps))
    | i + 1 => zPR2 1 ps.length ps.length ((i + 1 : Nat) : Int) 0 0 0 0 0 0 0 0 0 0 R0.w R0.st R0.fi R0.hlo R0.hhi R0.co (i + 1) R0.slo R0.shi R0.flo R0.fhi (strs (p0 :: ps)) (vs5 (S (i + 1)))
  refine con_of (L := fun _ s b => ∃ x, inv x ∧ st x = (s, b)) hokX mixed Tryz.func14 rfl (by show 0 ≤ 400; omega) rfl (ids := [0]) (by kernel_rfl) rfl (fun caps => ?_) (fun id hid => ?_)
  · show gPR _ _ (bs t) _
    rw [gPR_text]
    simp only [Qv, eq_self, true_and, and_true]
    refine .inr ⟨_, _, ⟨cS3⟩, ?_⟩
    have q0 : (0 : Int) < ((p0 :: ps).length : Int) := by simp only [List.length_cons]; omega
    have q1 : (1 : Int) ≤ ((p0 :: ps).length : Int) := by simp only [List.length_cons]; omega
    have q2 : (p0 :: ps).length ≤ (p0 :: ps).length := Nat.le_refl _
    have a0 : At (strs (p0 :: ps)) 0 1 [str p0] := strs_at (p0 :: ps) 0 (by simp)
    simp only [bc_t q0, bc_t q1, bc_t q2, bc_o (strs_length _), atS a0, Qv, eq_self, true_and, and_true]
    refine .inr ⟨_, _, ⟨cS p0 (by simp)⟩, ?_⟩
    have bad : okP 10 (cutA 32 [] p0) = false → (fun r => r = resR (synG (cutA 32 [] p0 :: ps.map (cutA 32 [])))) [zR, dI 7] := fun h => by
      show _ = _; rw [syn_no0 h]; rfl
    refine bc_bne (fun h => bad ?_) (fun h => ?_)
    · unfold okP; rw [decide_eq_false (by omega)]; rfl
    · have hl10 : (cutA 32 [] p0).length = 10 := by omega
      have c1 := conaN (cutA 32 [] p0) (by omega)
      simp only [strs_whole, bc_t (whole_le (cutA 32 [] p0)), Qv, eq_self, true_and, and_true]
      cases hok : okW (cutA 32 [] p0) with
      | false =>
        rw [hok] at c1
        exact .inr ⟨⟨c1⟩, bad (by unfold okP; rw [hok, Bool.and_false])⟩
      | true =>
        rw [hok] at c1
        refine .inl ⟨⟨c1⟩, ?_⟩
        have hok10 := okP_yes hl10 hok
        have hR0 : R0 = mkR (numsW (cutA 32 [] p0)) [] := rfl
        clear_value R0
        obtain ⟨a, b, c, d, e, f, g, i, j, k, hg⟩ := len10 hl10
        have cO : ∀ w ∈ cutA 32 [] p0, C5 46 [dS w] [dI (numF 0 w)] := fun w hw => connO w (okW_mem hok hw)
        rw [hg] at cO hR0 ⊢
        have l0 : (0 : Int) < (([a, b, c, d, e, f, g, i, j, k] : W).length : Int) := by show (0 : Int) < ((10 : Nat) : Int); decide
        have l1 : (1 : Int) < (([a, b, c, d, e, f, g, i, j, k] : W).length : Int) := by show (1 : Int) < ((10 : Nat) : Int); decide
        have l2 : (2 : Int) < (([a, b, c, d, e, f, g, i, j, k] : W).length : Int) := by show (2 : Int) < ((10 : Nat) : Int); decide
        have l3 : (3 : Int) < (([a, b, c, d, e, f, g, i, j, k] : W).length : Int) := by show (3 : Int) < ((10 : Nat) : Int); decide
        have l4 : (4 : Int) < (([a, b, c, d, e, f, g, i, j, k] : W).length : Int) := by show (4 : Int) < ((10 : Nat) : Int); decide
        have l5 : (5 : Int) < (([a, b, c, d, e, f, g, i, j, k] : W).length : Int) := by show (5 : Int) < ((10 : Nat) : Int); decide
        have l6 : (6 : Int) < (([a, b, c, d, e, f, g, i, j, k] : W).length : Int) := by show (6 : Int) < ((10 : Nat) : Int); decide
        have l7 : (7 : Int) < (([a, b, c, d, e, f, g, i, j, k] : W).length : Int) := by show (7 : Int) < ((10 : Nat) : Int); decide
        have l8 : (8 : Int) < (([a, b, c, d, e, f, g, i, j, k] : W).length : Int) := by show (8 : Int) < ((10 : Nat) : Int); decide
        have l9 : (9 : Int) < (([a, b, c, d, e, f, g, i, j, k] : W).length : Int) := by show (9 : Int) < ((10 : Nat) : Int); decide
        have l10 : ¬ (10 : Int) < (([a, b, c, d, e, f, g, i, j, k] : W).length : Int) := by show ¬ (10 : Int) < ((10 : Nat) : Int); decide
        have t0 : At (strs [a, b, c, d, e, f, g, i, j, k]) 0 1 [str a] := ⟨by simp [strs], rfl⟩
        have t1 : At (strs [a, b, c, d, e, f, g, i, j, k]) 1 1 [str b] := ⟨by simp [strs], rfl⟩
        have t2 : At (strs [a, b, c, d, e, f, g, i, j, k]) 2 1 [str c] := ⟨by simp [strs], rfl⟩
        have t3 : At (strs [a, b, c, d, e, f, g, i, j, k]) 3 1 [str d] := ⟨by simp [strs], rfl⟩
        have t4 : At (strs [a, b, c, d, e, f, g, i, j, k]) 4 1 [str e] := ⟨by simp [strs], rfl⟩
        have t5 : At (strs [a, b, c, d, e, f, g, i, j, k]) 5 1 [str f] := ⟨by simp [strs], rfl⟩
        have t6 : At (strs [a, b, c, d, e, f, g, i, j, k]) 6 1 [str g] := ⟨by simp [strs], rfl⟩
        have t7 : At (strs [a, b, c, d, e, f, g, i, j, k]) 7 1 [str i] := ⟨by simp [strs], rfl⟩
        have t8 : At (strs [a, b, c, d, e, f, g, i, j, k]) 8 1 [str j] := ⟨by simp [strs], rfl⟩
        have t9 : At (strs [a, b, c, d, e, f, g, i, j, k]) 9 1 [str k] := ⟨by simp [strs], rfl⟩
        simp only [wr1, wr2, wr3, wr4, wr5, wr6, wr7, wr8, wr9, wr10, bc_t l0, bc_t l1, bc_t l2, bc_t l3, bc_t l4, bc_t l5, bc_t l6, bc_t l7, bc_t l8, bc_t l9, bc_f l10, atS t0, atS t1, atS t2, atS t3, atS t4, atS t5, atS t6, atS t7, atS t8, atS t9]
        refine ⟨_, ⟨cO a (by simp)⟩, _, ⟨cO b (by simp)⟩, _, ⟨cO c (by simp)⟩, _, ⟨cO d (by simp)⟩, _, ⟨cO e (by simp)⟩, _, ⟨cO f (by simp)⟩, _, ⟨cO g (by simp)⟩, _, ⟨cO i (by simp)⟩, _, ⟨cO j (by simp)⟩, _, ⟨cO k (by simp)⟩, ?_⟩
        refine ⟨0, ⟨Nat.zero_le _, hok10, fun p hp => by simp at hp⟩, ?_⟩
        show zPR1 _ _ _ _ _ _ _ _ _ _ _ _ _ _ R0.w R0.st R0.fi R0.hlo R0.hhi R0.co R0.slo R0.shi R0.flo R0.fhi _ = _
        rw [hR0]; rfl
  · obtain rfl := List.mem_singleton.1 hid
    refine ⟨_, st, inv, fun i => ps.length - i, ⟨fun s b h => h, by kernel_rfl, ?_⟩⟩
    rintro i ⟨hi, h10, hall⟩
    have bad : ∀ (h1 : i < ps.length), okP 5 (cutA 32 [] ps[i]) = false → (fun r => r = resR (synG (cutA 32 [] p0 :: ps.map (cutA 32 [])))) [zR, dI 7] := fun h1 h => by
      show _ = _
      rw [syn_noI (q := cutA 32 [] ps[i]) (List.mem_map.2 ⟨_, List.getElem_mem h1, rfl⟩) h]; rfl
    have yes : (∀ p ∈ ps, okP 5 (cutA 32 [] p) = true) → synG (cutA 32 [] p0 :: ps.map (cutA 32 [])) = some { R0 with ss := stD ps } := fun h => by
      rw [synG, if_pos]
      · rw [List.map_map]; rfl
      · simp only [Bool.and_eq_true, List.all_eq_true]
        refine ⟨h10, fun q hq => ?_⟩
        obtain ⟨p, hp, rfl⟩ := List.mem_map.1 hq
        exact h p hp
    have next : ∀ (h1 : i < ps.length), okP 5 (cutA 32 [] ps[i]) = true → inv (i + 1) := fun h1 h => by
      refine ⟨h1, h10, fun p hp => ?_⟩
      rw [List.take_succ_eq_append_getElem h1] at hp
      rcases List.mem_append.1 hp with hp | hp
      · exact hall p hp
      · obtain rfl := List.mem_singleton.1 hp; exact h
    cases i with
    | zero =>
      show rPR1 _ _ 1 ps.length ps.length ((0 : Nat) : Int) 0 0 0 0 0 0 0 0 0 0 R0.w R0.st R0.fi R0.hlo R0.hhi R0.co R0.slo R0.shi R0.flo R0.fhi (strs (p0 :: ps)) _ _ _
      rw [rPR1_text]
      refine bc_dec (fun h => ?_) (fun h => ?_)
      · have h1 : 0 < ps.length := by omega
        have hm : ps[0] ∈ p0 :: ps := List.mem_cons_of_mem _ (List.getElem_mem h1)
        simp only [bc_t (show (0 : Int) ≤ ((0 : Nat) : Int) by omega), bc_t h, Int.toNat_natCast, atS (strs_at1 p0 ps 0 h1), Qv, eq_self, true_and, and_true]
        refine .inr ⟨_, _, ⟨cS _ hm⟩, ?_⟩
        refine bc_bne (fun h => bad h1 ?_) (fun h => ?_)
        · unfold okP; rw [decide_eq_false (by omega)]; rfl
        · have hl5 : (cutA 32 [] ps[0]).length = 5 := by omega
          have c1 := conaN (cutA 32 [] ps[0]) (by omega)
          simp only [strs_whole, bc_t (whole_le (cutA 32 [] ps[0])), Qv, eq_self, true_and, and_true]
          cases hok : okW (cutA 32 [] ps[0]) with
          | false =>
            rw [hok] at c1
            exact .inr ⟨⟨c1⟩, bad h1 (by unfold okP; rw [hok, Bool.and_false])⟩
          | true =>
            rw [hok] at c1
            refine .inl ⟨⟨c1⟩, ?_⟩
            have hnx := next h1 (okP_yes hl5 hok)
            have eS := stD_snoc h1
            obtain ⟨a, b, c, d, e, hg⟩ := len5 hl5
            have cO : ∀ w ∈ cutA 32 [] ps[0], C5 46 [dS w] [dI (numF 0 w)] := fun w hw => connO w (okW_mem hok hw)
            rw [hg] at cO eS ⊢
            have l0 : (0 : Int) < (([a, b, c, d, e] : W).length : Int) := by show (0 : Int) < ((5 : Nat) : Int); decide
            have l1 : (1 : Int) < (([a, b, c, d, e] : W).length : Int) := by show (1 : Int) < ((5 : Nat) : Int); decide
            have l2 : (2 : Int) < (([a, b, c, d, e] : W).length : Int) := by show (2 : Int) < ((5 : Nat) : Int); decide
            have l3 : (3 : Int) < (([a, b, c, d, e] : W).length : Int) := by show (3 : Int) < ((5 : Nat) : Int); decide
            have l4 : (4 : Int) < (([a, b, c, d, e] : W).length : Int) := by show (4 : Int) < ((5 : Nat) : Int); decide
            have l5 : ¬ (5 : Int) < (([a, b, c, d, e] : W).length : Int) := by show ¬ (5 : Int) < ((5 : Nat) : Int); decide
            have t0 : At (strs [a, b, c, d, e]) 0 1 [str a] := ⟨by simp [strs], rfl⟩
            have t1 : At (strs [a, b, c, d, e]) 1 1 [str b] := ⟨by simp [strs], rfl⟩
            have t2 : At (strs [a, b, c, d, e]) 2 1 [str c] := ⟨by simp [strs], rfl⟩
            have t3 : At (strs [a, b, c, d, e]) 3 1 [str d] := ⟨by simp [strs], rfl⟩
            have t4 : At (strs [a, b, c, d, e]) 4 1 [str e] := ⟨by simp [strs], rfl⟩
            simp only [wr1, wr2, wr3, wr4, wr5, bc_t l0, bc_t l1, bc_t l2, bc_t l3, bc_t l4, bc_f l5, atS t0, atS t1, atS t2, atS t3, atS t4]
            refine ⟨_, ⟨cO a (by simp)⟩, _, ⟨cO b (by simp)⟩, _, ⟨cO c (by simp)⟩, _, ⟨cO d (by simp)⟩, _, ⟨cO e (by simp)⟩, ?_⟩
            refine ⟨1, hnx, by show ps.length - 1 < ps.length - 0; omega, ?_⟩
            show zPR2 _ _ _ _ _ _ _ _ _ _ _ _ _ _ _ _ _ _ _ _ _ _ _ _ _ _ (vs5 (stD (ps.take (0 + 1)))) = _
            rw [eS, w64 (by omega) (by omega)]; rfl
      · show (if 0 = 0 then _ else _)
        rw [if_pos rfl]
        show nPR3 _ _ 0 0 0 0 0 0 0 0 0 0 R0.w R0.st R0.fi R0.hlo R0.hhi R0.co R0.slo R0.shi R0.flo R0.fhi _
        rw [nPR3_text]
        have hps : ps = [] := List.length_eq_zero_iff.1 (by omega)
        have hy := yes (by rw [hps]; simp)
        have hs0 : ({ R0 with ss := stD ps } : Ru) = R0 := by rw [hps]; rfl
        rw [hs0] at hy
        refine ⟨_, _, ⟨conKRn R0 rfl⟩, bc_bne (fun q => ?_) (fun q => absurd q (chk_nil (r := R0) rfl).2)⟩
        show _ = resR _
        rw [hy]
        show _ = if (chk R0).2 = 0 then _ else _
        rw [if_neg q]; rfl
    | succ i =>
      show rPR2 _ _ 1 ps.length ps.length ((i + 1 : Nat) : Int) 0 0 0 0 0 0 0 0 0 0 R0.w R0.st R0.fi R0.hlo R0.hhi R0.co (i + 1) R0.slo R0.shi R0.flo R0.fhi (strs (p0 :: ps)) (vs5 (S (i + 1))) _ _ _
      rw [rPR2_text]
      have nS' : (S (i + 1)).length = i + 1 := by show (stD (ps.take (i + 1))).length = _; rw [stD, List.length_map, List.length_take]; omega
      have nV : (vs5 (S (i + 1))).length = (i + 1) * 5 := by rw [vs5_length, nS']
      refine bc_dec (fun h => ?_) (fun h => ?_)
      · have h1 : i + 1 < ps.length := by omega
        have hm : ps[i + 1] ∈ p0 :: ps := List.mem_cons_of_mem _ (List.getElem_mem h1)
        simp only [bc_t (show (0 : Int) ≤ ((i + 1 : Nat) : Int) by omega), bc_t h, Int.toNat_natCast, atS (strs_at1 p0 ps (i + 1) h1), Qv, eq_self, true_and, and_true]
        refine .inr ⟨_, _, ⟨cS _ hm⟩, ?_⟩
        refine bc_bne (fun h => bad h1 ?_) (fun h => ?_)
        · unfold okP; rw [decide_eq_false (by omega)]; rfl
        · have hl5 : (cutA 32 [] ps[i + 1]).length = 5 := by omega
          have c1 := conaN (cutA 32 [] ps[i + 1]) (by omega)
          simp only [strs_whole, bc_t (whole_le (cutA 32 [] ps[i + 1])), Qv, eq_self, true_and, and_true]
          cases hok : okW (cutA 32 [] ps[i + 1]) with
          | false =>
            rw [hok] at c1
            exact .inr ⟨⟨c1⟩, bad h1 (by unfold okP; rw [hok, Bool.and_false])⟩
          | true =>
            rw [hok] at c1
            refine .inl ⟨⟨c1⟩, ?_⟩
            have hnx := next h1 (okP_yes hl5 hok)
            have eS := stD_snoc h1
            obtain ⟨a, b, c, d, e, hg⟩ := len5 hl5
            have cO : ∀ w ∈ cutA 32 [] ps[i + 1], C5 46 [dS w] [dI (numF 0 w)] := fun w hw => connO w (okW_mem hok hw)
            rw [hg] at cO eS ⊢
            have l0 : (0 : Int) < (([a, b, c, d, e] : W).length : Int) := by show (0 : Int) < ((5 : Nat) : Int); decide
            have l1 : (1 : Int) < (([a, b, c, d, e] : W).length : Int) := by show (1 : Int) < ((5 : Nat) : Int); decide
            have l2 : (2 : Int) < (([a, b, c, d, e] : W).length : Int) := by show (2 : Int) < ((5 : Nat) : Int); decide
            have l3 : (3 : Int) < (([a, b, c, d, e] : W).length : Int) := by show (3 : Int) < ((5 : Nat) : Int); decide
            have l4 : (4 : Int) < (([a, b, c, d, e] : W).length : Int) := by show (4 : Int) < ((5 : Nat) : Int); decide
            have l5 : ¬ (5 : Int) < (([a, b, c, d, e] : W).length : Int) := by show ¬ (5 : Int) < ((5 : Nat) : Int); decide
            have t0 : At (strs [a, b, c, d, e]) 0 1 [str a] := ⟨by simp [strs], rfl⟩
            have t1 : At (strs [a, b, c, d, e]) 1 1 [str b] := ⟨by simp [strs], rfl⟩
            have t2 : At (strs [a, b, c, d, e]) 2 1 [str c] := ⟨by simp [strs], rfl⟩
            have t3 : At (strs [a, b, c, d, e]) 3 1 [str d] := ⟨by simp [strs], rfl⟩
            have t4 : At (strs [a, b, c, d, e]) 4 1 [str e] := ⟨by simp [strs], rfl⟩
            simp only [wr1, wr2, wr3, wr4, wr5, bc_t l0, bc_t l1, bc_t l2, bc_t l3, bc_t l4, bc_f l5, atS t0, atS t1, atS t2, atS t3, atS t4]
            refine ⟨_, ⟨cO a (by simp)⟩, _, ⟨cO b (by simp)⟩, _, ⟨cO c (by simp)⟩, _, ⟨cO d (by simp)⟩, _, ⟨cO e (by simp)⟩, ?_⟩
            refine bc_yes (by omega) (bc_yes (by omega) (bc_yes (by omega) (bc_yes (by omega) (bc_yes (by omega) ?_))))
            refine ⟨i + 2, hnx, by show ps.length - (i + 2) < ps.length - (i + 1); omega, ?_⟩
            show zPR2 _ _ _ _ _ _ _ _ _ _ _ _ _ _ _ _ _ _ _ _ _ _ _ _ _ _ (vs5 (stD (ps.take (i + 1 + 1)))) = _
            rw [eS, vs5_snoc, show List.take ((i + 1) * 5) (List.drop 0 (vs5 (S (i + 1)))) = vs5 (S (i + 1)) by rw [List.drop_zero, List.take_of_length_le (by omega)], w64 (by omega) (by omega)]; rfl
      · show (if 0 = 0 then _ else _)
        rw [if_pos rfl]
        show nPR4 _ _ 0 0 0 0 0 0 0 0 0 0 R0.w R0.st R0.fi R0.hlo R0.hhi R0.co (i + 1) R0.slo R0.shi R0.flo R0.fhi (vs5 (S (i + 1))) _
        rw [nPR4_text]
        have e : i + 1 = ps.length := by omega
        have eS : S (i + 1) = stD ps := by show stD (ps.take (i + 1)) = _; rw [e, List.take_length]
        have hy := yes (by rw [e, List.take_length] at hall; exact hall)
        let R : Ru := { R0 with ss := stD ps }
        have nR : R.ss.length = i + 1 := by show (stD ps).length = _; rw [← eS]; exact nS'
        have c := conKR R (by omega)
        have hd : R.d = .agg [dI R0.w, dI R0.st, dI R0.fi, dI R0.hlo, dI R0.hhi, dI R0.co, .sl (i + 1) 5 (vs5 (S (i + 1))), dI R0.slo, dI R0.shi, dI R0.flo, dI R0.fhi] := by
          show D.agg [dI R0.w, dI R0.st, dI R0.fi, dI R0.hlo, dI R0.hhi, dI R0.co, .sl (stD ps).length 5 (vs5 (stD ps)), dI R0.slo, dI R0.shi, dI R0.flo, dI R0.fhi] = _
          rw [← eS, nS']
        rw [hd] at c
        have hw5 : List.take ((i + 1) * 5) (List.drop 0 (vs5 (S (i + 1)))) = vs5 (S (i + 1)) := by rw [List.drop_zero, List.take_of_length_le (by omega)]
        have y5 : 0 + (i + 1) * 5 ≤ (vs5 (S (i + 1))).length := by omega
        simp only [bc_t y5, hw5, Qv, eq_self, true_and]
        refine ⟨_, _, ⟨c⟩, bc_bne (fun q => ?_) (fun q => ⟨nV, ?_⟩)⟩
        · show _ = resR _
          rw [hy]
          show _ = if (chk R).2 = 0 then _ else _
          rw [if_neg q]; rfl
        · show _ = resR _
          rw [hy]
          show _ = if (chk R).2 = 0 then [R.d, dI 0] else _
          rw [if_pos q, hd]
end Go.Proofs.G5x
