/- Texts of the proof, put together: GvNT, GvNA, GvVL6, GvVL7, GvNB, GvNO. -/
import Derived.Test.YthpmmiapcjgbmaaGreatDoorP5
/- What is left to show of each function, written out; the kernel reckons it. -/
namespace Go.Proofs.G5v
open Go Go.Abs Go.Proofs
set_option maxRecDepth 100000
set_option linter.unusedVariables false
def numB (s : ByteArray) : Int := (s.data.toList.foldl (fun (a : Int) (b : UInt8) => 10 * a + ((b.toNat : Int) - 48)) 0)
def atoiF : List D → Option (List D) := fun ds => match ds with | [.val (.string s)] => some [.val (.int .i64 (numB s)), .val .nilIface] | _ => none
def preS (C : Ct) : FuncId → Option Handler := fun g => if g == 86 then some (stateH (limL 3)) else if g == 9 then some (fixH C copyMR) else if g == 12 then some (fixH C copyMC) else if g == 84 then some (fixH C atoiF) else if [5, 72, 44, 38, 51, 40, 89, 80, 42, 48, 83, 50, 47, 10, 20, 11, 21, 8, 19, 14, 25, 15, 26, 13, 24, 53, 52, 22, 23, 18, 16, 17].contains g then some (saidH Tryz.prog C) else none
abbrev hS (C : Ct) : Handler := handlerX Tryz.prog (preS C) 12 6
abbrev hP (C : Ct) : Handler := handlerX Tryz.prog (preS C) 3 6
def gsN (C : Ct) (L : AtLoop) (s0 : ByteArray) (k : List D → Prop) : Prop := wpFn Tryz.prog (hS C) L 0 83 #[.string s0] (heapOf []) (dataK k)
theorem gsN_text (C : Ct) (L : AtLoop) (s0 : ByteArray) (k : List D → Prop) : gsN C L s0 k =
 (bcase ((↑(ByteArray.size s0) : Int) == 0)
 (k kF)
 (bcase (decide ((↑(ByteArray.size s0) : Int) > 7))
 (k kF)
 (bcase (decide ((↑(ByteArray.size s0) : Int) > 1))
 (∃ b1 : UInt8,
 ((ByteAt (s0) 0 (b1)) ∧
 (bcase ((↑(UInt8.toNat b1) : Int) == 48)
 (k kF)
 (L 0 [(Prod.mk 0 (Value.string (s0))), (Prod.mk 23 (vI ((↑(ByteArray.size s0) : Int)))), (Prod.mk 24 (vI 0))] []))))
 (L 0 [(Prod.mk 0 (Value.string (s0))), (Prod.mk 23 (vI ((↑(ByteArray.size s0) : Int)))), (Prod.mk 24 (vI 0))] [])))) := by kernel_rfl
abbrev zsN1 (s0 : ByteArray) (x1 : Int) (x2 : Int) : Slots × Blocks := ([(0, (Value.string s0)), (23, (Value.int .i64 x1)), (24, (Value.int .i64 x2))], [])
def rsN1 (C : Ct) (L : AtLoop) (s0 : ByteArray) (x1 : Int) (x2 : Int) (B : Bx) (X : Xx) (k : List D → Prop) : Prop := wpRound Tryz.prog (hS C) L 83 0 [(0, (Value.string s0)), (23, (Value.int .i64 x1)), (24, (Value.int .i64 x2))] [] B X (dataK k)
theorem rsN1_text (C : Ct) (L : AtLoop) (s0 : ByteArray) (x1 : Int) (x2 : Int) (B : Bx) (X : Xx) (k : List D → Prop) : rsN1 C L s0 x1 x2 B X k =
 (bcase (decide (x2 < x1))
 (bcase (decide (0 ≤ x2))
 (∃ b1 : UInt8,
 ((ByteAt (s0) (Int.toNat x2) (b1)) ∧
 (bcase (decide (48 ≤ (↑(UInt8.toNat b1) : Int)))
 (bcase (decide ((↑(UInt8.toNat b1) : Int) ≤ 57))
 (B [(Prod.mk 0 (Value.string (s0))), (Prod.mk 23 (vI x1)), (Prod.mk 24 (vI (IntKind.wrap .i64 (x2 + 1))))] [])
 (k kF))
 (k kF))))
 False)
 (X 0 [] [])) := by kernel_rfl
def nsN2 (C : Ct) (L : AtLoop) (k : List D → Prop) : Prop := wpNext Tryz.prog (hS C) L 83 0 .normal [] [] (dataK k)
theorem nsN2_text (C : Ct) (L : AtLoop) (k : List D → Prop) : nsN2 C L k =
 (k kT) := by kernel_rfl
def gwC (C : Ct) (L : AtLoop) (x0 : Int) (x1 : Int) (k : List D → Prop) : Prop := wpFn Tryz.prog (hS C) L 0 10 #[.agg #[.int .i64 x0, .int .i64 x1]] (heapOf []) (dataK k)
theorem gwC_text (C : Ct) (L : AtLoop) (x0 : Int) (x1 : Int) (k : List D → Prop) : gwC C L x0 x1 k =
 (∃ s1 : ByteArray,
 ((Says C 72 [(dI x0)] [(D.val (Value.string (s1)))]) ∧
 (∃ s2 : ByteArray,
 ((Says C 72 [(dI x1)] [(D.val (Value.string (s2)))]) ∧
 (∃ s3 : ByteArray,
 ((Says C 38 [(D.sl 2 1 [(Value.string (s1)), (Value.string (s2))]), (D.val (Value.string ({ data := #[32] })))] [(D.val (Value.string (s3)))]) ∧
 (k [(D.val (Value.string (s3)))]))))))) := by kernel_rfl
def gwL (C : Ct) (L : AtLoop) (s0 : ByteArray) (n1 : Nat) (c1 : Nat) (l1 : List Value) (k : List D → Prop) : Prop := wpFn Tryz.prog (hS C) L 0 11 #[.agg #[.string s0, .slice (some ⟨500, 0, none⟩) n1 c1]] (heapOf [(500, .sym l1 false 2)]) (dataK k)
theorem gwL_text (C : Ct) (L : AtLoop) (s0 : ByteArray) (n1 : Nat) (c1 : Nat) (l1 : List Go.Value) (k : List D → Prop) : gwL C L s0 n1 c1 l1 k =
 (L 0 [(Prod.mk 3 (Sl 1000 1 1)), (Prod.mk 10 (Sl 500 (n1) (c1))), (Prod.mk 11 (vI ((↑n1 : Int)))), (Prod.mk 12 (vI 0))] [(Prod.mk 1000 (AObj.cells [(Value.string (s0))] 9 false 1)), (Prod.mk 500 (AObj.sym (l1) false 2))]) := by kernel_rfl
abbrev zwL1 (n0 : Nat) (n1 : Nat) (c2 : Nat) (x3 : Int) (x4 : Int) (s5 : ByteArray) (l6 : List Value) : Slots × Blocks := ([(3, (Value.slice (some ⟨1000, 0, none⟩) n0 n0)), (10, (Value.slice (some ⟨500, 0, none⟩) n1 c2)), (11, (Value.int .i64 x3)), (12, (Value.int .i64 x4))], [(1000, (AObj.cells [(Value.string s5)] 9 false 1)), (500, (AObj.sym l6 false 2))])
def rwL1 (C : Ct) (L : AtLoop) (n0 : Nat) (n1 : Nat) (c2 : Nat) (x3 : Int) (x4 : Int) (s5 : ByteArray) (l6 : List Value) (B : Bx) (X : Xx) (k : List D → Prop) : Prop := wpRound Tryz.prog (hS C) L 11 0 [(3, (Value.slice (some ⟨1000, 0, none⟩) n0 n0)), (10, (Value.slice (some ⟨500, 0, none⟩) n1 c2)), (11, (Value.int .i64 x3)), (12, (Value.int .i64 x4))] [(1000, (AObj.cells [(Value.string s5)] 9 false 1)), (500, (AObj.sym l6 false 2))] B X (dataK k)
theorem rwL1_text (C : Ct) (L : AtLoop) (n0 : Nat) (n1 : Nat) (c2 : Nat) (x3 : Int) (x4 : Int) (s5 : ByteArray) (l6 : List Go.Value) (B : Bx) (X : Xx) (k : List D → Prop) : rwL1 C L n0 n1 c2 x3 x4 s5 l6 B X k =
 (bcase (decide (x4 < x3))
 (bcase (decide (0 ≤ x4))
 (bcase (decide (x4 < (↑n1 : Int)))
 (∃ n2 : Int,
 (∃ n3 : Int,
 ((At (l6) (0 + Int.toNat x4 * 2) 2 [(vI n2), (vI n3)]) ∧
 (∃ s1 : ByteArray,
 ((Says C 72 [(dI n2)] [(D.val (Value.string (s1)))]) ∧
 (∃ s2 : ByteArray,
 ((Says C 72 [(dI n3)] [(D.val (Value.string (s2)))]) ∧
 (∃ s3 : ByteArray,
 ((Says C 38 [(D.sl 2 1 [(Value.string (s1)), (Value.string (s2))]), (D.val (Value.string ({ data := #[64] })))] [(D.val (Value.string (s3)))]) ∧
 (bcase (decide (n0 < n0 + 1))
 (bcase (decide ((2 * (n0 + 1) + 768) * 16 ≤ 281474976710656))
 (bcase (decide (n0 + 1 ≤ 1099511627776))
 (bcase (decide (0 + n0 * 1 ≤ List.length [Value.string s5]))
 (bcase (Bool.false || List.all (List.take (n0 * 1) (List.drop 0 [Value.string s5])) cellP)
 (B [(Prod.mk 3 (Sl 1000 (n0 + 1) (n0 + 1))), (Prod.mk 10 (Sl 500 (n1) (c2))), (Prod.mk 11 (vI x3)), (Prod.mk 12 (vI (IntKind.wrap .i64 (x4 + 1))))] [(Prod.mk 1000 (AObj.sym ((List.take (n0 * 1) (List.drop 0 [Value.string s5])) ++ [(Value.string (s3))]) true 1)), (Prod.mk 500 (AObj.sym (l6) false 2))])
 False)
 False)
 False)
 False)
 False))))))))))
 False)
 False)
 (X 0 [(Prod.mk 3 (Sl 1000 (n0) (n0)))] [(Prod.mk 1000 (AObj.cells [(Value.string (s5))] 9 false 1))])) := by kernel_rfl
abbrev zwL2 (n0 : Nat) (n1 : Nat) (c2 : Nat) (x3 : Int) (x4 : Int) (l5 : List Value) (l6 : List Value) : Slots × Blocks := ([(3, (Value.slice (some ⟨1000, 0, none⟩) n0 n0)), (10, (Value.slice (some ⟨500, 0, none⟩) n1 c2)), (11, (Value.int .i64 x3)), (12, (Value.int .i64 x4))], [(1000, (AObj.sym l5 true 1)), (500, (AObj.sym l6 false 2))])
def rwL2 (C : Ct) (L : AtLoop) (n0 : Nat) (n1 : Nat) (c2 : Nat) (x3 : Int) (x4 : Int) (l5 : List Value) (l6 : List Value) (B : Bx) (X : Xx) (k : List D → Prop) : Prop := wpRound Tryz.prog (hS C) L 11 0 [(3, (Value.slice (some ⟨1000, 0, none⟩) n0 n0)), (10, (Value.slice (some ⟨500, 0, none⟩) n1 c2)), (11, (Value.int .i64 x3)), (12, (Value.int .i64 x4))] [(1000, (AObj.sym l5 true 1)), (500, (AObj.sym l6 false 2))] B X (dataK k)
theorem rwL2_text (C : Ct) (L : AtLoop) (n0 : Nat) (n1 : Nat) (c2 : Nat) (x3 : Int) (x4 : Int) (l5 : List Go.Value) (l6 : List Go.Value) (B : Bx) (X : Xx) (k : List D → Prop) : rwL2 C L n0 n1 c2 x3 x4 l5 l6 B X k =
 (bcase (decide (x4 < x3))
 (bcase (decide (0 ≤ x4))
 (bcase (decide (x4 < (↑n1 : Int)))
 (∃ n2 : Int,
 (∃ n3 : Int,
 ((At (l6) (0 + Int.toNat x4 * 2) 2 [(vI n2), (vI n3)]) ∧
 (∃ s1 : ByteArray,
 ((Says C 72 [(dI n2)] [(D.val (Value.string (s1)))]) ∧
 (∃ s2 : ByteArray,
 ((Says C 72 [(dI n3)] [(D.val (Value.string (s2)))]) ∧
 (∃ s3 : ByteArray,
 ((Says C 38 [(D.sl 2 1 [(Value.string (s1)), (Value.string (s2))]), (D.val (Value.string ({ data := #[64] })))] [(D.val (Value.string (s3)))]) ∧
 (bcase (decide (n0 < n0 + 1))
 (bcase (decide ((2 * (n0 + 1) + 768) * 16 ≤ 281474976710656))
 (bcase (decide (n0 + 1 ≤ 1099511627776))
 (bcase (dL n0 1 l5)
 (bcase (decide (0 + n0 * 1 = List.length l5))
 (B [(Prod.mk 3 (Sl 1000 (n0 + 1) (n0 + 1))), (Prod.mk 10 (Sl 500 (n1) (c2))), (Prod.mk 11 (vI x3)), (Prod.mk 12 (vI (IntKind.wrap .i64 (x4 + 1))))] [(Prod.mk 1000 (AObj.sym ((Tk n0 1 l5) ++ [(Value.string (s3))]) true 1)), (Prod.mk 500 (AObj.sym (l6) false 2))])
 False)
 False)
 False)
 False)
 False))))))))))
 False)
 False)
 (X 0 [(Prod.mk 3 (Sl 1000 (n0) (n0)))] [(Prod.mk 1000 (AObj.sym (l5) true 1))])) := by kernel_rfl
def nwL3 (C : Ct) (L : AtLoop) (n0 : Nat) (s1 : ByteArray) (k : List D → Prop) : Prop := wpNext Tryz.prog (hS C) L 11 0 .normal [(3, (Value.slice (some ⟨1000, 0, none⟩) n0 n0))] [(1000, (AObj.cells [(Value.string s1)] 9 false 1))] (dataK k)
theorem nwL3_text (C : Ct) (L : AtLoop) (n0 : Nat) (s1 : ByteArray) (k : List D → Prop) : nwL3 C L n0 s1 k =
 (bcase (decide (0 + n0 * 1 ≤ List.length [Value.string s1]))
 (bcase (List.all (List.take (n0 * 1) (List.drop 0 [Value.string s1])) cellP)
 (∃ s2 : ByteArray,
 ((Says C 38 [(D.sl (n0) 1 (List.take (n0 * 1) (List.drop 0 [Value.string s1]))), (D.val (Value.string ({ data := #[32] })))] [(D.val (Value.string (s2)))]) ∧
 (k [(D.val (Value.string (s2)))])))
 False)
 False) := by kernel_rfl
def nwL4 (C : Ct) (L : AtLoop) (n0 : Nat) (l1 : List Value) (k : List D → Prop) : Prop := wpNext Tryz.prog (hS C) L 11 0 .normal [(3, (Value.slice (some ⟨1000, 0, none⟩) n0 n0))] [(1000, (AObj.sym l1 true 1))] (dataK k)
theorem nwL4_text (C : Ct) (L : AtLoop) (n0 : Nat) (l1 : List Go.Value) (k : List D → Prop) : nwL4 C L n0 l1 k =
 (bcase (dL n0 1 l1)
 (∃ s1 : ByteArray,
 ((Says C 38 [(Dw n0 1 l1), (D.val (Value.string ({ data := #[32] })))] [(D.val (Value.string (s1)))]) ∧
 (k [(D.val (Value.string (s1)))])))
 False) := by kernel_rfl
def gwR (C : Ct) (L : AtLoop) (n0 : Nat) (c0 : Nat) (l0 : List Value) (x1 : Int) (x2 : Int) (x3 : Int) (x4 : Int) (x5 : Int) (k : List D → Prop) : Prop := wpFn Tryz.prog (hS C) L 0 8 #[.agg #[.slice (some ⟨500, 0, none⟩) n0 c0, .int .i64 x1, .int .i64 x2, .int .i64 x3, .int .i64 x4, .int .i64 x5]] (heapOf [(500, .sym l0 false 2)]) (dataK k)
theorem gwR_text (C : Ct) (L : AtLoop) (n0 : Nat) (c0 : Nat) (l0 : List Go.Value) (x1 : Int) (x2 : Int) (x3 : Int) (x4 : Int) (x5 : Int) (k : List D → Prop) : gwR C L n0 c0 l0 x1 x2 x3 x4 x5 k =
 ((((Qv (Sl 1003 1 1)) ∧
 (Qv (some (AObj.cells [(vI x5)] 3 false 1)))) ∧
 ((Qv (vI x5)) ∧
 ((Qv (Pt 1000 5)) ∧
 (((Qv (Sl 1002 2 2)) ∧
 (Qv (some (AObj.cells [(vI x3), (vI x4)] 3 false 1)))) ∧
 ((Qv (vI x4)) ∧
 ((Qv (Pt 1000 4)) ∧
 ((Qv (Pt 1000 3)) ∧
 ((Qv (vI x3)) ∧
 ((Qv (Pt 1000 3)) ∧
 ((Qv (Pt 1000 3)) ∧
 (((Qv (Sl 1001 2 2)) ∧
 (Qv (some (AObj.cells [(vI x1), (vI x2)] 3 false 1)))) ∧
 ((Qv (vI x2)) ∧
 ((Qv (Pt 1000 2)) ∧
 ((Qv (Pt 1000 1)) ∧
 ((Qv (vI x1)) ∧
 ((Qv (Pt 1000 1)) ∧
 ((Qv (Pt 1000 1)) ∧
 True))))))))))))))))) ∧
 (∃ s1 : ByteArray,
 ((Says C 72 [(dI x1)] [(D.val (Value.string (s1)))]) ∧
 (∃ s2 : ByteArray,
 ((Says C 72 [(dI x2)] [(D.val (Value.string (s2)))]) ∧
 (∃ s3 : ByteArray,
 ((Says C 38 [(D.sl 2 1 [(Value.string (s1)), (Value.string (s2))]), (D.val (Value.string ({ data := #[47] })))] [(D.val (Value.string (s3)))]) ∧
 ((((Qv (Sl 1003 1 1)) ∧
 (Qv (some (AObj.cells [(vI x5)] 3 false 1)))) ∧
 ((Qv (vI x5)) ∧
 ((Qv (Pt 1000 5)) ∧
 (((Qv (Sl 1002 2 2)) ∧
 (Qv (some (AObj.cells [(vI x3), (vI x4)] 3 false 1)))) ∧
 ((Qv (vI x4)) ∧
 ((Qv (Pt 1000 4)) ∧
 ((Qv (Pt 1000 3)) ∧
 ((Qv (vI x3)) ∧
 ((Qv (Pt 1000 3)) ∧
 ((Qv (Pt 1000 3)) ∧
 ((Qv (vI x2)) ∧
 ((Qv (Pt 1000 2)) ∧
 ((Qv (Pt 1000 1)) ∧
 ((Qv (vI x1)) ∧
 ((Qv (Pt 1000 1)) ∧
 ((Qv (Pt 1000 1)) ∧
 True)))))))))))))))) ∧
 (∃ s4 : ByteArray,
 ((Says C 72 [(dI x3)] [(D.val (Value.string (s4)))]) ∧
 (∃ s5 : ByteArray,
 ((Says C 72 [(dI x4)] [(D.val (Value.string (s5)))]) ∧
 (∃ s6 : ByteArray,
 ((Says C 38 [(D.sl 2 1 [(Value.string (s4)), (Value.string (s5))]), (D.val (Value.string ({ data := #[47] })))] [(D.val (Value.string (s6)))]) ∧
 ((((Qv (Sl 1003 1 1)) ∧
 (Qv (some (AObj.cells [(vI x5)] 3 false 1)))) ∧
 ((Qv (vI x5)) ∧
 ((Qv (Pt 1000 5)) ∧
 ((Qv (vI x4)) ∧
 ((Qv (Pt 1000 4)) ∧
 ((Qv (Pt 1000 3)) ∧
 ((Qv (vI x3)) ∧
 ((Qv (Pt 1000 3)) ∧
 ((Qv (Pt 1000 3)) ∧
 ((Qv (vI x2)) ∧
 ((Qv (Pt 1000 2)) ∧
 ((Qv (Pt 1000 1)) ∧
 ((Qv (vI x1)) ∧
 ((Qv (Pt 1000 1)) ∧
 ((Qv (Pt 1000 1)) ∧
 True))))))))))))))) ∧
 (∃ s7 : ByteArray,
 ((Says C 72 [(dI x5)] [(D.val (Value.string (s7)))]) ∧
 (∃ s8 : ByteArray,
 ((Says C 38 [(D.sl 1 1 [(Value.string (s7))]), (D.val (Value.string ({ data := #[32] })))] [(D.val (Value.string (s8)))]) ∧
 ((((Qv (Sl 1014 3 3)) ∧
 (Qv (some (AObj.cells [(Value.string (s3)), (Value.string (s6)), (Value.string (s8))] 9 false 1)))) ∧
 ((Qv (vI x5)) ∧
 ((Qv (Pt 1000 5)) ∧
 ((Qv (vI x4)) ∧
 ((Qv (Pt 1000 4)) ∧
 ((Qv (Pt 1000 3)) ∧
 ((Qv (vI x3)) ∧
 ((Qv (Pt 1000 3)) ∧
 ((Qv (Pt 1000 3)) ∧
 ((Qv (vI x2)) ∧
 ((Qv (Pt 1000 2)) ∧
 ((Qv (Pt 1000 1)) ∧
 ((Qv (vI x1)) ∧
 ((Qv (Pt 1000 1)) ∧
 ((Qv (Pt 1000 1)) ∧
 True))))))))))))))) ∧
 (True ∧
 (L 0 [(Prod.mk 3 (Sl 1000 3 3)), (Prod.mk 28 (Sl 500 (n0) (c0))), (Prod.mk 29 (vI ((↑n0 : Int)))), (Prod.mk 30 (vI 0))] [(Prod.mk 1000 (AObj.cells [(Value.string (s3)), (Value.string (s6)), (Value.string (s8))] 9 false 1)), (Prod.mk 500 (AObj.sym (l0) false 2))])))))))))))))))))))))) := by kernel_rfl
abbrev zwR1 (n0 : Nat) (n1 : Nat) (c2 : Nat) (x3 : Int) (x4 : Int) (s5 : ByteArray) (s6 : ByteArray) (s7 : ByteArray) (l8 : List Value) : Slots × Blocks := ([(3, (Value.slice (some ⟨1000, 0, none⟩) n0 n0)), (28, (Value.slice (some ⟨500, 0, none⟩) n1 c2)), (29, (Value.int .i64 x3)), (30, (Value.int .i64 x4))], [(1000, (AObj.cells [(Value.string s5), (Value.string s6), (Value.string s7)] 9 false 1)), (500, (AObj.sym l8 false 2))])
def rwR1 (C : Ct) (L : AtLoop) (n0 : Nat) (n1 : Nat) (c2 : Nat) (x3 : Int) (x4 : Int) (s5 : ByteArray) (s6 : ByteArray) (s7 : ByteArray) (l8 : List Value) (B : Bx) (X : Xx) (k : List D → Prop) : Prop := wpRound Tryz.prog (hS C) L 8 0 [(3, (Value.slice (some ⟨1000, 0, none⟩) n0 n0)), (28, (Value.slice (some ⟨500, 0, none⟩) n1 c2)), (29, (Value.int .i64 x3)), (30, (Value.int .i64 x4))] [(1000, (AObj.cells [(Value.string s5), (Value.string s6), (Value.string s7)] 9 false 1)), (500, (AObj.sym l8 false 2))] B X (dataK k)
theorem rwR1_text (C : Ct) (L : AtLoop) (n0 : Nat) (n1 : Nat) (c2 : Nat) (x3 : Int) (x4 : Int) (s5 : ByteArray) (s6 : ByteArray) (s7 : ByteArray) (l8 : List Go.Value) (B : Bx) (X : Xx) (k : List D → Prop) : rwR1 C L n0 n1 c2 x3 x4 s5 s6 s7 l8 B X k =
 (bcase (decide (x4 < x3))
 (bcase (decide (0 ≤ x4))
 (bcase (decide (x4 < (↑n1 : Int)))
 (∃ n2 : Int,
 (∃ n3 : Int,
 ((At (l8) (0 + Int.toNat x4 * 2) 2 [(vI n2), (vI n3)]) ∧
 (∃ s1 : ByteArray,
 ((Says C 72 [(dI n2)] [(D.val (Value.string (s1)))]) ∧
 (∃ s2 : ByteArray,
 ((Says C 72 [(dI n3)] [(D.val (Value.string (s2)))]) ∧
 (∃ s3 : ByteArray,
 ((Says C 38 [(D.sl 2 1 [(Value.string (s1)), (Value.string (s2))]), (D.val (Value.string ({ data := #[64] })))] [(D.val (Value.string (s3)))]) ∧
 (bcase (decide (n0 < n0 + 1))
 (bcase (decide ((2 * (n0 + 1) + 768) * 16 ≤ 281474976710656))
 (bcase (decide (n0 + 1 ≤ 1099511627776))
 (bcase (decide (0 + n0 * 1 ≤ List.length [Value.string s5, Value.string s6, Value.string s7]))
 (bcase (Bool.false || List.all (List.take (n0 * 1) (List.drop 0 [Value.string s5, Value.string s6, Value.string s7])) cellP)
 (B [(Prod.mk 3 (Sl 1000 (n0 + 1) (n0 + 1))), (Prod.mk 28 (Sl 500 (n1) (c2))), (Prod.mk 29 (vI x3)), (Prod.mk 30 (vI (IntKind.wrap .i64 (x4 + 1))))] [(Prod.mk 1000 (AObj.sym ((List.take (n0 * 1) (List.drop 0 [Value.string s5, Value.string s6, Value.string s7])) ++ [(Value.string (s3))]) true 1)), (Prod.mk 500 (AObj.sym (l8) false 2))])
 False)
 False)
 False)
 False)
 False))))))))))
 False)
 False)
 (X 0 [(Prod.mk 3 (Sl 1000 (n0) (n0)))] [(Prod.mk 1000 (AObj.cells [(Value.string (s5)), (Value.string (s6)), (Value.string (s7))] 9 false 1))])) := by kernel_rfl
abbrev zwR2 (n0 : Nat) (n1 : Nat) (c2 : Nat) (x3 : Int) (x4 : Int) (l5 : List Value) (l6 : List Value) : Slots × Blocks := ([(3, (Value.slice (some ⟨1000, 0, none⟩) n0 n0)), (28, (Value.slice (some ⟨500, 0, none⟩) n1 c2)), (29, (Value.int .i64 x3)), (30, (Value.int .i64 x4))], [(1000, (AObj.sym l5 true 1)), (500, (AObj.sym l6 false 2))])
def rwR2 (C : Ct) (L : AtLoop) (n0 : Nat) (n1 : Nat) (c2 : Nat) (x3 : Int) (x4 : Int) (l5 : List Value) (l6 : List Value) (B : Bx) (X : Xx) (k : List D → Prop) : Prop := wpRound Tryz.prog (hS C) L 8 0 [(3, (Value.slice (some ⟨1000, 0, none⟩) n0 n0)), (28, (Value.slice (some ⟨500, 0, none⟩) n1 c2)), (29, (Value.int .i64 x3)), (30, (Value.int .i64 x4))] [(1000, (AObj.sym l5 true 1)), (500, (AObj.sym l6 false 2))] B X (dataK k)
theorem rwR2_text (C : Ct) (L : AtLoop) (n0 : Nat) (n1 : Nat) (c2 : Nat) (x3 : Int) (x4 : Int) (l5 : List Go.Value) (l6 : List Go.Value) (B : Bx) (X : Xx) (k : List D → Prop) : rwR2 C L n0 n1 c2 x3 x4 l5 l6 B X k =
 (bcase (decide (x4 < x3))
 (bcase (decide (0 ≤ x4))
 (bcase (decide (x4 < (↑n1 : Int)))
 (∃ n2 : Int,
 (∃ n3 : Int,
 ((At (l6) (0 + Int.toNat x4 * 2) 2 [(vI n2), (vI n3)]) ∧
 (∃ s1 : ByteArray,
 ((Says C 72 [(dI n2)] [(D.val (Value.string (s1)))]) ∧
 (∃ s2 : ByteArray,
 ((Says C 72 [(dI n3)] [(D.val (Value.string (s2)))]) ∧
 (∃ s3 : ByteArray,
 ((Says C 38 [(D.sl 2 1 [(Value.string (s1)), (Value.string (s2))]), (D.val (Value.string ({ data := #[64] })))] [(D.val (Value.string (s3)))]) ∧
 (bcase (decide (n0 < n0 + 1))
 (bcase (decide ((2 * (n0 + 1) + 768) * 16 ≤ 281474976710656))
 (bcase (decide (n0 + 1 ≤ 1099511627776))
 (bcase (dL n0 1 l5)
 (bcase (decide (0 + n0 * 1 = List.length l5))
 (B [(Prod.mk 3 (Sl 1000 (n0 + 1) (n0 + 1))), (Prod.mk 28 (Sl 500 (n1) (c2))), (Prod.mk 29 (vI x3)), (Prod.mk 30 (vI (IntKind.wrap .i64 (x4 + 1))))] [(Prod.mk 1000 (AObj.sym ((Tk n0 1 l5) ++ [(Value.string (s3))]) true 1)), (Prod.mk 500 (AObj.sym (l6) false 2))])
 False)
 False)
 False)
 False)
 False))))))))))
 False)
 False)
 (X 0 [(Prod.mk 3 (Sl 1000 (n0) (n0)))] [(Prod.mk 1000 (AObj.sym (l5) true 1))])) := by kernel_rfl
def nwR3 (C : Ct) (L : AtLoop) (n0 : Nat) (s1 : ByteArray) (s2 : ByteArray) (s3 : ByteArray) (k : List D → Prop) : Prop := wpNext Tryz.prog (hS C) L 8 0 .normal [(3, (Value.slice (some ⟨1000, 0, none⟩) n0 n0))] [(1000, (AObj.cells [(Value.string s1), (Value.string s2), (Value.string s3)] 9 false 1))] (dataK k)
theorem nwR3_text (C : Ct) (L : AtLoop) (n0 : Nat) (s1 : ByteArray) (s2 : ByteArray) (s3 : ByteArray) (k : List D → Prop) : nwR3 C L n0 s1 s2 s3 k =
 (bcase (decide (0 + n0 * 1 ≤ List.length [Value.string s1, Value.string s2, Value.string s3]))
 (bcase (List.all (List.take (n0 * 1) (List.drop 0 [Value.string s1, Value.string s2, Value.string s3])) cellP)
 (∃ s4 : ByteArray,
 ((Says C 38 [(D.sl (n0) 1 (List.take (n0 * 1) (List.drop 0 [Value.string s1, Value.string s2, Value.string s3]))), (D.val (Value.string ({ data := #[32] })))] [(D.val (Value.string (s4)))]) ∧
 (k [(D.val (Value.string (s4)))])))
 False)
 False) := by kernel_rfl
def nwR4 (C : Ct) (L : AtLoop) (n0 : Nat) (l1 : List Value) (k : List D → Prop) : Prop := wpNext Tryz.prog (hS C) L 8 0 .normal [(3, (Value.slice (some ⟨1000, 0, none⟩) n0 n0))] [(1000, (AObj.sym l1 true 1))] (dataK k)
theorem nwR4_text (C : Ct) (L : AtLoop) (n0 : Nat) (l1 : List Go.Value) (k : List D → Prop) : nwR4 C L n0 l1 k =
 (bcase (dL n0 1 l1)
 (∃ s1 : ByteArray,
 ((Says C 38 [(Dw n0 1 l1), (D.val (Value.string ({ data := #[32] })))] [(D.val (Value.string (s1)))]) ∧
 (k [(D.val (Value.string (s1)))])))
 False) := by kernel_rfl
def gpC (C : Ct) (L : AtLoop) (s0 : ByteArray) (k : List D → Prop) : Prop := wpFn Tryz.prog (hP C) L 0 20 #[.string s0] (heapOf []) (dataK k)
theorem gpC_text (C : Ct) (L : AtLoop) (s0 : ByteArray) (k : List D → Prop) : gpC C L s0 k =
 (((Says C 44 [(D.val (Value.string (s0))), (D.val (Value.string ({ data := #[32] })))] [D.nil]) ∧
 (k [(D.agg [(dI 0), (dI 0)]), (D.val (vI 7))])) ∨
 (∃ n1 : Nat,
 (∃ cs1 : List Go.Value,
 ((Says C 44 [(D.val (Value.string (s0))), (D.val (Value.string ({ data := #[32] })))] [(D.sl (n1) 1 (cs1))]) ∧
 (bcase ((↑n1 : Int) != (↑2 : Int))
 (k [(D.agg [(dI 0), (dI 0)]), (D.val (vI 7))])
 (bcase (decide (0 < (↑n1 : Int)))
 (bcase (decide (0 < (↑n1 : Int)))
 (∃ s1 : ByteArray,
 ((At (cs1) 0 1 [(Value.string (s1))]) ∧
 (((Says C 83 [(D.val (Value.string (s1)))] kT) ∧
 (((Qv (Value.string (s1))) ∧
 ((Qv (Pt 1001 0)) ∧
 ((Qv (Pt 1002 0)) ∧
 ((Qv (vI 0)) ∧
 ((Qv (Sl 1002 2 2)) ∧
 True))))) ∧
 ((Says C 84 [(D.val (Value.string (s1)))] [(D.val (vI (numB s1))), (D.val Value.nilIface)]) ∧
 (((Qv (Pt 1001 0)) ∧
 ((Value.nilIface = Value.nilIface) ∧
 ((Qv (vI (numB s1))) ∧
 ((Qv (Value.tuple [(vI (numB s1)), Value.nilIface].toArray)) ∧
 ((Qv (Pt 1001 0)) ∧
 ((Qv (Pt 1002 0)) ∧
 ((Qv (vI 0)) ∧
 ((Qv (Sl 1002 2 2)) ∧
 True)))))))) ∧
 (((Value.nilIface = Value.nilIface) ∧
 True) ∧
 (bcase (decide (IntKind.wrap .i64 (0 + 1) < (↑n1 : Int)))
 (bcase (decide (IntKind.wrap .i64 (0 + 1) < (↑n1 : Int)))
 (∃ s2 : ByteArray,
 ((At (cs1) 1 1 [(Value.string (s2))]) ∧
 (((Says C 83 [(D.val (Value.string (s2)))] kT) ∧
 (((Qv (Value.string (s2))) ∧
 ((Qv (Pt 1001 1)) ∧
 ((Qv (Pt 1002 1)) ∧
 ((Qv (vI 1)) ∧
 ((Qv (Sl 1002 2 2)) ∧
 True))))) ∧
 ((Says C 84 [(D.val (Value.string (s2)))] [(D.val (vI (numB s2))), (D.val Value.nilIface)]) ∧
 (((Qv (Pt 1001 1)) ∧
 ((Value.nilIface = Value.nilIface) ∧
 ((Qv (vI (numB s2))) ∧
 ((Qv (Value.tuple [(vI (numB s2)), Value.nilIface].toArray)) ∧
 ((Qv (Pt 1001 1)) ∧
 ((Qv (Pt 1002 1)) ∧
 ((Qv (vI 1)) ∧
 ((Qv (Sl 1002 2 2)) ∧
 True)))))))) ∧
 (((Value.nilIface = Value.nilIface) ∧
 True) ∧
 (bcase (decide (IntKind.wrap .i64 (IntKind.wrap .i64 (0 + 1) + 1) < (↑n1 : Int)))
 (bcase (decide (IntKind.wrap .i64 (IntKind.wrap .i64 (0 + 1) + 1) < (↑n1 : Int)))
 (∃ s3 : ByteArray,
 ((At (cs1) 2 1 [(Value.string (s3))]) ∧
 (((Says C 83 [(D.val (Value.string (s3)))] kT) ∧
 False) ∨
 ((Says C 83 [(D.val (Value.string (s3)))] kF) ∧
 (k [(D.agg [(dI 0), (dI 0)]), (D.val (vI 7))])))))
 False)
 ((((Qv (Sl 1005 1 1)) ∧
 (Qv (some (AObj.cells [(vI (numB s2))] 3 false 1)))) ∧
 ((Qv (vI (numB s2))) ∧
 ((Qv (Pt 1001 1)) ∧
 (((Qv (Sl 1004 1 1)) ∧
 (Qv (some (AObj.cells [(vI (numB s1))] 3 false 1)))) ∧
 ((Qv (vI (numB s1))) ∧
 ((Qv (Pt 1001 0)) ∧
 True)))))) ∧
 ((((Qv (Sl 1005 1 1)) ∧
 (Qv (some (AObj.cells [(vI (numB s2))] 3 false 1)))) ∧
 ((Qv (vI (numB s2))) ∧
 ((Qv (Pt 1001 1)) ∧
 (((Qv (Sl 1004 1 1)) ∧
 (Qv (some (AObj.cells [(vI (numB s1))] 3 false 1)))) ∧
 ((Qv (vI (numB s1))) ∧
 ((Qv (Pt 1001 0)) ∧
 True)))))) ∧
 (∃ e1 : Int,
 ((Says limC 0 [(dI 0), (D.val (vI 1000000)), (D.sl 1 1 [(vI (numB s1))])] [(dI e1)]) ∧
 ((((Qv (Sl 1005 1 1)) ∧
 (Qv (some (AObj.cells [(vI (numB s2))] 3 false 1)))) ∧
 ((Qv (vI (numB s2))) ∧
 ((Qv (Pt 1001 1)) ∧
 ((Qv (vI (numB s1))) ∧
 ((Qv (Pt 1001 0)) ∧
 True))))) ∧
 ((((Qv (Sl 1005 1 1)) ∧
 (Qv (some (AObj.cells [(vI (numB s2))] 3 false 1)))) ∧
 ((Qv (vI (numB s2))) ∧
 ((Qv (Pt 1001 1)) ∧
 ((Qv (vI (numB s1))) ∧
 ((Qv (Pt 1001 0)) ∧
 True))))) ∧
 (∃ e2 : Int,
 ((Says limC 0 [(dI 0), (D.val (vI 900)), (D.sl 1 1 [(vI (numB s2))])] [(dI e2)]) ∧
 ((((Qv (Sl 1010 2 2)) ∧
 (Qv (some (AObj.cells [(vI e1), (vI e2)] 43 false 1)))) ∧
 ((Qv (vI (numB s2))) ∧
 ((Qv (Pt 1001 1)) ∧
 ((Qv (vI (numB s1))) ∧
 ((Qv (Pt 1001 0)) ∧
 True))))) ∧
 (∃ n2 : Int,
 ((Says C 48 [(D.sl 2 1 [(vI e1), (vI e2)])] [(dI n2)]) ∧
 (((Qv (vI (numB s2))) ∧
 ((Qv (Pt 1001 1)) ∧
 ((Qv (vI (numB s1))) ∧
 ((Qv (Pt 1001 0)) ∧
 True)))) ∧
 (True ∧
 (bcase (n2 != 0)
 (k [(D.agg [(dI 0), (dI 0)]), (dI n2)])
 (k [(D.agg [(D.val (vI (numB s1))), (D.val (vI (numB s2)))]), (dI 0)]))))))))))))))))))))) ∨
 ((Says C 83 [(D.val (Value.string (s2)))] kF) ∧
 (k [(D.agg [(dI 0), (dI 0)]), (D.val (vI 7))])))))
 False)
 ((((Qv (Sl 1005 1 1)) ∧
 (Qv (some (AObj.cells [(vI 0)] 3 false 1)))) ∧
 ((Qv (vI 0)) ∧
 ((Qv (Pt 1001 1)) ∧
 (((Qv (Sl 1004 1 1)) ∧
 (Qv (some (AObj.cells [(vI (numB s1))] 3 false 1)))) ∧
 ((Qv (vI (numB s1))) ∧
 ((Qv (Pt 1001 0)) ∧
 True)))))) ∧
 ((((Qv (Sl 1005 1 1)) ∧
 (Qv (some (AObj.cells [(vI 0)] 3 false 1)))) ∧
 ((Qv (vI 0)) ∧
 ((Qv (Pt 1001 1)) ∧
 (((Qv (Sl 1004 1 1)) ∧
 (Qv (some (AObj.cells [(vI (numB s1))] 3 false 1)))) ∧
 ((Qv (vI (numB s1))) ∧
 ((Qv (Pt 1001 0)) ∧
 True)))))) ∧
 (∃ e1 : Int,
 ((Says limC 0 [(dI 0), (D.val (vI 1000000)), (D.sl 1 1 [(vI (numB s1))])] [(dI e1)]) ∧
 ((((Qv (Sl 1005 1 1)) ∧
 (Qv (some (AObj.cells [(vI 0)] 3 false 1)))) ∧
 ((Qv (vI 0)) ∧
 ((Qv (Pt 1001 1)) ∧
 ((Qv (vI (numB s1))) ∧
 ((Qv (Pt 1001 0)) ∧
 True))))) ∧
 ((((Qv (Sl 1005 1 1)) ∧
 (Qv (some (AObj.cells [(vI 0)] 3 false 1)))) ∧
 ((Qv (vI 0)) ∧
 ((Qv (Pt 1001 1)) ∧
 ((Qv (vI (numB s1))) ∧
 ((Qv (Pt 1001 0)) ∧
 True))))) ∧
 (∃ e2 : Int,
 ((Says limC 0 [(dI 0), (D.val (vI 900)), (D.sl 1 1 [(vI 0)])] [(dI e2)]) ∧
 ((((Qv (Sl 1010 2 2)) ∧
 (Qv (some (AObj.cells [(vI e1), (vI e2)] 43 false 1)))) ∧
 ((Qv (vI 0)) ∧
 ((Qv (Pt 1001 1)) ∧
 ((Qv (vI (numB s1))) ∧
 ((Qv (Pt 1001 0)) ∧
 True))))) ∧
 (∃ n2 : Int,
 ((Says C 48 [(D.sl 2 1 [(vI e1), (vI e2)])] [(dI n2)]) ∧
 (((Qv (vI 0)) ∧
 ((Qv (Pt 1001 1)) ∧
 ((Qv (vI (numB s1))) ∧
 ((Qv (Pt 1001 0)) ∧
 True)))) ∧
 (True ∧
 (bcase (n2 != 0)
 (k [(D.agg [(dI 0), (dI 0)]), (dI n2)])
 (k [(D.agg [(D.val (vI (numB s1))), (dI 0)]), (dI 0)]))))))))))))))))))))) ∨
 ((Says C 83 [(D.val (Value.string (s1)))] kF) ∧
 (k [(D.agg [(dI 0), (dI 0)]), (D.val (vI 7))])))))
 False)
 ((((Qv (Sl 1005 1 1)) ∧
 (Qv (some (AObj.cells [(vI 0)] 3 false 1)))) ∧
 ((Qv (vI 0)) ∧
 ((Qv (Pt 1001 1)) ∧
 (((Qv (Sl 1004 1 1)) ∧
 (Qv (some (AObj.cells [(vI 0)] 3 false 1)))) ∧
 ((Qv (vI 0)) ∧
 ((Qv (Pt 1001 0)) ∧
 True)))))) ∧
 ((((Qv (Sl 1005 1 1)) ∧
 (Qv (some (AObj.cells [(vI 0)] 3 false 1)))) ∧
 ((Qv (vI 0)) ∧
 ((Qv (Pt 1001 1)) ∧
 (((Qv (Sl 1004 1 1)) ∧
 (Qv (some (AObj.cells [(vI 0)] 3 false 1)))) ∧
 ((Qv (vI 0)) ∧
 ((Qv (Pt 1001 0)) ∧
 True)))))) ∧
 (∃ e1 : Int,
 ((Says limC 0 [(dI 0), (D.val (vI 1000000)), (D.sl 1 1 [(vI 0)])] [(dI e1)]) ∧
 ((((Qv (Sl 1005 1 1)) ∧
 (Qv (some (AObj.cells [(vI 0)] 3 false 1)))) ∧
 ((Qv (vI 0)) ∧
 ((Qv (Pt 1001 1)) ∧
 ((Qv (vI 0)) ∧
 ((Qv (Pt 1001 0)) ∧
 True))))) ∧
 ((((Qv (Sl 1005 1 1)) ∧
 (Qv (some (AObj.cells [(vI 0)] 3 false 1)))) ∧
 ((Qv (vI 0)) ∧
 ((Qv (Pt 1001 1)) ∧
 ((Qv (vI 0)) ∧
 ((Qv (Pt 1001 0)) ∧
 True))))) ∧
 (∃ e2 : Int,
 ((Says limC 0 [(dI 0), (D.val (vI 900)), (D.sl 1 1 [(vI 0)])] [(dI e2)]) ∧
 ((((Qv (Sl 1010 2 2)) ∧
 (Qv (some (AObj.cells [(vI e1), (vI e2)] 43 false 1)))) ∧
 ((Qv (vI 0)) ∧
 ((Qv (Pt 1001 1)) ∧
 ((Qv (vI 0)) ∧
 ((Qv (Pt 1001 0)) ∧
 True))))) ∧
 (∃ n2 : Int,
 ((Says C 48 [(D.sl 2 1 [(vI e1), (vI e2)])] [(dI n2)]) ∧
 (((Qv (vI 0)) ∧
 ((Qv (Pt 1001 1)) ∧
 ((Qv (vI 0)) ∧
 ((Qv (Pt 1001 0)) ∧
 True)))) ∧
 (True ∧
 (bcase (n2 != 0)
 (k [(D.agg [(dI 0), (dI 0)]), (dI n2)])
 (k [(D.agg [(dI 0), (dI 0)]), (dI 0)]))))))))))))))))))))) := by kernel_rfl
def gpL (C : Ct) (L : AtLoop) (s0 : ByteArray) (k : List D → Prop) : Prop := wpFn Tryz.prog (hP C) L 0 21 #[.string s0] (heapOf []) (dataK k)
theorem gpL_text (C : Ct) (L : AtLoop) (s0 : ByteArray) (k : List D → Prop) : gpL C L s0 k =
 (((Says C 44 [(D.val (Value.string (s0))), (D.val (Value.string ({ data := #[32] })))] [D.nil]) ∧
 False) ∨
 (∃ n1 : Nat,
 (∃ cs1 : List Go.Value,
 ((Says C 44 [(D.val (Value.string (s0))), (D.val (Value.string ({ data := #[32] })))] [(D.sl (n1) 1 (cs1))]) ∧
 (bcase (decide (0 < (↑n1 : Int)))
 (∃ s1 : ByteArray,
 ((At (cs1) 0 1 [(Value.string (s1))]) ∧
 (bcase (ByteArray.toList s1 == ByteArray.toList { data := #[] })
 (k [(D.agg [(D.val (Value.string ({ data := #[] }))), D.nil]), (D.val (vI 7))])
 (bcase (decide (1 ≤ (↑n1 : Int)))
 (bcase (decide (n1 ≤ n1))
 (bcase (n1 == 1)
 ((L 0 [(Prod.mk 2 (Pt 1000 0)), (Prod.mk 5 (Pt 1001 0)), (Prod.mk 22 (Sl 1002 (n1 - 1) (n1 - 1))), (Prod.mk 23 (vI ((↑(n1 - 1) : Int)))), (Prod.mk 24 (vI 0))] [(Prod.mk 1000 (AObj.cells [(Value.string ({ data := #[] })), (Value.slice none 0 0)] 31 false 2)), (Prod.mk 1001 (AObj.cells [(Value.string (s1)), (Value.slice none 0 0)] 31 false 2)), (Prod.mk 1002 (AObj.sym (cs1) true 1))]) ∧
 (L 0 [(Prod.mk 2 (Pt 1000 0)), (Prod.mk 5 (Pt 1001 0)), (Prod.mk 22 (Value.slice (some (Addr.mk 1002 1 none)) (n1 - 1) (n1 - 1))), (Prod.mk 23 (vI ((↑(n1 - 1) : Int)))), (Prod.mk 24 (vI 0))] [(Prod.mk 1000 (AObj.cells [(Value.string ({ data := #[] })), (Value.slice none 0 0)] 31 false 2)), (Prod.mk 1001 (AObj.cells [(Value.string (s1)), (Value.slice none 0 0)] 31 false 2)), (Prod.mk 1002 (AObj.sym (cs1) true 1))]))
 (L 0 [(Prod.mk 2 (Pt 1000 0)), (Prod.mk 5 (Pt 1001 0)), (Prod.mk 22 (Value.slice (some (Addr.mk 1002 1 none)) (n1 - 1) (n1 - 1))), (Prod.mk 23 (vI ((↑(n1 - 1) : Int)))), (Prod.mk 24 (vI 0))] [(Prod.mk 1000 (AObj.cells [(Value.string ({ data := #[] })), (Value.slice none 0 0)] 31 false 2)), (Prod.mk 1001 (AObj.cells [(Value.string (s1)), (Value.slice none 0 0)] 31 false 2)), (Prod.mk 1002 (AObj.sym (cs1) true 1))]))
 False)
 False))))
 False))))) := by kernel_rfl
abbrev zpL1 (n0 : Nat) (x1 : Int) (x2 : Int) (s3 : ByteArray) (s4 : ByteArray) (l5 : List Value) : Slots × Blocks := ([(2, (Value.pointer (some ⟨1000, 0, none⟩))), (5, (Value.pointer (some ⟨1001, 0, none⟩))), (22, (Value.slice (some ⟨1002, 0, none⟩) n0 n0)), (23, (Value.int .i64 x1)), (24, (Value.int .i64 x2))], [(1000, (AObj.cells [(Value.string s3), (Value.slice none 0 0)] 31 false 2)), (1001, (AObj.cells [(Value.string s4), (Value.slice none 0 0)] 31 false 2)), (1002, (AObj.sym l5 true 1))])
def rpL1 (C : Ct) (L : AtLoop) (n0 : Nat) (x1 : Int) (x2 : Int) (s3 : ByteArray) (s4 : ByteArray) (l5 : List Value) (B : Bx) (X : Xx) (k : List D → Prop) : Prop := wpRound Tryz.prog (hP C) L 21 0 [(2, (Value.pointer (some ⟨1000, 0, none⟩))), (5, (Value.pointer (some ⟨1001, 0, none⟩))), (22, (Value.slice (some ⟨1002, 0, none⟩) n0 n0)), (23, (Value.int .i64 x1)), (24, (Value.int .i64 x2))] [(1000, (AObj.cells [(Value.string s3), (Value.slice none 0 0)] 31 false 2)), (1001, (AObj.cells [(Value.string s4), (Value.slice none 0 0)] 31 false 2)), (1002, (AObj.sym l5 true 1))] B X (dataK k)
theorem rpL1_text (C : Ct) (L : AtLoop) (n0 : Nat) (x1 : Int) (x2 : Int) (s3 : ByteArray) (s4 : ByteArray) (l5 : List Go.Value) (B : Bx) (X : Xx) (k : List D → Prop) : rpL1 C L n0 x1 x2 s3 s4 l5 B X k =
 (bcase (decide (x2 < x1))
 (bcase (decide (0 ≤ x2))
 (bcase (decide (x2 < (↑n0 : Int)))
 (∃ s1 : ByteArray,
 ((At (l5) (0 + Int.toNat x2 * 1) 1 [(Value.string (s1))]) ∧
 (((Says C 44 [(D.val (Value.string (s1))), (D.val (Value.string ({ data := #[64] })))] [D.nil]) ∧
 (k [(D.agg [(D.val (Value.string ({ data := #[] }))), D.nil]), (D.val (vI 7))])) ∨
 (∃ n1 : Nat,
 (∃ cs1 : List Go.Value,
 ((Says C 44 [(D.val (Value.string (s1))), (D.val (Value.string ({ data := #[64] })))] [(D.sl (n1) 1 (cs1))]) ∧
 (bcase ((↑n1 : Int) != (↑2 : Int))
 (k [(D.agg [(D.val (Value.string ({ data := #[] }))), D.nil]), (D.val (vI 7))])
 (bcase (decide (0 < (↑n1 : Int)))
 (bcase (decide (0 < (↑n1 : Int)))
 (∃ s2 : ByteArray,
 ((At (cs1) 0 1 [(Value.string (s2))]) ∧
 (((Says C 83 [(D.val (Value.string (s2)))] kT) ∧
 (((Qv (Value.string (s2))) ∧
 ((Qv (Pt 1003 0)) ∧
 ((Qv (Pt 1004 0)) ∧
 ((Qv (vI 0)) ∧
 ((Qv (Sl 1004 2 2)) ∧
 True))))) ∧
 ((Says C 84 [(D.val (Value.string (s2)))] [(D.val (vI (numB s2))), (D.val Value.nilIface)]) ∧
 (((Qv (Pt 1003 0)) ∧
 ((Value.nilIface = Value.nilIface) ∧
 ((Qv (vI (numB s2))) ∧
 ((Qv (Value.tuple [(vI (numB s2)), Value.nilIface].toArray)) ∧
 ((Qv (Pt 1003 0)) ∧
 ((Qv (Pt 1004 0)) ∧
 ((Qv (vI 0)) ∧
 ((Qv (Sl 1004 2 2)) ∧
 True)))))))) ∧
 (((Value.nilIface = Value.nilIface) ∧
 True) ∧
 (bcase (decide (IntKind.wrap .i64 (0 + 1) < (↑n1 : Int)))
 (bcase (decide (IntKind.wrap .i64 (0 + 1) < (↑n1 : Int)))
 (∃ s5 : ByteArray,
 ((At (cs1) 1 1 [(Value.string (s5))]) ∧
 (((Says C 83 [(D.val (Value.string (s5)))] kT) ∧
 (((Qv (Value.string (s5))) ∧
 ((Qv (Pt 1003 1)) ∧
 ((Qv (Pt 1004 1)) ∧
 ((Qv (vI 1)) ∧
 ((Qv (Sl 1004 2 2)) ∧
 True))))) ∧
 ((Says C 84 [(D.val (Value.string (s5)))] [(D.val (vI (numB s5))), (D.val Value.nilIface)]) ∧
 (((Qv (Pt 1003 1)) ∧
 ((Value.nilIface = Value.nilIface) ∧
 ((Qv (vI (numB s5))) ∧
 ((Qv (Value.tuple [(vI (numB s5)), Value.nilIface].toArray)) ∧
 ((Qv (Pt 1003 1)) ∧
 ((Qv (Pt 1004 1)) ∧
 ((Qv (vI 1)) ∧
 ((Qv (Sl 1004 2 2)) ∧
 True)))))))) ∧
 (((Value.nilIface = Value.nilIface) ∧
 True) ∧
 (bcase (decide (IntKind.wrap .i64 (IntKind.wrap .i64 (0 + 1) + 1) < (↑n1 : Int)))
 (bcase (decide (IntKind.wrap .i64 (IntKind.wrap .i64 (0 + 1) + 1) < (↑n1 : Int)))
 (∃ s6 : ByteArray,
 ((At (cs1) 2 1 [(Value.string (s6))]) ∧
 (((Says C 83 [(D.val (Value.string (s6)))] kT) ∧
 False) ∨
 ((Says C 83 [(D.val (Value.string (s6)))] kF) ∧
 (k [(D.agg [(D.val (Value.string ({ data := #[] }))), D.nil]), (D.val (vI 7))])))))
 False)
 (B [(Prod.mk 2 (Pt 1000 0)), (Prod.mk 5 (Pt 1001 0)), (Prod.mk 22 (Sl 1002 (n0) (n0))), (Prod.mk 23 (vI x1)), (Prod.mk 24 (vI (IntKind.wrap .i64 (x2 + 1))))] [(Prod.mk 1000 (AObj.cells [(Value.string (s3)), (Value.slice none 0 0)] 31 false 2)), (Prod.mk 1001 (AObj.cells [(Value.string (s4)), (Sl 1003 1 1)] 31 false 2)), (Prod.mk 1002 (AObj.sym (l5) true 1)), (Prod.mk 1003 (AObj.sym [(vI (numB s2)), (vI (numB s5))] true 2))]))))))) ∨
 ((Says C 83 [(D.val (Value.string (s5)))] kF) ∧
 (k [(D.agg [(D.val (Value.string ({ data := #[] }))), D.nil]), (D.val (vI 7))])))))
 False)
 (B [(Prod.mk 2 (Pt 1000 0)), (Prod.mk 5 (Pt 1001 0)), (Prod.mk 22 (Sl 1002 (n0) (n0))), (Prod.mk 23 (vI x1)), (Prod.mk 24 (vI (IntKind.wrap .i64 (x2 + 1))))] [(Prod.mk 1000 (AObj.cells [(Value.string (s3)), (Value.slice none 0 0)] 31 false 2)), (Prod.mk 1001 (AObj.cells [(Value.string (s4)), (Sl 1003 1 1)] 31 false 2)), (Prod.mk 1002 (AObj.sym (l5) true 1)), (Prod.mk 1003 (AObj.sym [(vI (numB s2)), (vI 0)] true 2))]))))))) ∨
 ((Says C 83 [(D.val (Value.string (s2)))] kF) ∧
 (k [(D.agg [(D.val (Value.string ({ data := #[] }))), D.nil]), (D.val (vI 7))])))))
 False)
 (B [(Prod.mk 2 (Pt 1000 0)), (Prod.mk 5 (Pt 1001 0)), (Prod.mk 22 (Sl 1002 (n0) (n0))), (Prod.mk 23 (vI x1)), (Prod.mk 24 (vI (IntKind.wrap .i64 (x2 + 1))))] [(Prod.mk 1000 (AObj.cells [(Value.string (s3)), (Value.slice none 0 0)] 31 false 2)), (Prod.mk 1001 (AObj.cells [(Value.string (s4)), (Sl 1003 1 1)] 31 false 2)), (Prod.mk 1002 (AObj.sym (l5) true 1)), (Prod.mk 1003 (AObj.sym [(vI 0), (vI 0)] true 2))])))))))))
 False)
 False)
 (X 0 [(Prod.mk 2 (Pt 1000 0)), (Prod.mk 5 (Pt 1001 0))] [(Prod.mk 1000 (AObj.cells [(Value.string (s3)), (Value.slice none 0 0)] 31 false 2)), (Prod.mk 1001 (AObj.cells [(Value.string (s4)), (Value.slice none 0 0)] 31 false 2))])) := by kernel_rfl
abbrev zpL2 (o0 : Nat) (n1 : Nat) (x2 : Int) (x3 : Int) (s4 : ByteArray) (s5 : ByteArray) (l6 : List Value) : Slots × Blocks := ([(2, (Value.pointer (some ⟨1000, 0, none⟩))), (5, (Value.pointer (some ⟨1001, 0, none⟩))), (22, (Value.slice (some ⟨1002, o0, none⟩) n1 n1)), (23, (Value.int .i64 x2)), (24, (Value.int .i64 x3))], [(1000, (AObj.cells [(Value.string s4), (Value.slice none 0 0)] 31 false 2)), (1001, (AObj.cells [(Value.string s5), (Value.slice none 0 0)] 31 false 2)), (1002, (AObj.sym l6 true 1))])
def rpL2 (C : Ct) (L : AtLoop) (o0 : Nat) (n1 : Nat) (x2 : Int) (x3 : Int) (s4 : ByteArray) (s5 : ByteArray) (l6 : List Value) (B : Bx) (X : Xx) (k : List D → Prop) : Prop := wpRound Tryz.prog (hP C) L 21 0 [(2, (Value.pointer (some ⟨1000, 0, none⟩))), (5, (Value.pointer (some ⟨1001, 0, none⟩))), (22, (Value.slice (some ⟨1002, o0, none⟩) n1 n1)), (23, (Value.int .i64 x2)), (24, (Value.int .i64 x3))] [(1000, (AObj.cells [(Value.string s4), (Value.slice none 0 0)] 31 false 2)), (1001, (AObj.cells [(Value.string s5), (Value.slice none 0 0)] 31 false 2)), (1002, (AObj.sym l6 true 1))] B X (dataK k)
theorem rpL2_text (C : Ct) (L : AtLoop) (o0 : Nat) (n1 : Nat) (x2 : Int) (x3 : Int) (s4 : ByteArray) (s5 : ByteArray) (l6 : List Go.Value) (B : Bx) (X : Xx) (k : List D → Prop) : rpL2 C L o0 n1 x2 x3 s4 s5 l6 B X k =
 (bcase (decide (x3 < x2))
 (bcase (decide (0 ≤ x3))
 (bcase (decide (x3 < (↑n1 : Int)))
 (∃ s1 : ByteArray,
 ((At (l6) (o0 + Int.toNat x3 * 1) 1 [(Value.string (s1))]) ∧
 (((Says C 44 [(D.val (Value.string (s1))), (D.val (Value.string ({ data := #[64] })))] [D.nil]) ∧
 (k [(D.agg [(D.val (Value.string ({ data := #[] }))), D.nil]), (D.val (vI 7))])) ∨
 (∃ n2 : Nat,
 (∃ cs1 : List Go.Value,
 ((Says C 44 [(D.val (Value.string (s1))), (D.val (Value.string ({ data := #[64] })))] [(D.sl (n2) 1 (cs1))]) ∧
 (bcase ((↑n2 : Int) != (↑2 : Int))
 (k [(D.agg [(D.val (Value.string ({ data := #[] }))), D.nil]), (D.val (vI 7))])
 (bcase (decide (0 < (↑n2 : Int)))
 (bcase (decide (0 < (↑n2 : Int)))
 (∃ s2 : ByteArray,
 ((At (cs1) 0 1 [(Value.string (s2))]) ∧
 (((Says C 83 [(D.val (Value.string (s2)))] kT) ∧
 (((Qv (Value.string (s2))) ∧
 ((Qv (Pt 1003 0)) ∧
 ((Qv (Pt 1004 0)) ∧
 ((Qv (vI 0)) ∧
 ((Qv (Sl 1004 2 2)) ∧
 True))))) ∧
 ((Says C 84 [(D.val (Value.string (s2)))] [(D.val (vI (numB s2))), (D.val Value.nilIface)]) ∧
 (((Qv (Pt 1003 0)) ∧
 ((Value.nilIface = Value.nilIface) ∧
 ((Qv (vI (numB s2))) ∧
 ((Qv (Value.tuple [(vI (numB s2)), Value.nilIface].toArray)) ∧
 ((Qv (Pt 1003 0)) ∧
 ((Qv (Pt 1004 0)) ∧
 ((Qv (vI 0)) ∧
 ((Qv (Sl 1004 2 2)) ∧
 True)))))))) ∧
 (((Value.nilIface = Value.nilIface) ∧
 True) ∧
 (bcase (decide (IntKind.wrap .i64 (0 + 1) < (↑n2 : Int)))
 (bcase (decide (IntKind.wrap .i64 (0 + 1) < (↑n2 : Int)))
 (∃ s3 : ByteArray,
 ((At (cs1) 1 1 [(Value.string (s3))]) ∧
 (((Says C 83 [(D.val (Value.string (s3)))] kT) ∧
 (((Qv (Value.string (s3))) ∧
 ((Qv (Pt 1003 1)) ∧
 ((Qv (Pt 1004 1)) ∧
 ((Qv (vI 1)) ∧
 ((Qv (Sl 1004 2 2)) ∧
 True))))) ∧
 ((Says C 84 [(D.val (Value.string (s3)))] [(D.val (vI (numB s3))), (D.val Value.nilIface)]) ∧
 (((Qv (Pt 1003 1)) ∧
 ((Value.nilIface = Value.nilIface) ∧
 ((Qv (vI (numB s3))) ∧
 ((Qv (Value.tuple [(vI (numB s3)), Value.nilIface].toArray)) ∧
 ((Qv (Pt 1003 1)) ∧
 ((Qv (Pt 1004 1)) ∧
 ((Qv (vI 1)) ∧
 ((Qv (Sl 1004 2 2)) ∧
 True)))))))) ∧
 (((Value.nilIface = Value.nilIface) ∧
 True) ∧
 (bcase (decide (IntKind.wrap .i64 (IntKind.wrap .i64 (0 + 1) + 1) < (↑n2 : Int)))
 (bcase (decide (IntKind.wrap .i64 (IntKind.wrap .i64 (0 + 1) + 1) < (↑n2 : Int)))
 (∃ s6 : ByteArray,
 ((At (cs1) 2 1 [(Value.string (s6))]) ∧
 (((Says C 83 [(D.val (Value.string (s6)))] kT) ∧
 False) ∨
 ((Says C 83 [(D.val (Value.string (s6)))] kF) ∧
 (k [(D.agg [(D.val (Value.string ({ data := #[] }))), D.nil]), (D.val (vI 7))])))))
 False)
 (B [(Prod.mk 2 (Pt 1000 0)), (Prod.mk 5 (Pt 1001 0)), (Prod.mk 22 (Value.slice (some (Addr.mk 1002 (o0) none)) (n1) (n1))), (Prod.mk 23 (vI x2)), (Prod.mk 24 (vI (IntKind.wrap .i64 (x3 + 1))))] [(Prod.mk 1000 (AObj.cells [(Value.string (s4)), (Value.slice none 0 0)] 31 false 2)), (Prod.mk 1001 (AObj.cells [(Value.string (s5)), (Sl 1003 1 1)] 31 false 2)), (Prod.mk 1002 (AObj.sym (l6) true 1)), (Prod.mk 1003 (AObj.sym [(vI (numB s2)), (vI (numB s3))] true 2))]))))))) ∨
 ((Says C 83 [(D.val (Value.string (s3)))] kF) ∧
 (k [(D.agg [(D.val (Value.string ({ data := #[] }))), D.nil]), (D.val (vI 7))])))))
 False)
 (B [(Prod.mk 2 (Pt 1000 0)), (Prod.mk 5 (Pt 1001 0)), (Prod.mk 22 (Value.slice (some (Addr.mk 1002 (o0) none)) (n1) (n1))), (Prod.mk 23 (vI x2)), (Prod.mk 24 (vI (IntKind.wrap .i64 (x3 + 1))))] [(Prod.mk 1000 (AObj.cells [(Value.string (s4)), (Value.slice none 0 0)] 31 false 2)), (Prod.mk 1001 (AObj.cells [(Value.string (s5)), (Sl 1003 1 1)] 31 false 2)), (Prod.mk 1002 (AObj.sym (l6) true 1)), (Prod.mk 1003 (AObj.sym [(vI (numB s2)), (vI 0)] true 2))]))))))) ∨
 ((Says C 83 [(D.val (Value.string (s2)))] kF) ∧
 (k [(D.agg [(D.val (Value.string ({ data := #[] }))), D.nil]), (D.val (vI 7))])))))
 False)
 (B [(Prod.mk 2 (Pt 1000 0)), (Prod.mk 5 (Pt 1001 0)), (Prod.mk 22 (Value.slice (some (Addr.mk 1002 (o0) none)) (n1) (n1))), (Prod.mk 23 (vI x2)), (Prod.mk 24 (vI (IntKind.wrap .i64 (x3 + 1))))] [(Prod.mk 1000 (AObj.cells [(Value.string (s4)), (Value.slice none 0 0)] 31 false 2)), (Prod.mk 1001 (AObj.cells [(Value.string (s5)), (Sl 1003 1 1)] 31 false 2)), (Prod.mk 1002 (AObj.sym (l6) true 1)), (Prod.mk 1003 (AObj.sym [(vI 0), (vI 0)] true 2))])))))))))
 False)
 False)
 (X 0 [(Prod.mk 2 (Pt 1000 0)), (Prod.mk 5 (Pt 1001 0))] [(Prod.mk 1000 (AObj.cells [(Value.string (s4)), (Value.slice none 0 0)] 31 false 2)), (Prod.mk 1001 (AObj.cells [(Value.string (s5)), (Value.slice none 0 0)] 31 false 2))])) := by kernel_rfl
def npL4 (C : Ct) (L : AtLoop) (s0 : ByteArray) (s1 : ByteArray) (k : List D → Prop) : Prop := wpNext Tryz.prog (hP C) L 21 0 .normal [(2, (Value.pointer (some ⟨1000, 0, none⟩))), (5, (Value.pointer (some ⟨1001, 0, none⟩)))] [(1000, (AObj.cells [(Value.string s0), (Value.slice none 0 0)] 31 false 2)), (1001, (AObj.cells [(Value.string s1), (Value.slice none 0 0)] 31 false 2))] (dataK k)
theorem npL4_text (C : Ct) (L : AtLoop) (s0 : ByteArray) (s1 : ByteArray) (k : List D → Prop) : npL4 C L s0 s1 k =
 (∃ n1 : Int,
 (∃ n2 : Int,
 ((Says C 50 [(D.agg [(D.val (Value.string (s1))), D.nil])] [(dI n1), (dI n2)]) ∧
 (bcase (n2 != 0)
 (k [(D.agg [(D.val (Value.string ({ data := #[] }))), D.nil]), (dI n2)])
 (k [(D.agg [(D.val (Value.string (s1))), D.nil]), (dI 0)]))))) := by kernel_rfl
abbrev zpL5 (o0 : Nat) (n1 : Nat) (x2 : Int) (x3 : Int) (s4 : ByteArray) (s5 : ByteArray) (n6 : Nat) (l7 : List Value) (l8 : List Value) : Slots × Blocks := ([(2, (Value.pointer (some ⟨1000, 0, none⟩))), (5, (Value.pointer (some ⟨1001, 0, none⟩))), (22, (Value.slice (some ⟨1002, o0, none⟩) n1 n1)), (23, (Value.int .i64 x2)), (24, (Value.int .i64 x3))], [(1000, (AObj.cells [(Value.string s4), (Value.slice none 0 0)] 31 false 2)), (1001, (AObj.cells [(Value.string s5), (Value.slice (some ⟨1003, 0, none⟩) n6 n6)] 31 false 2)), (1002, (AObj.sym l7 true 1)), (1003, (AObj.sym l8 true 2))])
def rpL5 (C : Ct) (L : AtLoop) (o0 : Nat) (n1 : Nat) (x2 : Int) (x3 : Int) (s4 : ByteArray) (s5 : ByteArray) (n6 : Nat) (l7 : List Value) (l8 : List Value) (B : Bx) (X : Xx) (k : List D → Prop) : Prop := wpRound Tryz.prog (hP C) L 21 0 [(2, (Value.pointer (some ⟨1000, 0, none⟩))), (5, (Value.pointer (some ⟨1001, 0, none⟩))), (22, (Value.slice (some ⟨1002, o0, none⟩) n1 n1)), (23, (Value.int .i64 x2)), (24, (Value.int .i64 x3))] [(1000, (AObj.cells [(Value.string s4), (Value.slice none 0 0)] 31 false 2)), (1001, (AObj.cells [(Value.string s5), (Value.slice (some ⟨1003, 0, none⟩) n6 n6)] 31 false 2)), (1002, (AObj.sym l7 true 1)), (1003, (AObj.sym l8 true 2))] B X (dataK k)
theorem rpL5_text (C : Ct) (L : AtLoop) (o0 : Nat) (n1 : Nat) (x2 : Int) (x3 : Int) (s4 : ByteArray) (s5 : ByteArray) (n6 : Nat) (l7 : List Go.Value) (l8 : List Go.Value) (B : Bx) (X : Xx) (k : List D → Prop) : rpL5 C L o0 n1 x2 x3 s4 s5 n6 l7 l8 B X k =
 (bcase (decide (x3 < x2))
 (bcase (decide (0 ≤ x3))
 (bcase (decide (x3 < (↑n1 : Int)))
 (∃ s1 : ByteArray,
 ((At (l7) (o0 + Int.toNat x3 * 1) 1 [(Value.string (s1))]) ∧
 (((Says C 44 [(D.val (Value.string (s1))), (D.val (Value.string ({ data := #[64] })))] [D.nil]) ∧
 (k [(D.agg [(D.val (Value.string ({ data := #[] }))), D.nil]), (D.val (vI 7))])) ∨
 (∃ n2 : Nat,
 (∃ cs1 : List Go.Value,
 ((Says C 44 [(D.val (Value.string (s1))), (D.val (Value.string ({ data := #[64] })))] [(D.sl (n2) 1 (cs1))]) ∧
 (bcase ((↑n2 : Int) != (↑2 : Int))
 (k [(D.agg [(D.val (Value.string ({ data := #[] }))), D.nil]), (D.val (vI 7))])
 (bcase (decide (0 < (↑n2 : Int)))
 (bcase (decide (0 < (↑n2 : Int)))
 (∃ s2 : ByteArray,
 ((At (cs1) 0 1 [(Value.string (s2))]) ∧
 (((Says C 83 [(D.val (Value.string (s2)))] kT) ∧
 (((Qv (Value.string (s2))) ∧
 ((Qv (Pt 1004 0)) ∧
 ((Qv (Pt 1005 0)) ∧
 ((Qv (vI 0)) ∧
 ((Qv (Sl 1005 2 2)) ∧
 True))))) ∧
 ((Says C 84 [(D.val (Value.string (s2)))] [(D.val (vI (numB s2))), (D.val Value.nilIface)]) ∧
 (((Qv (Pt 1004 0)) ∧
 ((Value.nilIface = Value.nilIface) ∧
 ((Qv (vI (numB s2))) ∧
 ((Qv (Value.tuple [(vI (numB s2)), Value.nilIface].toArray)) ∧
 ((Qv (Pt 1004 0)) ∧
 ((Qv (Pt 1005 0)) ∧
 ((Qv (vI 0)) ∧
 ((Qv (Sl 1005 2 2)) ∧
 True)))))))) ∧
 (((Value.nilIface = Value.nilIface) ∧
 True) ∧
 (bcase (decide (IntKind.wrap .i64 (0 + 1) < (↑n2 : Int)))
 (bcase (decide (IntKind.wrap .i64 (0 + 1) < (↑n2 : Int)))
 (∃ s3 : ByteArray,
 ((At (cs1) 1 1 [(Value.string (s3))]) ∧
 (((Says C 83 [(D.val (Value.string (s3)))] kT) ∧
 (((Qv (Value.string (s3))) ∧
 ((Qv (Pt 1004 1)) ∧
 ((Qv (Pt 1005 1)) ∧
 ((Qv (vI 1)) ∧
 ((Qv (Sl 1005 2 2)) ∧
 True))))) ∧
 ((Says C 84 [(D.val (Value.string (s3)))] [(D.val (vI (numB s3))), (D.val Value.nilIface)]) ∧
 (((Qv (Pt 1004 1)) ∧
 ((Value.nilIface = Value.nilIface) ∧
 ((Qv (vI (numB s3))) ∧
 ((Qv (Value.tuple [(vI (numB s3)), Value.nilIface].toArray)) ∧
 ((Qv (Pt 1004 1)) ∧
 ((Qv (Pt 1005 1)) ∧
 ((Qv (vI 1)) ∧
 ((Qv (Sl 1005 2 2)) ∧
 True)))))))) ∧
 (((Value.nilIface = Value.nilIface) ∧
 True) ∧
 (bcase (decide (IntKind.wrap .i64 (IntKind.wrap .i64 (0 + 1) + 1) < (↑n2 : Int)))
 (bcase (decide (IntKind.wrap .i64 (IntKind.wrap .i64 (0 + 1) + 1) < (↑n2 : Int)))
 (∃ s6 : ByteArray,
 ((At (cs1) 2 1 [(Value.string (s6))]) ∧
 (((Says C 83 [(D.val (Value.string (s6)))] kT) ∧
 False) ∨
 ((Says C 83 [(D.val (Value.string (s6)))] kF) ∧
 (k [(D.agg [(D.val (Value.string ({ data := #[] }))), D.nil]), (D.val (vI 7))])))))
 False)
 (bcase (decide (n6 < n6 + 1))
 (bcase (decide ((2 * (n6 + 1) + 768) * 16 ≤ 281474976710656))
 (bcase (decide (n6 + 1 ≤ 1099511627776))
 (bcase (dL n6 2 l8)
 (bcase (decide (0 + n6 * 2 = List.length l8))
 (B [(Prod.mk 2 (Pt 1000 0)), (Prod.mk 5 (Pt 1001 0)), (Prod.mk 22 (Value.slice (some (Addr.mk 1002 (o0) none)) (n1) (n1))), (Prod.mk 23 (vI x2)), (Prod.mk 24 (vI (IntKind.wrap .i64 (x3 + 1))))] [(Prod.mk 1000 (AObj.cells [(Value.string (s4)), (Value.slice none 0 0)] 31 false 2)), (Prod.mk 1001 (AObj.cells [(Value.string (s5)), (Sl 1003 (n6 + 1) (n6 + 1))] 31 false 2)), (Prod.mk 1002 (AObj.sym (l7) true 1)), (Prod.mk 1003 (AObj.sym ((Tk n6 2 l8) ++ [(vI (numB s2)), (vI (numB s3))]) true 2))])
 False)
 False)
 False)
 False)
 False))))))) ∨
 ((Says C 83 [(D.val (Value.string (s3)))] kF) ∧
 (k [(D.agg [(D.val (Value.string ({ data := #[] }))), D.nil]), (D.val (vI 7))])))))
 False)
 (bcase (decide (n6 < n6 + 1))
 (bcase (decide ((2 * (n6 + 1) + 768) * 16 ≤ 281474976710656))
 (bcase (decide (n6 + 1 ≤ 1099511627776))
 (bcase (dL n6 2 l8)
 (bcase (decide (0 + n6 * 2 = List.length l8))
 (B [(Prod.mk 2 (Pt 1000 0)), (Prod.mk 5 (Pt 1001 0)), (Prod.mk 22 (Value.slice (some (Addr.mk 1002 (o0) none)) (n1) (n1))), (Prod.mk 23 (vI x2)), (Prod.mk 24 (vI (IntKind.wrap .i64 (x3 + 1))))] [(Prod.mk 1000 (AObj.cells [(Value.string (s4)), (Value.slice none 0 0)] 31 false 2)), (Prod.mk 1001 (AObj.cells [(Value.string (s5)), (Sl 1003 (n6 + 1) (n6 + 1))] 31 false 2)), (Prod.mk 1002 (AObj.sym (l7) true 1)), (Prod.mk 1003 (AObj.sym ((Tk n6 2 l8) ++ [(vI (numB s2)), (vI 0)]) true 2))])
 False)
 False)
 False)
 False)
 False))))))) ∨
 ((Says C 83 [(D.val (Value.string (s2)))] kF) ∧
 (k [(D.agg [(D.val (Value.string ({ data := #[] }))), D.nil]), (D.val (vI 7))])))))
 False)
 (bcase (decide (n6 < n6 + 1))
 (bcase (decide ((2 * (n6 + 1) + 768) * 16 ≤ 281474976710656))
 (bcase (decide (n6 + 1 ≤ 1099511627776))
 (bcase (dL n6 2 l8)
 (bcase (decide (0 + n6 * 2 = List.length l8))
 (B [(Prod.mk 2 (Pt 1000 0)), (Prod.mk 5 (Pt 1001 0)), (Prod.mk 22 (Value.slice (some (Addr.mk 1002 (o0) none)) (n1) (n1))), (Prod.mk 23 (vI x2)), (Prod.mk 24 (vI (IntKind.wrap .i64 (x3 + 1))))] [(Prod.mk 1000 (AObj.cells [(Value.string (s4)), (Value.slice none 0 0)] 31 false 2)), (Prod.mk 1001 (AObj.cells [(Value.string (s5)), (Sl 1003 (n6 + 1) (n6 + 1))] 31 false 2)), (Prod.mk 1002 (AObj.sym (l7) true 1)), (Prod.mk 1003 (AObj.sym ((Tk n6 2 l8) ++ [(vI 0), (vI 0)]) true 2))])
 False)
 False)
 False)
 False)
 False)))))))))
 False)
 False)
 (X 0 [(Prod.mk 2 (Pt 1000 0)), (Prod.mk 5 (Pt 1001 0))] [(Prod.mk 1000 (AObj.cells [(Value.string (s4)), (Value.slice none 0 0)] 31 false 2)), (Prod.mk 1001 (AObj.cells [(Value.string (s5)), (Sl 1002 (n6) (n6))] 31 false 2)), (Prod.mk 1002 (AObj.sym (l8) true 2))])) := by kernel_rfl
def npL6 (C : Ct) (L : AtLoop) (s0 : ByteArray) (s1 : ByteArray) (n2 : Nat) (l3 : List Value) (k : List D → Prop) : Prop := wpNext Tryz.prog (hP C) L 21 0 .normal [(2, (Value.pointer (some ⟨1000, 0, none⟩))), (5, (Value.pointer (some ⟨1001, 0, none⟩)))] [(1000, (AObj.cells [(Value.string s0), (Value.slice none 0 0)] 31 false 2)), (1001, (AObj.cells [(Value.string s1), (Value.slice (some ⟨1002, 0, none⟩) n2 n2)] 31 false 2)), (1002, (AObj.sym l3 true 2))] (dataK k)
theorem npL6_text (C : Ct) (L : AtLoop) (s0 : ByteArray) (s1 : ByteArray) (n2 : Nat) (l3 : List Go.Value) (k : List D → Prop) : npL6 C L s0 s1 n2 l3 k =
 (bcase (dL n2 2 l3)
 (∃ n1 : Int,
 (∃ n3 : Int,
 ((Says C 50 [(D.agg [(D.val (Value.string (s1))), (Dw n2 2 l3)])] [(dI n1), (dI n3)]) ∧
 (bcase (n3 != 0)
 (k [(D.agg [(D.val (Value.string ({ data := #[] }))), D.nil]), (dI n3)])
 (((Qv (n2)) ∧
 ((List.length l3) = (n2 * 2))) ∧
 (k [(D.agg [(D.val (Value.string (s1))), (D.sl (n2) 2 (l3))]), (dI 0)]))))))
 False) := by kernel_rfl
def gpR (C : Ct) (L : AtLoop) (s0 : ByteArray) (k : List D → Prop) : Prop := wpFn Tryz.prog (hP C) L 0 19 #[.string s0] (heapOf []) (dataK k)
theorem gpR_text (C : Ct) (L : AtLoop) (s0 : ByteArray) (k : List D → Prop) : gpR C L s0 k =
 (((Says C 44 [(D.val (Value.string (s0))), (D.val (Value.string ({ data := #[32] })))] [D.nil]) ∧
 (k [(D.agg [D.nil, (dI 0), (dI 0), (dI 0), (dI 0), (dI 0)]), (D.val (vI 7))])) ∨
 (∃ n1 : Nat,
 (∃ cs1 : List Go.Value,
 ((Says C 44 [(D.val (Value.string (s0))), (D.val (Value.string ({ data := #[32] })))] [(D.sl (n1) 1 (cs1))]) ∧
 (bcase (decide ((↑n1 : Int) ≥ 3))
 (bcase (decide (0 < (↑n1 : Int)))
 (∃ s1 : ByteArray,
 ((At (cs1) 0 1 [(Value.string (s1))]) ∧
 (((Says C 44 [(D.val (Value.string (s1))), (D.val (Value.string ({ data := #[47] })))] [D.nil]) ∧
 (k [(D.agg [D.nil, (dI 0), (dI 0), (dI 0), (dI 0), (dI 0)]), (D.val (vI 7))])) ∨
 (∃ n2 : Nat,
 (∃ cs2 : List Go.Value,
 ((Says C 44 [(D.val (Value.string (s1))), (D.val (Value.string ({ data := #[47] })))] [(D.sl (n2) 1 (cs2))]) ∧
 (bcase ((↑n2 : Int) != (↑2 : Int))
 (k [(D.agg [D.nil, (dI 0), (dI 0), (dI 0), (dI 0), (dI 0)]), (D.val (vI 7))])
 (bcase (decide (0 < (↑n2 : Int)))
 (bcase (decide (0 < (↑n2 : Int)))
 (∃ s2 : ByteArray,
 ((At (cs2) 0 1 [(Value.string (s2))]) ∧
 (((Says C 83 [(D.val (Value.string (s2)))] kT) ∧
 (((Qv (Value.string (s2))) ∧
 ((Qv (Pt 1003 1)) ∧
 ((Qv (Pt 1004 0)) ∧
 ((Qv (vI 0)) ∧
 ((Qv (Sl 1004 2 2)) ∧
 True))))) ∧
 ((Says C 84 [(D.val (Value.string (s2)))] [(D.val (vI (numB s2))), (D.val Value.nilIface)]) ∧
 (((Qv (Pt 1003 1)) ∧
 ((Value.nilIface = Value.nilIface) ∧
 ((Qv (vI (numB s2))) ∧
 ((Qv (Value.tuple [(vI (numB s2)), Value.nilIface].toArray)) ∧
 ((Qv (Pt 1003 1)) ∧
 ((Qv (Pt 1004 0)) ∧
 ((Qv (vI 0)) ∧
 ((Qv (Sl 1004 2 2)) ∧
 True)))))))) ∧
 (((Value.nilIface = Value.nilIface) ∧
 True) ∧
 (bcase (decide (IntKind.wrap .i64 (0 + 1) < (↑n2 : Int)))
 (bcase (decide (IntKind.wrap .i64 (0 + 1) < (↑n2 : Int)))
 (∃ s3 : ByteArray,
 ((At (cs2) 1 1 [(Value.string (s3))]) ∧
 (((Says C 83 [(D.val (Value.string (s3)))] kT) ∧
 (((Qv (Value.string (s3))) ∧
 ((Qv (Pt 1003 2)) ∧
 ((Qv (Pt 1004 1)) ∧
 ((Qv (vI 1)) ∧
 ((Qv (Sl 1004 2 2)) ∧
 True))))) ∧
 ((Says C 84 [(D.val (Value.string (s3)))] [(D.val (vI (numB s3))), (D.val Value.nilIface)]) ∧
 (((Qv (Pt 1003 2)) ∧
 ((Value.nilIface = Value.nilIface) ∧
 ((Qv (vI (numB s3))) ∧
 ((Qv (Value.tuple [(vI (numB s3)), Value.nilIface].toArray)) ∧
 ((Qv (Pt 1003 2)) ∧
 ((Qv (Pt 1004 1)) ∧
 ((Qv (vI 1)) ∧
 ((Qv (Sl 1004 2 2)) ∧
 True)))))))) ∧
 (((Value.nilIface = Value.nilIface) ∧
 True) ∧
 (bcase (decide (IntKind.wrap .i64 (IntKind.wrap .i64 (0 + 1) + 1) < (↑n2 : Int)))
 (bcase (decide (IntKind.wrap .i64 (IntKind.wrap .i64 (0 + 1) + 1) < (↑n2 : Int)))
 (∃ s4 : ByteArray,
 ((At (cs2) 2 1 [(Value.string (s4))]) ∧
 (((Says C 83 [(D.val (Value.string (s4)))] kT) ∧
 False) ∨
 ((Says C 83 [(D.val (Value.string (s4)))] kF) ∧
 (k [(D.agg [D.nil, (dI 0), (dI 0), (dI 0), (dI 0), (dI 0)]), (D.val (vI 7))])))))
 False)
 (bcase (decide (1 < (↑n1 : Int)))
 (∃ s4 : ByteArray,
 ((At (cs1) 1 1 [(Value.string (s4))]) ∧
 (((Says C 44 [(D.val (Value.string (s4))), (D.val (Value.string ({ data := #[47] })))] [D.nil]) ∧
 (k [(D.agg [D.nil, (dI 0), (dI 0), (dI 0), (dI 0), (dI 0)]), (D.val (vI 7))])) ∨
 (∃ n3 : Nat,
 (∃ cs3 : List Go.Value,
 ((Says C 44 [(D.val (Value.string (s4))), (D.val (Value.string ({ data := #[47] })))] [(D.sl (n3) 1 (cs3))]) ∧
 (bcase ((↑n3 : Int) != (↑2 : Int))
 (k [(D.agg [D.nil, (dI 0), (dI 0), (dI 0), (dI 0), (dI 0)]), (D.val (vI 7))])
 (bcase (decide (0 < (↑n3 : Int)))
 (bcase (decide (0 < (↑n3 : Int)))
 (∃ s5 : ByteArray,
 ((At (cs3) 0 1 [(Value.string (s5))]) ∧
 (((Says C 83 [(D.val (Value.string (s5)))] kT) ∧
 (((Qv (Value.string (s5))) ∧
 ((Qv (Pt 1003 3)) ∧
 ((Qv (Pt 1006 0)) ∧
 ((Qv (vI 0)) ∧
 ((Qv (Sl 1006 2 2)) ∧
 True))))) ∧
 ((Says C 84 [(D.val (Value.string (s5)))] [(D.val (vI (numB s5))), (D.val Value.nilIface)]) ∧
 (((Qv (Pt 1003 3)) ∧
 ((Value.nilIface = Value.nilIface) ∧
 ((Qv (vI (numB s5))) ∧
 ((Qv (Value.tuple [(vI (numB s5)), Value.nilIface].toArray)) ∧
 ((Qv (Pt 1003 3)) ∧
 ((Qv (Pt 1006 0)) ∧
 ((Qv (vI 0)) ∧
 ((Qv (Sl 1006 2 2)) ∧
 True)))))))) ∧
 (((Value.nilIface = Value.nilIface) ∧
 True) ∧
 (bcase (decide (IntKind.wrap .i64 (0 + 1) < (↑n3 : Int)))
 (bcase (decide (IntKind.wrap .i64 (0 + 1) < (↑n3 : Int)))
 (∃ s6 : ByteArray,
 ((At (cs3) 1 1 [(Value.string (s6))]) ∧
 (((Says C 83 [(D.val (Value.string (s6)))] kT) ∧
 (((Qv (Value.string (s6))) ∧
 ((Qv (Pt 1003 4)) ∧
 ((Qv (Pt 1006 1)) ∧
 ((Qv (vI 1)) ∧
 ((Qv (Sl 1006 2 2)) ∧
 True))))) ∧
 ((Says C 84 [(D.val (Value.string (s6)))] [(D.val (vI (numB s6))), (D.val Value.nilIface)]) ∧
 (((Qv (Pt 1003 4)) ∧
 ((Value.nilIface = Value.nilIface) ∧
 ((Qv (vI (numB s6))) ∧
 ((Qv (Value.tuple [(vI (numB s6)), Value.nilIface].toArray)) ∧
 ((Qv (Pt 1003 4)) ∧
 ((Qv (Pt 1006 1)) ∧
 ((Qv (vI 1)) ∧
 ((Qv (Sl 1006 2 2)) ∧
 True)))))))) ∧
 (((Value.nilIface = Value.nilIface) ∧
 True) ∧
 (bcase (decide (IntKind.wrap .i64 (IntKind.wrap .i64 (0 + 1) + 1) < (↑n3 : Int)))
 (bcase (decide (IntKind.wrap .i64 (IntKind.wrap .i64 (0 + 1) + 1) < (↑n3 : Int)))
 (∃ s7 : ByteArray,
 ((At (cs3) 2 1 [(Value.string (s7))]) ∧
 (((Says C 83 [(D.val (Value.string (s7)))] kT) ∧
 False) ∨
 ((Says C 83 [(D.val (Value.string (s7)))] kF) ∧
 (k [(D.agg [D.nil, (dI 0), (dI 0), (dI 0), (dI 0), (dI 0)]), (D.val (vI 7))])))))
 False)
 (bcase (decide (2 < (↑n1 : Int)))
 (∃ s7 : ByteArray,
 ((At (cs1) 2 1 [(Value.string (s7))]) ∧
 (((Says C 44 [(D.val (Value.string (s7))), (D.val (Value.string ({ data := #[32] })))] [D.nil]) ∧
 (k [(D.agg [D.nil, (dI 0), (dI 0), (dI 0), (dI 0), (dI 0)]), (D.val (vI 7))])) ∨
 (∃ n4 : Nat,
 (∃ cs4 : List Go.Value,
 ((Says C 44 [(D.val (Value.string (s7))), (D.val (Value.string ({ data := #[32] })))] [(D.sl (n4) 1 (cs4))]) ∧
 (bcase ((↑n4 : Int) != (↑1 : Int))
 (k [(D.agg [D.nil, (dI 0), (dI 0), (dI 0), (dI 0), (dI 0)]), (D.val (vI 7))])
 (bcase (decide (0 < (↑n4 : Int)))
 (bcase (decide (0 < (↑n4 : Int)))
 (∃ s8 : ByteArray,
 ((At (cs4) 0 1 [(Value.string (s8))]) ∧
 (((Says C 83 [(D.val (Value.string (s8)))] kT) ∧
 (((Qv (Value.string (s8))) ∧
 ((Qv (Pt 1003 5)) ∧
 ((Qv (Pt 1008 0)) ∧
 ((Qv (vI 0)) ∧
 ((Qv (Sl 1008 1 1)) ∧
 True))))) ∧
 ((Says C 84 [(D.val (Value.string (s8)))] [(D.val (vI (numB s8))), (D.val Value.nilIface)]) ∧
 (((Qv (Pt 1003 5)) ∧
 ((Value.nilIface = Value.nilIface) ∧
 ((Qv (vI (numB s8))) ∧
 ((Qv (Value.tuple [(vI (numB s8)), Value.nilIface].toArray)) ∧
 ((Qv (Pt 1003 5)) ∧
 ((Qv (Pt 1008 0)) ∧
 ((Qv (vI 0)) ∧
 ((Qv (Sl 1008 1 1)) ∧
 True)))))))) ∧
 (((Value.nilIface = Value.nilIface) ∧
 True) ∧
 (bcase (decide (IntKind.wrap .i64 (0 + 1) < (↑n4 : Int)))
 (bcase (decide (IntKind.wrap .i64 (0 + 1) < (↑n4 : Int)))
 (∃ s9 : ByteArray,
 ((At (cs4) 1 1 [(Value.string (s9))]) ∧
 (((Says C 83 [(D.val (Value.string (s9)))] kT) ∧
 False) ∨
 ((Says C 83 [(D.val (Value.string (s9)))] kF) ∧
 (k [(D.agg [D.nil, (dI 0), (dI 0), (dI 0), (dI 0), (dI 0)]), (D.val (vI 7))])))))
 False)
 (bcase (decide (3 ≤ (↑n1 : Int)))
 (bcase (decide (n1 ≤ n1))
 (bcase (n1 == 3)
 ((L 0 [(Prod.mk 2 (Pt 1000 0)), (Prod.mk 5 (Pt 1001 0)), (Prod.mk 23 (Sl 1002 (n1 - 3) (n1 - 3))), (Prod.mk 24 (vI ((↑(n1 - 3) : Int)))), (Prod.mk 25 (vI 0))] [(Prod.mk 1000 (AObj.cells [(Value.slice none 0 0), (vI 0), (vI 0), (vI 0), (vI 0), (vI 0)] 26 false 6)), (Prod.mk 1001 (AObj.cells [(Value.slice none 0 0), (vI (numB s2)), (vI (numB s3)), (vI (numB s5)), (vI (numB s6)), (vI (numB s8))] 26 false 6)), (Prod.mk 1002 (AObj.sym (cs1) true 1))]) ∧
 (L 0 [(Prod.mk 2 (Pt 1000 0)), (Prod.mk 5 (Pt 1001 0)), (Prod.mk 23 (Value.slice (some (Addr.mk 1002 3 none)) (n1 - 3) (n1 - 3))), (Prod.mk 24 (vI ((↑(n1 - 3) : Int)))), (Prod.mk 25 (vI 0))] [(Prod.mk 1000 (AObj.cells [(Value.slice none 0 0), (vI 0), (vI 0), (vI 0), (vI 0), (vI 0)] 26 false 6)), (Prod.mk 1001 (AObj.cells [(Value.slice none 0 0), (vI (numB s2)), (vI (numB s3)), (vI (numB s5)), (vI (numB s6)), (vI (numB s8))] 26 false 6)), (Prod.mk 1002 (AObj.sym (cs1) true 1))]))
 (L 0 [(Prod.mk 2 (Pt 1000 0)), (Prod.mk 5 (Pt 1001 0)), (Prod.mk 23 (Value.slice (some (Addr.mk 1002 3 none)) (n1 - 3) (n1 - 3))), (Prod.mk 24 (vI ((↑(n1 - 3) : Int)))), (Prod.mk 25 (vI 0))] [(Prod.mk 1000 (AObj.cells [(Value.slice none 0 0), (vI 0), (vI 0), (vI 0), (vI 0), (vI 0)] 26 false 6)), (Prod.mk 1001 (AObj.cells [(Value.slice none 0 0), (vI (numB s2)), (vI (numB s3)), (vI (numB s5)), (vI (numB s6)), (vI (numB s8))] 26 false 6)), (Prod.mk 1002 (AObj.sym (cs1) true 1))]))
 False)
 False))))))) ∨
 ((Says C 83 [(D.val (Value.string (s8)))] kF) ∧
 (k [(D.agg [D.nil, (dI 0), (dI 0), (dI 0), (dI 0), (dI 0)]), (D.val (vI 7))])))))
 False)
 (bcase (decide (3 ≤ (↑n1 : Int)))
 (bcase (decide (n1 ≤ n1))
 (bcase (n1 == 3)
 ((L 0 [(Prod.mk 2 (Pt 1000 0)), (Prod.mk 5 (Pt 1001 0)), (Prod.mk 23 (Sl 1002 (n1 - 3) (n1 - 3))), (Prod.mk 24 (vI ((↑(n1 - 3) : Int)))), (Prod.mk 25 (vI 0))] [(Prod.mk 1000 (AObj.cells [(Value.slice none 0 0), (vI 0), (vI 0), (vI 0), (vI 0), (vI 0)] 26 false 6)), (Prod.mk 1001 (AObj.cells [(Value.slice none 0 0), (vI (numB s2)), (vI (numB s3)), (vI (numB s5)), (vI (numB s6)), (vI 0)] 26 false 6)), (Prod.mk 1002 (AObj.sym (cs1) true 1))]) ∧
 (L 0 [(Prod.mk 2 (Pt 1000 0)), (Prod.mk 5 (Pt 1001 0)), (Prod.mk 23 (Value.slice (some (Addr.mk 1002 3 none)) (n1 - 3) (n1 - 3))), (Prod.mk 24 (vI ((↑(n1 - 3) : Int)))), (Prod.mk 25 (vI 0))] [(Prod.mk 1000 (AObj.cells [(Value.slice none 0 0), (vI 0), (vI 0), (vI 0), (vI 0), (vI 0)] 26 false 6)), (Prod.mk 1001 (AObj.cells [(Value.slice none 0 0), (vI (numB s2)), (vI (numB s3)), (vI (numB s5)), (vI (numB s6)), (vI 0)] 26 false 6)), (Prod.mk 1002 (AObj.sym (cs1) true 1))]))
 (L 0 [(Prod.mk 2 (Pt 1000 0)), (Prod.mk 5 (Pt 1001 0)), (Prod.mk 23 (Value.slice (some (Addr.mk 1002 3 none)) (n1 - 3) (n1 - 3))), (Prod.mk 24 (vI ((↑(n1 - 3) : Int)))), (Prod.mk 25 (vI 0))] [(Prod.mk 1000 (AObj.cells [(Value.slice none 0 0), (vI 0), (vI 0), (vI 0), (vI 0), (vI 0)] 26 false 6)), (Prod.mk 1001 (AObj.cells [(Value.slice none 0 0), (vI (numB s2)), (vI (numB s3)), (vI (numB s5)), (vI (numB s6)), (vI 0)] 26 false 6)), (Prod.mk 1002 (AObj.sym (cs1) true 1))]))
 False)
 False)))))))))
 False))))))) ∨
 ((Says C 83 [(D.val (Value.string (s6)))] kF) ∧
 (k [(D.agg [D.nil, (dI 0), (dI 0), (dI 0), (dI 0), (dI 0)]), (D.val (vI 7))])))))
 False)
 (bcase (decide (2 < (↑n1 : Int)))
 (∃ s6 : ByteArray,
 ((At (cs1) 2 1 [(Value.string (s6))]) ∧
 (((Says C 44 [(D.val (Value.string (s6))), (D.val (Value.string ({ data := #[32] })))] [D.nil]) ∧
 (k [(D.agg [D.nil, (dI 0), (dI 0), (dI 0), (dI 0), (dI 0)]), (D.val (vI 7))])) ∨
 (∃ n4 : Nat,
 (∃ cs4 : List Go.Value,
 ((Says C 44 [(D.val (Value.string (s6))), (D.val (Value.string ({ data := #[32] })))] [(D.sl (n4) 1 (cs4))]) ∧
 (bcase ((↑n4 : Int) != (↑1 : Int))
 (k [(D.agg [D.nil, (dI 0), (dI 0), (dI 0), (dI 0), (dI 0)]), (D.val (vI 7))])
 (bcase (decide (0 < (↑n4 : Int)))
 (bcase (decide (0 < (↑n4 : Int)))
 (∃ s7 : ByteArray,
 ((At (cs4) 0 1 [(Value.string (s7))]) ∧
 (((Says C 83 [(D.val (Value.string (s7)))] kT) ∧
 (((Qv (Value.string (s7))) ∧
 ((Qv (Pt 1003 5)) ∧
 ((Qv (Pt 1008 0)) ∧
 ((Qv (vI 0)) ∧
 ((Qv (Sl 1008 1 1)) ∧
 True))))) ∧
 ((Says C 84 [(D.val (Value.string (s7)))] [(D.val (vI (numB s7))), (D.val Value.nilIface)]) ∧
 (((Qv (Pt 1003 5)) ∧
 ((Value.nilIface = Value.nilIface) ∧
 ((Qv (vI (numB s7))) ∧
 ((Qv (Value.tuple [(vI (numB s7)), Value.nilIface].toArray)) ∧
 ((Qv (Pt 1003 5)) ∧
 ((Qv (Pt 1008 0)) ∧
 ((Qv (vI 0)) ∧
 ((Qv (Sl 1008 1 1)) ∧
 True)))))))) ∧
 (((Value.nilIface = Value.nilIface) ∧
 True) ∧
 (bcase (decide (IntKind.wrap .i64 (0 + 1) < (↑n4 : Int)))
 (bcase (decide (IntKind.wrap .i64 (0 + 1) < (↑n4 : Int)))
 (∃ s8 : ByteArray,
 ((At (cs4) 1 1 [(Value.string (s8))]) ∧
 (((Says C 83 [(D.val (Value.string (s8)))] kT) ∧
 False) ∨
 ((Says C 83 [(D.val (Value.string (s8)))] kF) ∧
 (k [(D.agg [D.nil, (dI 0), (dI 0), (dI 0), (dI 0), (dI 0)]), (D.val (vI 7))])))))
 False)
 (bcase (decide (3 ≤ (↑n1 : Int)))
 (bcase (decide (n1 ≤ n1))
 (bcase (n1 == 3)
 ((L 0 [(Prod.mk 2 (Pt 1000 0)), (Prod.mk 5 (Pt 1001 0)), (Prod.mk 23 (Sl 1002 (n1 - 3) (n1 - 3))), (Prod.mk 24 (vI ((↑(n1 - 3) : Int)))), (Prod.mk 25 (vI 0))] [(Prod.mk 1000 (AObj.cells [(Value.slice none 0 0), (vI 0), (vI 0), (vI 0), (vI 0), (vI 0)] 26 false 6)), (Prod.mk 1001 (AObj.cells [(Value.slice none 0 0), (vI (numB s2)), (vI (numB s3)), (vI (numB s5)), (vI 0), (vI (numB s7))] 26 false 6)), (Prod.mk 1002 (AObj.sym (cs1) true 1))]) ∧
 (L 0 [(Prod.mk 2 (Pt 1000 0)), (Prod.mk 5 (Pt 1001 0)), (Prod.mk 23 (Value.slice (some (Addr.mk 1002 3 none)) (n1 - 3) (n1 - 3))), (Prod.mk 24 (vI ((↑(n1 - 3) : Int)))), (Prod.mk 25 (vI 0))] [(Prod.mk 1000 (AObj.cells [(Value.slice none 0 0), (vI 0), (vI 0), (vI 0), (vI 0), (vI 0)] 26 false 6)), (Prod.mk 1001 (AObj.cells [(Value.slice none 0 0), (vI (numB s2)), (vI (numB s3)), (vI (numB s5)), (vI 0), (vI (numB s7))] 26 false 6)), (Prod.mk 1002 (AObj.sym (cs1) true 1))]))
 (L 0 [(Prod.mk 2 (Pt 1000 0)), (Prod.mk 5 (Pt 1001 0)), (Prod.mk 23 (Value.slice (some (Addr.mk 1002 3 none)) (n1 - 3) (n1 - 3))), (Prod.mk 24 (vI ((↑(n1 - 3) : Int)))), (Prod.mk 25 (vI 0))] [(Prod.mk 1000 (AObj.cells [(Value.slice none 0 0), (vI 0), (vI 0), (vI 0), (vI 0), (vI 0)] 26 false 6)), (Prod.mk 1001 (AObj.cells [(Value.slice none 0 0), (vI (numB s2)), (vI (numB s3)), (vI (numB s5)), (vI 0), (vI (numB s7))] 26 false 6)), (Prod.mk 1002 (AObj.sym (cs1) true 1))]))
 False)
 False))))))) ∨
 ((Says C 83 [(D.val (Value.string (s7)))] kF) ∧
 (k [(D.agg [D.nil, (dI 0), (dI 0), (dI 0), (dI 0), (dI 0)]), (D.val (vI 7))])))))
 False)
 (bcase (decide (3 ≤ (↑n1 : Int)))
 (bcase (decide (n1 ≤ n1))
 (bcase (n1 == 3)
 ((L 0 [(Prod.mk 2 (Pt 1000 0)), (Prod.mk 5 (Pt 1001 0)), (Prod.mk 23 (Sl 1002 (n1 - 3) (n1 - 3))), (Prod.mk 24 (vI ((↑(n1 - 3) : Int)))), (Prod.mk 25 (vI 0))] [(Prod.mk 1000 (AObj.cells [(Value.slice none 0 0), (vI 0), (vI 0), (vI 0), (vI 0), (vI 0)] 26 false 6)), (Prod.mk 1001 (AObj.cells [(Value.slice none 0 0), (vI (numB s2)), (vI (numB s3)), (vI (numB s5)), (vI 0), (vI 0)] 26 false 6)), (Prod.mk 1002 (AObj.sym (cs1) true 1))]) ∧
 (L 0 [(Prod.mk 2 (Pt 1000 0)), (Prod.mk 5 (Pt 1001 0)), (Prod.mk 23 (Value.slice (some (Addr.mk 1002 3 none)) (n1 - 3) (n1 - 3))), (Prod.mk 24 (vI ((↑(n1 - 3) : Int)))), (Prod.mk 25 (vI 0))] [(Prod.mk 1000 (AObj.cells [(Value.slice none 0 0), (vI 0), (vI 0), (vI 0), (vI 0), (vI 0)] 26 false 6)), (Prod.mk 1001 (AObj.cells [(Value.slice none 0 0), (vI (numB s2)), (vI (numB s3)), (vI (numB s5)), (vI 0), (vI 0)] 26 false 6)), (Prod.mk 1002 (AObj.sym (cs1) true 1))]))
 (L 0 [(Prod.mk 2 (Pt 1000 0)), (Prod.mk 5 (Pt 1001 0)), (Prod.mk 23 (Value.slice (some (Addr.mk 1002 3 none)) (n1 - 3) (n1 - 3))), (Prod.mk 24 (vI ((↑(n1 - 3) : Int)))), (Prod.mk 25 (vI 0))] [(Prod.mk 1000 (AObj.cells [(Value.slice none 0 0), (vI 0), (vI 0), (vI 0), (vI 0), (vI 0)] 26 false 6)), (Prod.mk 1001 (AObj.cells [(Value.slice none 0 0), (vI (numB s2)), (vI (numB s3)), (vI (numB s5)), (vI 0), (vI 0)] 26 false 6)), (Prod.mk 1002 (AObj.sym (cs1) true 1))]))
 False)
 False)))))))))
 False))))))) ∨
 ((Says C 83 [(D.val (Value.string (s5)))] kF) ∧
 (k [(D.agg [D.nil, (dI 0), (dI 0), (dI 0), (dI 0), (dI 0)]), (D.val (vI 7))])))))
 False)
 (bcase (decide (2 < (↑n1 : Int)))
 (∃ s5 : ByteArray,
 ((At (cs1) 2 1 [(Value.string (s5))]) ∧
 (((Says C 44 [(D.val (Value.string (s5))), (D.val (Value.string ({ data := #[32] })))] [D.nil]) ∧
 (k [(D.agg [D.nil, (dI 0), (dI 0), (dI 0), (dI 0), (dI 0)]), (D.val (vI 7))])) ∨
 (∃ n4 : Nat,
 (∃ cs4 : List Go.Value,
 ((Says C 44 [(D.val (Value.string (s5))), (D.val (Value.string ({ data := #[32] })))] [(D.sl (n4) 1 (cs4))]) ∧
 (bcase ((↑n4 : Int) != (↑1 : Int))
 (k [(D.agg [D.nil, (dI 0), (dI 0), (dI 0), (dI 0), (dI 0)]), (D.val (vI 7))])
 (bcase (decide (0 < (↑n4 : Int)))
 (bcase (decide (0 < (↑n4 : Int)))
 (∃ s6 : ByteArray,
 ((At (cs4) 0 1 [(Value.string (s6))]) ∧
 (((Says C 83 [(D.val (Value.string (s6)))] kT) ∧
 (((Qv (Value.string (s6))) ∧
 ((Qv (Pt 1003 5)) ∧
 ((Qv (Pt 1008 0)) ∧
 ((Qv (vI 0)) ∧
 ((Qv (Sl 1008 1 1)) ∧
 True))))) ∧
 ((Says C 84 [(D.val (Value.string (s6)))] [(D.val (vI (numB s6))), (D.val Value.nilIface)]) ∧
 (((Qv (Pt 1003 5)) ∧
 ((Value.nilIface = Value.nilIface) ∧
 ((Qv (vI (numB s6))) ∧
 ((Qv (Value.tuple [(vI (numB s6)), Value.nilIface].toArray)) ∧
 ((Qv (Pt 1003 5)) ∧
 ((Qv (Pt 1008 0)) ∧
 ((Qv (vI 0)) ∧
 ((Qv (Sl 1008 1 1)) ∧
 True)))))))) ∧
 (((Value.nilIface = Value.nilIface) ∧
 True) ∧
 (bcase (decide (IntKind.wrap .i64 (0 + 1) < (↑n4 : Int)))
 (bcase (decide (IntKind.wrap .i64 (0 + 1) < (↑n4 : Int)))
 (∃ s7 : ByteArray,
 ((At (cs4) 1 1 [(Value.string (s7))]) ∧
 (((Says C 83 [(D.val (Value.string (s7)))] kT) ∧
 False) ∨
 ((Says C 83 [(D.val (Value.string (s7)))] kF) ∧
 (k [(D.agg [D.nil, (dI 0), (dI 0), (dI 0), (dI 0), (dI 0)]), (D.val (vI 7))])))))
 False)
 (bcase (decide (3 ≤ (↑n1 : Int)))
 (bcase (decide (n1 ≤ n1))
 (bcase (n1 == 3)
 ((L 0 [(Prod.mk 2 (Pt 1000 0)), (Prod.mk 5 (Pt 1001 0)), (Prod.mk 23 (Sl 1002 (n1 - 3) (n1 - 3))), (Prod.mk 24 (vI ((↑(n1 - 3) : Int)))), (Prod.mk 25 (vI 0))] [(Prod.mk 1000 (AObj.cells [(Value.slice none 0 0), (vI 0), (vI 0), (vI 0), (vI 0), (vI 0)] 26 false 6)), (Prod.mk 1001 (AObj.cells [(Value.slice none 0 0), (vI (numB s2)), (vI (numB s3)), (vI 0), (vI 0), (vI (numB s6))] 26 false 6)), (Prod.mk 1002 (AObj.sym (cs1) true 1))]) ∧
 (L 0 [(Prod.mk 2 (Pt 1000 0)), (Prod.mk 5 (Pt 1001 0)), (Prod.mk 23 (Value.slice (some (Addr.mk 1002 3 none)) (n1 - 3) (n1 - 3))), (Prod.mk 24 (vI ((↑(n1 - 3) : Int)))), (Prod.mk 25 (vI 0))] [(Prod.mk 1000 (AObj.cells [(Value.slice none 0 0), (vI 0), (vI 0), (vI 0), (vI 0), (vI 0)] 26 false 6)), (Prod.mk 1001 (AObj.cells [(Value.slice none 0 0), (vI (numB s2)), (vI (numB s3)), (vI 0), (vI 0), (vI (numB s6))] 26 false 6)), (Prod.mk 1002 (AObj.sym (cs1) true 1))]))
 (L 0 [(Prod.mk 2 (Pt 1000 0)), (Prod.mk 5 (Pt 1001 0)), (Prod.mk 23 (Value.slice (some (Addr.mk 1002 3 none)) (n1 - 3) (n1 - 3))), (Prod.mk 24 (vI ((↑(n1 - 3) : Int)))), (Prod.mk 25 (vI 0))] [(Prod.mk 1000 (AObj.cells [(Value.slice none 0 0), (vI 0), (vI 0), (vI 0), (vI 0), (vI 0)] 26 false 6)), (Prod.mk 1001 (AObj.cells [(Value.slice none 0 0), (vI (numB s2)), (vI (numB s3)), (vI 0), (vI 0), (vI (numB s6))] 26 false 6)), (Prod.mk 1002 (AObj.sym (cs1) true 1))]))
 False)
 False))))))) ∨
 ((Says C 83 [(D.val (Value.string (s6)))] kF) ∧
 (k [(D.agg [D.nil, (dI 0), (dI 0), (dI 0), (dI 0), (dI 0)]), (D.val (vI 7))])))))
 False)
 (bcase (decide (3 ≤ (↑n1 : Int)))
 (bcase (decide (n1 ≤ n1))
 (bcase (n1 == 3)
 ((L 0 [(Prod.mk 2 (Pt 1000 0)), (Prod.mk 5 (Pt 1001 0)), (Prod.mk 23 (Sl 1002 (n1 - 3) (n1 - 3))), (Prod.mk 24 (vI ((↑(n1 - 3) : Int)))), (Prod.mk 25 (vI 0))] [(Prod.mk 1000 (AObj.cells [(Value.slice none 0 0), (vI 0), (vI 0), (vI 0), (vI 0), (vI 0)] 26 false 6)), (Prod.mk 1001 (AObj.cells [(Value.slice none 0 0), (vI (numB s2)), (vI (numB s3)), (vI 0), (vI 0), (vI 0)] 26 false 6)), (Prod.mk 1002 (AObj.sym (cs1) true 1))]) ∧
 (L 0 [(Prod.mk 2 (Pt 1000 0)), (Prod.mk 5 (Pt 1001 0)), (Prod.mk 23 (Value.slice (some (Addr.mk 1002 3 none)) (n1 - 3) (n1 - 3))), (Prod.mk 24 (vI ((↑(n1 - 3) : Int)))), (Prod.mk 25 (vI 0))] [(Prod.mk 1000 (AObj.cells [(Value.slice none 0 0), (vI 0), (vI 0), (vI 0), (vI 0), (vI 0)] 26 false 6)), (Prod.mk 1001 (AObj.cells [(Value.slice none 0 0), (vI (numB s2)), (vI (numB s3)), (vI 0), (vI 0), (vI 0)] 26 false 6)), (Prod.mk 1002 (AObj.sym (cs1) true 1))]))
 (L 0 [(Prod.mk 2 (Pt 1000 0)), (Prod.mk 5 (Pt 1001 0)), (Prod.mk 23 (Value.slice (some (Addr.mk 1002 3 none)) (n1 - 3) (n1 - 3))), (Prod.mk 24 (vI ((↑(n1 - 3) : Int)))), (Prod.mk 25 (vI 0))] [(Prod.mk 1000 (AObj.cells [(Value.slice none 0 0), (vI 0), (vI 0), (vI 0), (vI 0), (vI 0)] 26 false 6)), (Prod.mk 1001 (AObj.cells [(Value.slice none 0 0), (vI (numB s2)), (vI (numB s3)), (vI 0), (vI 0), (vI 0)] 26 false 6)), (Prod.mk 1002 (AObj.sym (cs1) true 1))]))
 False)
 False)))))))))
 False)))))))))
 False))))))) ∨
 ((Says C 83 [(D.val (Value.string (s3)))] kF) ∧
 (k [(D.agg [D.nil, (dI 0), (dI 0), (dI 0), (dI 0), (dI 0)]), (D.val (vI 7))])))))
 False)
 (bcase (decide (1 < (↑n1 : Int)))
 (∃ s3 : ByteArray,
 ((At (cs1) 1 1 [(Value.string (s3))]) ∧
 (((Says C 44 [(D.val (Value.string (s3))), (D.val (Value.string ({ data := #[47] })))] [D.nil]) ∧
 (k [(D.agg [D.nil, (dI 0), (dI 0), (dI 0), (dI 0), (dI 0)]), (D.val (vI 7))])) ∨
 (∃ n3 : Nat,
 (∃ cs3 : List Go.Value,
 ((Says C 44 [(D.val (Value.string (s3))), (D.val (Value.string ({ data := #[47] })))] [(D.sl (n3) 1 (cs3))]) ∧
 (bcase ((↑n3 : Int) != (↑2 : Int))
 (k [(D.agg [D.nil, (dI 0), (dI 0), (dI 0), (dI 0), (dI 0)]), (D.val (vI 7))])
 (bcase (decide (0 < (↑n3 : Int)))
 (bcase (decide (0 < (↑n3 : Int)))
 (∃ s4 : ByteArray,
 ((At (cs3) 0 1 [(Value.string (s4))]) ∧
 (((Says C 83 [(D.val (Value.string (s4)))] kT) ∧
 (((Qv (Value.string (s4))) ∧
 ((Qv (Pt 1003 3)) ∧
 ((Qv (Pt 1006 0)) ∧
 ((Qv (vI 0)) ∧
 ((Qv (Sl 1006 2 2)) ∧
 True))))) ∧
 ((Says C 84 [(D.val (Value.string (s4)))] [(D.val (vI (numB s4))), (D.val Value.nilIface)]) ∧
 (((Qv (Pt 1003 3)) ∧
 ((Value.nilIface = Value.nilIface) ∧
 ((Qv (vI (numB s4))) ∧
 ((Qv (Value.tuple [(vI (numB s4)), Value.nilIface].toArray)) ∧
 ((Qv (Pt 1003 3)) ∧
 ((Qv (Pt 1006 0)) ∧
 ((Qv (vI 0)) ∧
 ((Qv (Sl 1006 2 2)) ∧
 True)))))))) ∧
 (((Value.nilIface = Value.nilIface) ∧
 True) ∧
 (bcase (decide (IntKind.wrap .i64 (0 + 1) < (↑n3 : Int)))
 (bcase (decide (IntKind.wrap .i64 (0 + 1) < (↑n3 : Int)))
 (∃ s5 : ByteArray,
 ((At (cs3) 1 1 [(Value.string (s5))]) ∧
 (((Says C 83 [(D.val (Value.string (s5)))] kT) ∧
 (((Qv (Value.string (s5))) ∧
 ((Qv (Pt 1003 4)) ∧
 ((Qv (Pt 1006 1)) ∧
 ((Qv (vI 1)) ∧
 ((Qv (Sl 1006 2 2)) ∧
 True))))) ∧
 ((Says C 84 [(D.val (Value.string (s5)))] [(D.val (vI (numB s5))), (D.val Value.nilIface)]) ∧
 (((Qv (Pt 1003 4)) ∧
 ((Value.nilIface = Value.nilIface) ∧
 ((Qv (vI (numB s5))) ∧
 ((Qv (Value.tuple [(vI (numB s5)), Value.nilIface].toArray)) ∧
 ((Qv (Pt 1003 4)) ∧
 ((Qv (Pt 1006 1)) ∧
 ((Qv (vI 1)) ∧
 ((Qv (Sl 1006 2 2)) ∧
 True)))))))) ∧
 (((Value.nilIface = Value.nilIface) ∧
 True) ∧
 (bcase (decide (IntKind.wrap .i64 (IntKind.wrap .i64 (0 + 1) + 1) < (↑n3 : Int)))
 (bcase (decide (IntKind.wrap .i64 (IntKind.wrap .i64 (0 + 1) + 1) < (↑n3 : Int)))
 (∃ s6 : ByteArray,
 ((At (cs3) 2 1 [(Value.string (s6))]) ∧
 (((Says C 83 [(D.val (Value.string (s6)))] kT) ∧
 False) ∨
 ((Says C 83 [(D.val (Value.string (s6)))] kF) ∧
 (k [(D.agg [D.nil, (dI 0), (dI 0), (dI 0), (dI 0), (dI 0)]), (D.val (vI 7))])))))
 False)
 (bcase (decide (2 < (↑n1 : Int)))
 (∃ s6 : ByteArray,
 ((At (cs1) 2 1 [(Value.string (s6))]) ∧
 (((Says C 44 [(D.val (Value.string (s6))), (D.val (Value.string ({ data := #[32] })))] [D.nil]) ∧
 (k [(D.agg [D.nil, (dI 0), (dI 0), (dI 0), (dI 0), (dI 0)]), (D.val (vI 7))])) ∨
 (∃ n4 : Nat,
 (∃ cs4 : List Go.Value,
 ((Says C 44 [(D.val (Value.string (s6))), (D.val (Value.string ({ data := #[32] })))] [(D.sl (n4) 1 (cs4))]) ∧
 (bcase ((↑n4 : Int) != (↑1 : Int))
 (k [(D.agg [D.nil, (dI 0), (dI 0), (dI 0), (dI 0), (dI 0)]), (D.val (vI 7))])
 (bcase (decide (0 < (↑n4 : Int)))
 (bcase (decide (0 < (↑n4 : Int)))
 (∃ s7 : ByteArray,
 ((At (cs4) 0 1 [(Value.string (s7))]) ∧
 (((Says C 83 [(D.val (Value.string (s7)))] kT) ∧
 (((Qv (Value.string (s7))) ∧
 ((Qv (Pt 1003 5)) ∧
 ((Qv (Pt 1008 0)) ∧
 ((Qv (vI 0)) ∧
 ((Qv (Sl 1008 1 1)) ∧
 True))))) ∧
 ((Says C 84 [(D.val (Value.string (s7)))] [(D.val (vI (numB s7))), (D.val Value.nilIface)]) ∧
 (((Qv (Pt 1003 5)) ∧
 ((Value.nilIface = Value.nilIface) ∧
 ((Qv (vI (numB s7))) ∧
 ((Qv (Value.tuple [(vI (numB s7)), Value.nilIface].toArray)) ∧
 ((Qv (Pt 1003 5)) ∧
 ((Qv (Pt 1008 0)) ∧
 ((Qv (vI 0)) ∧
 ((Qv (Sl 1008 1 1)) ∧
 True)))))))) ∧
 (((Value.nilIface = Value.nilIface) ∧
 True) ∧
 (bcase (decide (IntKind.wrap .i64 (0 + 1) < (↑n4 : Int)))
 (bcase (decide (IntKind.wrap .i64 (0 + 1) < (↑n4 : Int)))
 (∃ s8 : ByteArray,
 ((At (cs4) 1 1 [(Value.string (s8))]) ∧
 (((Says C 83 [(D.val (Value.string (s8)))] kT) ∧
 False) ∨
 ((Says C 83 [(D.val (Value.string (s8)))] kF) ∧
 (k [(D.agg [D.nil, (dI 0), (dI 0), (dI 0), (dI 0), (dI 0)]), (D.val (vI 7))])))))
 False)
 (bcase (decide (3 ≤ (↑n1 : Int)))
 (bcase (decide (n1 ≤ n1))
 (bcase (n1 == 3)
 ((L 0 [(Prod.mk 2 (Pt 1000 0)), (Prod.mk 5 (Pt 1001 0)), (Prod.mk 23 (Sl 1002 (n1 - 3) (n1 - 3))), (Prod.mk 24 (vI ((↑(n1 - 3) : Int)))), (Prod.mk 25 (vI 0))] [(Prod.mk 1000 (AObj.cells [(Value.slice none 0 0), (vI 0), (vI 0), (vI 0), (vI 0), (vI 0)] 26 false 6)), (Prod.mk 1001 (AObj.cells [(Value.slice none 0 0), (vI (numB s2)), (vI 0), (vI (numB s4)), (vI (numB s5)), (vI (numB s7))] 26 false 6)), (Prod.mk 1002 (AObj.sym (cs1) true 1))]) ∧
 (L 0 [(Prod.mk 2 (Pt 1000 0)), (Prod.mk 5 (Pt 1001 0)), (Prod.mk 23 (Value.slice (some (Addr.mk 1002 3 none)) (n1 - 3) (n1 - 3))), (Prod.mk 24 (vI ((↑(n1 - 3) : Int)))), (Prod.mk 25 (vI 0))] [(Prod.mk 1000 (AObj.cells [(Value.slice none 0 0), (vI 0), (vI 0), (vI 0), (vI 0), (vI 0)] 26 false 6)), (Prod.mk 1001 (AObj.cells [(Value.slice none 0 0), (vI (numB s2)), (vI 0), (vI (numB s4)), (vI (numB s5)), (vI (numB s7))] 26 false 6)), (Prod.mk 1002 (AObj.sym (cs1) true 1))]))
 (L 0 [(Prod.mk 2 (Pt 1000 0)), (Prod.mk 5 (Pt 1001 0)), (Prod.mk 23 (Value.slice (some (Addr.mk 1002 3 none)) (n1 - 3) (n1 - 3))), (Prod.mk 24 (vI ((↑(n1 - 3) : Int)))), (Prod.mk 25 (vI 0))] [(Prod.mk 1000 (AObj.cells [(Value.slice none 0 0), (vI 0), (vI 0), (vI 0), (vI 0), (vI 0)] 26 false 6)), (Prod.mk 1001 (AObj.cells [(Value.slice none 0 0), (vI (numB s2)), (vI 0), (vI (numB s4)), (vI (numB s5)), (vI (numB s7))] 26 false 6)), (Prod.mk 1002 (AObj.sym (cs1) true 1))]))
 False)
 False))))))) ∨
 ((Says C 83 [(D.val (Value.string (s7)))] kF) ∧
 (k [(D.agg [D.nil, (dI 0), (dI 0), (dI 0), (dI 0), (dI 0)]), (D.val (vI 7))])))))
 False)
 (bcase (decide (3 ≤ (↑n1 : Int)))
 (bcase (decide (n1 ≤ n1))
 (bcase (n1 == 3)
 ((L 0 [(Prod.mk 2 (Pt 1000 0)), (Prod.mk 5 (Pt 1001 0)), (Prod.mk 23 (Sl 1002 (n1 - 3) (n1 - 3))), (Prod.mk 24 (vI ((↑(n1 - 3) : Int)))), (Prod.mk 25 (vI 0))] [(Prod.mk 1000 (AObj.cells [(Value.slice none 0 0), (vI 0), (vI 0), (vI 0), (vI 0), (vI 0)] 26 false 6)), (Prod.mk 1001 (AObj.cells [(Value.slice none 0 0), (vI (numB s2)), (vI 0), (vI (numB s4)), (vI (numB s5)), (vI 0)] 26 false 6)), (Prod.mk 1002 (AObj.sym (cs1) true 1))]) ∧
 (L 0 [(Prod.mk 2 (Pt 1000 0)), (Prod.mk 5 (Pt 1001 0)), (Prod.mk 23 (Value.slice (some (Addr.mk 1002 3 none)) (n1 - 3) (n1 - 3))), (Prod.mk 24 (vI ((↑(n1 - 3) : Int)))), (Prod.mk 25 (vI 0))] [(Prod.mk 1000 (AObj.cells [(Value.slice none 0 0), (vI 0), (vI 0), (vI 0), (vI 0), (vI 0)] 26 false 6)), (Prod.mk 1001 (AObj.cells [(Value.slice none 0 0), (vI (numB s2)), (vI 0), (vI (numB s4)), (vI (numB s5)), (vI 0)] 26 false 6)), (Prod.mk 1002 (AObj.sym (cs1) true 1))]))
 (L 0 [(Prod.mk 2 (Pt 1000 0)), (Prod.mk 5 (Pt 1001 0)), (Prod.mk 23 (Value.slice (some (Addr.mk 1002 3 none)) (n1 - 3) (n1 - 3))), (Prod.mk 24 (vI ((↑(n1 - 3) : Int)))), (Prod.mk 25 (vI 0))] [(Prod.mk 1000 (AObj.cells [(Value.slice none 0 0), (vI 0), (vI 0), (vI 0), (vI 0), (vI 0)] 26 false 6)), (Prod.mk 1001 (AObj.cells [(Value.slice none 0 0), (vI (numB s2)), (vI 0), (vI (numB s4)), (vI (numB s5)), (vI 0)] 26 false 6)), (Prod.mk 1002 (AObj.sym (cs1) true 1))]))
 False)
 False)))))))))
 False))))))) ∨
 ((Says C 83 [(D.val (Value.string (s5)))] kF) ∧
 (k [(D.agg [D.nil, (dI 0), (dI 0), (dI 0), (dI 0), (dI 0)]), (D.val (vI 7))])))))
 False)
 (bcase (decide (2 < (↑n1 : Int)))
 (∃ s5 : ByteArray,
 ((At (cs1) 2 1 [(Value.string (s5))]) ∧
 (((Says C 44 [(D.val (Value.string (s5))), (D.val (Value.string ({ data := #[32] })))] [D.nil]) ∧
 (k [(D.agg [D.nil, (dI 0), (dI 0), (dI 0), (dI 0), (dI 0)]), (D.val (vI 7))])) ∨
 (∃ n4 : Nat,
 (∃ cs4 : List Go.Value,
 ((Says C 44 [(D.val (Value.string (s5))), (D.val (Value.string ({ data := #[32] })))] [(D.sl (n4) 1 (cs4))]) ∧
 (bcase ((↑n4 : Int) != (↑1 : Int))
 (k [(D.agg [D.nil, (dI 0), (dI 0), (dI 0), (dI 0), (dI 0)]), (D.val (vI 7))])
 (bcase (decide (0 < (↑n4 : Int)))
 (bcase (decide (0 < (↑n4 : Int)))
 (∃ s6 : ByteArray,
 ((At (cs4) 0 1 [(Value.string (s6))]) ∧
 (((Says C 83 [(D.val (Value.string (s6)))] kT) ∧
 (((Qv (Value.string (s6))) ∧
 ((Qv (Pt 1003 5)) ∧
 ((Qv (Pt 1008 0)) ∧
 ((Qv (vI 0)) ∧
 ((Qv (Sl 1008 1 1)) ∧
 True))))) ∧
 ((Says C 84 [(D.val (Value.string (s6)))] [(D.val (vI (numB s6))), (D.val Value.nilIface)]) ∧
 (((Qv (Pt 1003 5)) ∧
 ((Value.nilIface = Value.nilIface) ∧
 ((Qv (vI (numB s6))) ∧
 ((Qv (Value.tuple [(vI (numB s6)), Value.nilIface].toArray)) ∧
 ((Qv (Pt 1003 5)) ∧
 ((Qv (Pt 1008 0)) ∧
 ((Qv (vI 0)) ∧
 ((Qv (Sl 1008 1 1)) ∧
 True)))))))) ∧
 (((Value.nilIface = Value.nilIface) ∧
 True) ∧
 (bcase (decide (IntKind.wrap .i64 (0 + 1) < (↑n4 : Int)))
 (bcase (decide (IntKind.wrap .i64 (0 + 1) < (↑n4 : Int)))
 (∃ s7 : ByteArray,
 ((At (cs4) 1 1 [(Value.string (s7))]) ∧
 (((Says C 83 [(D.val (Value.string (s7)))] kT) ∧
 False) ∨
 ((Says C 83 [(D.val (Value.string (s7)))] kF) ∧
 (k [(D.agg [D.nil, (dI 0), (dI 0), (dI 0), (dI 0), (dI 0)]), (D.val (vI 7))])))))
 False)
 (bcase (decide (3 ≤ (↑n1 : Int)))
 (bcase (decide (n1 ≤ n1))
 (bcase (n1 == 3)
 ((L 0 [(Prod.mk 2 (Pt 1000 0)), (Prod.mk 5 (Pt 1001 0)), (Prod.mk 23 (Sl 1002 (n1 - 3) (n1 - 3))), (Prod.mk 24 (vI ((↑(n1 - 3) : Int)))), (Prod.mk 25 (vI 0))] [(Prod.mk 1000 (AObj.cells [(Value.slice none 0 0), (vI 0), (vI 0), (vI 0), (vI 0), (vI 0)] 26 false 6)), (Prod.mk 1001 (AObj.cells [(Value.slice none 0 0), (vI (numB s2)), (vI 0), (vI (numB s4)), (vI 0), (vI (numB s6))] 26 false 6)), (Prod.mk 1002 (AObj.sym (cs1) true 1))]) ∧
 (L 0 [(Prod.mk 2 (Pt 1000 0)), (Prod.mk 5 (Pt 1001 0)), (Prod.mk 23 (Value.slice (some (Addr.mk 1002 3 none)) (n1 - 3) (n1 - 3))), (Prod.mk 24 (vI ((↑(n1 - 3) : Int)))), (Prod.mk 25 (vI 0))] [(Prod.mk 1000 (AObj.cells [(Value.slice none 0 0), (vI 0), (vI 0), (vI 0), (vI 0), (vI 0)] 26 false 6)), (Prod.mk 1001 (AObj.cells [(Value.slice none 0 0), (vI (numB s2)), (vI 0), (vI (numB s4)), (vI 0), (vI (numB s6))] 26 false 6)), (Prod.mk 1002 (AObj.sym (cs1) true 1))]))
 (L 0 [(Prod.mk 2 (Pt 1000 0)), (Prod.mk 5 (Pt 1001 0)), (Prod.mk 23 (Value.slice (some (Addr.mk 1002 3 none)) (n1 - 3) (n1 - 3))), (Prod.mk 24 (vI ((↑(n1 - 3) : Int)))), (Prod.mk 25 (vI 0))] [(Prod.mk 1000 (AObj.cells [(Value.slice none 0 0), (vI 0), (vI 0), (vI 0), (vI 0), (vI 0)] 26 false 6)), (Prod.mk 1001 (AObj.cells [(Value.slice none 0 0), (vI (numB s2)), (vI 0), (vI (numB s4)), (vI 0), (vI (numB s6))] 26 false 6)), (Prod.mk 1002 (AObj.sym (cs1) true 1))]))
 False)
 False))))))) ∨
 ((Says C 83 [(D.val (Value.string (s6)))] kF) ∧
 (k [(D.agg [D.nil, (dI 0), (dI 0), (dI 0), (dI 0), (dI 0)]), (D.val (vI 7))])))))
 False)
 (bcase (decide (3 ≤ (↑n1 : Int)))
 (bcase (decide (n1 ≤ n1))
 (bcase (n1 == 3)
 ((L 0 [(Prod.mk 2 (Pt 1000 0)), (Prod.mk 5 (Pt 1001 0)), (Prod.mk 23 (Sl 1002 (n1 - 3) (n1 - 3))), (Prod.mk 24 (vI ((↑(n1 - 3) : Int)))), (Prod.mk 25 (vI 0))] [(Prod.mk 1000 (AObj.cells [(Value.slice none 0 0), (vI 0), (vI 0), (vI 0), (vI 0), (vI 0)] 26 false 6)), (Prod.mk 1001 (AObj.cells [(Value.slice none 0 0), (vI (numB s2)), (vI 0), (vI (numB s4)), (vI 0), (vI 0)] 26 false 6)), (Prod.mk 1002 (AObj.sym (cs1) true 1))]) ∧
 (L 0 [(Prod.mk 2 (Pt 1000 0)), (Prod.mk 5 (Pt 1001 0)), (Prod.mk 23 (Value.slice (some (Addr.mk 1002 3 none)) (n1 - 3) (n1 - 3))), (Prod.mk 24 (vI ((↑(n1 - 3) : Int)))), (Prod.mk 25 (vI 0))] [(Prod.mk 1000 (AObj.cells [(Value.slice none 0 0), (vI 0), (vI 0), (vI 0), (vI 0), (vI 0)] 26 false 6)), (Prod.mk 1001 (AObj.cells [(Value.slice none 0 0), (vI (numB s2)), (vI 0), (vI (numB s4)), (vI 0), (vI 0)] 26 false 6)), (Prod.mk 1002 (AObj.sym (cs1) true 1))]))
 (L 0 [(Prod.mk 2 (Pt 1000 0)), (Prod.mk 5 (Pt 1001 0)), (Prod.mk 23 (Value.slice (some (Addr.mk 1002 3 none)) (n1 - 3) (n1 - 3))), (Prod.mk 24 (vI ((↑(n1 - 3) : Int)))), (Prod.mk 25 (vI 0))] [(Prod.mk 1000 (AObj.cells [(Value.slice none 0 0), (vI 0), (vI 0), (vI 0), (vI 0), (vI 0)] 26 false 6)), (Prod.mk 1001 (AObj.cells [(Value.slice none 0 0), (vI (numB s2)), (vI 0), (vI (numB s4)), (vI 0), (vI 0)] 26 false 6)), (Prod.mk 1002 (AObj.sym (cs1) true 1))]))
 False)
 False)))))))))
 False))))))) ∨
 ((Says C 83 [(D.val (Value.string (s4)))] kF) ∧
 (k [(D.agg [D.nil, (dI 0), (dI 0), (dI 0), (dI 0), (dI 0)]), (D.val (vI 7))])))))
 False)
 (bcase (decide (2 < (↑n1 : Int)))
 (∃ s4 : ByteArray,
 ((At (cs1) 2 1 [(Value.string (s4))]) ∧
 (((Says C 44 [(D.val (Value.string (s4))), (D.val (Value.string ({ data := #[32] })))] [D.nil]) ∧
 (k [(D.agg [D.nil, (dI 0), (dI 0), (dI 0), (dI 0), (dI 0)]), (D.val (vI 7))])) ∨
 (∃ n4 : Nat,
 (∃ cs4 : List Go.Value,
 ((Says C 44 [(D.val (Value.string (s4))), (D.val (Value.string ({ data := #[32] })))] [(D.sl (n4) 1 (cs4))]) ∧
 (bcase ((↑n4 : Int) != (↑1 : Int))
 (k [(D.agg [D.nil, (dI 0), (dI 0), (dI 0), (dI 0), (dI 0)]), (D.val (vI 7))])
 (bcase (decide (0 < (↑n4 : Int)))
 (bcase (decide (0 < (↑n4 : Int)))
 (∃ s5 : ByteArray,
 ((At (cs4) 0 1 [(Value.string (s5))]) ∧
 (((Says C 83 [(D.val (Value.string (s5)))] kT) ∧
 (((Qv (Value.string (s5))) ∧
 ((Qv (Pt 1003 5)) ∧
 ((Qv (Pt 1008 0)) ∧
 ((Qv (vI 0)) ∧
 ((Qv (Sl 1008 1 1)) ∧
 True))))) ∧
 ((Says C 84 [(D.val (Value.string (s5)))] [(D.val (vI (numB s5))), (D.val Value.nilIface)]) ∧
 (((Qv (Pt 1003 5)) ∧
 ((Value.nilIface = Value.nilIface) ∧
 ((Qv (vI (numB s5))) ∧
 ((Qv (Value.tuple [(vI (numB s5)), Value.nilIface].toArray)) ∧
 ((Qv (Pt 1003 5)) ∧
 ((Qv (Pt 1008 0)) ∧
 ((Qv (vI 0)) ∧
 ((Qv (Sl 1008 1 1)) ∧
 True)))))))) ∧
 (((Value.nilIface = Value.nilIface) ∧
 True) ∧
 (bcase (decide (IntKind.wrap .i64 (0 + 1) < (↑n4 : Int)))
 (bcase (decide (IntKind.wrap .i64 (0 + 1) < (↑n4 : Int)))
 (∃ s6 : ByteArray,
 ((At (cs4) 1 1 [(Value.string (s6))]) ∧
 (((Says C 83 [(D.val (Value.string (s6)))] kT) ∧
 False) ∨
 ((Says C 83 [(D.val (Value.string (s6)))] kF) ∧
 (k [(D.agg [D.nil, (dI 0), (dI 0), (dI 0), (dI 0), (dI 0)]), (D.val (vI 7))])))))
 False)
 (bcase (decide (3 ≤ (↑n1 : Int)))
 (bcase (decide (n1 ≤ n1))
 (bcase (n1 == 3)
 ((L 0 [(Prod.mk 2 (Pt 1000 0)), (Prod.mk 5 (Pt 1001 0)), (Prod.mk 23 (Sl 1002 (n1 - 3) (n1 - 3))), (Prod.mk 24 (vI ((↑(n1 - 3) : Int)))), (Prod.mk 25 (vI 0))] [(Prod.mk 1000 (AObj.cells [(Value.slice none 0 0), (vI 0), (vI 0), (vI 0), (vI 0), (vI 0)] 26 false 6)), (Prod.mk 1001 (AObj.cells [(Value.slice none 0 0), (vI (numB s2)), (vI 0), (vI 0), (vI 0), (vI (numB s5))] 26 false 6)), (Prod.mk 1002 (AObj.sym (cs1) true 1))]) ∧
 (L 0 [(Prod.mk 2 (Pt 1000 0)), (Prod.mk 5 (Pt 1001 0)), (Prod.mk 23 (Value.slice (some (Addr.mk 1002 3 none)) (n1 - 3) (n1 - 3))), (Prod.mk 24 (vI ((↑(n1 - 3) : Int)))), (Prod.mk 25 (vI 0))] [(Prod.mk 1000 (AObj.cells [(Value.slice none 0 0), (vI 0), (vI 0), (vI 0), (vI 0), (vI 0)] 26 false 6)), (Prod.mk 1001 (AObj.cells [(Value.slice none 0 0), (vI (numB s2)), (vI 0), (vI 0), (vI 0), (vI (numB s5))] 26 false 6)), (Prod.mk 1002 (AObj.sym (cs1) true 1))]))
 (L 0 [(Prod.mk 2 (Pt 1000 0)), (Prod.mk 5 (Pt 1001 0)), (Prod.mk 23 (Value.slice (some (Addr.mk 1002 3 none)) (n1 - 3) (n1 - 3))), (Prod.mk 24 (vI ((↑(n1 - 3) : Int)))), (Prod.mk 25 (vI 0))] [(Prod.mk 1000 (AObj.cells [(Value.slice none 0 0), (vI 0), (vI 0), (vI 0), (vI 0), (vI 0)] 26 false 6)), (Prod.mk 1001 (AObj.cells [(Value.slice none 0 0), (vI (numB s2)), (vI 0), (vI 0), (vI 0), (vI (numB s5))] 26 false 6)), (Prod.mk 1002 (AObj.sym (cs1) true 1))]))
 False)
 False))))))) ∨
 ((Says C 83 [(D.val (Value.string (s5)))] kF) ∧
 (k [(D.agg [D.nil, (dI 0), (dI 0), (dI 0), (dI 0), (dI 0)]), (D.val (vI 7))])))))
 False)
 (bcase (decide (3 ≤ (↑n1 : Int)))
 (bcase (decide (n1 ≤ n1))
 (bcase (n1 == 3)
 ((L 0 [(Prod.mk 2 (Pt 1000 0)), (Prod.mk 5 (Pt 1001 0)), (Prod.mk 23 (Sl 1002 (n1 - 3) (n1 - 3))), (Prod.mk 24 (vI ((↑(n1 - 3) : Int)))), (Prod.mk 25 (vI 0))] [(Prod.mk 1000 (AObj.cells [(Value.slice none 0 0), (vI 0), (vI 0), (vI 0), (vI 0), (vI 0)] 26 false 6)), (Prod.mk 1001 (AObj.cells [(Value.slice none 0 0), (vI (numB s2)), (vI 0), (vI 0), (vI 0), (vI 0)] 26 false 6)), (Prod.mk 1002 (AObj.sym (cs1) true 1))]) ∧
 (L 0 [(Prod.mk 2 (Pt 1000 0)), (Prod.mk 5 (Pt 1001 0)), (Prod.mk 23 (Value.slice (some (Addr.mk 1002 3 none)) (n1 - 3) (n1 - 3))), (Prod.mk 24 (vI ((↑(n1 - 3) : Int)))), (Prod.mk 25 (vI 0))] [(Prod.mk 1000 (AObj.cells [(Value.slice none 0 0), (vI 0), (vI 0), (vI 0), (vI 0), (vI 0)] 26 false 6)), (Prod.mk 1001 (AObj.cells [(Value.slice none 0 0), (vI (numB s2)), (vI 0), (vI 0), (vI 0), (vI 0)] 26 false 6)), (Prod.mk 1002 (AObj.sym (cs1) true 1))]))
 (L 0 [(Prod.mk 2 (Pt 1000 0)), (Prod.mk 5 (Pt 1001 0)), (Prod.mk 23 (Value.slice (some (Addr.mk 1002 3 none)) (n1 - 3) (n1 - 3))), (Prod.mk 24 (vI ((↑(n1 - 3) : Int)))), (Prod.mk 25 (vI 0))] [(Prod.mk 1000 (AObj.cells [(Value.slice none 0 0), (vI 0), (vI 0), (vI 0), (vI 0), (vI 0)] 26 false 6)), (Prod.mk 1001 (AObj.cells [(Value.slice none 0 0), (vI (numB s2)), (vI 0), (vI 0), (vI 0), (vI 0)] 26 false 6)), (Prod.mk 1002 (AObj.sym (cs1) true 1))]))
 False)
 False)))))))))
 False)))))))))
 False))))))) ∨
 ((Says C 83 [(D.val (Value.string (s2)))] kF) ∧
 (k [(D.agg [D.nil, (dI 0), (dI 0), (dI 0), (dI 0), (dI 0)]), (D.val (vI 7))])))))
 False)
 (bcase (decide (1 < (↑n1 : Int)))
 (∃ s2 : ByteArray,
 ((At (cs1) 1 1 [(Value.string (s2))]) ∧
 (((Says C 44 [(D.val (Value.string (s2))), (D.val (Value.string ({ data := #[47] })))] [D.nil]) ∧
 (k [(D.agg [D.nil, (dI 0), (dI 0), (dI 0), (dI 0), (dI 0)]), (D.val (vI 7))])) ∨
 (∃ n3 : Nat,
 (∃ cs3 : List Go.Value,
 ((Says C 44 [(D.val (Value.string (s2))), (D.val (Value.string ({ data := #[47] })))] [(D.sl (n3) 1 (cs3))]) ∧
 (bcase ((↑n3 : Int) != (↑2 : Int))
 (k [(D.agg [D.nil, (dI 0), (dI 0), (dI 0), (dI 0), (dI 0)]), (D.val (vI 7))])
 (bcase (decide (0 < (↑n3 : Int)))
 (bcase (decide (0 < (↑n3 : Int)))
 (∃ s3 : ByteArray,
 ((At (cs3) 0 1 [(Value.string (s3))]) ∧
 (((Says C 83 [(D.val (Value.string (s3)))] kT) ∧
 (((Qv (Value.string (s3))) ∧
 ((Qv (Pt 1003 3)) ∧
 ((Qv (Pt 1006 0)) ∧
 ((Qv (vI 0)) ∧
 ((Qv (Sl 1006 2 2)) ∧
 True))))) ∧
 ((Says C 84 [(D.val (Value.string (s3)))] [(D.val (vI (numB s3))), (D.val Value.nilIface)]) ∧
 (((Qv (Pt 1003 3)) ∧
 ((Value.nilIface = Value.nilIface) ∧
 ((Qv (vI (numB s3))) ∧
 ((Qv (Value.tuple [(vI (numB s3)), Value.nilIface].toArray)) ∧
 ((Qv (Pt 1003 3)) ∧
 ((Qv (Pt 1006 0)) ∧
 ((Qv (vI 0)) ∧
 ((Qv (Sl 1006 2 2)) ∧
 True)))))))) ∧
 (((Value.nilIface = Value.nilIface) ∧
 True) ∧
 (bcase (decide (IntKind.wrap .i64 (0 + 1) < (↑n3 : Int)))
 (bcase (decide (IntKind.wrap .i64 (0 + 1) < (↑n3 : Int)))
 (∃ s4 : ByteArray,
 ((At (cs3) 1 1 [(Value.string (s4))]) ∧
 (((Says C 83 [(D.val (Value.string (s4)))] kT) ∧
 (((Qv (Value.string (s4))) ∧
 ((Qv (Pt 1003 4)) ∧
 ((Qv (Pt 1006 1)) ∧
 ((Qv (vI 1)) ∧
 ((Qv (Sl 1006 2 2)) ∧
 True))))) ∧
 ((Says C 84 [(D.val (Value.string (s4)))] [(D.val (vI (numB s4))), (D.val Value.nilIface)]) ∧
 (((Qv (Pt 1003 4)) ∧
 ((Value.nilIface = Value.nilIface) ∧
 ((Qv (vI (numB s4))) ∧
 ((Qv (Value.tuple [(vI (numB s4)), Value.nilIface].toArray)) ∧
 ((Qv (Pt 1003 4)) ∧
 ((Qv (Pt 1006 1)) ∧
 ((Qv (vI 1)) ∧
 ((Qv (Sl 1006 2 2)) ∧
 True)))))))) ∧
 (((Value.nilIface = Value.nilIface) ∧
 True) ∧
 (bcase (decide (IntKind.wrap .i64 (IntKind.wrap .i64 (0 + 1) + 1) < (↑n3 : Int)))
 (bcase (decide (IntKind.wrap .i64 (IntKind.wrap .i64 (0 + 1) + 1) < (↑n3 : Int)))
 (∃ s5 : ByteArray,
 ((At (cs3) 2 1 [(Value.string (s5))]) ∧
 (((Says C 83 [(D.val (Value.string (s5)))] kT) ∧
 False) ∨
 ((Says C 83 [(D.val (Value.string (s5)))] kF) ∧
 (k [(D.agg [D.nil, (dI 0), (dI 0), (dI 0), (dI 0), (dI 0)]), (D.val (vI 7))])))))
 False)
 (bcase (decide (2 < (↑n1 : Int)))
 (∃ s5 : ByteArray,
 ((At (cs1) 2 1 [(Value.string (s5))]) ∧
 (((Says C 44 [(D.val (Value.string (s5))), (D.val (Value.string ({ data := #[32] })))] [D.nil]) ∧
 (k [(D.agg [D.nil, (dI 0), (dI 0), (dI 0), (dI 0), (dI 0)]), (D.val (vI 7))])) ∨
 (∃ n4 : Nat,
 (∃ cs4 : List Go.Value,
 ((Says C 44 [(D.val (Value.string (s5))), (D.val (Value.string ({ data := #[32] })))] [(D.sl (n4) 1 (cs4))]) ∧
 (bcase ((↑n4 : Int) != (↑1 : Int))
 (k [(D.agg [D.nil, (dI 0), (dI 0), (dI 0), (dI 0), (dI 0)]), (D.val (vI 7))])
 (bcase (decide (0 < (↑n4 : Int)))
 (bcase (decide (0 < (↑n4 : Int)))
 (∃ s6 : ByteArray,
 ((At (cs4) 0 1 [(Value.string (s6))]) ∧
 (((Says C 83 [(D.val (Value.string (s6)))] kT) ∧
 (((Qv (Value.string (s6))) ∧
 ((Qv (Pt 1003 5)) ∧
 ((Qv (Pt 1008 0)) ∧
 ((Qv (vI 0)) ∧
 ((Qv (Sl 1008 1 1)) ∧
 True))))) ∧
 ((Says C 84 [(D.val (Value.string (s6)))] [(D.val (vI (numB s6))), (D.val Value.nilIface)]) ∧
 (((Qv (Pt 1003 5)) ∧
 ((Value.nilIface = Value.nilIface) ∧
 ((Qv (vI (numB s6))) ∧
 ((Qv (Value.tuple [(vI (numB s6)), Value.nilIface].toArray)) ∧
 ((Qv (Pt 1003 5)) ∧
 ((Qv (Pt 1008 0)) ∧
 ((Qv (vI 0)) ∧
 ((Qv (Sl 1008 1 1)) ∧
 True)))))))) ∧
 (((Value.nilIface = Value.nilIface) ∧
 True) ∧
 (bcase (decide (IntKind.wrap .i64 (0 + 1) < (↑n4 : Int)))
 (bcase (decide (IntKind.wrap .i64 (0 + 1) < (↑n4 : Int)))
 (∃ s7 : ByteArray,
 ((At (cs4) 1 1 [(Value.string (s7))]) ∧
 (((Says C 83 [(D.val (Value.string (s7)))] kT) ∧
 False) ∨
 ((Says C 83 [(D.val (Value.string (s7)))] kF) ∧
 (k [(D.agg [D.nil, (dI 0), (dI 0), (dI 0), (dI 0), (dI 0)]), (D.val (vI 7))])))))
 False)
 (bcase (decide (3 ≤ (↑n1 : Int)))
 (bcase (decide (n1 ≤ n1))
 (bcase (n1 == 3)
 ((L 0 [(Prod.mk 2 (Pt 1000 0)), (Prod.mk 5 (Pt 1001 0)), (Prod.mk 23 (Sl 1002 (n1 - 3) (n1 - 3))), (Prod.mk 24 (vI ((↑(n1 - 3) : Int)))), (Prod.mk 25 (vI 0))] [(Prod.mk 1000 (AObj.cells [(Value.slice none 0 0), (vI 0), (vI 0), (vI 0), (vI 0), (vI 0)] 26 false 6)), (Prod.mk 1001 (AObj.cells [(Value.slice none 0 0), (vI 0), (vI 0), (vI (numB s3)), (vI (numB s4)), (vI (numB s6))] 26 false 6)), (Prod.mk 1002 (AObj.sym (cs1) true 1))]) ∧
 (L 0 [(Prod.mk 2 (Pt 1000 0)), (Prod.mk 5 (Pt 1001 0)), (Prod.mk 23 (Value.slice (some (Addr.mk 1002 3 none)) (n1 - 3) (n1 - 3))), (Prod.mk 24 (vI ((↑(n1 - 3) : Int)))), (Prod.mk 25 (vI 0))] [(Prod.mk 1000 (AObj.cells [(Value.slice none 0 0), (vI 0), (vI 0), (vI 0), (vI 0), (vI 0)] 26 false 6)), (Prod.mk 1001 (AObj.cells [(Value.slice none 0 0), (vI 0), (vI 0), (vI (numB s3)), (vI (numB s4)), (vI (numB s6))] 26 false 6)), (Prod.mk 1002 (AObj.sym (cs1) true 1))]))
 (L 0 [(Prod.mk 2 (Pt 1000 0)), (Prod.mk 5 (Pt 1001 0)), (Prod.mk 23 (Value.slice (some (Addr.mk 1002 3 none)) (n1 - 3) (n1 - 3))), (Prod.mk 24 (vI ((↑(n1 - 3) : Int)))), (Prod.mk 25 (vI 0))] [(Prod.mk 1000 (AObj.cells [(Value.slice none 0 0), (vI 0), (vI 0), (vI 0), (vI 0), (vI 0)] 26 false 6)), (Prod.mk 1001 (AObj.cells [(Value.slice none 0 0), (vI 0), (vI 0), (vI (numB s3)), (vI (numB s4)), (vI (numB s6))] 26 false 6)), (Prod.mk 1002 (AObj.sym (cs1) true 1))]))
 False)
 False))))))) ∨
 ((Says C 83 [(D.val (Value.string (s6)))] kF) ∧
 (k [(D.agg [D.nil, (dI 0), (dI 0), (dI 0), (dI 0), (dI 0)]), (D.val (vI 7))])))))
 False)
 (bcase (decide (3 ≤ (↑n1 : Int)))
 (bcase (decide (n1 ≤ n1))
 (bcase (n1 == 3)
 ((L 0 [(Prod.mk 2 (Pt 1000 0)), (Prod.mk 5 (Pt 1001 0)), (Prod.mk 23 (Sl 1002 (n1 - 3) (n1 - 3))), (Prod.mk 24 (vI ((↑(n1 - 3) : Int)))), (Prod.mk 25 (vI 0))] [(Prod.mk 1000 (AObj.cells [(Value.slice none 0 0), (vI 0), (vI 0), (vI 0), (vI 0), (vI 0)] 26 false 6)), (Prod.mk 1001 (AObj.cells [(Value.slice none 0 0), (vI 0), (vI 0), (vI (numB s3)), (vI (numB s4)), (vI 0)] 26 false 6)), (Prod.mk 1002 (AObj.sym (cs1) true 1))]) ∧
 (L 0 [(Prod.mk 2 (Pt 1000 0)), (Prod.mk 5 (Pt 1001 0)), (Prod.mk 23 (Value.slice (some (Addr.mk 1002 3 none)) (n1 - 3) (n1 - 3))), (Prod.mk 24 (vI ((↑(n1 - 3) : Int)))), (Prod.mk 25 (vI 0))] [(Prod.mk 1000 (AObj.cells [(Value.slice none 0 0), (vI 0), (vI 0), (vI 0), (vI 0), (vI 0)] 26 false 6)), (Prod.mk 1001 (AObj.cells [(Value.slice none 0 0), (vI 0), (vI 0), (vI (numB s3)), (vI (numB s4)), (vI 0)] 26 false 6)), (Prod.mk 1002 (AObj.sym (cs1) true 1))]))
 (L 0 [(Prod.mk 2 (Pt 1000 0)), (Prod.mk 5 (Pt 1001 0)), (Prod.mk 23 (Value.slice (some (Addr.mk 1002 3 none)) (n1 - 3) (n1 - 3))), (Prod.mk 24 (vI ((↑(n1 - 3) : Int)))), (Prod.mk 25 (vI 0))] [(Prod.mk 1000 (AObj.cells [(Value.slice none 0 0), (vI 0), (vI 0), (vI 0), (vI 0), (vI 0)] 26 false 6)), (Prod.mk 1001 (AObj.cells [(Value.slice none 0 0), (vI 0), (vI 0), (vI (numB s3)), (vI (numB s4)), (vI 0)] 26 false 6)), (Prod.mk 1002 (AObj.sym (cs1) true 1))]))
 False)
 False)))))))))
 False))))))) ∨
 ((Says C 83 [(D.val (Value.string (s4)))] kF) ∧
 (k [(D.agg [D.nil, (dI 0), (dI 0), (dI 0), (dI 0), (dI 0)]), (D.val (vI 7))])))))
 False)
 (bcase (decide (2 < (↑n1 : Int)))
 (∃ s4 : ByteArray,
 ((At (cs1) 2 1 [(Value.string (s4))]) ∧
 (((Says C 44 [(D.val (Value.string (s4))), (D.val (Value.string ({ data := #[32] })))] [D.nil]) ∧
 (k [(D.agg [D.nil, (dI 0), (dI 0), (dI 0), (dI 0), (dI 0)]), (D.val (vI 7))])) ∨
 (∃ n4 : Nat,
 (∃ cs4 : List Go.Value,
 ((Says C 44 [(D.val (Value.string (s4))), (D.val (Value.string ({ data := #[32] })))] [(D.sl (n4) 1 (cs4))]) ∧
 (bcase ((↑n4 : Int) != (↑1 : Int))
 (k [(D.agg [D.nil, (dI 0), (dI 0), (dI 0), (dI 0), (dI 0)]), (D.val (vI 7))])
 (bcase (decide (0 < (↑n4 : Int)))
 (bcase (decide (0 < (↑n4 : Int)))
 (∃ s5 : ByteArray,
 ((At (cs4) 0 1 [(Value.string (s5))]) ∧
 (((Says C 83 [(D.val (Value.string (s5)))] kT) ∧
 (((Qv (Value.string (s5))) ∧
 ((Qv (Pt 1003 5)) ∧
 ((Qv (Pt 1008 0)) ∧
 ((Qv (vI 0)) ∧
 ((Qv (Sl 1008 1 1)) ∧
 True))))) ∧
 ((Says C 84 [(D.val (Value.string (s5)))] [(D.val (vI (numB s5))), (D.val Value.nilIface)]) ∧
 (((Qv (Pt 1003 5)) ∧
 ((Value.nilIface = Value.nilIface) ∧
 ((Qv (vI (numB s5))) ∧
 ((Qv (Value.tuple [(vI (numB s5)), Value.nilIface].toArray)) ∧
 ((Qv (Pt 1003 5)) ∧
 ((Qv (Pt 1008 0)) ∧
 ((Qv (vI 0)) ∧
 ((Qv (Sl 1008 1 1)) ∧
 True)))))))) ∧
 (((Value.nilIface = Value.nilIface) ∧
 True) ∧
 (bcase (decide (IntKind.wrap .i64 (0 + 1) < (↑n4 : Int)))
 (bcase (decide (IntKind.wrap .i64 (0 + 1) < (↑n4 : Int)))
 (∃ s6 : ByteArray,
 ((At (cs4) 1 1 [(Value.string (s6))]) ∧
 (((Says C 83 [(D.val (Value.string (s6)))] kT) ∧
 False) ∨
 ((Says C 83 [(D.val (Value.string (s6)))] kF) ∧
 (k [(D.agg [D.nil, (dI 0), (dI 0), (dI 0), (dI 0), (dI 0)]), (D.val (vI 7))])))))
 False)
 (bcase (decide (3 ≤ (↑n1 : Int)))
 (bcase (decide (n1 ≤ n1))
 (bcase (n1 == 3)
 ((L 0 [(Prod.mk 2 (Pt 1000 0)), (Prod.mk 5 (Pt 1001 0)), (Prod.mk 23 (Sl 1002 (n1 - 3) (n1 - 3))), (Prod.mk 24 (vI ((↑(n1 - 3) : Int)))), (Prod.mk 25 (vI 0))] [(Prod.mk 1000 (AObj.cells [(Value.slice none 0 0), (vI 0), (vI 0), (vI 0), (vI 0), (vI 0)] 26 false 6)), (Prod.mk 1001 (AObj.cells [(Value.slice none 0 0), (vI 0), (vI 0), (vI (numB s3)), (vI 0), (vI (numB s5))] 26 false 6)), (Prod.mk 1002 (AObj.sym (cs1) true 1))]) ∧
 (L 0 [(Prod.mk 2 (Pt 1000 0)), (Prod.mk 5 (Pt 1001 0)), (Prod.mk 23 (Value.slice (some (Addr.mk 1002 3 none)) (n1 - 3) (n1 - 3))), (Prod.mk 24 (vI ((↑(n1 - 3) : Int)))), (Prod.mk 25 (vI 0))] [(Prod.mk 1000 (AObj.cells [(Value.slice none 0 0), (vI 0), (vI 0), (vI 0), (vI 0), (vI 0)] 26 false 6)), (Prod.mk 1001 (AObj.cells [(Value.slice none 0 0), (vI 0), (vI 0), (vI (numB s3)), (vI 0), (vI (numB s5))] 26 false 6)), (Prod.mk 1002 (AObj.sym (cs1) true 1))]))
 (L 0 [(Prod.mk 2 (Pt 1000 0)), (Prod.mk 5 (Pt 1001 0)), (Prod.mk 23 (Value.slice (some (Addr.mk 1002 3 none)) (n1 - 3) (n1 - 3))), (Prod.mk 24 (vI ((↑(n1 - 3) : Int)))), (Prod.mk 25 (vI 0))] [(Prod.mk 1000 (AObj.cells [(Value.slice none 0 0), (vI 0), (vI 0), (vI 0), (vI 0), (vI 0)] 26 false 6)), (Prod.mk 1001 (AObj.cells [(Value.slice none 0 0), (vI 0), (vI 0), (vI (numB s3)), (vI 0), (vI (numB s5))] 26 false 6)), (Prod.mk 1002 (AObj.sym (cs1) true 1))]))
 False)
 False))))))) ∨
 ((Says C 83 [(D.val (Value.string (s5)))] kF) ∧
 (k [(D.agg [D.nil, (dI 0), (dI 0), (dI 0), (dI 0), (dI 0)]), (D.val (vI 7))])))))
 False)
 (bcase (decide (3 ≤ (↑n1 : Int)))
 (bcase (decide (n1 ≤ n1))
 (bcase (n1 == 3)
 ((L 0 [(Prod.mk 2 (Pt 1000 0)), (Prod.mk 5 (Pt 1001 0)), (Prod.mk 23 (Sl 1002 (n1 - 3) (n1 - 3))), (Prod.mk 24 (vI ((↑(n1 - 3) : Int)))), (Prod.mk 25 (vI 0))] [(Prod.mk 1000 (AObj.cells [(Value.slice none 0 0), (vI 0), (vI 0), (vI 0), (vI 0), (vI 0)] 26 false 6)), (Prod.mk 1001 (AObj.cells [(Value.slice none 0 0), (vI 0), (vI 0), (vI (numB s3)), (vI 0), (vI 0)] 26 false 6)), (Prod.mk 1002 (AObj.sym (cs1) true 1))]) ∧
 (L 0 [(Prod.mk 2 (Pt 1000 0)), (Prod.mk 5 (Pt 1001 0)), (Prod.mk 23 (Value.slice (some (Addr.mk 1002 3 none)) (n1 - 3) (n1 - 3))), (Prod.mk 24 (vI ((↑(n1 - 3) : Int)))), (Prod.mk 25 (vI 0))] [(Prod.mk 1000 (AObj.cells [(Value.slice none 0 0), (vI 0), (vI 0), (vI 0), (vI 0), (vI 0)] 26 false 6)), (Prod.mk 1001 (AObj.cells [(Value.slice none 0 0), (vI 0), (vI 0), (vI (numB s3)), (vI 0), (vI 0)] 26 false 6)), (Prod.mk 1002 (AObj.sym (cs1) true 1))]))
 (L 0 [(Prod.mk 2 (Pt 1000 0)), (Prod.mk 5 (Pt 1001 0)), (Prod.mk 23 (Value.slice (some (Addr.mk 1002 3 none)) (n1 - 3) (n1 - 3))), (Prod.mk 24 (vI ((↑(n1 - 3) : Int)))), (Prod.mk 25 (vI 0))] [(Prod.mk 1000 (AObj.cells [(Value.slice none 0 0), (vI 0), (vI 0), (vI 0), (vI 0), (vI 0)] 26 false 6)), (Prod.mk 1001 (AObj.cells [(Value.slice none 0 0), (vI 0), (vI 0), (vI (numB s3)), (vI 0), (vI 0)] 26 false 6)), (Prod.mk 1002 (AObj.sym (cs1) true 1))]))
 False)
 False)))))))))
 False))))))) ∨
 ((Says C 83 [(D.val (Value.string (s3)))] kF) ∧
 (k [(D.agg [D.nil, (dI 0), (dI 0), (dI 0), (dI 0), (dI 0)]), (D.val (vI 7))])))))
 False)
 (bcase (decide (2 < (↑n1 : Int)))
 (∃ s3 : ByteArray,
 ((At (cs1) 2 1 [(Value.string (s3))]) ∧
 (((Says C 44 [(D.val (Value.string (s3))), (D.val (Value.string ({ data := #[32] })))] [D.nil]) ∧
 (k [(D.agg [D.nil, (dI 0), (dI 0), (dI 0), (dI 0), (dI 0)]), (D.val (vI 7))])) ∨
 (∃ n4 : Nat,
 (∃ cs4 : List Go.Value,
 ((Says C 44 [(D.val (Value.string (s3))), (D.val (Value.string ({ data := #[32] })))] [(D.sl (n4) 1 (cs4))]) ∧
 (bcase ((↑n4 : Int) != (↑1 : Int))
 (k [(D.agg [D.nil, (dI 0), (dI 0), (dI 0), (dI 0), (dI 0)]), (D.val (vI 7))])
 (bcase (decide (0 < (↑n4 : Int)))
 (bcase (decide (0 < (↑n4 : Int)))
 (∃ s4 : ByteArray,
 ((At (cs4) 0 1 [(Value.string (s4))]) ∧
 (((Says C 83 [(D.val (Value.string (s4)))] kT) ∧
 (((Qv (Value.string (s4))) ∧
 ((Qv (Pt 1003 5)) ∧
 ((Qv (Pt 1008 0)) ∧
 ((Qv (vI 0)) ∧
 ((Qv (Sl 1008 1 1)) ∧
 True))))) ∧
 ((Says C 84 [(D.val (Value.string (s4)))] [(D.val (vI (numB s4))), (D.val Value.nilIface)]) ∧
 (((Qv (Pt 1003 5)) ∧
 ((Value.nilIface = Value.nilIface) ∧
 ((Qv (vI (numB s4))) ∧
 ((Qv (Value.tuple [(vI (numB s4)), Value.nilIface].toArray)) ∧
 ((Qv (Pt 1003 5)) ∧
 ((Qv (Pt 1008 0)) ∧
 ((Qv (vI 0)) ∧
 ((Qv (Sl 1008 1 1)) ∧
 True)))))))) ∧
 (((Value.nilIface = Value.nilIface) ∧
 True) ∧
 (bcase (decide (IntKind.wrap .i64 (0 + 1) < (↑n4 : Int)))
 (bcase (decide (IntKind.wrap .i64 (0 + 1) < (↑n4 : Int)))
 (∃ s5 : ByteArray,
 ((At (cs4) 1 1 [(Value.string (s5))]) ∧
 (((Says C 83 [(D.val (Value.string (s5)))] kT) ∧
 False) ∨
 ((Says C 83 [(D.val (Value.string (s5)))] kF) ∧
 (k [(D.agg [D.nil, (dI 0), (dI 0), (dI 0), (dI 0), (dI 0)]), (D.val (vI 7))])))))
 False)
 (bcase (decide (3 ≤ (↑n1 : Int)))
 (bcase (decide (n1 ≤ n1))
 (bcase (n1 == 3)
 ((L 0 [(Prod.mk 2 (Pt 1000 0)), (Prod.mk 5 (Pt 1001 0)), (Prod.mk 23 (Sl 1002 (n1 - 3) (n1 - 3))), (Prod.mk 24 (vI ((↑(n1 - 3) : Int)))), (Prod.mk 25 (vI 0))] [(Prod.mk 1000 (AObj.cells [(Value.slice none 0 0), (vI 0), (vI 0), (vI 0), (vI 0), (vI 0)] 26 false 6)), (Prod.mk 1001 (AObj.cells [(Value.slice none 0 0), (vI 0), (vI 0), (vI 0), (vI 0), (vI (numB s4))] 26 false 6)), (Prod.mk 1002 (AObj.sym (cs1) true 1))]) ∧
 (L 0 [(Prod.mk 2 (Pt 1000 0)), (Prod.mk 5 (Pt 1001 0)), (Prod.mk 23 (Value.slice (some (Addr.mk 1002 3 none)) (n1 - 3) (n1 - 3))), (Prod.mk 24 (vI ((↑(n1 - 3) : Int)))), (Prod.mk 25 (vI 0))] [(Prod.mk 1000 (AObj.cells [(Value.slice none 0 0), (vI 0), (vI 0), (vI 0), (vI 0), (vI 0)] 26 false 6)), (Prod.mk 1001 (AObj.cells [(Value.slice none 0 0), (vI 0), (vI 0), (vI 0), (vI 0), (vI (numB s4))] 26 false 6)), (Prod.mk 1002 (AObj.sym (cs1) true 1))]))
 (L 0 [(Prod.mk 2 (Pt 1000 0)), (Prod.mk 5 (Pt 1001 0)), (Prod.mk 23 (Value.slice (some (Addr.mk 1002 3 none)) (n1 - 3) (n1 - 3))), (Prod.mk 24 (vI ((↑(n1 - 3) : Int)))), (Prod.mk 25 (vI 0))] [(Prod.mk 1000 (AObj.cells [(Value.slice none 0 0), (vI 0), (vI 0), (vI 0), (vI 0), (vI 0)] 26 false 6)), (Prod.mk 1001 (AObj.cells [(Value.slice none 0 0), (vI 0), (vI 0), (vI 0), (vI 0), (vI (numB s4))] 26 false 6)), (Prod.mk 1002 (AObj.sym (cs1) true 1))]))
 False)
 False))))))) ∨
 ((Says C 83 [(D.val (Value.string (s4)))] kF) ∧
 (k [(D.agg [D.nil, (dI 0), (dI 0), (dI 0), (dI 0), (dI 0)]), (D.val (vI 7))])))))
 False)
 (bcase (decide (3 ≤ (↑n1 : Int)))
 (bcase (decide (n1 ≤ n1))
 (bcase (n1 == 3)
 ((L 0 [(Prod.mk 2 (Pt 1000 0)), (Prod.mk 5 (Pt 1001 0)), (Prod.mk 23 (Sl 1002 (n1 - 3) (n1 - 3))), (Prod.mk 24 (vI ((↑(n1 - 3) : Int)))), (Prod.mk 25 (vI 0))] [(Prod.mk 1000 (AObj.cells [(Value.slice none 0 0), (vI 0), (vI 0), (vI 0), (vI 0), (vI 0)] 26 false 6)), (Prod.mk 1001 (AObj.cells [(Value.slice none 0 0), (vI 0), (vI 0), (vI 0), (vI 0), (vI 0)] 26 false 6)), (Prod.mk 1002 (AObj.sym (cs1) true 1))]) ∧
 (L 0 [(Prod.mk 2 (Pt 1000 0)), (Prod.mk 5 (Pt 1001 0)), (Prod.mk 23 (Value.slice (some (Addr.mk 1002 3 none)) (n1 - 3) (n1 - 3))), (Prod.mk 24 (vI ((↑(n1 - 3) : Int)))), (Prod.mk 25 (vI 0))] [(Prod.mk 1000 (AObj.cells [(Value.slice none 0 0), (vI 0), (vI 0), (vI 0), (vI 0), (vI 0)] 26 false 6)), (Prod.mk 1001 (AObj.cells [(Value.slice none 0 0), (vI 0), (vI 0), (vI 0), (vI 0), (vI 0)] 26 false 6)), (Prod.mk 1002 (AObj.sym (cs1) true 1))]))
 (L 0 [(Prod.mk 2 (Pt 1000 0)), (Prod.mk 5 (Pt 1001 0)), (Prod.mk 23 (Value.slice (some (Addr.mk 1002 3 none)) (n1 - 3) (n1 - 3))), (Prod.mk 24 (vI ((↑(n1 - 3) : Int)))), (Prod.mk 25 (vI 0))] [(Prod.mk 1000 (AObj.cells [(Value.slice none 0 0), (vI 0), (vI 0), (vI 0), (vI 0), (vI 0)] 26 false 6)), (Prod.mk 1001 (AObj.cells [(Value.slice none 0 0), (vI 0), (vI 0), (vI 0), (vI 0), (vI 0)] 26 false 6)), (Prod.mk 1002 (AObj.sym (cs1) true 1))]))
 False)
 False)))))))))
 False)))))))))
 False)))))))))
 False)
 (k [(D.agg [D.nil, (dI 0), (dI 0), (dI 0), (dI 0), (dI 0)]), (D.val (vI 7))])))))) := by kernel_rfl
abbrev zpR1 (n0 : Nat) (x1 : Int) (x2 : Int) (x3 : Int) (x4 : Int) (x5 : Int) (x6 : Int) (x7 : Int) (x8 : Int) (x9 : Int) (x10 : Int) (x11 : Int) (x12 : Int) (l13 : List Value) : Slots × Blocks := ([(2, (Value.pointer (some ⟨1000, 0, none⟩))), (5, (Value.pointer (some ⟨1001, 0, none⟩))), (23, (Value.slice (some ⟨1002, 0, none⟩) n0 n0)), (24, (Value.int .i64 x1)), (25, (Value.int .i64 x2))], [(1000, (AObj.cells [(Value.slice none 0 0), (Value.int .i64 x3), (Value.int .i64 x4), (Value.int .i64 x5), (Value.int .i64 x6), (Value.int .i64 x7)] 26 false 6)), (1001, (AObj.cells [(Value.slice none 0 0), (Value.int .i64 x8), (Value.int .i64 x9), (Value.int .i64 x10), (Value.int .i64 x11), (Value.int .i64 x12)] 26 false 6)), (1002, (AObj.sym l13 true 1))])
def rpR1 (C : Ct) (L : AtLoop) (n0 : Nat) (x1 : Int) (x2 : Int) (x3 : Int) (x4 : Int) (x5 : Int) (x6 : Int) (x7 : Int) (x8 : Int) (x9 : Int) (x10 : Int) (x11 : Int) (x12 : Int) (l13 : List Value) (B : Bx) (X : Xx) (k : List D → Prop) : Prop := wpRound Tryz.prog (hP C) L 19 0 [(2, (Value.pointer (some ⟨1000, 0, none⟩))), (5, (Value.pointer (some ⟨1001, 0, none⟩))), (23, (Value.slice (some ⟨1002, 0, none⟩) n0 n0)), (24, (Value.int .i64 x1)), (25, (Value.int .i64 x2))] [(1000, (AObj.cells [(Value.slice none 0 0), (Value.int .i64 x3), (Value.int .i64 x4), (Value.int .i64 x5), (Value.int .i64 x6), (Value.int .i64 x7)] 26 false 6)), (1001, (AObj.cells [(Value.slice none 0 0), (Value.int .i64 x8), (Value.int .i64 x9), (Value.int .i64 x10), (Value.int .i64 x11), (Value.int .i64 x12)] 26 false 6)), (1002, (AObj.sym l13 true 1))] B X (dataK k)
theorem rpR1_text (C : Ct) (L : AtLoop) (n0 : Nat) (x1 : Int) (x2 : Int) (x3 : Int) (x4 : Int) (x5 : Int) (x6 : Int) (x7 : Int) (x8 : Int) (x9 : Int) (x10 : Int) (x11 : Int) (x12 : Int) (l13 : List Go.Value) (B : Bx) (X : Xx) (k : List D → Prop) : rpR1 C L n0 x1 x2 x3 x4 x5 x6 x7 x8 x9 x10 x11 x12 l13 B X k =
 (bcase (decide (x2 < x1))
 (bcase (decide (0 ≤ x2))
 (bcase (decide (x2 < (↑n0 : Int)))
 (∃ s1 : ByteArray,
 ((At (l13) (0 + Int.toNat x2 * 1) 1 [(Value.string (s1))]) ∧
 (((Says C 44 [(D.val (Value.string (s1))), (D.val (Value.string ({ data := #[64] })))] [D.nil]) ∧
 (k [(D.agg [D.nil, (dI 0), (dI 0), (dI 0), (dI 0), (dI 0)]), (D.val (vI 7))])) ∨
 (∃ n1 : Nat,
 (∃ cs1 : List Go.Value,
 ((Says C 44 [(D.val (Value.string (s1))), (D.val (Value.string ({ data := #[64] })))] [(D.sl (n1) 1 (cs1))]) ∧
 (bcase ((↑n1 : Int) != (↑2 : Int))
 (k [(D.agg [D.nil, (dI 0), (dI 0), (dI 0), (dI 0), (dI 0)]), (D.val (vI 7))])
 (bcase (decide (0 < (↑n1 : Int)))
 (bcase (decide (0 < (↑n1 : Int)))
 (∃ s2 : ByteArray,
 ((At (cs1) 0 1 [(Value.string (s2))]) ∧
 (((Says C 83 [(D.val (Value.string (s2)))] kT) ∧
 (((Qv (Value.string (s2))) ∧
 ((Qv (Pt 1003 0)) ∧
 ((Qv (Pt 1004 0)) ∧
 ((Qv (vI 0)) ∧
 ((Qv (Sl 1004 2 2)) ∧
 True))))) ∧
 ((Says C 84 [(D.val (Value.string (s2)))] [(D.val (vI (numB s2))), (D.val Value.nilIface)]) ∧
 (((Qv (Pt 1003 0)) ∧
 ((Value.nilIface = Value.nilIface) ∧
 ((Qv (vI (numB s2))) ∧
 ((Qv (Value.tuple [(vI (numB s2)), Value.nilIface].toArray)) ∧
 ((Qv (Pt 1003 0)) ∧
 ((Qv (Pt 1004 0)) ∧
 ((Qv (vI 0)) ∧
 ((Qv (Sl 1004 2 2)) ∧
 True)))))))) ∧
 (((Value.nilIface = Value.nilIface) ∧
 True) ∧
 (bcase (decide (IntKind.wrap .i64 (0 + 1) < (↑n1 : Int)))
 (bcase (decide (IntKind.wrap .i64 (0 + 1) < (↑n1 : Int)))
 (∃ s3 : ByteArray,
 ((At (cs1) 1 1 [(Value.string (s3))]) ∧
 (((Says C 83 [(D.val (Value.string (s3)))] kT) ∧
 (((Qv (Value.string (s3))) ∧
 ((Qv (Pt 1003 1)) ∧
 ((Qv (Pt 1004 1)) ∧
 ((Qv (vI 1)) ∧
 ((Qv (Sl 1004 2 2)) ∧
 True))))) ∧
 ((Says C 84 [(D.val (Value.string (s3)))] [(D.val (vI (numB s3))), (D.val Value.nilIface)]) ∧
 (((Qv (Pt 1003 1)) ∧
 ((Value.nilIface = Value.nilIface) ∧
 ((Qv (vI (numB s3))) ∧
 ((Qv (Value.tuple [(vI (numB s3)), Value.nilIface].toArray)) ∧
 ((Qv (Pt 1003 1)) ∧
 ((Qv (Pt 1004 1)) ∧
 ((Qv (vI 1)) ∧
 ((Qv (Sl 1004 2 2)) ∧
 True)))))))) ∧
 (((Value.nilIface = Value.nilIface) ∧
 True) ∧
 (bcase (decide (IntKind.wrap .i64 (IntKind.wrap .i64 (0 + 1) + 1) < (↑n1 : Int)))
 (bcase (decide (IntKind.wrap .i64 (IntKind.wrap .i64 (0 + 1) + 1) < (↑n1 : Int)))
 (∃ s4 : ByteArray,
 ((At (cs1) 2 1 [(Value.string (s4))]) ∧
 (((Says C 83 [(D.val (Value.string (s4)))] kT) ∧
 False) ∨
 ((Says C 83 [(D.val (Value.string (s4)))] kF) ∧
 (k [(D.agg [D.nil, (dI 0), (dI 0), (dI 0), (dI 0), (dI 0)]), (D.val (vI 7))])))))
 False)
 (B [(Prod.mk 2 (Pt 1000 0)), (Prod.mk 5 (Pt 1001 0)), (Prod.mk 23 (Sl 1002 (n0) (n0))), (Prod.mk 24 (vI x1)), (Prod.mk 25 (vI (IntKind.wrap .i64 (x2 + 1))))] [(Prod.mk 1000 (AObj.cells [(Value.slice none 0 0), (vI x3), (vI x4), (vI x5), (vI x6), (vI x7)] 26 false 6)), (Prod.mk 1001 (AObj.cells [(Sl 1003 1 1), (vI x8), (vI x9), (vI x10), (vI x11), (vI x12)] 26 false 6)), (Prod.mk 1002 (AObj.sym (l13) true 1)), (Prod.mk 1003 (AObj.sym [(vI (numB s2)), (vI (numB s3))] true 2))]))))))) ∨
 ((Says C 83 [(D.val (Value.string (s3)))] kF) ∧
 (k [(D.agg [D.nil, (dI 0), (dI 0), (dI 0), (dI 0), (dI 0)]), (D.val (vI 7))])))))
 False)
 (B [(Prod.mk 2 (Pt 1000 0)), (Prod.mk 5 (Pt 1001 0)), (Prod.mk 23 (Sl 1002 (n0) (n0))), (Prod.mk 24 (vI x1)), (Prod.mk 25 (vI (IntKind.wrap .i64 (x2 + 1))))] [(Prod.mk 1000 (AObj.cells [(Value.slice none 0 0), (vI x3), (vI x4), (vI x5), (vI x6), (vI x7)] 26 false 6)), (Prod.mk 1001 (AObj.cells [(Sl 1003 1 1), (vI x8), (vI x9), (vI x10), (vI x11), (vI x12)] 26 false 6)), (Prod.mk 1002 (AObj.sym (l13) true 1)), (Prod.mk 1003 (AObj.sym [(vI (numB s2)), (vI 0)] true 2))]))))))) ∨
 ((Says C 83 [(D.val (Value.string (s2)))] kF) ∧
 (k [(D.agg [D.nil, (dI 0), (dI 0), (dI 0), (dI 0), (dI 0)]), (D.val (vI 7))])))))
 False)
 (B [(Prod.mk 2 (Pt 1000 0)), (Prod.mk 5 (Pt 1001 0)), (Prod.mk 23 (Sl 1002 (n0) (n0))), (Prod.mk 24 (vI x1)), (Prod.mk 25 (vI (IntKind.wrap .i64 (x2 + 1))))] [(Prod.mk 1000 (AObj.cells [(Value.slice none 0 0), (vI x3), (vI x4), (vI x5), (vI x6), (vI x7)] 26 false 6)), (Prod.mk 1001 (AObj.cells [(Sl 1003 1 1), (vI x8), (vI x9), (vI x10), (vI x11), (vI x12)] 26 false 6)), (Prod.mk 1002 (AObj.sym (l13) true 1)), (Prod.mk 1003 (AObj.sym [(vI 0), (vI 0)] true 2))])))))))))
 False)
 False)
 (X 0 [(Prod.mk 2 (Pt 1000 0)), (Prod.mk 5 (Pt 1001 0))] [(Prod.mk 1000 (AObj.cells [(Value.slice none 0 0), (vI x3), (vI x4), (vI x5), (vI x6), (vI x7)] 26 false 6)), (Prod.mk 1001 (AObj.cells [(Value.slice none 0 0), (vI x8), (vI x9), (vI x10), (vI x11), (vI x12)] 26 false 6))])) := by kernel_rfl
abbrev zpR2 (o0 : Nat) (n1 : Nat) (x2 : Int) (x3 : Int) (x4 : Int) (x5 : Int) (x6 : Int) (x7 : Int) (x8 : Int) (x9 : Int) (x10 : Int) (x11 : Int) (x12 : Int) (x13 : Int) (l14 : List Value) : Slots × Blocks := ([(2, (Value.pointer (some ⟨1000, 0, none⟩))), (5, (Value.pointer (some ⟨1001, 0, none⟩))), (23, (Value.slice (some ⟨1002, o0, none⟩) n1 n1)), (24, (Value.int .i64 x2)), (25, (Value.int .i64 x3))], [(1000, (AObj.cells [(Value.slice none 0 0), (Value.int .i64 x4), (Value.int .i64 x5), (Value.int .i64 x6), (Value.int .i64 x7), (Value.int .i64 x8)] 26 false 6)), (1001, (AObj.cells [(Value.slice none 0 0), (Value.int .i64 x9), (Value.int .i64 x10), (Value.int .i64 x11), (Value.int .i64 x12), (Value.int .i64 x13)] 26 false 6)), (1002, (AObj.sym l14 true 1))])
def rpR2 (C : Ct) (L : AtLoop) (o0 : Nat) (n1 : Nat) (x2 : Int) (x3 : Int) (x4 : Int) (x5 : Int) (x6 : Int) (x7 : Int) (x8 : Int) (x9 : Int) (x10 : Int) (x11 : Int) (x12 : Int) (x13 : Int) (l14 : List Value) (B : Bx) (X : Xx) (k : List D → Prop) : Prop := wpRound Tryz.prog (hP C) L 19 0 [(2, (Value.pointer (some ⟨1000, 0, none⟩))), (5, (Value.pointer (some ⟨1001, 0, none⟩))), (23, (Value.slice (some ⟨1002, o0, none⟩) n1 n1)), (24, (Value.int .i64 x2)), (25, (Value.int .i64 x3))] [(1000, (AObj.cells [(Value.slice none 0 0), (Value.int .i64 x4), (Value.int .i64 x5), (Value.int .i64 x6), (Value.int .i64 x7), (Value.int .i64 x8)] 26 false 6)), (1001, (AObj.cells [(Value.slice none 0 0), (Value.int .i64 x9), (Value.int .i64 x10), (Value.int .i64 x11), (Value.int .i64 x12), (Value.int .i64 x13)] 26 false 6)), (1002, (AObj.sym l14 true 1))] B X (dataK k)
theorem rpR2_text (C : Ct) (L : AtLoop) (o0 : Nat) (n1 : Nat) (x2 : Int) (x3 : Int) (x4 : Int) (x5 : Int) (x6 : Int) (x7 : Int) (x8 : Int) (x9 : Int) (x10 : Int) (x11 : Int) (x12 : Int) (x13 : Int) (l14 : List Go.Value) (B : Bx) (X : Xx) (k : List D → Prop) : rpR2 C L o0 n1 x2 x3 x4 x5 x6 x7 x8 x9 x10 x11 x12 x13 l14 B X k =
 (bcase (decide (x3 < x2))
 (bcase (decide (0 ≤ x3))
 (bcase (decide (x3 < (↑n1 : Int)))
 (∃ s1 : ByteArray,
 ((At (l14) (o0 + Int.toNat x3 * 1) 1 [(Value.string (s1))]) ∧
 (((Says C 44 [(D.val (Value.string (s1))), (D.val (Value.string ({ data := #[64] })))] [D.nil]) ∧
 (k [(D.agg [D.nil, (dI 0), (dI 0), (dI 0), (dI 0), (dI 0)]), (D.val (vI 7))])) ∨
 (∃ n2 : Nat,
 (∃ cs1 : List Go.Value,
 ((Says C 44 [(D.val (Value.string (s1))), (D.val (Value.string ({ data := #[64] })))] [(D.sl (n2) 1 (cs1))]) ∧
 (bcase ((↑n2 : Int) != (↑2 : Int))
 (k [(D.agg [D.nil, (dI 0), (dI 0), (dI 0), (dI 0), (dI 0)]), (D.val (vI 7))])
 (bcase (decide (0 < (↑n2 : Int)))
 (bcase (decide (0 < (↑n2 : Int)))
 (∃ s2 : ByteArray,
 ((At (cs1) 0 1 [(Value.string (s2))]) ∧
 (((Says C 83 [(D.val (Value.string (s2)))] kT) ∧
 (((Qv (Value.string (s2))) ∧
 ((Qv (Pt 1003 0)) ∧
 ((Qv (Pt 1004 0)) ∧
 ((Qv (vI 0)) ∧
 ((Qv (Sl 1004 2 2)) ∧
 True))))) ∧
 ((Says C 84 [(D.val (Value.string (s2)))] [(D.val (vI (numB s2))), (D.val Value.nilIface)]) ∧
 (((Qv (Pt 1003 0)) ∧
 ((Value.nilIface = Value.nilIface) ∧
 ((Qv (vI (numB s2))) ∧
 ((Qv (Value.tuple [(vI (numB s2)), Value.nilIface].toArray)) ∧
 ((Qv (Pt 1003 0)) ∧
 ((Qv (Pt 1004 0)) ∧
 ((Qv (vI 0)) ∧
 ((Qv (Sl 1004 2 2)) ∧
 True)))))))) ∧
 (((Value.nilIface = Value.nilIface) ∧
 True) ∧
 (bcase (decide (IntKind.wrap .i64 (0 + 1) < (↑n2 : Int)))
 (bcase (decide (IntKind.wrap .i64 (0 + 1) < (↑n2 : Int)))
 (∃ s3 : ByteArray,
 ((At (cs1) 1 1 [(Value.string (s3))]) ∧
 (((Says C 83 [(D.val (Value.string (s3)))] kT) ∧
 (((Qv (Value.string (s3))) ∧
 ((Qv (Pt 1003 1)) ∧
 ((Qv (Pt 1004 1)) ∧
 ((Qv (vI 1)) ∧
 ((Qv (Sl 1004 2 2)) ∧
 True))))) ∧
 ((Says C 84 [(D.val (Value.string (s3)))] [(D.val (vI (numB s3))), (D.val Value.nilIface)]) ∧
 (((Qv (Pt 1003 1)) ∧
 ((Value.nilIface = Value.nilIface) ∧
 ((Qv (vI (numB s3))) ∧
 ((Qv (Value.tuple [(vI (numB s3)), Value.nilIface].toArray)) ∧
 ((Qv (Pt 1003 1)) ∧
 ((Qv (Pt 1004 1)) ∧
 ((Qv (vI 1)) ∧
 ((Qv (Sl 1004 2 2)) ∧
 True)))))))) ∧
 (((Value.nilIface = Value.nilIface) ∧
 True) ∧
 (bcase (decide (IntKind.wrap .i64 (IntKind.wrap .i64 (0 + 1) + 1) < (↑n2 : Int)))
 (bcase (decide (IntKind.wrap .i64 (IntKind.wrap .i64 (0 + 1) + 1) < (↑n2 : Int)))
 (∃ s4 : ByteArray,
 ((At (cs1) 2 1 [(Value.string (s4))]) ∧
 (((Says C 83 [(D.val (Value.string (s4)))] kT) ∧
 False) ∨
 ((Says C 83 [(D.val (Value.string (s4)))] kF) ∧
 (k [(D.agg [D.nil, (dI 0), (dI 0), (dI 0), (dI 0), (dI 0)]), (D.val (vI 7))])))))
 False)
 (B [(Prod.mk 2 (Pt 1000 0)), (Prod.mk 5 (Pt 1001 0)), (Prod.mk 23 (Value.slice (some (Addr.mk 1002 (o0) none)) (n1) (n1))), (Prod.mk 24 (vI x2)), (Prod.mk 25 (vI (IntKind.wrap .i64 (x3 + 1))))] [(Prod.mk 1000 (AObj.cells [(Value.slice none 0 0), (vI x4), (vI x5), (vI x6), (vI x7), (vI x8)] 26 false 6)), (Prod.mk 1001 (AObj.cells [(Sl 1003 1 1), (vI x9), (vI x10), (vI x11), (vI x12), (vI x13)] 26 false 6)), (Prod.mk 1002 (AObj.sym (l14) true 1)), (Prod.mk 1003 (AObj.sym [(vI (numB s2)), (vI (numB s3))] true 2))]))))))) ∨
 ((Says C 83 [(D.val (Value.string (s3)))] kF) ∧
 (k [(D.agg [D.nil, (dI 0), (dI 0), (dI 0), (dI 0), (dI 0)]), (D.val (vI 7))])))))
 False)
 (B [(Prod.mk 2 (Pt 1000 0)), (Prod.mk 5 (Pt 1001 0)), (Prod.mk 23 (Value.slice (some (Addr.mk 1002 (o0) none)) (n1) (n1))), (Prod.mk 24 (vI x2)), (Prod.mk 25 (vI (IntKind.wrap .i64 (x3 + 1))))] [(Prod.mk 1000 (AObj.cells [(Value.slice none 0 0), (vI x4), (vI x5), (vI x6), (vI x7), (vI x8)] 26 false 6)), (Prod.mk 1001 (AObj.cells [(Sl 1003 1 1), (vI x9), (vI x10), (vI x11), (vI x12), (vI x13)] 26 false 6)), (Prod.mk 1002 (AObj.sym (l14) true 1)), (Prod.mk 1003 (AObj.sym [(vI (numB s2)), (vI 0)] true 2))]))))))) ∨
 ((Says C 83 [(D.val (Value.string (s2)))] kF) ∧
 (k [(D.agg [D.nil, (dI 0), (dI 0), (dI 0), (dI 0), (dI 0)]), (D.val (vI 7))])))))
 False)
 (B [(Prod.mk 2 (Pt 1000 0)), (Prod.mk 5 (Pt 1001 0)), (Prod.mk 23 (Value.slice (some (Addr.mk 1002 (o0) none)) (n1) (n1))), (Prod.mk 24 (vI x2)), (Prod.mk 25 (vI (IntKind.wrap .i64 (x3 + 1))))] [(Prod.mk 1000 (AObj.cells [(Value.slice none 0 0), (vI x4), (vI x5), (vI x6), (vI x7), (vI x8)] 26 false 6)), (Prod.mk 1001 (AObj.cells [(Sl 1003 1 1), (vI x9), (vI x10), (vI x11), (vI x12), (vI x13)] 26 false 6)), (Prod.mk 1002 (AObj.sym (l14) true 1)), (Prod.mk 1003 (AObj.sym [(vI 0), (vI 0)] true 2))])))))))))
 False)
 False)
 (X 0 [(Prod.mk 2 (Pt 1000 0)), (Prod.mk 5 (Pt 1001 0))] [(Prod.mk 1000 (AObj.cells [(Value.slice none 0 0), (vI x4), (vI x5), (vI x6), (vI x7), (vI x8)] 26 false 6)), (Prod.mk 1001 (AObj.cells [(Value.slice none 0 0), (vI x9), (vI x10), (vI x11), (vI x12), (vI x13)] 26 false 6))])) := by kernel_rfl
def npR4 (C : Ct) (L : AtLoop) (x0 : Int) (x1 : Int) (x2 : Int) (x3 : Int) (x4 : Int) (x5 : Int) (x6 : Int) (x7 : Int) (x8 : Int) (x9 : Int) (k : List D → Prop) : Prop := wpNext Tryz.prog (hP C) L 19 0 .normal [(2, (Value.pointer (some ⟨1000, 0, none⟩))), (5, (Value.pointer (some ⟨1001, 0, none⟩)))] [(1000, (AObj.cells [(Value.slice none 0 0), (Value.int .i64 x0), (Value.int .i64 x1), (Value.int .i64 x2), (Value.int .i64 x3), (Value.int .i64 x4)] 26 false 6)), (1001, (AObj.cells [(Value.slice none 0 0), (Value.int .i64 x5), (Value.int .i64 x6), (Value.int .i64 x7), (Value.int .i64 x8), (Value.int .i64 x9)] 26 false 6))] (dataK k)
theorem npR4_text (C : Ct) (L : AtLoop) (x0 : Int) (x1 : Int) (x2 : Int) (x3 : Int) (x4 : Int) (x5 : Int) (x6 : Int) (x7 : Int) (x8 : Int) (x9 : Int) (k : List D → Prop) : npR4 C L x0 x1 x2 x3 x4 x5 x6 x7 x8 x9 k =
 (∃ n1 : Int,
 (∃ n2 : Int,
 ((Says C 47 [(D.agg [D.nil, (dI x5), (dI x6), (dI x7), (dI x8), (dI x9)])] [(dI n1), (dI n2)]) ∧
 (bcase (n2 != 0)
 (k [(D.agg [D.nil, (dI 0), (dI 0), (dI 0), (dI 0), (dI 0)]), (dI n2)])
 (k [(D.agg [D.nil, (dI x5), (dI x6), (dI x7), (dI x8), (dI x9)]), (dI 0)]))))) := by kernel_rfl
abbrev zpR5 (o0 : Nat) (n1 : Nat) (x2 : Int) (x3 : Int) (x4 : Int) (x5 : Int) (x6 : Int) (x7 : Int) (x8 : Int) (n9 : Nat) (x10 : Int) (x11 : Int) (x12 : Int) (x13 : Int) (x14 : Int) (l15 : List Value) (l16 : List Value) : Slots × Blocks := ([(2, (Value.pointer (some ⟨1000, 0, none⟩))), (5, (Value.pointer (some ⟨1001, 0, none⟩))), (23, (Value.slice (some ⟨1002, o0, none⟩) n1 n1)), (24, (Value.int .i64 x2)), (25, (Value.int .i64 x3))], [(1000, (AObj.cells [(Value.slice none 0 0), (Value.int .i64 x4), (Value.int .i64 x5), (Value.int .i64 x6), (Value.int .i64 x7), (Value.int .i64 x8)] 26 false 6)), (1001, (AObj.cells [(Value.slice (some ⟨1003, 0, none⟩) n9 n9), (Value.int .i64 x10), (Value.int .i64 x11), (Value.int .i64 x12), (Value.int .i64 x13), (Value.int .i64 x14)] 26 false 6)), (1002, (AObj.sym l15 true 1)), (1003, (AObj.sym l16 true 2))])
def rpR5 (C : Ct) (L : AtLoop) (o0 : Nat) (n1 : Nat) (x2 : Int) (x3 : Int) (x4 : Int) (x5 : Int) (x6 : Int) (x7 : Int) (x8 : Int) (n9 : Nat) (x10 : Int) (x11 : Int) (x12 : Int) (x13 : Int) (x14 : Int) (l15 : List Value) (l16 : List Value) (B : Bx) (X : Xx) (k : List D → Prop) : Prop := wpRound Tryz.prog (hP C) L 19 0 [(2, (Value.pointer (some ⟨1000, 0, none⟩))), (5, (Value.pointer (some ⟨1001, 0, none⟩))), (23, (Value.slice (some ⟨1002, o0, none⟩) n1 n1)), (24, (Value.int .i64 x2)), (25, (Value.int .i64 x3))] [(1000, (AObj.cells [(Value.slice none 0 0), (Value.int .i64 x4), (Value.int .i64 x5), (Value.int .i64 x6), (Value.int .i64 x7), (Value.int .i64 x8)] 26 false 6)), (1001, (AObj.cells [(Value.slice (some ⟨1003, 0, none⟩) n9 n9), (Value.int .i64 x10), (Value.int .i64 x11), (Value.int .i64 x12), (Value.int .i64 x13), (Value.int .i64 x14)] 26 false 6)), (1002, (AObj.sym l15 true 1)), (1003, (AObj.sym l16 true 2))] B X (dataK k)
theorem rpR5_text (C : Ct) (L : AtLoop) (o0 : Nat) (n1 : Nat) (x2 : Int) (x3 : Int) (x4 : Int) (x5 : Int) (x6 : Int) (x7 : Int) (x8 : Int) (n9 : Nat) (x10 : Int) (x11 : Int) (x12 : Int) (x13 : Int) (x14 : Int) (l15 : List Go.Value) (l16 : List Go.Value) (B : Bx) (X : Xx) (k : List D → Prop) : rpR5 C L o0 n1 x2 x3 x4 x5 x6 x7 x8 n9 x10 x11 x12 x13 x14 l15 l16 B X k =
 (bcase (decide (x3 < x2))
 (bcase (decide (0 ≤ x3))
 (bcase (decide (x3 < (↑n1 : Int)))
 (∃ s1 : ByteArray,
 ((At (l15) (o0 + Int.toNat x3 * 1) 1 [(Value.string (s1))]) ∧
 (((Says C 44 [(D.val (Value.string (s1))), (D.val (Value.string ({ data := #[64] })))] [D.nil]) ∧
 (k [(D.agg [D.nil, (dI 0), (dI 0), (dI 0), (dI 0), (dI 0)]), (D.val (vI 7))])) ∨
 (∃ n2 : Nat,
 (∃ cs1 : List Go.Value,
 ((Says C 44 [(D.val (Value.string (s1))), (D.val (Value.string ({ data := #[64] })))] [(D.sl (n2) 1 (cs1))]) ∧
 (bcase ((↑n2 : Int) != (↑2 : Int))
 (k [(D.agg [D.nil, (dI 0), (dI 0), (dI 0), (dI 0), (dI 0)]), (D.val (vI 7))])
 (bcase (decide (0 < (↑n2 : Int)))
 (bcase (decide (0 < (↑n2 : Int)))
 (∃ s2 : ByteArray,
 ((At (cs1) 0 1 [(Value.string (s2))]) ∧
 (((Says C 83 [(D.val (Value.string (s2)))] kT) ∧
 (((Qv (Value.string (s2))) ∧
 ((Qv (Pt 1004 0)) ∧
 ((Qv (Pt 1005 0)) ∧
 ((Qv (vI 0)) ∧
 ((Qv (Sl 1005 2 2)) ∧
 True))))) ∧
 ((Says C 84 [(D.val (Value.string (s2)))] [(D.val (vI (numB s2))), (D.val Value.nilIface)]) ∧
 (((Qv (Pt 1004 0)) ∧
 ((Value.nilIface = Value.nilIface) ∧
 ((Qv (vI (numB s2))) ∧
 ((Qv (Value.tuple [(vI (numB s2)), Value.nilIface].toArray)) ∧
 ((Qv (Pt 1004 0)) ∧
 ((Qv (Pt 1005 0)) ∧
 ((Qv (vI 0)) ∧
 ((Qv (Sl 1005 2 2)) ∧
 True)))))))) ∧
 (((Value.nilIface = Value.nilIface) ∧
 True) ∧
 (bcase (decide (IntKind.wrap .i64 (0 + 1) < (↑n2 : Int)))
 (bcase (decide (IntKind.wrap .i64 (0 + 1) < (↑n2 : Int)))
 (∃ s3 : ByteArray,
 ((At (cs1) 1 1 [(Value.string (s3))]) ∧
 (((Says C 83 [(D.val (Value.string (s3)))] kT) ∧
 (((Qv (Value.string (s3))) ∧
 ((Qv (Pt 1004 1)) ∧
 ((Qv (Pt 1005 1)) ∧
 ((Qv (vI 1)) ∧
 ((Qv (Sl 1005 2 2)) ∧
 True))))) ∧
 ((Says C 84 [(D.val (Value.string (s3)))] [(D.val (vI (numB s3))), (D.val Value.nilIface)]) ∧
 (((Qv (Pt 1004 1)) ∧
 ((Value.nilIface = Value.nilIface) ∧
 ((Qv (vI (numB s3))) ∧
 ((Qv (Value.tuple [(vI (numB s3)), Value.nilIface].toArray)) ∧
 ((Qv (Pt 1004 1)) ∧
 ((Qv (Pt 1005 1)) ∧
 ((Qv (vI 1)) ∧
 ((Qv (Sl 1005 2 2)) ∧
 True)))))))) ∧
 (((Value.nilIface = Value.nilIface) ∧
 True) ∧
 (bcase (decide (IntKind.wrap .i64 (IntKind.wrap .i64 (0 + 1) + 1) < (↑n2 : Int)))
 (bcase (decide (IntKind.wrap .i64 (IntKind.wrap .i64 (0 + 1) + 1) < (↑n2 : Int)))
 (∃ s4 : ByteArray,
 ((At (cs1) 2 1 [(Value.string (s4))]) ∧
 (((Says C 83 [(D.val (Value.string (s4)))] kT) ∧
 False) ∨
 ((Says C 83 [(D.val (Value.string (s4)))] kF) ∧
 (k [(D.agg [D.nil, (dI 0), (dI 0), (dI 0), (dI 0), (dI 0)]), (D.val (vI 7))])))))
 False)
 (bcase (decide (n9 < n9 + 1))
 (bcase (decide ((2 * (n9 + 1) + 768) * 16 ≤ 281474976710656))
 (bcase (decide (n9 + 1 ≤ 1099511627776))
 (bcase (dL n9 2 l16)
 (bcase (decide (0 + n9 * 2 = List.length l16))
 (B [(Prod.mk 2 (Pt 1000 0)), (Prod.mk 5 (Pt 1001 0)), (Prod.mk 23 (Value.slice (some (Addr.mk 1002 (o0) none)) (n1) (n1))), (Prod.mk 24 (vI x2)), (Prod.mk 25 (vI (IntKind.wrap .i64 (x3 + 1))))] [(Prod.mk 1000 (AObj.cells [(Value.slice none 0 0), (vI x4), (vI x5), (vI x6), (vI x7), (vI x8)] 26 false 6)), (Prod.mk 1001 (AObj.cells [(Sl 1003 (n9 + 1) (n9 + 1)), (vI x10), (vI x11), (vI x12), (vI x13), (vI x14)] 26 false 6)), (Prod.mk 1002 (AObj.sym (l15) true 1)), (Prod.mk 1003 (AObj.sym ((Tk n9 2 l16) ++ [(vI (numB s2)), (vI (numB s3))]) true 2))])
 False)
 False)
 False)
 False)
 False))))))) ∨
 ((Says C 83 [(D.val (Value.string (s3)))] kF) ∧
 (k [(D.agg [D.nil, (dI 0), (dI 0), (dI 0), (dI 0), (dI 0)]), (D.val (vI 7))])))))
 False)
 (bcase (decide (n9 < n9 + 1))
 (bcase (decide ((2 * (n9 + 1) + 768) * 16 ≤ 281474976710656))
 (bcase (decide (n9 + 1 ≤ 1099511627776))
 (bcase (dL n9 2 l16)
 (bcase (decide (0 + n9 * 2 = List.length l16))
 (B [(Prod.mk 2 (Pt 1000 0)), (Prod.mk 5 (Pt 1001 0)), (Prod.mk 23 (Value.slice (some (Addr.mk 1002 (o0) none)) (n1) (n1))), (Prod.mk 24 (vI x2)), (Prod.mk 25 (vI (IntKind.wrap .i64 (x3 + 1))))] [(Prod.mk 1000 (AObj.cells [(Value.slice none 0 0), (vI x4), (vI x5), (vI x6), (vI x7), (vI x8)] 26 false 6)), (Prod.mk 1001 (AObj.cells [(Sl 1003 (n9 + 1) (n9 + 1)), (vI x10), (vI x11), (vI x12), (vI x13), (vI x14)] 26 false 6)), (Prod.mk 1002 (AObj.sym (l15) true 1)), (Prod.mk 1003 (AObj.sym ((Tk n9 2 l16) ++ [(vI (numB s2)), (vI 0)]) true 2))])
 False)
 False)
 False)
 False)
 False))))))) ∨
 ((Says C 83 [(D.val (Value.string (s2)))] kF) ∧
 (k [(D.agg [D.nil, (dI 0), (dI 0), (dI 0), (dI 0), (dI 0)]), (D.val (vI 7))])))))
 False)
 (bcase (decide (n9 < n9 + 1))
 (bcase (decide ((2 * (n9 + 1) + 768) * 16 ≤ 281474976710656))
 (bcase (decide (n9 + 1 ≤ 1099511627776))
 (bcase (dL n9 2 l16)
 (bcase (decide (0 + n9 * 2 = List.length l16))
 (B [(Prod.mk 2 (Pt 1000 0)), (Prod.mk 5 (Pt 1001 0)), (Prod.mk 23 (Value.slice (some (Addr.mk 1002 (o0) none)) (n1) (n1))), (Prod.mk 24 (vI x2)), (Prod.mk 25 (vI (IntKind.wrap .i64 (x3 + 1))))] [(Prod.mk 1000 (AObj.cells [(Value.slice none 0 0), (vI x4), (vI x5), (vI x6), (vI x7), (vI x8)] 26 false 6)), (Prod.mk 1001 (AObj.cells [(Sl 1003 (n9 + 1) (n9 + 1)), (vI x10), (vI x11), (vI x12), (vI x13), (vI x14)] 26 false 6)), (Prod.mk 1002 (AObj.sym (l15) true 1)), (Prod.mk 1003 (AObj.sym ((Tk n9 2 l16) ++ [(vI 0), (vI 0)]) true 2))])
 False)
 False)
 False)
 False)
 False)))))))))
 False)
 False)
 (X 0 [(Prod.mk 2 (Pt 1000 0)), (Prod.mk 5 (Pt 1001 0))] [(Prod.mk 1000 (AObj.cells [(Value.slice none 0 0), (vI x4), (vI x5), (vI x6), (vI x7), (vI x8)] 26 false 6)), (Prod.mk 1001 (AObj.cells [(Sl 1002 (n9) (n9)), (vI x10), (vI x11), (vI x12), (vI x13), (vI x14)] 26 false 6)), (Prod.mk 1002 (AObj.sym (l16) true 2))])) := by kernel_rfl
def npR6 (C : Ct) (L : AtLoop) (x0 : Int) (x1 : Int) (x2 : Int) (x3 : Int) (x4 : Int) (n5 : Nat) (x6 : Int) (x7 : Int) (x8 : Int) (x9 : Int) (x10 : Int) (l11 : List Value) (k : List D → Prop) : Prop := wpNext Tryz.prog (hP C) L 19 0 .normal [(2, (Value.pointer (some ⟨1000, 0, none⟩))), (5, (Value.pointer (some ⟨1001, 0, none⟩)))] [(1000, (AObj.cells [(Value.slice none 0 0), (Value.int .i64 x0), (Value.int .i64 x1), (Value.int .i64 x2), (Value.int .i64 x3), (Value.int .i64 x4)] 26 false 6)), (1001, (AObj.cells [(Value.slice (some ⟨1002, 0, none⟩) n5 n5), (Value.int .i64 x6), (Value.int .i64 x7), (Value.int .i64 x8), (Value.int .i64 x9), (Value.int .i64 x10)] 26 false 6)), (1002, (AObj.sym l11 true 2))] (dataK k)
theorem npR6_text (C : Ct) (L : AtLoop) (x0 : Int) (x1 : Int) (x2 : Int) (x3 : Int) (x4 : Int) (n5 : Nat) (x6 : Int) (x7 : Int) (x8 : Int) (x9 : Int) (x10 : Int) (l11 : List Go.Value) (k : List D → Prop) : npR6 C L x0 x1 x2 x3 x4 n5 x6 x7 x8 x9 x10 l11 k =
 (bcase (dL n5 2 l11)
 (∃ n1 : Int,
 (∃ n2 : Int,
 ((Says C 47 [(D.agg [(Dw n5 2 l11), (dI x6), (dI x7), (dI x8), (dI x9), (dI x10)])] [(dI n1), (dI n2)]) ∧
 (bcase (n2 != 0)
 (k [(D.agg [D.nil, (dI 0), (dI 0), (dI 0), (dI 0), (dI 0)]), (dI n2)])
 (((Qv (n5)) ∧
 ((List.length l11) = (n5 * 2))) ∧
 (k [(D.agg [(D.sl (n5) 2 (l11)), (dI x6), (dI x7), (dI x8), (dI x9), (dI x10)]), (dI 0)]))))))
 False) := by kernel_rfl
def gfC (C : Ct) (L : AtLoop) (x0 : Int) (x1 : Int) (k : List D → Prop) : Prop := wpFn Tryz.prog (hS C) L 0 14 #[.agg #[.int .i64 x0, .int .i64 x1]] (heapOf []) (dataK k)
theorem gfC_text (C : Ct) (L : AtLoop) (x0 : Int) (x1 : Int) (k : List D → Prop) : gfC C L x0 x1 k =
 (((Qv (vI x1)) ∧
 ((Qv (Pt 1000 1)) ∧
 ((Qv (vI x0)) ∧
 ((Qv (Pt 1000 0)) ∧
 True)))) ∧
 (∃ s1 : ByteArray,
 ((Says C 40 [(dI x0)] [(D.val (Value.string (s1)))]) ∧
 (bcase (decide (ByteArray.size s1 + 1 ≤ 9223372036854775807))
 (((bcase (decide (ByteArray.size s1 + 1 ≤ 9223372036854775807))
 (Qv (Value.string (s1 ++ { data := #[32] })))
 False) ∧
 ((Qv (vI x1)) ∧
 ((Qv (Pt 1000 1)) ∧
 ((Qv (Pt 1000 0)) ∧
 True)))) ∧
 (∃ s2 : ByteArray,
 ((Says C 40 [(dI x1)] [(D.val (Value.string (s2)))]) ∧
 (bcase (decide (ByteArray.size (s1 ++ { data := #[32] }) + ByteArray.size s2 ≤ 9223372036854775807))
 (((bcase (decide (ByteArray.size (s1 ++ { data := #[32] }) + ByteArray.size s2 ≤ 9223372036854775807))
 (Qv (Value.string (s1 ++ { data := #[32] } ++ s2)))
 False) ∧
 ((bcase (decide (ByteArray.size s1 + 1 ≤ 9223372036854775807))
 (Qv (Value.string (s1 ++ { data := #[32] })))
 False) ∧
 ((Qv (Pt 1000 1)) ∧
 ((Qv (Pt 1000 0)) ∧
 True)))) ∧
 (True ∧
 (k [(D.val (Value.string (s1 ++ { data := #[32] } ++ s2)))])))
 False))))
 False)))) := by kernel_rfl
def gfL (C : Ct) (L : AtLoop) (s0 : ByteArray) (n1 : Nat) (c1 : Nat) (l1 : List Value) (k : List D → Prop) : Prop := wpFn Tryz.prog (hS C) L 0 15 #[.agg #[.string s0, .slice (some ⟨500, 0, none⟩) n1 c1]] (heapOf [(500, .sym l1 false 2)]) (dataK k)
theorem gfL_text (C : Ct) (L : AtLoop) (s0 : ByteArray) (n1 : Nat) (c1 : Nat) (l1 : List Go.Value) (k : List D → Prop) : gfL C L s0 n1 c1 l1 k =
 (L 0 [(Prod.mk 1 (Pt 1000 0)), (Prod.mk 3 (Value.string (s0))), (Prod.mk 4 (vI 0))] [(Prod.mk 1000 (AObj.cells [(Value.string (s0)), (Sl 500 (n1) (c1))] 31 false 1)), (Prod.mk 500 (AObj.sym (l1) false 2))]) := by kernel_rfl
abbrev zfL1 (s0 : ByteArray) (x1 : Int) (s2 : ByteArray) (n3 : Nat) (c4 : Nat) (l5 : List Value) : Slots × Blocks := ([(1, (Value.pointer (some ⟨1000, 0, none⟩))), (3, (Value.string s0)), (4, (Value.int .i64 x1))], [(1000, (AObj.cells [(Value.string s2), (Value.slice (some ⟨500, 0, none⟩) n3 c4)] 31 false 1)), (500, (AObj.sym l5 false 2))])
def rfL1 (C : Ct) (L : AtLoop) (s0 : ByteArray) (x1 : Int) (s2 : ByteArray) (n3 : Nat) (c4 : Nat) (l5 : List Value) (B : Bx) (X : Xx) (k : List D → Prop) : Prop := wpRound Tryz.prog (hS C) L 15 0 [(1, (Value.pointer (some ⟨1000, 0, none⟩))), (3, (Value.string s0)), (4, (Value.int .i64 x1))] [(1000, (AObj.cells [(Value.string s2), (Value.slice (some ⟨500, 0, none⟩) n3 c4)] 31 false 1)), (500, (AObj.sym l5 false 2))] B X (dataK k)
theorem rfL1_text (C : Ct) (L : AtLoop) (s0 : ByteArray) (x1 : Int) (s2 : ByteArray) (n3 : Nat) (c4 : Nat) (l5 : List Go.Value) (B : Bx) (X : Xx) (k : List D → Prop) : rfL1 C L s0 x1 s2 n3 c4 l5 B X k =
 (bcase (decide (x1 < (↑n3 : Int)))
 (bcase (decide (ByteArray.size s0 + 1 ≤ 9223372036854775807))
 (bcase (decide (0 ≤ x1))
 (bcase (decide (x1 < (↑n3 : Int)))
 (∃ n1 : Int,
 ((At (l5) (0 + Int.toNat x1 * 2) 1 [(vI n1)]) ∧
 (bcase (decide (0 ≤ x1))
 (bcase (decide (x1 < (↑n3 : Int)))
 (∃ n2 : Int,
 ((At (l5) (Addr.off { block := 500, off := 0 + Int.toNat x1 * 2 } + 1) 1 [(vI n2)]) ∧
 (((∃ n4 : Int,
 ((At (l5) (Addr.off { block := 500, off := 0 + Int.toNat x1 * 2 } + 1) 1 [(vI n4)]) ∧
 ((vI n4) = (vI n2)))) ∧
 ((Qv (Value.pointer (some (Addr.mk 500 (Addr.off { block := 500, off := 0 + Int.toNat x1 * 2 } + 1) none)))) ∧
 ((bcase (decide (0 ≤ x1))
 (bcase (decide (x1 < (↑n3 : Int)))
 (Qv (Pt 500 (0 + Int.toNat x1 * 2)))
 False)
 False) ∧
 ((Qv (vI x1)) ∧
 ((Qv (Sl 500 (n3) (c4))) ∧
 ((Qv (Pt 1000 1)) ∧
 ((∃ n4 : Int,
 ((At (l5) (0 + Int.toNat x1 * 2) 1 [(vI n4)]) ∧
 ((vI n4) = (vI n1)))) ∧
 ((Qv (Pt 500 (0 + Int.toNat x1 * 2))) ∧
 ((bcase (decide (0 ≤ x1))
 (bcase (decide (x1 < (↑n3 : Int)))
 (Qv (Pt 500 (0 + Int.toNat x1 * 2)))
 False)
 False) ∧
 ((Qv (vI x1)) ∧
 ((Qv (Sl 500 (n3) (c4))) ∧
 ((Qv (Pt 1000 1)) ∧
 ((bcase (decide (ByteArray.size s0 + 1 ≤ 9223372036854775807))
 (Qv (Value.string (s0 ++ { data := #[32] })))
 False) ∧
 ((Qv (Value.string (s0))) ∧
 True)))))))))))))) ∧
 (∃ s1 : ByteArray,
 ((Says C 40 [(dI n1)] [(D.val (Value.string (s1)))]) ∧
 (bcase (decide (ByteArray.size (s0 ++ { data := #[32] }) + ByteArray.size s1 ≤ 9223372036854775807))
 (bcase (decide (ByteArray.size (s0 ++ { data := #[32] } ++ s1) + 1 ≤ 9223372036854775807))
 (((bcase (decide (ByteArray.size (s0 ++ { data := #[32] } ++ s1) + 1 ≤ 9223372036854775807))
 (Qv (Value.string (s0 ++ { data := #[32] } ++ s1 ++ { data := #[64] })))
 False) ∧
 ((bcase (decide (ByteArray.size (s0 ++ { data := #[32] }) + ByteArray.size s1 ≤ 9223372036854775807))
 (Qv (Value.string (s0 ++ { data := #[32] } ++ s1)))
 False) ∧
 ((∃ n4 : Int,
 ((At (l5) (Addr.off { block := 500, off := 0 + Int.toNat x1 * 2 } + 1) 1 [(vI n4)]) ∧
 ((vI n4) = (vI n2)))) ∧
 ((Qv (Value.pointer (some (Addr.mk 500 (Addr.off { block := 500, off := 0 + Int.toNat x1 * 2 } + 1) none)))) ∧
 ((bcase (decide (0 ≤ x1))
 (bcase (decide (x1 < (↑n3 : Int)))
 (Qv (Pt 500 (0 + Int.toNat x1 * 2)))
 False)
 False) ∧
 ((Qv (vI x1)) ∧
 ((Qv (Sl 500 (n3) (c4))) ∧
 ((Qv (Pt 1000 1)) ∧
 ((Qv (Pt 500 (0 + Int.toNat x1 * 2))) ∧
 ((bcase (decide (0 ≤ x1))
 (bcase (decide (x1 < (↑n3 : Int)))
 (Qv (Pt 500 (0 + Int.toNat x1 * 2)))
 False)
 False) ∧
 ((Qv (vI x1)) ∧
 ((Qv (Sl 500 (n3) (c4))) ∧
 ((Qv (Pt 1000 1)) ∧
 ((bcase (decide (ByteArray.size s0 + 1 ≤ 9223372036854775807))
 (Qv (Value.string (s0 ++ { data := #[32] })))
 False) ∧
 ((Qv (Value.string (s0))) ∧
 True))))))))))))))) ∧
 (∃ s3 : ByteArray,
 ((Says C 40 [(dI n2)] [(D.val (Value.string (s3)))]) ∧
 (bcase (decide (ByteArray.size (s0 ++ { data := #[32] } ++ s1 ++ { data := #[64] }) + ByteArray.size s3 ≤ 9223372036854775807))
 (((bcase (decide (ByteArray.size (s0 ++ { data := #[32] } ++ s1 ++ { data := #[64] }) + ByteArray.size s3 ≤ 9223372036854775807))
 (Qv (Value.string (s0 ++ { data := #[32] } ++ s1 ++ { data := #[64] } ++ s3)))
 False) ∧
 ((bcase (decide (ByteArray.size (s0 ++ { data := #[32] } ++ s1) + 1 ≤ 9223372036854775807))
 (Qv (Value.string (s0 ++ { data := #[32] } ++ s1 ++ { data := #[64] })))
 False) ∧
 ((bcase (decide (ByteArray.size (s0 ++ { data := #[32] }) + ByteArray.size s1 ≤ 9223372036854775807))
 (Qv (Value.string (s0 ++ { data := #[32] } ++ s1)))
 False) ∧
 ((Qv (Value.pointer (some (Addr.mk 500 (Addr.off { block := 500, off := 0 + Int.toNat x1 * 2 } + 1) none)))) ∧
 ((bcase (decide (0 ≤ x1))
 (bcase (decide (x1 < (↑n3 : Int)))
 (Qv (Pt 500 (0 + Int.toNat x1 * 2)))
 False)
 False) ∧
 ((Qv (vI x1)) ∧
 ((Qv (Sl 500 (n3) (c4))) ∧
 ((Qv (Pt 1000 1)) ∧
 ((Qv (Pt 500 (0 + Int.toNat x1 * 2))) ∧
 ((bcase (decide (0 ≤ x1))
 (bcase (decide (x1 < (↑n3 : Int)))
 (Qv (Pt 500 (0 + Int.toNat x1 * 2)))
 False)
 False) ∧
 ((Qv (vI x1)) ∧
 ((Qv (Sl 500 (n3) (c4))) ∧
 ((Qv (Pt 1000 1)) ∧
 ((bcase (decide (ByteArray.size s0 + 1 ≤ 9223372036854775807))
 (Qv (Value.string (s0 ++ { data := #[32] })))
 False) ∧
 ((Qv (Value.string (s0))) ∧
 True))))))))))))))) ∧
 (True ∧
 (B [(Prod.mk 1 (Pt 1000 0)), (Prod.mk 3 (Value.string (s0 ++ { data := #[32] } ++ s1 ++ { data := #[64] } ++ s3))), (Prod.mk 4 (vI (IntKind.wrap .i64 (x1 + 1))))] [(Prod.mk 1000 (AObj.cells [(Value.string (s2)), (Sl 500 (n3) (c4))] 31 false 1)), (Prod.mk 500 (AObj.sym (l5) false 2))])))
 False))))
 False)
 False))))))
 False)
 False)))
 False)
 False)
 False)
 (X 0 [(Prod.mk 3 (Value.string (s0)))] [])) := by kernel_rfl
def nfL2 (C : Ct) (L : AtLoop) (s0 : ByteArray) (k : List D → Prop) : Prop := wpNext Tryz.prog (hS C) L 15 0 .normal [(3, (Value.string s0))] [] (dataK k)
theorem nfL2_text (C : Ct) (L : AtLoop) (s0 : ByteArray) (k : List D → Prop) : nfL2 C L s0 k =
 (k [(D.val (Value.string (s0)))]) := by kernel_rfl
def gfLn (C : Ct) (L : AtLoop) (s0 : ByteArray) (k : List D → Prop) : Prop := wpFn Tryz.prog (hS C) L 0 15 #[.agg #[.string s0, .slice none 0 0]] (heapOf []) (dataK k)
theorem gfLn_text (C : Ct) (L : AtLoop) (s0 : ByteArray) (k : List D → Prop) : gfLn C L s0 k =
 (L 0 [(Prod.mk 1 (Pt 1000 0)), (Prod.mk 3 (Value.string (s0))), (Prod.mk 4 (vI 0))] [(Prod.mk 1000 (AObj.cells [(Value.string (s0)), (Value.slice none 0 0)] 31 false 1))]) := by kernel_rfl
abbrev zfLn1 (s0 : ByteArray) (x1 : Int) (s2 : ByteArray) : Slots × Blocks := ([(1, (Value.pointer (some ⟨1000, 0, none⟩))), (3, (Value.string s0)), (4, (Value.int .i64 x1))], [(1000, (AObj.cells [(Value.string s2), (Value.slice none 0 0)] 31 false 1))])
def rfLn1 (C : Ct) (L : AtLoop) (s0 : ByteArray) (x1 : Int) (s2 : ByteArray) (B : Bx) (X : Xx) (k : List D → Prop) : Prop := wpRound Tryz.prog (hS C) L 15 0 [(1, (Value.pointer (some ⟨1000, 0, none⟩))), (3, (Value.string s0)), (4, (Value.int .i64 x1))] [(1000, (AObj.cells [(Value.string s2), (Value.slice none 0 0)] 31 false 1))] B X (dataK k)
theorem rfLn1_text (C : Ct) (L : AtLoop) (s0 : ByteArray) (x1 : Int) (s2 : ByteArray) (B : Bx) (X : Xx) (k : List D → Prop) : rfLn1 C L s0 x1 s2 B X k =
 (bcase (decide (x1 < (↑0 : Int)))
 (bcase (decide (ByteArray.size s0 + 1 ≤ 9223372036854775807))
 False
 False)
 (X 0 [(Prod.mk 3 (Value.string (s0)))] [])) := by kernel_rfl
def nfLn2 (C : Ct) (L : AtLoop) (s0 : ByteArray) (k : List D → Prop) : Prop := wpNext Tryz.prog (hS C) L 15 0 .normal [(3, (Value.string s0))] [] (dataK k)
theorem nfLn2_text (C : Ct) (L : AtLoop) (s0 : ByteArray) (k : List D → Prop) : nfLn2 C L s0 k =
 (k [(D.val (Value.string (s0)))]) := by kernel_rfl
def gfR (C : Ct) (L : AtLoop) (n0 : Nat) (c0 : Nat) (l0 : List Value) (x1 : Int) (x2 : Int) (x3 : Int) (x4 : Int) (x5 : Int) (k : List D → Prop) : Prop := wpFn Tryz.prog (hS C) L 0 13 #[.agg #[.slice (some ⟨500, 0, none⟩) n0 c0, .int .i64 x1, .int .i64 x2, .int .i64 x3, .int .i64 x4, .int .i64 x5]] (heapOf [(500, .sym l0 false 2)]) (dataK k)
theorem gfR_text (C : Ct) (L : AtLoop) (n0 : Nat) (c0 : Nat) (l0 : List Go.Value) (x1 : Int) (x2 : Int) (x3 : Int) (x4 : Int) (x5 : Int) (k : List D → Prop) : gfR C L n0 c0 l0 x1 x2 x3 x4 x5 k =
 (((Qv (vI x5)) ∧
 ((Qv (Pt 1000 5)) ∧
 ((Qv (vI x4)) ∧
 ((Qv (Pt 1000 4)) ∧
 ((Qv (Pt 1000 3)) ∧
 ((Qv (vI x3)) ∧
 ((Qv (Pt 1000 3)) ∧
 ((Qv (Pt 1000 3)) ∧
 ((Qv (vI x2)) ∧
 ((Qv (Pt 1000 2)) ∧
 ((Qv (Pt 1000 1)) ∧
 ((Qv (vI x1)) ∧
 ((Qv (Pt 1000 1)) ∧
 ((Qv (Pt 1000 1)) ∧
 True)))))))))))))) ∧
 (∃ s1 : ByteArray,
 ((Says C 40 [(dI x1)] [(D.val (Value.string (s1)))]) ∧
 (bcase (decide (ByteArray.size s1 + 1 ≤ 9223372036854775807))
 (((bcase (decide (ByteArray.size s1 + 1 ≤ 9223372036854775807))
 (Qv (Value.string (s1 ++ { data := #[47] })))
 False) ∧
 ((Qv (vI x5)) ∧
 ((Qv (Pt 1000 5)) ∧
 ((Qv (vI x4)) ∧
 ((Qv (Pt 1000 4)) ∧
 ((Qv (Pt 1000 3)) ∧
 ((Qv (vI x3)) ∧
 ((Qv (Pt 1000 3)) ∧
 ((Qv (Pt 1000 3)) ∧
 ((Qv (vI x2)) ∧
 ((Qv (Pt 1000 2)) ∧
 ((Qv (Pt 1000 1)) ∧
 ((Qv (Pt 1000 1)) ∧
 ((Qv (Pt 1000 1)) ∧
 True)))))))))))))) ∧
 (∃ s2 : ByteArray,
 ((Says C 40 [(dI x2)] [(D.val (Value.string (s2)))]) ∧
 (bcase (decide (ByteArray.size (s1 ++ { data := #[47] }) + ByteArray.size s2 ≤ 9223372036854775807))
 (bcase (decide (ByteArray.size (s1 ++ { data := #[47] } ++ s2) + 1 ≤ 9223372036854775807))
 (((bcase (decide (ByteArray.size (s1 ++ { data := #[47] } ++ s2) + 1 ≤ 9223372036854775807))
 (Qv (Value.string (s1 ++ { data := #[47] } ++ s2 ++ { data := #[32] })))
 False) ∧
 ((bcase (decide (ByteArray.size (s1 ++ { data := #[47] }) + ByteArray.size s2 ≤ 9223372036854775807))
 (Qv (Value.string (s1 ++ { data := #[47] } ++ s2)))
 False) ∧
 ((bcase (decide (ByteArray.size s1 + 1 ≤ 9223372036854775807))
 (Qv (Value.string (s1 ++ { data := #[47] })))
 False) ∧
 ((Qv (vI x5)) ∧
 ((Qv (Pt 1000 5)) ∧
 ((Qv (vI x4)) ∧
 ((Qv (Pt 1000 4)) ∧
 ((Qv (Pt 1000 3)) ∧
 ((Qv (vI x3)) ∧
 ((Qv (Pt 1000 3)) ∧
 ((Qv (Pt 1000 3)) ∧
 ((Qv (Pt 1000 2)) ∧
 ((Qv (Pt 1000 1)) ∧
 ((Qv (Pt 1000 1)) ∧
 ((Qv (Pt 1000 1)) ∧
 True))))))))))))))) ∧
 (∃ s3 : ByteArray,
 ((Says C 40 [(dI x3)] [(D.val (Value.string (s3)))]) ∧
 (bcase (decide (ByteArray.size (s1 ++ { data := #[47] } ++ s2 ++ { data := #[32] }) + ByteArray.size s3 ≤ 9223372036854775807))
 (bcase (decide (ByteArray.size (s1 ++ { data := #[47] } ++ s2 ++ { data := #[32] } ++ s3) + 1 ≤ 9223372036854775807))
 (((bcase (decide (ByteArray.size (s1 ++ { data := #[47] } ++ s2 ++ { data := #[32] } ++ s3) + 1 ≤ 9223372036854775807))
 (Qv (Value.string (s1 ++ { data := #[47] } ++ s2 ++ { data := #[32] } ++ s3 ++ { data := #[47] })))
 False) ∧
 ((bcase (decide (ByteArray.size (s1 ++ { data := #[47] } ++ s2 ++ { data := #[32] }) + ByteArray.size s3 ≤ 9223372036854775807))
 (Qv (Value.string (s1 ++ { data := #[47] } ++ s2 ++ { data := #[32] } ++ s3)))
 False) ∧
 ((bcase (decide (ByteArray.size (s1 ++ { data := #[47] } ++ s2) + 1 ≤ 9223372036854775807))
 (Qv (Value.string (s1 ++ { data := #[47] } ++ s2 ++ { data := #[32] })))
 False) ∧
 ((bcase (decide (ByteArray.size (s1 ++ { data := #[47] }) + ByteArray.size s2 ≤ 9223372036854775807))
 (Qv (Value.string (s1 ++ { data := #[47] } ++ s2)))
 False) ∧
 ((bcase (decide (ByteArray.size s1 + 1 ≤ 9223372036854775807))
 (Qv (Value.string (s1 ++ { data := #[47] })))
 False) ∧
 ((Qv (vI x5)) ∧
 ((Qv (Pt 1000 5)) ∧
 ((Qv (vI x4)) ∧
 ((Qv (Pt 1000 4)) ∧
 ((Qv (Pt 1000 3)) ∧
 ((Qv (Pt 1000 3)) ∧
 ((Qv (Pt 1000 3)) ∧
 ((Qv (Pt 1000 2)) ∧
 ((Qv (Pt 1000 1)) ∧
 ((Qv (Pt 1000 1)) ∧
 ((Qv (Pt 1000 1)) ∧
 True)))))))))))))))) ∧
 (∃ s4 : ByteArray,
 ((Says C 40 [(dI x4)] [(D.val (Value.string (s4)))]) ∧
 (bcase (decide (ByteArray.size (s1 ++ { data := #[47] } ++ s2 ++ { data := #[32] } ++ s3 ++ { data := #[47] }) + ByteArray.size s4 ≤ 9223372036854775807))
 (bcase (decide (ByteArray.size (s1 ++ { data := #[47] } ++ s2 ++ { data := #[32] } ++ s3 ++ { data := #[47] } ++ s4) + 1 ≤ 9223372036854775807))
 (((bcase (decide (ByteArray.size (s1 ++ { data := #[47] } ++ s2 ++ { data := #[32] } ++ s3 ++ { data := #[47] } ++ s4) + 1 ≤ 9223372036854775807))
 (Qv (Value.string (s1 ++ { data := #[47] } ++ s2 ++ { data := #[32] } ++ s3 ++ { data := #[47] } ++ s4 ++ { data := #[32] })))
 False) ∧
 ((bcase (decide (ByteArray.size (s1 ++ { data := #[47] } ++ s2 ++ { data := #[32] } ++ s3 ++ { data := #[47] }) + ByteArray.size s4 ≤ 9223372036854775807))
 (Qv (Value.string (s1 ++ { data := #[47] } ++ s2 ++ { data := #[32] } ++ s3 ++ { data := #[47] } ++ s4)))
 False) ∧
 ((bcase (decide (ByteArray.size (s1 ++ { data := #[47] } ++ s2 ++ { data := #[32] } ++ s3) + 1 ≤ 9223372036854775807))
 (Qv (Value.string (s1 ++ { data := #[47] } ++ s2 ++ { data := #[32] } ++ s3 ++ { data := #[47] })))
 False) ∧
 ((bcase (decide (ByteArray.size (s1 ++ { data := #[47] } ++ s2 ++ { data := #[32] }) + ByteArray.size s3 ≤ 9223372036854775807))
 (Qv (Value.string (s1 ++ { data := #[47] } ++ s2 ++ { data := #[32] } ++ s3)))
 False) ∧
 ((bcase (decide (ByteArray.size (s1 ++ { data := #[47] } ++ s2) + 1 ≤ 9223372036854775807))
 (Qv (Value.string (s1 ++ { data := #[47] } ++ s2 ++ { data := #[32] })))
 False) ∧
 ((bcase (decide (ByteArray.size (s1 ++ { data := #[47] }) + ByteArray.size s2 ≤ 9223372036854775807))
 (Qv (Value.string (s1 ++ { data := #[47] } ++ s2)))
 False) ∧
 ((bcase (decide (ByteArray.size s1 + 1 ≤ 9223372036854775807))
 (Qv (Value.string (s1 ++ { data := #[47] })))
 False) ∧
 ((Qv (vI x5)) ∧
 ((Qv (Pt 1000 5)) ∧
 ((Qv (Pt 1000 4)) ∧
 ((Qv (Pt 1000 3)) ∧
 ((Qv (Pt 1000 3)) ∧
 ((Qv (Pt 1000 3)) ∧
 ((Qv (Pt 1000 2)) ∧
 ((Qv (Pt 1000 1)) ∧
 ((Qv (Pt 1000 1)) ∧
 ((Qv (Pt 1000 1)) ∧
 True))))))))))))))))) ∧
 (∃ s5 : ByteArray,
 ((Says C 40 [(dI x5)] [(D.val (Value.string (s5)))]) ∧
 (bcase (decide (ByteArray.size (s1 ++ { data := #[47] } ++ s2 ++ { data := #[32] } ++ s3 ++ { data := #[47] } ++ s4 ++ { data := #[32] }) + ByteArray.size s5 ≤ 9223372036854775807))
 (((bcase (decide (ByteArray.size (s1 ++ { data := #[47] } ++ s2 ++ { data := #[32] } ++ s3 ++ { data := #[47] } ++ s4 ++ { data := #[32] }) + ByteArray.size s5 ≤ 9223372036854775807))
 (Qv (Value.string (s1 ++ { data := #[47] } ++ s2 ++ { data := #[32] } ++ s3 ++ { data := #[47] } ++ s4 ++ { data := #[32] } ++ s5)))
 False) ∧
 ((bcase (decide (ByteArray.size (s1 ++ { data := #[47] } ++ s2 ++ { data := #[32] } ++ s3 ++ { data := #[47] } ++ s4) + 1 ≤ 9223372036854775807))
 (Qv (Value.string (s1 ++ { data := #[47] } ++ s2 ++ { data := #[32] } ++ s3 ++ { data := #[47] } ++ s4 ++ { data := #[32] })))
 False) ∧
 ((bcase (decide (ByteArray.size (s1 ++ { data := #[47] } ++ s2 ++ { data := #[32] } ++ s3 ++ { data := #[47] }) + ByteArray.size s4 ≤ 9223372036854775807))
 (Qv (Value.string (s1 ++ { data := #[47] } ++ s2 ++ { data := #[32] } ++ s3 ++ { data := #[47] } ++ s4)))
 False) ∧
 ((bcase (decide (ByteArray.size (s1 ++ { data := #[47] } ++ s2 ++ { data := #[32] } ++ s3) + 1 ≤ 9223372036854775807))
 (Qv (Value.string (s1 ++ { data := #[47] } ++ s2 ++ { data := #[32] } ++ s3 ++ { data := #[47] })))
 False) ∧
 ((bcase (decide (ByteArray.size (s1 ++ { data := #[47] } ++ s2 ++ { data := #[32] }) + ByteArray.size s3 ≤ 9223372036854775807))
 (Qv (Value.string (s1 ++ { data := #[47] } ++ s2 ++ { data := #[32] } ++ s3)))
 False) ∧
 ((bcase (decide (ByteArray.size (s1 ++ { data := #[47] } ++ s2) + 1 ≤ 9223372036854775807))
 (Qv (Value.string (s1 ++ { data := #[47] } ++ s2 ++ { data := #[32] })))
 False) ∧
 ((bcase (decide (ByteArray.size (s1 ++ { data := #[47] }) + ByteArray.size s2 ≤ 9223372036854775807))
 (Qv (Value.string (s1 ++ { data := #[47] } ++ s2)))
 False) ∧
 ((bcase (decide (ByteArray.size s1 + 1 ≤ 9223372036854775807))
 (Qv (Value.string (s1 ++ { data := #[47] })))
 False) ∧
 ((Qv (Pt 1000 5)) ∧
 ((Qv (Pt 1000 4)) ∧
 ((Qv (Pt 1000 3)) ∧
 ((Qv (Pt 1000 3)) ∧
 ((Qv (Pt 1000 3)) ∧
 ((Qv (Pt 1000 2)) ∧
 ((Qv (Pt 1000 1)) ∧
 ((Qv (Pt 1000 1)) ∧
 ((Qv (Pt 1000 1)) ∧
 True))))))))))))))))) ∧
 (True ∧
 (L 0 [(Prod.mk 1 (Pt 1000 0)), (Prod.mk 3 (Value.string (s1 ++ { data := #[47] } ++ s2 ++ { data := #[32] } ++ s3 ++ { data := #[47] } ++ s4 ++ { data := #[32] } ++ s5))), (Prod.mk 4 (vI 0))] [(Prod.mk 1000 (AObj.cells [(Sl 500 (n0) (c0)), (vI x1), (vI x2), (vI x3), (vI x4), (vI x5)] 26 false 1)), (Prod.mk 500 (AObj.sym (l0) false 2))])))
 False))))
 False)
 False))))
 False)
 False))))
 False)
 False))))
 False)))) := by kernel_rfl
abbrev zfR1 (s0 : ByteArray) (x1 : Int) (n2 : Nat) (c3 : Nat) (x4 : Int) (x5 : Int) (x6 : Int) (x7 : Int) (x8 : Int) (l9 : List Value) : Slots × Blocks := ([(1, (Value.pointer (some ⟨1000, 0, none⟩))), (3, (Value.string s0)), (4, (Value.int .i64 x1))], [(1000, (AObj.cells [(Value.slice (some ⟨500, 0, none⟩) n2 c3), (Value.int .i64 x4), (Value.int .i64 x5), (Value.int .i64 x6), (Value.int .i64 x7), (Value.int .i64 x8)] 26 false 1)), (500, (AObj.sym l9 false 2))])
def rfR1 (C : Ct) (L : AtLoop) (s0 : ByteArray) (x1 : Int) (n2 : Nat) (c3 : Nat) (x4 : Int) (x5 : Int) (x6 : Int) (x7 : Int) (x8 : Int) (l9 : List Value) (B : Bx) (X : Xx) (k : List D → Prop) : Prop := wpRound Tryz.prog (hS C) L 13 0 [(1, (Value.pointer (some ⟨1000, 0, none⟩))), (3, (Value.string s0)), (4, (Value.int .i64 x1))] [(1000, (AObj.cells [(Value.slice (some ⟨500, 0, none⟩) n2 c3), (Value.int .i64 x4), (Value.int .i64 x5), (Value.int .i64 x6), (Value.int .i64 x7), (Value.int .i64 x8)] 26 false 1)), (500, (AObj.sym l9 false 2))] B X (dataK k)
theorem rfR1_text (C : Ct) (L : AtLoop) (s0 : ByteArray) (x1 : Int) (n2 : Nat) (c3 : Nat) (x4 : Int) (x5 : Int) (x6 : Int) (x7 : Int) (x8 : Int) (l9 : List Go.Value) (B : Bx) (X : Xx) (k : List D → Prop) : rfR1 C L s0 x1 n2 c3 x4 x5 x6 x7 x8 l9 B X k =
 (bcase (decide (x1 < (↑n2 : Int)))
 (bcase (decide (ByteArray.size s0 + 1 ≤ 9223372036854775807))
 (bcase (decide (0 ≤ x1))
 (bcase (decide (x1 < (↑n2 : Int)))
 (∃ n1 : Int,
 ((At (l9) (0 + Int.toNat x1 * 2) 1 [(vI n1)]) ∧
 (bcase (decide (0 ≤ x1))
 (bcase (decide (x1 < (↑n2 : Int)))
 (∃ n3 : Int,
 ((At (l9) (Addr.off { block := 500, off := 0 + Int.toNat x1 * 2 } + 1) 1 [(vI n3)]) ∧
 (((∃ n4 : Int,
 ((At (l9) (Addr.off { block := 500, off := 0 + Int.toNat x1 * 2 } + 1) 1 [(vI n4)]) ∧
 ((vI n4) = (vI n3)))) ∧
 ((Qv (Value.pointer (some (Addr.mk 500 (Addr.off { block := 500, off := 0 + Int.toNat x1 * 2 } + 1) none)))) ∧
 ((bcase (decide (0 ≤ x1))
 (bcase (decide (x1 < (↑n2 : Int)))
 (Qv (Pt 500 (0 + Int.toNat x1 * 2)))
 False)
 False) ∧
 ((Qv (vI x1)) ∧
 ((Qv (Sl 500 (n2) (c3))) ∧
 ((Qv (Pt 1000 0)) ∧
 ((∃ n4 : Int,
 ((At (l9) (0 + Int.toNat x1 * 2) 1 [(vI n4)]) ∧
 ((vI n4) = (vI n1)))) ∧
 ((Qv (Pt 500 (0 + Int.toNat x1 * 2))) ∧
 ((bcase (decide (0 ≤ x1))
 (bcase (decide (x1 < (↑n2 : Int)))
 (Qv (Pt 500 (0 + Int.toNat x1 * 2)))
 False)
 False) ∧
 ((Qv (vI x1)) ∧
 ((Qv (Sl 500 (n2) (c3))) ∧
 ((Qv (Pt 1000 0)) ∧
 ((bcase (decide (ByteArray.size s0 + 1 ≤ 9223372036854775807))
 (Qv (Value.string (s0 ++ { data := #[32] })))
 False) ∧
 ((Qv (Value.string (s0))) ∧
 True)))))))))))))) ∧
 (∃ s1 : ByteArray,
 ((Says C 40 [(dI n1)] [(D.val (Value.string (s1)))]) ∧
 (bcase (decide (ByteArray.size (s0 ++ { data := #[32] }) + ByteArray.size s1 ≤ 9223372036854775807))
 (bcase (decide (ByteArray.size (s0 ++ { data := #[32] } ++ s1) + 1 ≤ 9223372036854775807))
 (((bcase (decide (ByteArray.size (s0 ++ { data := #[32] } ++ s1) + 1 ≤ 9223372036854775807))
 (Qv (Value.string (s0 ++ { data := #[32] } ++ s1 ++ { data := #[64] })))
 False) ∧
 ((bcase (decide (ByteArray.size (s0 ++ { data := #[32] }) + ByteArray.size s1 ≤ 9223372036854775807))
 (Qv (Value.string (s0 ++ { data := #[32] } ++ s1)))
 False) ∧
 ((∃ n4 : Int,
 ((At (l9) (Addr.off { block := 500, off := 0 + Int.toNat x1 * 2 } + 1) 1 [(vI n4)]) ∧
 ((vI n4) = (vI n3)))) ∧
 ((Qv (Value.pointer (some (Addr.mk 500 (Addr.off { block := 500, off := 0 + Int.toNat x1 * 2 } + 1) none)))) ∧
 ((bcase (decide (0 ≤ x1))
 (bcase (decide (x1 < (↑n2 : Int)))
 (Qv (Pt 500 (0 + Int.toNat x1 * 2)))
 False)
 False) ∧
 ((Qv (vI x1)) ∧
 ((Qv (Sl 500 (n2) (c3))) ∧
 ((Qv (Pt 1000 0)) ∧
 ((Qv (Pt 500 (0 + Int.toNat x1 * 2))) ∧
 ((bcase (decide (0 ≤ x1))
 (bcase (decide (x1 < (↑n2 : Int)))
 (Qv (Pt 500 (0 + Int.toNat x1 * 2)))
 False)
 False) ∧
 ((Qv (vI x1)) ∧
 ((Qv (Sl 500 (n2) (c3))) ∧
 ((Qv (Pt 1000 0)) ∧
 ((bcase (decide (ByteArray.size s0 + 1 ≤ 9223372036854775807))
 (Qv (Value.string (s0 ++ { data := #[32] })))
 False) ∧
 ((Qv (Value.string (s0))) ∧
 True))))))))))))))) ∧
 (∃ s2 : ByteArray,
 ((Says C 40 [(dI n3)] [(D.val (Value.string (s2)))]) ∧
 (bcase (decide (ByteArray.size (s0 ++ { data := #[32] } ++ s1 ++ { data := #[64] }) + ByteArray.size s2 ≤ 9223372036854775807))
 (((bcase (decide (ByteArray.size (s0 ++ { data := #[32] } ++ s1 ++ { data := #[64] }) + ByteArray.size s2 ≤ 9223372036854775807))
 (Qv (Value.string (s0 ++ { data := #[32] } ++ s1 ++ { data := #[64] } ++ s2)))
 False) ∧
 ((bcase (decide (ByteArray.size (s0 ++ { data := #[32] } ++ s1) + 1 ≤ 9223372036854775807))
 (Qv (Value.string (s0 ++ { data := #[32] } ++ s1 ++ { data := #[64] })))
 False) ∧
 ((bcase (decide (ByteArray.size (s0 ++ { data := #[32] }) + ByteArray.size s1 ≤ 9223372036854775807))
 (Qv (Value.string (s0 ++ { data := #[32] } ++ s1)))
 False) ∧
 ((Qv (Value.pointer (some (Addr.mk 500 (Addr.off { block := 500, off := 0 + Int.toNat x1 * 2 } + 1) none)))) ∧
 ((bcase (decide (0 ≤ x1))
 (bcase (decide (x1 < (↑n2 : Int)))
 (Qv (Pt 500 (0 + Int.toNat x1 * 2)))
 False)
 False) ∧
 ((Qv (vI x1)) ∧
 ((Qv (Sl 500 (n2) (c3))) ∧
 ((Qv (Pt 1000 0)) ∧
 ((Qv (Pt 500 (0 + Int.toNat x1 * 2))) ∧
 ((bcase (decide (0 ≤ x1))
 (bcase (decide (x1 < (↑n2 : Int)))
 (Qv (Pt 500 (0 + Int.toNat x1 * 2)))
 False)
 False) ∧
 ((Qv (vI x1)) ∧
 ((Qv (Sl 500 (n2) (c3))) ∧
 ((Qv (Pt 1000 0)) ∧
 ((bcase (decide (ByteArray.size s0 + 1 ≤ 9223372036854775807))
 (Qv (Value.string (s0 ++ { data := #[32] })))
 False) ∧
 ((Qv (Value.string (s0))) ∧
 True))))))))))))))) ∧
 (True ∧
 (B [(Prod.mk 1 (Pt 1000 0)), (Prod.mk 3 (Value.string (s0 ++ { data := #[32] } ++ s1 ++ { data := #[64] } ++ s2))), (Prod.mk 4 (vI (IntKind.wrap .i64 (x1 + 1))))] [(Prod.mk 1000 (AObj.cells [(Sl 500 (n2) (c3)), (vI x4), (vI x5), (vI x6), (vI x7), (vI x8)] 26 false 1)), (Prod.mk 500 (AObj.sym (l9) false 2))])))
 False))))
 False)
 False))))))
 False)
 False)))
 False)
 False)
 False)
 (X 0 [(Prod.mk 3 (Value.string (s0)))] [])) := by kernel_rfl
def nfR2 (C : Ct) (L : AtLoop) (s0 : ByteArray) (k : List D → Prop) : Prop := wpNext Tryz.prog (hS C) L 13 0 .normal [(3, (Value.string s0))] [] (dataK k)
theorem nfR2_text (C : Ct) (L : AtLoop) (s0 : ByteArray) (k : List D → Prop) : nfR2 C L s0 k =
 (k [(D.val (Value.string (s0)))]) := by kernel_rfl
def gfRn (C : Ct) (L : AtLoop) (x1 : Int) (x2 : Int) (x3 : Int) (x4 : Int) (x5 : Int) (k : List D → Prop) : Prop := wpFn Tryz.prog (hS C) L 0 13 #[.agg #[.slice none 0 0, .int .i64 x1, .int .i64 x2, .int .i64 x3, .int .i64 x4, .int .i64 x5]] (heapOf []) (dataK k)
theorem gfRn_text (C : Ct) (L : AtLoop) (x1 : Int) (x2 : Int) (x3 : Int) (x4 : Int) (x5 : Int) (k : List D → Prop) : gfRn C L x1 x2 x3 x4 x5 k =
 (((Qv (vI x5)) ∧
 ((Qv (Pt 1000 5)) ∧
 ((Qv (vI x4)) ∧
 ((Qv (Pt 1000 4)) ∧
 ((Qv (Pt 1000 3)) ∧
 ((Qv (vI x3)) ∧
 ((Qv (Pt 1000 3)) ∧
 ((Qv (Pt 1000 3)) ∧
 ((Qv (vI x2)) ∧
 ((Qv (Pt 1000 2)) ∧
 ((Qv (Pt 1000 1)) ∧
 ((Qv (vI x1)) ∧
 ((Qv (Pt 1000 1)) ∧
 ((Qv (Pt 1000 1)) ∧
 True)))))))))))))) ∧
 (∃ s1 : ByteArray,
 ((Says C 40 [(dI x1)] [(D.val (Value.string (s1)))]) ∧
 (bcase (decide (ByteArray.size s1 + 1 ≤ 9223372036854775807))
 (((bcase (decide (ByteArray.size s1 + 1 ≤ 9223372036854775807))
 (Qv (Value.string (s1 ++ { data := #[47] })))
 False) ∧
 ((Qv (vI x5)) ∧
 ((Qv (Pt 1000 5)) ∧
 ((Qv (vI x4)) ∧
 ((Qv (Pt 1000 4)) ∧
 ((Qv (Pt 1000 3)) ∧
 ((Qv (vI x3)) ∧
 ((Qv (Pt 1000 3)) ∧
 ((Qv (Pt 1000 3)) ∧
 ((Qv (vI x2)) ∧
 ((Qv (Pt 1000 2)) ∧
 ((Qv (Pt 1000 1)) ∧
 ((Qv (Pt 1000 1)) ∧
 ((Qv (Pt 1000 1)) ∧
 True)))))))))))))) ∧
 (∃ s2 : ByteArray,
 ((Says C 40 [(dI x2)] [(D.val (Value.string (s2)))]) ∧
 (bcase (decide (ByteArray.size (s1 ++ { data := #[47] }) + ByteArray.size s2 ≤ 9223372036854775807))
 (bcase (decide (ByteArray.size (s1 ++ { data := #[47] } ++ s2) + 1 ≤ 9223372036854775807))
 (((bcase (decide (ByteArray.size (s1 ++ { data := #[47] } ++ s2) + 1 ≤ 9223372036854775807))
 (Qv (Value.string (s1 ++ { data := #[47] } ++ s2 ++ { data := #[32] })))
 False) ∧
 ((bcase (decide (ByteArray.size (s1 ++ { data := #[47] }) + ByteArray.size s2 ≤ 9223372036854775807))
 (Qv (Value.string (s1 ++ { data := #[47] } ++ s2)))
 False) ∧
 ((bcase (decide (ByteArray.size s1 + 1 ≤ 9223372036854775807))
 (Qv (Value.string (s1 ++ { data := #[47] })))
 False) ∧
 ((Qv (vI x5)) ∧
 ((Qv (Pt 1000 5)) ∧
 ((Qv (vI x4)) ∧
 ((Qv (Pt 1000 4)) ∧
 ((Qv (Pt 1000 3)) ∧
 ((Qv (vI x3)) ∧
 ((Qv (Pt 1000 3)) ∧
 ((Qv (Pt 1000 3)) ∧
 ((Qv (Pt 1000 2)) ∧
 ((Qv (Pt 1000 1)) ∧
 ((Qv (Pt 1000 1)) ∧
 ((Qv (Pt 1000 1)) ∧
 True))))))))))))))) ∧
 (∃ s3 : ByteArray,
 ((Says C 40 [(dI x3)] [(D.val (Value.string (s3)))]) ∧
 (bcase (decide (ByteArray.size (s1 ++ { data := #[47] } ++ s2 ++ { data := #[32] }) + ByteArray.size s3 ≤ 9223372036854775807))
 (bcase (decide (ByteArray.size (s1 ++ { data := #[47] } ++ s2 ++ { data := #[32] } ++ s3) + 1 ≤ 9223372036854775807))
 (((bcase (decide (ByteArray.size (s1 ++ { data := #[47] } ++ s2 ++ { data := #[32] } ++ s3) + 1 ≤ 9223372036854775807))
 (Qv (Value.string (s1 ++ { data := #[47] } ++ s2 ++ { data := #[32] } ++ s3 ++ { data := #[47] })))
 False) ∧
 ((bcase (decide (ByteArray.size (s1 ++ { data := #[47] } ++ s2 ++ { data := #[32] }) + ByteArray.size s3 ≤ 9223372036854775807))
 (Qv (Value.string (s1 ++ { data := #[47] } ++ s2 ++ { data := #[32] } ++ s3)))
 False) ∧
 ((bcase (decide (ByteArray.size (s1 ++ { data := #[47] } ++ s2) + 1 ≤ 9223372036854775807))
 (Qv (Value.string (s1 ++ { data := #[47] } ++ s2 ++ { data := #[32] })))
 False) ∧
 ((bcase (decide (ByteArray.size (s1 ++ { data := #[47] }) + ByteArray.size s2 ≤ 9223372036854775807))
 (Qv (Value.string (s1 ++ { data := #[47] } ++ s2)))
 False) ∧
 ((bcase (decide (ByteArray.size s1 + 1 ≤ 9223372036854775807))
 (Qv (Value.string (s1 ++ { data := #[47] })))
 False) ∧
 ((Qv (vI x5)) ∧
 ((Qv (Pt 1000 5)) ∧
 ((Qv (vI x4)) ∧
 ((Qv (Pt 1000 4)) ∧
 ((Qv (Pt 1000 3)) ∧
 ((Qv (Pt 1000 3)) ∧
 ((Qv (Pt 1000 3)) ∧
 ((Qv (Pt 1000 2)) ∧
 ((Qv (Pt 1000 1)) ∧
 ((Qv (Pt 1000 1)) ∧
 ((Qv (Pt 1000 1)) ∧
 True)))))))))))))))) ∧
 (∃ s4 : ByteArray,
 ((Says C 40 [(dI x4)] [(D.val (Value.string (s4)))]) ∧
 (bcase (decide (ByteArray.size (s1 ++ { data := #[47] } ++ s2 ++ { data := #[32] } ++ s3 ++ { data := #[47] }) + ByteArray.size s4 ≤ 9223372036854775807))
 (bcase (decide (ByteArray.size (s1 ++ { data := #[47] } ++ s2 ++ { data := #[32] } ++ s3 ++ { data := #[47] } ++ s4) + 1 ≤ 9223372036854775807))
 (((bcase (decide (ByteArray.size (s1 ++ { data := #[47] } ++ s2 ++ { data := #[32] } ++ s3 ++ { data := #[47] } ++ s4) + 1 ≤ 9223372036854775807))
 (Qv (Value.string (s1 ++ { data := #[47] } ++ s2 ++ { data := #[32] } ++ s3 ++ { data := #[47] } ++ s4 ++ { data := #[32] })))
 False) ∧
 ((bcase (decide (ByteArray.size (s1 ++ { data := #[47] } ++ s2 ++ { data := #[32] } ++ s3 ++ { data := #[47] }) + ByteArray.size s4 ≤ 9223372036854775807))
 (Qv (Value.string (s1 ++ { data := #[47] } ++ s2 ++ { data := #[32] } ++ s3 ++ { data := #[47] } ++ s4)))
 False) ∧
 ((bcase (decide (ByteArray.size (s1 ++ { data := #[47] } ++ s2 ++ { data := #[32] } ++ s3) + 1 ≤ 9223372036854775807))
 (Qv (Value.string (s1 ++ { data := #[47] } ++ s2 ++ { data := #[32] } ++ s3 ++ { data := #[47] })))
 False) ∧
 ((bcase (decide (ByteArray.size (s1 ++ { data := #[47] } ++ s2 ++ { data := #[32] }) + ByteArray.size s3 ≤ 9223372036854775807))
 (Qv (Value.string (s1 ++ { data := #[47] } ++ s2 ++ { data := #[32] } ++ s3)))
 False) ∧
 ((bcase (decide (ByteArray.size (s1 ++ { data := #[47] } ++ s2) + 1 ≤ 9223372036854775807))
 (Qv (Value.string (s1 ++ { data := #[47] } ++ s2 ++ { data := #[32] })))
 False) ∧
 ((bcase (decide (ByteArray.size (s1 ++ { data := #[47] }) + ByteArray.size s2 ≤ 9223372036854775807))
 (Qv (Value.string (s1 ++ { data := #[47] } ++ s2)))
 False) ∧
 ((bcase (decide (ByteArray.size s1 + 1 ≤ 9223372036854775807))
 (Qv (Value.string (s1 ++ { data := #[47] })))
 False) ∧
 ((Qv (vI x5)) ∧
 ((Qv (Pt 1000 5)) ∧
 ((Qv (Pt 1000 4)) ∧
 ((Qv (Pt 1000 3)) ∧
 ((Qv (Pt 1000 3)) ∧
 ((Qv (Pt 1000 3)) ∧
 ((Qv (Pt 1000 2)) ∧
 ((Qv (Pt 1000 1)) ∧
 ((Qv (Pt 1000 1)) ∧
 ((Qv (Pt 1000 1)) ∧
 True))))))))))))))))) ∧
 (∃ s5 : ByteArray,
 ((Says C 40 [(dI x5)] [(D.val (Value.string (s5)))]) ∧
 (bcase (decide (ByteArray.size (s1 ++ { data := #[47] } ++ s2 ++ { data := #[32] } ++ s3 ++ { data := #[47] } ++ s4 ++ { data := #[32] }) + ByteArray.size s5 ≤ 9223372036854775807))
 (((bcase (decide (ByteArray.size (s1 ++ { data := #[47] } ++ s2 ++ { data := #[32] } ++ s3 ++ { data := #[47] } ++ s4 ++ { data := #[32] }) + ByteArray.size s5 ≤ 9223372036854775807))
 (Qv (Value.string (s1 ++ { data := #[47] } ++ s2 ++ { data := #[32] } ++ s3 ++ { data := #[47] } ++ s4 ++ { data := #[32] } ++ s5)))
 False) ∧
 ((bcase (decide (ByteArray.size (s1 ++ { data := #[47] } ++ s2 ++ { data := #[32] } ++ s3 ++ { data := #[47] } ++ s4) + 1 ≤ 9223372036854775807))
 (Qv (Value.string (s1 ++ { data := #[47] } ++ s2 ++ { data := #[32] } ++ s3 ++ { data := #[47] } ++ s4 ++ { data := #[32] })))
 False) ∧
 ((bcase (decide (ByteArray.size (s1 ++ { data := #[47] } ++ s2 ++ { data := #[32] } ++ s3 ++ { data := #[47] }) + ByteArray.size s4 ≤ 9223372036854775807))
 (Qv (Value.string (s1 ++ { data := #[47] } ++ s2 ++ { data := #[32] } ++ s3 ++ { data := #[47] } ++ s4)))
 False) ∧
 ((bcase (decide (ByteArray.size (s1 ++ { data := #[47] } ++ s2 ++ { data := #[32] } ++ s3) + 1 ≤ 9223372036854775807))
 (Qv (Value.string (s1 ++ { data := #[47] } ++ s2 ++ { data := #[32] } ++ s3 ++ { data := #[47] })))
 False) ∧
 ((bcase (decide (ByteArray.size (s1 ++ { data := #[47] } ++ s2 ++ { data := #[32] }) + ByteArray.size s3 ≤ 9223372036854775807))
 (Qv (Value.string (s1 ++ { data := #[47] } ++ s2 ++ { data := #[32] } ++ s3)))
 False) ∧
 ((bcase (decide (ByteArray.size (s1 ++ { data := #[47] } ++ s2) + 1 ≤ 9223372036854775807))
 (Qv (Value.string (s1 ++ { data := #[47] } ++ s2 ++ { data := #[32] })))
 False) ∧
 ((bcase (decide (ByteArray.size (s1 ++ { data := #[47] }) + ByteArray.size s2 ≤ 9223372036854775807))
 (Qv (Value.string (s1 ++ { data := #[47] } ++ s2)))
 False) ∧
 ((bcase (decide (ByteArray.size s1 + 1 ≤ 9223372036854775807))
 (Qv (Value.string (s1 ++ { data := #[47] })))
 False) ∧
 ((Qv (Pt 1000 5)) ∧
 ((Qv (Pt 1000 4)) ∧
 ((Qv (Pt 1000 3)) ∧
 ((Qv (Pt 1000 3)) ∧
 ((Qv (Pt 1000 3)) ∧
 ((Qv (Pt 1000 2)) ∧
 ((Qv (Pt 1000 1)) ∧
 ((Qv (Pt 1000 1)) ∧
 ((Qv (Pt 1000 1)) ∧
 True))))))))))))))))) ∧
 (True ∧
 (L 0 [(Prod.mk 1 (Pt 1000 0)), (Prod.mk 3 (Value.string (s1 ++ { data := #[47] } ++ s2 ++ { data := #[32] } ++ s3 ++ { data := #[47] } ++ s4 ++ { data := #[32] } ++ s5))), (Prod.mk 4 (vI 0))] [(Prod.mk 1000 (AObj.cells [(Value.slice none 0 0), (vI x1), (vI x2), (vI x3), (vI x4), (vI x5)] 26 false 1))])))
 False))))
 False)
 False))))
 False)
 False))))
 False)
 False))))
 False)))) := by kernel_rfl
abbrev zfRn1 (s0 : ByteArray) (x1 : Int) (x2 : Int) (x3 : Int) (x4 : Int) (x5 : Int) (x6 : Int) : Slots × Blocks := ([(1, (Value.pointer (some ⟨1000, 0, none⟩))), (3, (Value.string s0)), (4, (Value.int .i64 x1))], [(1000, (AObj.cells [(Value.slice none 0 0), (Value.int .i64 x2), (Value.int .i64 x3), (Value.int .i64 x4), (Value.int .i64 x5), (Value.int .i64 x6)] 26 false 1))])
def rfRn1 (C : Ct) (L : AtLoop) (s0 : ByteArray) (x1 : Int) (x2 : Int) (x3 : Int) (x4 : Int) (x5 : Int) (x6 : Int) (B : Bx) (X : Xx) (k : List D → Prop) : Prop := wpRound Tryz.prog (hS C) L 13 0 [(1, (Value.pointer (some ⟨1000, 0, none⟩))), (3, (Value.string s0)), (4, (Value.int .i64 x1))] [(1000, (AObj.cells [(Value.slice none 0 0), (Value.int .i64 x2), (Value.int .i64 x3), (Value.int .i64 x4), (Value.int .i64 x5), (Value.int .i64 x6)] 26 false 1))] B X (dataK k)
theorem rfRn1_text (C : Ct) (L : AtLoop) (s0 : ByteArray) (x1 : Int) (x2 : Int) (x3 : Int) (x4 : Int) (x5 : Int) (x6 : Int) (B : Bx) (X : Xx) (k : List D → Prop) : rfRn1 C L s0 x1 x2 x3 x4 x5 x6 B X k =
 (bcase (decide (x1 < (↑0 : Int)))
 (bcase (decide (ByteArray.size s0 + 1 ≤ 9223372036854775807))
 False
 False)
 (X 0 [(Prod.mk 3 (Value.string (s0)))] [])) := by kernel_rfl
def nfRn2 (C : Ct) (L : AtLoop) (s0 : ByteArray) (k : List D → Prop) : Prop := wpNext Tryz.prog (hS C) L 13 0 .normal [(3, (Value.string s0))] [] (dataK k)
theorem nfRn2_text (C : Ct) (L : AtLoop) (s0 : ByteArray) (k : List D → Prop) : nfRn2 C L s0 k =
 (k [(D.val (Value.string (s0)))]) := by kernel_rfl
def gSR (C : Ct) (L : AtLoop) (n0 : Nat) (c0 : Nat) (l0 : List Value) (x1 : Int) (x2 : Int) (x3 : Int) (x4 : Int) (x5 : Int) (n6 : Nat) (c6 : Nat) (l6 : List Value) (x7 : Int) (x8 : Int) (x9 : Int) (x10 : Int) (x11 : Int) (k : List D → Prop) : Prop := wpFn Tryz.prog (hS C) L 0 22 #[.agg #[.slice (some ⟨500, 0, none⟩) n0 c0, .int .i64 x1, .int .i64 x2, .int .i64 x3, .int .i64 x4, .int .i64 x5], .agg #[.slice (some ⟨501, 0, none⟩) n6 c6, .int .i64 x7, .int .i64 x8, .int .i64 x9, .int .i64 x10, .int .i64 x11]] (heapOf [(500, .sym l0 false 2), (501, .sym l6 false 2)]) (dataK k)
theorem gSR_text (C : Ct) (L : AtLoop) (n0 : Nat) (c0 : Nat) (l0 : List Go.Value) (x1 : Int) (x2 : Int) (x3 : Int) (x4 : Int) (x5 : Int) (n6 : Nat) (c6 : Nat) (l6 : List Go.Value) (x7 : Int) (x8 : Int) (x9 : Int) (x10 : Int) (x11 : Int) (k : List D → Prop) : gSR C L n0 c0 l0 x1 x2 x3 x4 x5 n6 c6 l6 x7 x8 x9 x10 x11 k =
 (bcase (if Bool.true = Bool.true then !(x1 == x7 && (x2 == x8 && Bool.true)) else x1 == x7 && (x2 == x8 && Bool.true))
 (k kF)
 (bcase (if Bool.true = Bool.true then !(x3 == x9 && (x4 == x10 && Bool.true)) else x3 == x9 && (x4 == x10 && Bool.true))
 (k kF)
 (bcase (x5 != x11)
 (k kF)
 (bcase ((↑n0 : Int) != (↑n6 : Int))
 (k kF)
 (L 0 [(Prod.mk 2 (Pt 1000 0)), (Prod.mk 3 (Pt 1001 0)), (Prod.mk 5 (vI 0))] [(Prod.mk 1000 (AObj.cells [(Sl 500 (n0) (c0)), (vI x1), (vI x2), (vI x3), (vI x4), (vI x5)] 26 false 1)), (Prod.mk 1001 (AObj.cells [(Sl 501 (n6) (c6)), (vI x7), (vI x8), (vI x9), (vI x10), (vI x11)] 26 false 1)), (Prod.mk 500 (AObj.sym (l0) false 2)), (Prod.mk 501 (AObj.sym (l6) false 2))]))))) := by kernel_rfl
abbrev zSR1 (x0 : Int) (n1 : Nat) (c2 : Nat) (x3 : Int) (x4 : Int) (x5 : Int) (x6 : Int) (x7 : Int) (n8 : Nat) (c9 : Nat) (x10 : Int) (x11 : Int) (x12 : Int) (x13 : Int) (x14 : Int) (l15 : List Value) (l16 : List Value) : Slots × Blocks := ([(2, (Value.pointer (some ⟨1000, 0, none⟩))), (3, (Value.pointer (some ⟨1001, 0, none⟩))), (5, (Value.int .i64 x0))], [(1000, (AObj.cells [(Value.slice (some ⟨500, 0, none⟩) n1 c2), (Value.int .i64 x3), (Value.int .i64 x4), (Value.int .i64 x5), (Value.int .i64 x6), (Value.int .i64 x7)] 26 false 1)), (1001, (AObj.cells [(Value.slice (some ⟨501, 0, none⟩) n8 c9), (Value.int .i64 x10), (Value.int .i64 x11), (Value.int .i64 x12), (Value.int .i64 x13), (Value.int .i64 x14)] 26 false 1)), (500, (AObj.sym l15 false 2)), (501, (AObj.sym l16 false 2))])
def rSR1 (C : Ct) (L : AtLoop) (x0 : Int) (n1 : Nat) (c2 : Nat) (x3 : Int) (x4 : Int) (x5 : Int) (x6 : Int) (x7 : Int) (n8 : Nat) (c9 : Nat) (x10 : Int) (x11 : Int) (x12 : Int) (x13 : Int) (x14 : Int) (l15 : List Value) (l16 : List Value) (B : Bx) (X : Xx) (k : List D → Prop) : Prop := wpRound Tryz.prog (hS C) L 22 0 [(2, (Value.pointer (some ⟨1000, 0, none⟩))), (3, (Value.pointer (some ⟨1001, 0, none⟩))), (5, (Value.int .i64 x0))] [(1000, (AObj.cells [(Value.slice (some ⟨500, 0, none⟩) n1 c2), (Value.int .i64 x3), (Value.int .i64 x4), (Value.int .i64 x5), (Value.int .i64 x6), (Value.int .i64 x7)] 26 false 1)), (1001, (AObj.cells [(Value.slice (some ⟨501, 0, none⟩) n8 c9), (Value.int .i64 x10), (Value.int .i64 x11), (Value.int .i64 x12), (Value.int .i64 x13), (Value.int .i64 x14)] 26 false 1)), (500, (AObj.sym l15 false 2)), (501, (AObj.sym l16 false 2))] B X (dataK k)
theorem rSR1_text (C : Ct) (L : AtLoop) (x0 : Int) (n1 : Nat) (c2 : Nat) (x3 : Int) (x4 : Int) (x5 : Int) (x6 : Int) (x7 : Int) (n8 : Nat) (c9 : Nat) (x10 : Int) (x11 : Int) (x12 : Int) (x13 : Int) (x14 : Int) (l15 : List Go.Value) (l16 : List Go.Value) (B : Bx) (X : Xx) (k : List D → Prop) : rSR1 C L x0 n1 c2 x3 x4 x5 x6 x7 n8 c9 x10 x11 x12 x13 x14 l15 l16 B X k =
 (bcase (decide (x0 < (↑n1 : Int)))
 (bcase (decide (0 ≤ x0))
 (bcase (decide (x0 < (↑n1 : Int)))
 (∃ n2 : Int,
 (∃ n3 : Int,
 ((At (l15) (0 + Int.toNat x0 * 2) 2 [(vI n2), (vI n3)]) ∧
 (bcase (decide (0 ≤ x0))
 (bcase (decide (x0 < (↑n8 : Int)))
 (∃ n4 : Int,
 (∃ n5 : Int,
 ((At (l16) (0 + Int.toNat x0 * 2) 2 [(vI n4), (vI n5)]) ∧
 (bcase (if Bool.true = Bool.true then !(n2 == n4 && (n3 == n5 && Bool.true)) else n2 == n4 && (n3 == n5 && Bool.true))
 (((bcase (if Bool.true = Bool.true then !(n2 == n4 && (n3 == n5 && Bool.true)) else n2 == n4 && (n3 == n5 && Bool.true))
 Qb
 Qft) ∧
 ((∃ n6 : Int,
 (∃ n7 : Int,
 ((At (l16) (0 + Int.toNat x0 * 2) 2 [(vI n6), (vI n7)]) ∧
 ((Value.agg [(vI n6), (vI n7)].toArray) = (Value.agg [(vI n4), (vI n5)].toArray))))) ∧
 ((bcase (decide (0 ≤ x0))
 (bcase (decide (x0 < (↑n8 : Int)))
 (Qv (Pt 501 (0 + Int.toNat x0 * 2)))
 False)
 False) ∧
 ((Qv (vI x0)) ∧
 ((Qv (Sl 501 (n8) (c9))) ∧
 ((Qv (Pt 1001 0)) ∧
 ((∃ n6 : Int,
 (∃ n7 : Int,
 ((At (l15) (0 + Int.toNat x0 * 2) 2 [(vI n6), (vI n7)]) ∧
 ((Value.agg [(vI n6), (vI n7)].toArray) = (Value.agg [(vI n2), (vI n3)].toArray))))) ∧
 ((bcase (decide (0 ≤ x0))
 (bcase (decide (x0 < (↑n1 : Int)))
 (Qv (Pt 500 (0 + Int.toNat x0 * 2)))
 False)
 False) ∧
 ((Qv (vI x0)) ∧
 ((Qv (Sl 500 (n1) (c2))) ∧
 ((Qv (Pt 1000 0)) ∧
 True))))))))))) ∧
 (k kF))
 (((bcase (if Bool.true = Bool.true then !(n2 == n4 && (n3 == n5 && Bool.true)) else n2 == n4 && (n3 == n5 && Bool.true))
 Qtf
 Qf) ∧
 ((∃ n6 : Int,
 (∃ n7 : Int,
 ((At (l16) (0 + Int.toNat x0 * 2) 2 [(vI n6), (vI n7)]) ∧
 ((Value.agg [(vI n6), (vI n7)].toArray) = (Value.agg [(vI n4), (vI n5)].toArray))))) ∧
 ((bcase (decide (0 ≤ x0))
 (bcase (decide (x0 < (↑n8 : Int)))
 (Qv (Pt 501 (0 + Int.toNat x0 * 2)))
 False)
 False) ∧
 ((Qv (vI x0)) ∧
 ((Qv (Sl 501 (n8) (c9))) ∧
 ((Qv (Pt 1001 0)) ∧
 ((∃ n6 : Int,
 (∃ n7 : Int,
 ((At (l15) (0 + Int.toNat x0 * 2) 2 [(vI n6), (vI n7)]) ∧
 ((Value.agg [(vI n6), (vI n7)].toArray) = (Value.agg [(vI n2), (vI n3)].toArray))))) ∧
 ((bcase (decide (0 ≤ x0))
 (bcase (decide (x0 < (↑n1 : Int)))
 (Qv (Pt 500 (0 + Int.toNat x0 * 2)))
 False)
 False) ∧
 ((Qv (vI x0)) ∧
 ((Qv (Sl 500 (n1) (c2))) ∧
 ((Qv (Pt 1000 0)) ∧
 True))))))))))) ∧
 (B [(Prod.mk 2 (Pt 1000 0)), (Prod.mk 3 (Pt 1001 0)), (Prod.mk 5 (vI (IntKind.wrap .i64 (x0 + 1))))] [(Prod.mk 1000 (AObj.cells [(Sl 500 (n1) (c2)), (vI x3), (vI x4), (vI x5), (vI x6), (vI x7)] 26 false 1)), (Prod.mk 1001 (AObj.cells [(Sl 501 (n8) (c9)), (vI x10), (vI x11), (vI x12), (vI x13), (vI x14)] 26 false 1)), (Prod.mk 500 (AObj.sym (l15) false 2)), (Prod.mk 501 (AObj.sym (l16) false 2))]))))))
 False)
 False))))
 False)
 False)
 (X 0 [] [])) := by kernel_rfl
def nSR2 (C : Ct) (L : AtLoop) (k : List D → Prop) : Prop := wpNext Tryz.prog (hS C) L 22 0 .normal [] [] (dataK k)
theorem nSR2_text (C : Ct) (L : AtLoop) (k : List D → Prop) : nSR2 C L k =
 (k kT) := by kernel_rfl
def gSL (C : Ct) (L : AtLoop) (s0 : ByteArray) (n1 : Nat) (c1 : Nat) (l1 : List Value) (s2 : ByteArray) (n3 : Nat) (c3 : Nat) (l3 : List Value) (k : List D → Prop) : Prop := wpFn Tryz.prog (hS C) L 0 23 #[.agg #[.string s0, .slice (some ⟨500, 0, none⟩) n1 c1], .agg #[.string s2, .slice (some ⟨501, 0, none⟩) n3 c3]] (heapOf [(500, .sym l1 false 2), (501, .sym l3 false 2)]) (dataK k)
theorem gSL_text (C : Ct) (L : AtLoop) (s0 : ByteArray) (n1 : Nat) (c1 : Nat) (l1 : List Go.Value) (s2 : ByteArray) (n3 : Nat) (c3 : Nat) (l3 : List Go.Value) (k : List D → Prop) : gSL C L s0 n1 c1 l1 s2 n3 c3 l3 k =
 (bcase (!ByteArray.toList s0 == ByteArray.toList s2)
 (k kF)
 (bcase ((↑n1 : Int) != (↑n3 : Int))
 (k kF)
 (L 0 [(Prod.mk 2 (Pt 1000 0)), (Prod.mk 3 (Pt 1001 0)), (Prod.mk 5 (vI 0))] [(Prod.mk 1000 (AObj.cells [(Value.string (s0)), (Sl 500 (n1) (c1))] 31 false 1)), (Prod.mk 1001 (AObj.cells [(Value.string (s2)), (Sl 501 (n3) (c3))] 31 false 1)), (Prod.mk 500 (AObj.sym (l1) false 2)), (Prod.mk 501 (AObj.sym (l3) false 2))]))) := by kernel_rfl
abbrev zSL1 (x0 : Int) (s1 : ByteArray) (n2 : Nat) (c3 : Nat) (s4 : ByteArray) (n5 : Nat) (c6 : Nat) (l7 : List Value) (l8 : List Value) : Slots × Blocks := ([(2, (Value.pointer (some ⟨1000, 0, none⟩))), (3, (Value.pointer (some ⟨1001, 0, none⟩))), (5, (Value.int .i64 x0))], [(1000, (AObj.cells [(Value.string s1), (Value.slice (some ⟨500, 0, none⟩) n2 c3)] 31 false 1)), (1001, (AObj.cells [(Value.string s4), (Value.slice (some ⟨501, 0, none⟩) n5 c6)] 31 false 1)), (500, (AObj.sym l7 false 2)), (501, (AObj.sym l8 false 2))])
def rSL1 (C : Ct) (L : AtLoop) (x0 : Int) (s1 : ByteArray) (n2 : Nat) (c3 : Nat) (s4 : ByteArray) (n5 : Nat) (c6 : Nat) (l7 : List Value) (l8 : List Value) (B : Bx) (X : Xx) (k : List D → Prop) : Prop := wpRound Tryz.prog (hS C) L 23 0 [(2, (Value.pointer (some ⟨1000, 0, none⟩))), (3, (Value.pointer (some ⟨1001, 0, none⟩))), (5, (Value.int .i64 x0))] [(1000, (AObj.cells [(Value.string s1), (Value.slice (some ⟨500, 0, none⟩) n2 c3)] 31 false 1)), (1001, (AObj.cells [(Value.string s4), (Value.slice (some ⟨501, 0, none⟩) n5 c6)] 31 false 1)), (500, (AObj.sym l7 false 2)), (501, (AObj.sym l8 false 2))] B X (dataK k)
theorem rSL1_text (C : Ct) (L : AtLoop) (x0 : Int) (s1 : ByteArray) (n2 : Nat) (c3 : Nat) (s4 : ByteArray) (n5 : Nat) (c6 : Nat) (l7 : List Go.Value) (l8 : List Go.Value) (B : Bx) (X : Xx) (k : List D → Prop) : rSL1 C L x0 s1 n2 c3 s4 n5 c6 l7 l8 B X k =
 (bcase (decide (x0 < (↑n2 : Int)))
 (bcase (decide (0 ≤ x0))
 (bcase (decide (x0 < (↑n2 : Int)))
 (∃ n1 : Int,
 (∃ n3 : Int,
 ((At (l7) (0 + Int.toNat x0 * 2) 2 [(vI n1), (vI n3)]) ∧
 (bcase (decide (0 ≤ x0))
 (bcase (decide (x0 < (↑n5 : Int)))
 (∃ n4 : Int,
 (∃ n6 : Int,
 ((At (l8) (0 + Int.toNat x0 * 2) 2 [(vI n4), (vI n6)]) ∧
 (bcase (if Bool.true = Bool.true then !(n1 == n4 && (n3 == n6 && Bool.true)) else n1 == n4 && (n3 == n6 && Bool.true))
 (((bcase (if Bool.true = Bool.true then !(n1 == n4 && (n3 == n6 && Bool.true)) else n1 == n4 && (n3 == n6 && Bool.true))
 Qb
 Qft) ∧
 ((∃ n7 : Int,
 (∃ n8 : Int,
 ((At (l8) (0 + Int.toNat x0 * 2) 2 [(vI n7), (vI n8)]) ∧
 ((Value.agg [(vI n7), (vI n8)].toArray) = (Value.agg [(vI n4), (vI n6)].toArray))))) ∧
 ((bcase (decide (0 ≤ x0))
 (bcase (decide (x0 < (↑n5 : Int)))
 (Qv (Pt 501 (0 + Int.toNat x0 * 2)))
 False)
 False) ∧
 ((Qv (vI x0)) ∧
 ((Qv (Sl 501 (n5) (c6))) ∧
 ((Qv (Pt 1001 1)) ∧
 ((∃ n7 : Int,
 (∃ n8 : Int,
 ((At (l7) (0 + Int.toNat x0 * 2) 2 [(vI n7), (vI n8)]) ∧
 ((Value.agg [(vI n7), (vI n8)].toArray) = (Value.agg [(vI n1), (vI n3)].toArray))))) ∧
 ((bcase (decide (0 ≤ x0))
 (bcase (decide (x0 < (↑n2 : Int)))
 (Qv (Pt 500 (0 + Int.toNat x0 * 2)))
 False)
 False) ∧
 ((Qv (vI x0)) ∧
 ((Qv (Sl 500 (n2) (c3))) ∧
 ((Qv (Pt 1000 1)) ∧
 True))))))))))) ∧
 (k kF))
 (((bcase (if Bool.true = Bool.true then !(n1 == n4 && (n3 == n6 && Bool.true)) else n1 == n4 && (n3 == n6 && Bool.true))
 Qtf
 Qf) ∧
 ((∃ n7 : Int,
 (∃ n8 : Int,
 ((At (l8) (0 + Int.toNat x0 * 2) 2 [(vI n7), (vI n8)]) ∧
 ((Value.agg [(vI n7), (vI n8)].toArray) = (Value.agg [(vI n4), (vI n6)].toArray))))) ∧
 ((bcase (decide (0 ≤ x0))
 (bcase (decide (x0 < (↑n5 : Int)))
 (Qv (Pt 501 (0 + Int.toNat x0 * 2)))
 False)
 False) ∧
 ((Qv (vI x0)) ∧
 ((Qv (Sl 501 (n5) (c6))) ∧
 ((Qv (Pt 1001 1)) ∧
 ((∃ n7 : Int,
 (∃ n8 : Int,
 ((At (l7) (0 + Int.toNat x0 * 2) 2 [(vI n7), (vI n8)]) ∧
 ((Value.agg [(vI n7), (vI n8)].toArray) = (Value.agg [(vI n1), (vI n3)].toArray))))) ∧
 ((bcase (decide (0 ≤ x0))
 (bcase (decide (x0 < (↑n2 : Int)))
 (Qv (Pt 500 (0 + Int.toNat x0 * 2)))
 False)
 False) ∧
 ((Qv (vI x0)) ∧
 ((Qv (Sl 500 (n2) (c3))) ∧
 ((Qv (Pt 1000 1)) ∧
 True))))))))))) ∧
 (B [(Prod.mk 2 (Pt 1000 0)), (Prod.mk 3 (Pt 1001 0)), (Prod.mk 5 (vI (IntKind.wrap .i64 (x0 + 1))))] [(Prod.mk 1000 (AObj.cells [(Value.string (s1)), (Sl 500 (n2) (c3))] 31 false 1)), (Prod.mk 1001 (AObj.cells [(Value.string (s4)), (Sl 501 (n5) (c6))] 31 false 1)), (Prod.mk 500 (AObj.sym (l7) false 2)), (Prod.mk 501 (AObj.sym (l8) false 2))]))))))
 False)
 False))))
 False)
 False)
 (X 0 [] [])) := by kernel_rfl
def nSL2 (C : Ct) (L : AtLoop) (k : List D → Prop) : Prop := wpNext Tryz.prog (hS C) L 23 0 .normal [] [] (dataK k)
theorem nSL2_text (C : Ct) (L : AtLoop) (k : List D → Prop) : nSL2 C L k =
 (k kT) := by kernel_rfl
end Go.Proofs.G5v

/- Chapter 4, strings: words and numbers, in data. -/
namespace Go.Proofs.G5v
open Go Go.Abs Go.Proofs Go.Abs.MD Go.Str Go.RowKit
set_option maxRecDepth 100000
theorem preSOK : PreOK Tryz.prog (preS C5) := by
  intro g h he args ats H k hk
  unfold preS at he
  rcases ite_so he with ⟨e, rfl⟩ | he
  · rw [beq_iff_eq] at e; subst e
    exact wpState_call (fun args bs K hk => limL_ok hk) hk
  rcases ite_so he with ⟨e, rfl⟩ | he
  · exact fixH_ok (fun _ _ _ h => h) _ _ _ _ _ hk
  rcases ite_so he with ⟨e, rfl⟩ | he
  · exact fixH_ok (fun _ _ _ h => h) _ _ _ _ _ hk
  rcases ite_so he with ⟨e, rfl⟩ | he
  · exact fixH_ok (fun _ _ _ h => h) _ _ _ _ _ hk
  rcases ite_so he with ⟨e, rfl⟩ | he
  · exact saidH_ok (fun _ _ _ h => h) _ _ _ _ _ hk
  · cases he
theorem hokS : HandlerOK Tryz.prog (hS C5) := handlerX_ok mixed preSOK (by decide) 6
theorem hokP : HandlerOK Tryz.prog (hP C5) := handlerX_ok mixed preSOK (by decide) 6
theorem conN (l : List UInt8) : C5 83 [dS l] [dB (okNum 7 l)] := by
  let inv : Nat → Prop := fun i => i ≤ l.length ∧ (l.take i).all isDig = true ∧ okNum 7 l = l.all isDig ∧ l.length ≤ 7
  let st : Nat → Slots × Blocks := fun i => zsN1 (bs l) l.length i
  refine con_of (L := fun _ s b => ∃ x, inv x ∧ st x = (s, b)) hokS mixed Tryz.func83 rfl (by show 0 ≤ 400; omega) rfl (ids := [0]) (by kernel_rfl) rfl (fun caps => ?_) (fun id hid => ?_)
  · show gsN _ _ (bs l) _
    rw [gsN_text]
    simp only [bs_size]
    refine bc_beq (fun h => ?_) (fun h => ?_)
    · rw [show okNum 7 l = false by unfold okNum; simp; omega]
    · refine bc_dec (fun h2 => ?_) (fun h2 => ?_)
      · rw [show okNum 7 l = false by unfold okNum; simp; omega]
      · have go : ¬ (l.head? = some 48 ∧ 1 < l.length) → ∃ x, inv x ∧ st x = zsN1 (bs l) l.length 0 := by
          intro hc
          refine ⟨0, ⟨Nat.zero_le _, rfl, ?_, by omega⟩, rfl⟩
          unfold okNum
          have : (decide (1 < l.length) && l.head? == some 48) = false := by
            rw [Bool.and_eq_false_iff, decide_eq_false_iff_not, beq_eq_false_iff_ne]
            rcases Nat.lt_or_ge 1 l.length with h | h
            · exact .inr (fun e => hc ⟨e, h⟩)
            · exact .inl (by omega)
          rw [this, decide_eq_true (by omega), decide_eq_true (by omega)]; rfl
        refine bc_dec (fun h3 => ?_) (fun h3 => go (by omega))
        cases l with
        | nil => simp at h3
        | cons b r =>
          rw [byte1 (l := b :: r) (i := 0) (b := b) rfl]
          refine bc_beq (fun h4 => ?_) (fun h4 => go (fun ⟨e, _⟩ => h4 (by simp only [List.head?_cons, Option.some.injEq] at e; rw [e]; rfl)))
          obtain rfl : b = 48 := u8_eq (c := 48) h4
          rw [show okNum 7 (48 :: r) = false by unfold okNum; rw [decide_eq_true (show 1 < (48 :: r).length by omega)]; simp]
  · obtain rfl := List.mem_singleton.1 hid
    refine ⟨Nat, st, inv, fun x => l.length - x, ⟨fun s b h => h, by kernel_rfl, ?_⟩⟩
    rintro i ⟨hil, hall, hok, h5⟩
    show rsN1 _ _ (bs l) l.length i _ _ _
    rw [rsN1_text]
    refine bc_dec (fun h => ?_) (fun h => ?_)
    · have hi : i < l.length := by omega
      have fail : isDig l[i] = false → [dB false] = [dB (okNum 7 l)] := by
        intro hb
        rw [hok, not_all (List.getElem?_eq_getElem hi) hb]
      simp only [bc_t (show (0 : Int) ≤ (i : Int) by omega), Int.toNat_natCast, byte1 (List.getElem?_eq_getElem hi), wi1 hi (by omega)]
      refine bc_dec (fun hb => ?_) (fun hb => fail (isDig_no (by omega)))
      refine bc_dec (fun hb2 => ?_) (fun hb2 => fail (isDig_no (by omega)))
      have hdig : isDig l[i] = true := by unfold isDig; rw [decide_eq_true (by omega), decide_eq_true (by omega)]; rfl
      exact ⟨i + 1, ⟨hi, by rw [List.take_succ_eq_append_getElem hi, List.all_append, hall]; simp [hdig], hok, h5⟩, by omega, rfl⟩
    · have hi : i = l.length := by omega
      show (if 0 = 0 then _ else _)
      rw [if_pos rfl]
      show nsN2 _ _ _
      rw [nsN2_text]
      rw [hi, List.take_length] at hall
      show [dB true] = _
      rw [hok, hall]
theorem numB_bs (l : List UInt8) : numB (bs l) = numF 0 l := by
  unfold numB; rw [data_bs]; rfl
theorem conAt (l : List UInt8) (h : okNum 7 l = true) : C5 84 [dS l] [dI (numB (bs l)), .val .nilIface] := by
  intro w args hg hr
  rw [reads1 hr]
  obtain ⟨h1, h2, _⟩ := okNum_inv h
  refine (Tryz.strconv_Atoi (bs l) (numF 0 l) (by rw [bs_size]; omega) (by rw [data_bs]; exact (atoi_ok h).1) w).mono ?_
  rintro e w' ⟨rfl, t, rfl⟩
  rw [numB_bs]
  exact ⟨⟨[.int .i64 _, .nilIface], [], rfl, .cons (.val _ _ rfl) (.cons (.val _ _ rfl) (.nil _))⟩, Lib.bytesWorld_below _ _ _⟩
/-! ### the references -/
/-- the values of a pair, wherever it is one -/
def pv (c : UInt8) (l : List UInt8) : Int × Int := match cutA c [] l with
  | [a, b] => ((readNum 7 a).1, (readNum 7 b).1)
  | _ => (0, 0)
end Go.Proofs.G5v

/- Chapter 4, losses: the loss at a step, in data. -/
namespace Go.Proofs.G5v
open Go Go.Abs Go.Proofs Go.Abs.MD Go.Str
set_option maxRecDepth 100000
/-! ### slices.MinFunc -/
end Go.Proofs.G5v

/- Chapter 4, losses: losses, what is learned, the best correction, in data. -/
namespace Go.Proofs.G5v
open Go Go.Abs Go.Proofs Go.Abs.MD Go.Str
set_option maxRecDepth 100000
/-! ### fractions -/
abbrev dF (f : Int × Int) : D := .agg [dI f.1, dI f.2]
def sm (f : Int × Int) : Prop := (-1000000000 ≤ f.1 ∧ f.1 ≤ 1000000000) ∧ (-1000000000 ≤ f.2 ∧ f.2 ≤ 1000000000)
instance (f : Int × Int) : Decidable (sm f) := by unfold sm; infer_instance
theorem conlT (n d : Int) (hn : -4611686018427387904 ≤ n ∧ n ≤ 4611686018427387904) (hd : 0 < d ∧ d ≤ 4611686018427387904) : C5 91 [dI n, dI d] [dF (low n d)] := by
  refine con_flat hokL mixed Tryz.func91 rfl (by show 0 ≤ 400; omega) rfl (by kernel_rfl) (fun caps => ?_)
  show glT _ _ n d _
  rw [glT_text, bc_f (show ¬ d < 0 by omega)]
  have hg := gcd_pos (a := n) (b := d) (.inr (by omega))
  have b1 := tdiv_small (n := n) (g := Int.gcd n d) hn hg
  have b2 := tdiv_small (n := d) (g := Int.gcd n d) (by omega) hg
  try simp only [eq_self, true_and, and_true]
  refine ⟨_, ⟨condv n d (by omega) (by omega)⟩, ?_⟩
  simp only [bc_n (show ((Int.gcd n d : Nat) : Int) ≠ 0 by omega), true_and, and_true]
  rw [w64 (by omega) (by omega), w64 (by omega) (by omega)]
  show _ = _
  rw [dF, low, if_neg (by omega)]
/-! ### losses -/
theorem cor_ok {e v t : Int} (h : corE e v t = 0) : (0 ≤ v ∧ v ≤ 1000000) ∧ 0 ≤ t ∧ t ≤ e := by
  unfold corE at h; split at h
  · assumption
  · omega
abbrev dCc (v t : Int) : D := .agg [dI v, dI t]
/-! ### what is learned -/
def grow (v : Int) : Int := if IntKind.wrap .i64 (v + 1) > 1000000 then 8 else 0
/-! ### the best correction -/
def upto (n : Nat) : List Int := (List.range n).map fun i : Nat => (i : Int)
@[simp] theorem upto_length (n : Nat) : (upto n).length = n := by simp [upto]
end Go.Proofs.G5v

/- Chapter 4, strings: corrections, in data. -/
namespace Go.Proofs.G5v
open Go Go.Abs Go.Proofs Go.Abs.MD Go.Str Go.RowKit
set_option maxRecDepth 100000
/-- the correction of a string, and the error -/
def crP (l : List UInt8) : (Int × Int) × Int := match two 32 7 l with
  | none => ((0, 0), 7)
  | some p => if p.1 ≤ 1000000 ∧ p.2 ≤ 900 then (p, 0) else ((0, 0), 2)
theorem d32 : isDig 32 = false := by decide
theorem d64 : isDig 64 = false := by decide
theorem d47 : isDig 47 = false := by decide
theorem two_ge {c : UInt8} {w : List UInt8} (hc : isDig c = false) {p : Int × Int} (h : two c 7 w = some p) : 0 ≤ p.1 ∧ 0 ≤ p.2 := by
  rcases two_cut (w := w) (d := 7) hc with ⟨_, h2⟩ | ⟨a, b, h1, h2⟩
  · rw [h2] at h; cases h
  · rw [h2] at h
    cases ha : okNum 7 a with
    | false => rw [ha] at h; simp at h
    | true =>
      cases hb : okNum 7 b with
      | false => rw [ha, hb] at h; simp at h
      | true =>
        rw [ha, hb] at h
        obtain rfl := Option.some.inj h
        exact ⟨(numF_pos ha).1, (numF_pos hb).1⟩
theorem conpC (l : List UInt8) (hl : l.length < 1000000) : C5 20 [dS l] [.agg [dI (crP l).1.1, dI (crP l).1.2], dI (crP l).2] := by
  refine con_flat hokP mixed Tryz.func20 rfl (by show 0 ≤ 400; omega) rfl (by kernel_rfl) (fun caps => ?_)
  show gpC _ _ (bs l) _
  rw [gpC_text]
  simp only [Qv, eq_self, true_and, and_true]
  have cS := conSp l 32 (by omega)
  rcases two_cut (w := l) (d := 7) d32 with ⟨h1, h2⟩ | ⟨a, b, h1, h2⟩
  · have e : crP l = ((0, 0), 7) := by unfold crP; rw [h2]
    generalize cutA 32 [] l = ws at h1 cS
    refine .inr ⟨_, _, ⟨cS⟩, bc_bne (fun _ => ?_) (fun h => absurd h (by omega))⟩
    rw [e]
  · rw [h1] at cS
    have s0 : At (strs [a, b]) 0 1 [Value.string (bs a)] := strs_at [a, b] 0 (by simp)
    have s1 : At (strs [a, b]) 1 1 [Value.string (bs b)] := strs_at [a, b] 1 (by simp)
    have y0 : (0 : Int) < (([a, b].length : Nat) : Int) := show (0 : Int) < ((2 : Nat) : Int) by decide
    have y1 : IntKind.wrap .i64 (0 + 1) < (([a, b].length : Nat) : Int) := show IntKind.wrap .i64 (0 + 1) < ((2 : Nat) : Int) by decide
    have y2 : ¬ IntKind.wrap .i64 (IntKind.wrap .i64 (0 + 1) + 1) < (([a, b].length : Nat) : Int) := show ¬ IntKind.wrap .i64 (IntKind.wrap .i64 (0 + 1) + 1) < ((2 : Nat) : Int) by decide
    have bad : (okNum 7 a && okNum 7 b) = false → [D.agg [dI 0, dI 0], dI 7] = [.agg [dI (crP l).1.1, dI (crP l).1.2], dI (crP l).2] := fun h => by
      have e : crP l = ((0, 0), 7) := by unfold crP; rw [h2, h]; rfl
      rw [e]
    refine .inr ⟨_, _, ⟨cS⟩, bc_bne (fun h => absurd rfl h) (fun _ => bc_yes y0 (bc_yes y0 ⟨_, s0, sayOr (conN a) (fun ha => ?_) (fun ha => ?_)⟩))⟩
    · refine ⟨⟨conAt a ha⟩, bc_yes y1 (bc_yes y1 ⟨_, s1, sayOr (conN b) (fun hb => ?_) (fun hb => ?_)⟩)⟩
      · refine ⟨⟨conAt b hb⟩, bc_no y2 ?_⟩
        rw [numB_bs, numB_bs]
        have pa := (numF_pos ha).1
        have pb := (numF_pos hb).1
        refine ⟨_, ⟨limC_of (limE1 0 1000000 _).symm⟩, _, ⟨limC_of (limE1 0 900 _).symm⟩, _, ⟨conFE [_, _] (by simp)⟩, ?_⟩
        have e : crP l = if numF 0 a ≤ 1000000 ∧ numF 0 b ≤ 900 then ((numF 0 a, numF 0 b), 0) else ((0, 0), 2) := by unfold crP; rw [h2, ha, hb]; rfl
        rw [e, fst0_two]
        by_cases q1 : numF 0 a ≤ 1000000
        · by_cases q2 : numF 0 b ≤ 900
          · rw [if_pos (show 0 ≤ numF 0 a ∧ numF 0 a ≤ 1000000 from ⟨pa, q1⟩), if_pos (show 0 ≤ numF 0 b ∧ numF 0 b ≤ 900 from ⟨pb, q2⟩), if_pos rfl, if_pos ⟨q1, q2⟩]
            exact bc_bne (fun h => absurd rfl h) (fun _ => rfl)
          · rw [if_pos (show 0 ≤ numF 0 a ∧ numF 0 a ≤ 1000000 from ⟨pa, q1⟩), if_neg (show ¬ (0 ≤ numF 0 b ∧ numF 0 b ≤ 900) by omega), if_pos rfl, if_neg (by omega)]
            exact bc_bne (fun _ => rfl) (fun h => absurd h (by decide))
        · rw [if_neg (show ¬ (0 ≤ numF 0 a ∧ numF 0 a ≤ 1000000) by omega), if_neg (show ¬ (2 : Int) = 0 by decide), if_neg (by omega)]
          exact bc_bne (fun _ => rfl) (fun h => absurd h (by decide))
      · exact bad (by rw [hb, Bool.and_false])
    · exact bad (by rw [ha]; rfl)
end Go.Proofs.G5v

/- What is left to show of each function, written out; the kernel reckons it. -/
namespace Go.Proofs.G5v
open Go Go.Abs Go.Proofs
set_option maxRecDepth 100000
set_option linter.unusedVariables false
def gkCn (C : Ct) (L : AtLoop) (s0 : ByteArray) (k : List D → Prop) : Prop := wpFn Tryz.prog (hL C) L 0 50 #[.agg #[.string s0, .slice none 0 0]] (heapOf []) (dataK k)
theorem gkCn_text (C : Ct) (L : AtLoop) (s0 : ByteArray) (k : List D → Prop) : gkCn C L s0 k =
 (((Qv (vI 0)) ∧
 ((Qv (Value.slice none 0 0)) ∧
 ((Qv (Pt 1000 1)) ∧
 ((Qv (Value.string (s0))) ∧
 ((Qv (Pt 1000 0)) ∧
 True))))) ∧
 (∃ n1 : Int,
 ((Says C 87 [(D.val (Value.string (s0)))] [(D.val (vI n1))]) ∧
 (((Qv (vI 0)) ∧
 ((Qv (Value.slice none 0 0)) ∧
 ((Qv (Pt 1000 1)) ∧
 ((Qv (Pt 1000 0)) ∧
 True)))) ∧
 (∃ n2 : Int,
 ((Says C 88 [(D.val (vI 0)), (D.val (vI 12))] [(D.val (vI n2))]) ∧
 ((((Qv (Sl 1001 2 2)) ∧
 (Qv (some (AObj.cells [(vI n1), (vI n2)] 43 false 1)))) ∧
 ((Qv (Value.slice none 0 0)) ∧
 ((Qv (Pt 1000 1)) ∧
 ((Qv (Pt 1000 0)) ∧
 True)))) ∧
 (∃ n3 : Int,
 ((Says C 48 [(D.sl 2 1 [(vI n1), (vI n2)])] [(D.val (vI n3))]) ∧
 (((Qv (Value.slice none 0 0)) ∧
 ((Qv (Pt 1000 1)) ∧
 ((Qv (Pt 1000 0)) ∧
 True))) ∧
 (True ∧
 (bcase (n3 != 0)
 (k [(D.val (vI 0)), (D.val (vI n3))])
 (L 0 [(Prod.mk 21 (Value.slice none 0 0)), (Prod.mk 22 (vI 0)), (Prod.mk 23 (vI 0))] []))))))))))))) := by kernel_rfl
def gKRn (C : Ct) (L : AtLoop) (x1 : Int) (x2 : Int) (x3 : Int) (x4 : Int) (x5 : Int) (k : List D → Prop) : Prop := wpFn Tryz.prog (hL C) L 0 47 #[.agg #[.slice none 0 0, .int .i64 x1, .int .i64 x2, .int .i64 x3, .int .i64 x4, .int .i64 x5]] (heapOf []) (dataK k)
theorem gKRn_text (C : Ct) (L : AtLoop) (x1 : Int) (x2 : Int) (x3 : Int) (x4 : Int) (x5 : Int) (k : List D → Prop) : gKRn C L x1 x2 x3 x4 x5 k =
 (∃ n1 : Int,
 (∃ n2 : Int,
 ((Says C 54 [D.nil] [(D.val (vI n1)), (D.val (vI n2))]) ∧
 (bcase (n2 != 0)
 (k [(D.val (vI n1)), (D.val (vI n2))])
 ((((Qv (Sl 1003 1 1)) ∧
 (Qv (some (AObj.cells [(vI x5)] 3 false 1)))) ∧
 ((Qv (vI x5)) ∧
 ((Qv (Pt 1000 5)) ∧
 (((Qv (Sl 1002 4 4)) ∧
 (Qv (some (AObj.cells [(vI x1), (vI x2), (vI x3), (vI x4)] 3 false 1)))) ∧
 ((Qv (vI x4)) ∧
 ((Qv (Pt 1000 4)) ∧
 ((Qv (Pt 1000 3)) ∧
 ((Qv (vI x3)) ∧
 ((Qv (Pt 1000 3)) ∧
 ((Qv (Pt 1000 3)) ∧
 ((Qv (vI x2)) ∧
 ((Qv (Pt 1000 2)) ∧
 ((Qv (Pt 1000 1)) ∧
 ((Qv (vI x1)) ∧
 ((Qv (Pt 1000 1)) ∧
 ((Qv (Pt 1000 1)) ∧
 (((Qv (Sl 1001 2 2)) ∧
 (Qv (some (AObj.cells [(vI x1), (vI x2), (vI x3), (vI x4)] 24 false 2)))) ∧
 ((Qv (Value.agg [(vI x3), (vI x4)].toArray)) ∧
 ((Qv (Pt 1000 3)) ∧
 ((Qv (Value.agg [(vI x1), (vI x2)].toArray)) ∧
 ((Qv (Pt 1000 1)) ∧
 True))))))))))))))))))))) ∧
 (∃ n3 : Int,
 ((Says C 85 [(D.sl 2 2 [(vI x1), (vI x2), (vI x3), (vI x4)])] [(D.val (vI n3))]) ∧
 ((((Qv (Sl 1003 1 1)) ∧
 (Qv (some (AObj.cells [(vI x5)] 3 false 1)))) ∧
 ((Qv (vI x5)) ∧
 ((Qv (Pt 1000 5)) ∧
 (((Qv (Sl 1002 4 4)) ∧
 (Qv (some (AObj.cells [(vI x1), (vI x2), (vI x3), (vI x4)] 3 false 1)))) ∧
 ((Qv (vI x4)) ∧
 ((Qv (Pt 1000 4)) ∧
 ((Qv (Pt 1000 3)) ∧
 ((Qv (vI x3)) ∧
 ((Qv (Pt 1000 3)) ∧
 ((Qv (Pt 1000 3)) ∧
 ((Qv (vI x2)) ∧
 ((Qv (Pt 1000 2)) ∧
 ((Qv (Pt 1000 1)) ∧
 ((Qv (vI x1)) ∧
 ((Qv (Pt 1000 1)) ∧
 ((Qv (Pt 1000 1)) ∧
 ((Qv (Value.agg [(vI x3), (vI x4)].toArray)) ∧
 ((Qv (Pt 1000 3)) ∧
 ((Qv (Value.agg [(vI x1), (vI x2)].toArray)) ∧
 ((Qv (Pt 1000 1)) ∧
 True)))))))))))))))))))) ∧
 ((((Qv (Sl 1003 1 1)) ∧
 (Qv (some (AObj.cells [(vI x5)] 3 false 1)))) ∧
 ((Qv (vI x5)) ∧
 ((Qv (Pt 1000 5)) ∧
 (((Qv (Sl 1002 4 4)) ∧
 (Qv (some (AObj.cells [(vI x1), (vI x2), (vI x3), (vI x4)] 3 false 1)))) ∧
 ((Qv (vI x4)) ∧
 ((Qv (Pt 1000 4)) ∧
 ((Qv (Pt 1000 3)) ∧
 ((Qv (vI x3)) ∧
 ((Qv (Pt 1000 3)) ∧
 ((Qv (Pt 1000 3)) ∧
 ((Qv (vI x2)) ∧
 ((Qv (Pt 1000 2)) ∧
 ((Qv (Pt 1000 1)) ∧
 ((Qv (vI x1)) ∧
 ((Qv (Pt 1000 1)) ∧
 ((Qv (Pt 1000 1)) ∧
 ((Qv (Value.agg [(vI x3), (vI x4)].toArray)) ∧
 ((Qv (Pt 1000 3)) ∧
 ((Qv (Value.agg [(vI x1), (vI x2)].toArray)) ∧
 ((Qv (Pt 1000 1)) ∧
 True)))))))))))))))))))) ∧
 (∃ e1 : Int,
 ((Says limC 0 [(D.val (vI 1)), (D.val (vI 900)), (D.sl 4 1 [(vI x1), (vI x2), (vI x3), (vI x4)])] [(D.val (vI e1))]) ∧
 ((((Qv (Sl 1003 1 1)) ∧
 (Qv (some (AObj.cells [(vI x5)] 3 false 1)))) ∧
 ((Qv (vI x5)) ∧
 ((Qv (Pt 1000 5)) ∧
 ((Qv (vI x4)) ∧
 ((Qv (Pt 1000 4)) ∧
 ((Qv (Pt 1000 3)) ∧
 ((Qv (vI x3)) ∧
 ((Qv (Pt 1000 3)) ∧
 ((Qv (Pt 1000 3)) ∧
 ((Qv (vI x2)) ∧
 ((Qv (Pt 1000 2)) ∧
 ((Qv (Pt 1000 1)) ∧
 ((Qv (vI x1)) ∧
 ((Qv (Pt 1000 1)) ∧
 ((Qv (Pt 1000 1)) ∧
 ((Qv (Value.agg [(vI x3), (vI x4)].toArray)) ∧
 ((Qv (Pt 1000 3)) ∧
 ((Qv (Value.agg [(vI x1), (vI x2)].toArray)) ∧
 ((Qv (Pt 1000 1)) ∧
 True))))))))))))))))))) ∧
 ((((Qv (Sl 1003 1 1)) ∧
 (Qv (some (AObj.cells [(vI x5)] 3 false 1)))) ∧
 ((Qv (vI x5)) ∧
 ((Qv (Pt 1000 5)) ∧
 ((Qv (vI x4)) ∧
 ((Qv (Pt 1000 4)) ∧
 ((Qv (Pt 1000 3)) ∧
 ((Qv (vI x3)) ∧
 ((Qv (Pt 1000 3)) ∧
 ((Qv (Pt 1000 3)) ∧
 ((Qv (vI x2)) ∧
 ((Qv (Pt 1000 2)) ∧
 ((Qv (Pt 1000 1)) ∧
 ((Qv (vI x1)) ∧
 ((Qv (Pt 1000 1)) ∧
 ((Qv (Pt 1000 1)) ∧
 ((Qv (Value.agg [(vI x3), (vI x4)].toArray)) ∧
 ((Qv (Pt 1000 3)) ∧
 ((Qv (Value.agg [(vI x1), (vI x2)].toArray)) ∧
 ((Qv (Pt 1000 1)) ∧
 True))))))))))))))))))) ∧
 (∃ e2 : Int,
 ((Says limC 0 [(D.val (vI 0)), (D.val (vI 900)), (D.sl 1 1 [(vI x5)])] [(D.val (vI e2))]) ∧
 ((((Qv (Sl 1008 3 3)) ∧
 (Qv (some (AObj.cells [(vI n3), (vI e1), (vI e2)] 43 false 1)))) ∧
 ((Qv (vI x5)) ∧
 ((Qv (Pt 1000 5)) ∧
 ((Qv (vI x4)) ∧
 ((Qv (Pt 1000 4)) ∧
 ((Qv (Pt 1000 3)) ∧
 ((Qv (vI x3)) ∧
 ((Qv (Pt 1000 3)) ∧
 ((Qv (Pt 1000 3)) ∧
 ((Qv (vI x2)) ∧
 ((Qv (Pt 1000 2)) ∧
 ((Qv (Pt 1000 1)) ∧
 ((Qv (vI x1)) ∧
 ((Qv (Pt 1000 1)) ∧
 ((Qv (Pt 1000 1)) ∧
 ((Qv (Value.agg [(vI x3), (vI x4)].toArray)) ∧
 ((Qv (Pt 1000 3)) ∧
 ((Qv (Value.agg [(vI x1), (vI x2)].toArray)) ∧
 ((Qv (Pt 1000 1)) ∧
 True))))))))))))))))))) ∧
 (∃ n4 : Int,
 ((Says C 48 [(D.sl 3 1 [(vI n3), (vI e1), (vI e2)])] [(D.val (vI n4))]) ∧
 (((Qv (vI x5)) ∧
 ((Qv (Pt 1000 5)) ∧
 ((Qv (vI x4)) ∧
 ((Qv (Pt 1000 4)) ∧
 ((Qv (Pt 1000 3)) ∧
 ((Qv (vI x3)) ∧
 ((Qv (Pt 1000 3)) ∧
 ((Qv (Pt 1000 3)) ∧
 ((Qv (vI x2)) ∧
 ((Qv (Pt 1000 2)) ∧
 ((Qv (Pt 1000 1)) ∧
 ((Qv (vI x1)) ∧
 ((Qv (Pt 1000 1)) ∧
 ((Qv (Pt 1000 1)) ∧
 ((Qv (Value.agg [(vI x3), (vI x4)].toArray)) ∧
 ((Qv (Pt 1000 3)) ∧
 ((Qv (Value.agg [(vI x1), (vI x2)].toArray)) ∧
 ((Qv (Pt 1000 1)) ∧
 True)))))))))))))))))) ∧
 (((Qv (vI x5)) ∧
 ((Qv (Pt 1000 5)) ∧
 ((Qv (vI x4)) ∧
 ((Qv (Pt 1000 4)) ∧
 ((Qv (Pt 1000 3)) ∧
 ((Qv (vI x3)) ∧
 ((Qv (Pt 1000 3)) ∧
 ((Qv (Pt 1000 3)) ∧
 ((Qv (vI x2)) ∧
 ((Qv (Pt 1000 2)) ∧
 ((Qv (Pt 1000 1)) ∧
 ((Qv (vI x1)) ∧
 ((Qv (Pt 1000 1)) ∧
 ((Qv (Pt 1000 1)) ∧
 ((Qv (Value.agg [(vI x3), (vI x4)].toArray)) ∧
 ((Qv (Pt 1000 3)) ∧
 ((Qv (Value.agg [(vI x1), (vI x2)].toArray)) ∧
 ((Qv (Pt 1000 1)) ∧
 True)))))))))))))))))) ∧
 (True ∧
 (k [(D.val (vI 0)), (D.val (vI n4))])))))))))))))))))))))) := by kernel_rfl
end Go.Proofs.G5v
