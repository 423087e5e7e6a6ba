/- Texts of the proof, put together: Gf7T2, AbsTab, AbsNum, AbsLow. -/
import Derived.Test.YtpjfmeijfkbfaaaP4
import Derived.Test.YtpjfmeijfkbfaaaP3
/- What is left to show of each function, written out; the kernel reckons it. -/
namespace Go.Proofs.G5f
open Go Go.Abs Go.Proofs
set_option maxRecDepth 100000
set_option linter.unusedVariables false
def copyS : List D → Option (List D) := fun ds => match ds with | [.sl n es cs] => some [.sl n es cs] | _ => none
def preF (C : Ct) : FuncId → Option Handler := fun g => if g == 135 then some (stateH (witAll 3 56 27)) else if g == 15 then some (fixH C copyInts) else if g == 107 then some (fixH C copyS) else if [12, 13, 67, 71, 68, 66, 118, 72, 18, 17, 70, 76, 14, 16, 19, 36, 22, 23, 96, 109, 130, 108, 106, 59, 60, 61, 20, 21, 74, 73, 27].contains g then some (saidH Try.prog C) else none
abbrev hF7 (C : Ct) : Handler := handlerX Try.prog (preF C) 12 6
abbrev hE (C : Ct) : Handler := handlerX Try.prog (fun _ => none) 12 6
def gFE (C : Ct) (L : AtLoop) (n0 : Nat) (c0 : Nat) (l0 : List Value) (k : List D → Prop) : Prop := wpFn Try.prog (hF7 C) L 0 67 #[.slice (some ⟨500, 0, none⟩) n0 c0] (heapOf [(500, .sym l0 false 1)]) (dataK k)
theorem gFE_text (C : Ct) (L : AtLoop) (n0 : Nat) (c0 : Nat) (l0 : List Go.Value) (k : List D → Prop) : gFE C L n0 c0 l0 k =
 (L 0 [(Prod.mk 5 (Go.Value.slice (Option.some (Go.Addr.mk 500 0 Option.none)) (n0) (c0))), (Prod.mk 6 (vI ((↑n0 : Int)))), (Prod.mk 7 (vI (0 : Int)))] [(Prod.mk 500 (AObj.sym (l0) false 1))]) := by kernel_rfl
abbrev zFE1 (n0 : Nat) (c1 : Nat) (x2 : Int) (x3 : Int) (l4 : List Value) : Slots × Blocks := ([(5, (Value.slice (some ⟨500, 0, none⟩) n0 c1)), (6, (Value.int .i64 x2)), (7, (Value.int .i64 x3))], [(500, (AObj.sym l4 false 1))])
def rFE1 (C : Ct) (L : AtLoop) (n0 : Nat) (c1 : Nat) (x2 : Int) (x3 : Int) (l4 : List Value) (B : Bx) (X : Xx) (k : List D → Prop) : Prop := wpRound Try.prog (hF7 C) L 67 0 [(5, (Value.slice (some ⟨500, 0, none⟩) n0 c1)), (6, (Value.int .i64 x2)), (7, (Value.int .i64 x3))] [(500, (AObj.sym l4 false 1))] B X (dataK k)
theorem rFE1_text (C : Ct) (L : AtLoop) (n0 : Nat) (c1 : Nat) (x2 : Int) (x3 : Int) (l4 : List Go.Value) (B : Bx) (X : Xx) (k : List D → Prop) : rFE1 C L n0 c1 x2 x3 l4 B X k =
 (bcase (decide (x3 < x2))
 (bcase (decide (0 ≤ x3))
 (bcase (decide (x3 < (↑n0 : Int)))
 (∃ n1 : Int,
 ((At (l4) (0 + Int.toNat x3 * 1) 1 [(vI n1)]) ∧
 (bcase (n1 != 0)
 (k [(D.val (vI n1))])
 (B [(Prod.mk 5 (Go.Value.slice (Option.some (Go.Addr.mk 500 0 Option.none)) (n0) (c1))), (Prod.mk 6 (vI x2)), (Prod.mk 7 (vI (IntKind.wrap .i64 (x3 + 1))))] [(Prod.mk 500 (AObj.sym (l4) false 1))]))))
 False)
 False)
 (X 0 [] [])) := by kernel_rfl
def nFE2 (C : Ct) (L : AtLoop) (k : List D → Prop) : Prop := wpNext Try.prog (hF7 C) L 67 0 .normal [] [] (dataK k)
theorem nFE2_text (C : Ct) (L : AtLoop) (k : List D → Prop) : nFE2 C L k =
 (k [(D.val (vI (0 : Int)))]) := by kernel_rfl
def gCC (C : Ct) (L : AtLoop) (x0 : Int) (x1 : Int) (x2 : Int) (k : List D → Prop) : Prop := wpFn Try.prog (hF7 C) L 0 68 #[.int .i64 x0, .int .i64 x1, .int .i64 x2] (heapOf []) (dataK k)
theorem gCC_text (C : Ct) (L : AtLoop) (x0 : Int) (x1 : Int) (x2 : Int) (k : List D → Prop) : gCC C L x0 x1 x2 k =
 (bcase (decide (x0 < x1))
 (k [(D.val (vI (10 : Int)))])
 (bcase (decide (x0 > x2))
 (k [(D.val (vI (8 : Int)))])
 (k [(D.val (vI (0 : Int)))]))) := by kernel_rfl
def gWi (C : Ct) (L : AtLoop) (x0 : Int) (x1 : Int) (x2 : Int) (k : List D → Prop) : Prop := wpFn Try.prog (hF7 C) L 0 23 #[.int .i64 x0, .int .i64 x1, .int .i64 x2] (heapOf []) (dataK k)
theorem gWi_text (C : Ct) (L : AtLoop) (x0 : Int) (x1 : Int) (x2 : Int) (k : List D → Prop) : gWi C L x0 x1 x2 k =
 (bcase (decide (x1 ≤ x0))
 (bcase (decide (x0 ≤ x2))
 (k [(D.val (Value.bool true))])
 (k [(D.val (Value.bool false))]))
 (k [(D.val (Value.bool false))])) := by kernel_rfl
def gSi (C : Ct) (L : AtLoop) (x0 : Int) (k : List D → Prop) : Prop := wpFn Try.prog (hF7 C) L 0 96 #[.int .i64 x0] (heapOf []) (dataK k)
theorem gSi_text (C : Ct) (L : AtLoop) (x0 : Int) (k : List D → Prop) : gSi C L x0 k =
 (k [(D.val (vI (if IntKind.wrap .i64 (0 - x0) > x0 then IntKind.wrap .i64 (0 - x0) else x0)))]) := by kernel_rfl
def gFl (C : Ct) (L : AtLoop) (x0 : Int) (x1 : Int) (k : List D → Prop) : Prop := wpFn Try.prog (hF7 C) L 0 109 #[.int .i64 x0, .int .i64 x1] (heapOf []) (dataK k)
theorem gFl_text (C : Ct) (L : AtLoop) (x0 : Int) (x1 : Int) (k : List D → Prop) : gFl C L x0 x1 k =
 (bcase (x1 != 0)
 (bcase (x1 != 0)
 (bcase (decide (Int.tmod x0 x1 < 0))
 (k [(D.val (vI (IntKind.wrap .i64 (IntKind.wrap .i64 (Int.tdiv x0 x1) - 1))))])
 (k [(D.val (vI (IntKind.wrap .i64 (Int.tdiv x0 x1))))]))
 False)
 False) := by kernel_rfl
def gPa (C : Ct) (L : AtLoop) (x0 : Int) (k : List D → Prop) : Prop := wpFn Try.prog (hF7 C) L 0 130 #[.int .i64 x0] (heapOf []) (dataK k)
theorem gPa_text (C : Ct) (L : AtLoop) (x0 : Int) (k : List D → Prop) : gPa C L x0 k =
 (bcase (decide (Int.tmod x0 1000 < 0))
 (k [(D.val (vI (IntKind.wrap .i64 (IntKind.wrap .i64 (Int.tdiv x0 1000) - 1))))])
 (k [(D.val (vI (IntKind.wrap .i64 (Int.tdiv x0 1000))))])) := by kernel_rfl
def gIn (C : Ct) (L : AtLoop) (n0 : Nat) (c0 : Nat) (l0 : List Value) (n1 : Nat) (c1 : Nat) (l1 : List Value) (k : List D → Prop) : Prop := wpFn Try.prog (hF7 C) L 0 36 #[.slice (some ⟨500, 0, none⟩) n0 c0, .slice (some ⟨501, 0, none⟩) n1 c1] (heapOf [(500, .sym l0 false 1), (501, .sym l1 false 1)]) (dataK k)
theorem gIn_text (C : Ct) (L : AtLoop) (n0 : Nat) (c0 : Nat) (l0 : List Go.Value) (n1 : Nat) (c1 : Nat) (l1 : List Go.Value) (k : List D → Prop) : gIn C L n0 c0 l0 n1 c1 l1 k =
 (bcase ((↑n0 : Int) != (↑n1 : Int))
 (k [(D.val (Value.bool false))])
 (L 0 [(Prod.mk 0 (Go.Value.slice (Option.some (Go.Addr.mk 500 0 Option.none)) (n0) (c0))), (Prod.mk 1 (Go.Value.slice (Option.some (Go.Addr.mk 501 0 Option.none)) (n1) (c1))), (Prod.mk 5 (vI (0 : Int)))] [(Prod.mk 500 (AObj.sym (l0) false 1)), (Prod.mk 501 (AObj.sym (l1) false 1))])) := by kernel_rfl
abbrev zIn1 (n0 : Nat) (c1 : Nat) (n2 : Nat) (c3 : Nat) (x4 : Int) (l5 : List Value) (l6 : List Value) : Slots × Blocks := ([(0, (Value.slice (some ⟨500, 0, none⟩) n0 c1)), (1, (Value.slice (some ⟨501, 0, none⟩) n2 c3)), (5, (Value.int .i64 x4))], [(500, (AObj.sym l5 false 1)), (501, (AObj.sym l6 false 1))])
def rIn1 (C : Ct) (L : AtLoop) (n0 : Nat) (c1 : Nat) (n2 : Nat) (c3 : Nat) (x4 : Int) (l5 : List Value) (l6 : List Value) (B : Bx) (X : Xx) (k : List D → Prop) : Prop := wpRound Try.prog (hF7 C) L 36 0 [(0, (Value.slice (some ⟨500, 0, none⟩) n0 c1)), (1, (Value.slice (some ⟨501, 0, none⟩) n2 c3)), (5, (Value.int .i64 x4))] [(500, (AObj.sym l5 false 1)), (501, (AObj.sym l6 false 1))] B X (dataK k)
theorem rIn1_text (C : Ct) (L : AtLoop) (n0 : Nat) (c1 : Nat) (n2 : Nat) (c3 : Nat) (x4 : Int) (l5 : List Go.Value) (l6 : List Go.Value) (B : Bx) (X : Xx) (k : List D → Prop) : rIn1 C L n0 c1 n2 c3 x4 l5 l6 B X k =
 (bcase (decide (x4 < (↑n0 : Int)))
 (bcase (decide (0 ≤ x4))
 (bcase (decide (x4 < (↑n0 : Int)))
 (∃ n1 : Int,
 ((At (l5) (0 + Int.toNat x4 * 1) 1 [(vI n1)]) ∧
 (bcase (decide (0 ≤ x4))
 (bcase (decide (x4 < (↑n2 : Int)))
 (∃ n3 : Int,
 ((At (l6) (0 + Int.toNat x4 * 1) 1 [(vI n3)]) ∧
 (bcase (n1 != n3)
 (((bcase (n1 != n3)
 ((Value.bool true) = (Value.bool true))
 ((Value.bool false) = (Value.bool true))) ∧
 ((∃ n4 : Int,
 ((At (l6) (0 + Int.toNat x4 * 1) 1 [(vI n4)]) ∧
 ((vI n4) = (vI n3)))) ∧
 ((bcase (decide (0 ≤ x4))
 (bcase (decide (x4 < (↑n2 : Int)))
 ((Go.Value.pointer (Option.some (Go.Addr.mk 501 (0 + Int.toNat x4 * 1) Option.none))) = (Go.Value.pointer (Option.some (Go.Addr.mk 501 (0 + Int.toNat x4 * 1) Option.none))))
 False)
 False) ∧
 (((vI x4) = (vI x4)) ∧
 (((Go.Value.slice (Option.some (Go.Addr.mk 501 0 Option.none)) (n2) (c3)) = (Go.Value.slice (Option.some (Go.Addr.mk 501 0 Option.none)) (n2) (c3))) ∧
 ((∃ n4 : Int,
 ((At (l5) (0 + Int.toNat x4 * 1) 1 [(vI n4)]) ∧
 ((vI n4) = (vI n1)))) ∧
 ((bcase (decide (0 ≤ x4))
 (bcase (decide (x4 < (↑n0 : Int)))
 ((Go.Value.pointer (Option.some (Go.Addr.mk 500 (0 + Int.toNat x4 * 1) Option.none))) = (Go.Value.pointer (Option.some (Go.Addr.mk 500 (0 + Int.toNat x4 * 1) Option.none))))
 False)
 False) ∧
 (((vI x4) = (vI x4)) ∧
 (((Go.Value.slice (Option.some (Go.Addr.mk 500 0 Option.none)) (n0) (c1)) = (Go.Value.slice (Option.some (Go.Addr.mk 500 0 Option.none)) (n0) (c1))) ∧
 True))))))))) ∧
 (k [(D.val (Value.bool false))]))
 (((bcase (n1 != n3)
 ((Value.bool true) = (Value.bool false))
 ((Value.bool false) = (Value.bool false))) ∧
 ((∃ n4 : Int,
 ((At (l6) (0 + Int.toNat x4 * 1) 1 [(vI n4)]) ∧
 ((vI n4) = (vI n3)))) ∧
 ((bcase (decide (0 ≤ x4))
 (bcase (decide (x4 < (↑n2 : Int)))
 ((Go.Value.pointer (Option.some (Go.Addr.mk 501 (0 + Int.toNat x4 * 1) Option.none))) = (Go.Value.pointer (Option.some (Go.Addr.mk 501 (0 + Int.toNat x4 * 1) Option.none))))
 False)
 False) ∧
 (((vI x4) = (vI x4)) ∧
 (((Go.Value.slice (Option.some (Go.Addr.mk 501 0 Option.none)) (n2) (c3)) = (Go.Value.slice (Option.some (Go.Addr.mk 501 0 Option.none)) (n2) (c3))) ∧
 ((∃ n4 : Int,
 ((At (l5) (0 + Int.toNat x4 * 1) 1 [(vI n4)]) ∧
 ((vI n4) = (vI n1)))) ∧
 ((bcase (decide (0 ≤ x4))
 (bcase (decide (x4 < (↑n0 : Int)))
 ((Go.Value.pointer (Option.some (Go.Addr.mk 500 (0 + Int.toNat x4 * 1) Option.none))) = (Go.Value.pointer (Option.some (Go.Addr.mk 500 (0 + Int.toNat x4 * 1) Option.none))))
 False)
 False) ∧
 (((vI x4) = (vI x4)) ∧
 (((Go.Value.slice (Option.some (Go.Addr.mk 500 0 Option.none)) (n0) (c1)) = (Go.Value.slice (Option.some (Go.Addr.mk 500 0 Option.none)) (n0) (c1))) ∧
 True))))))))) ∧
 (B [(Prod.mk 0 (Go.Value.slice (Option.some (Go.Addr.mk 500 0 Option.none)) (n0) (c1))), (Prod.mk 1 (Go.Value.slice (Option.some (Go.Addr.mk 501 0 Option.none)) (n2) (c3))), (Prod.mk 5 (vI (IntKind.wrap .i64 (x4 + 1))))] [(Prod.mk 500 (AObj.sym (l5) false 1)), (Prod.mk 501 (AObj.sym (l6) false 1))])))))
 False)
 False)))
 False)
 False)
 (X 0 [] [])) := by kernel_rfl
def nIn2 (C : Ct) (L : AtLoop) (k : List D → Prop) : Prop := wpNext Try.prog (hF7 C) L 36 0 .normal [] [] (dataK k)
theorem nIn2_text (C : Ct) (L : AtLoop) (k : List D → Prop) : nIn2 C L k =
 (k [(D.val (Value.bool true))]) := by kernel_rfl
def gCl (C : Ct) (L : AtLoop) (n0 : Nat) (c0 : Nat) (l0 : List Value) (k : List D → Prop) : Prop := wpFn Try.prog (hE C) L 0 107 #[.slice (some ⟨500, 0, none⟩) n0 c0] (heapOf [(500, .sym l0 false 1)]) (dataK k)
theorem gCl_text (C : Ct) (L : AtLoop) (n0 : Nat) (c0 : Nat) (l0 : List Go.Value) (k : List D → Prop) : gCl C L n0 c0 l0 k =
 (bcase (decide (0 + n0 * 1 ≤ List.length l0))
 (bcase (n0 == 0)
 (((0 = 0) ∧
 (0 = 0)) ∧
 (k [(D.sl 0 1 [])]))
 (bcase (decide (0 < 0 + n0))
 (bcase (decide ((2 * (0 + n0) + 768) * 8 ≤ 281474976710656))
 (bcase (decide (0 + n0 ≤ 1099511627776))
 ((((0 + n0) = (0 + n0)) ∧
 ((List.length (List.take 0 (List.drop 0 []) ++ List.take (n0 * 1) (List.drop 0 l0))) = ((0 + n0) * 1))) ∧
 (k [(D.sl (0 + n0) 1 ([] ++ (List.take (n0 * 1) (List.drop 0 l0))))]))
 False)
 False)
 False))
 False) := by kernel_rfl
def gCI (C : Ct) (L : AtLoop) (n0 : Nat) (c0 : Nat) (l0 : List Value) (k : List D → Prop) : Prop := wpFn Try.prog (hE C) L 0 15 #[.slice (some ⟨500, 0, none⟩) n0 c0] (heapOf [(500, .sym l0 false 1)]) (dataK k)
theorem gCI_text (C : Ct) (L : AtLoop) (n0 : Nat) (c0 : Nat) (l0 : List Go.Value) (k : List D → Prop) : gCI C L n0 c0 l0 k =
 (bcase (decide (0 + n0 * 1 ≤ List.length l0))
 (bcase (n0 == 0)
 (((0 = 0) ∧
 (0 = 0)) ∧
 (k [(D.sl 0 1 [])]))
 (bcase (decide (0 < 0 + n0))
 (bcase (decide ((2 * (0 + n0) + 768) * 8 ≤ 281474976710656))
 (bcase (decide (0 + n0 ≤ 1099511627776))
 ((((0 + n0) = (0 + n0)) ∧
 ((List.length (List.take 0 (List.drop 0 []) ++ List.take (n0 * 1) (List.drop 0 l0))) = ((0 + n0) * 1))) ∧
 (k [(D.sl (0 + n0) 1 ([] ++ (List.take (n0 * 1) (List.drop 0 l0))))]))
 False)
 False)
 False))
 False) := by kernel_rfl
def gCIn (C : Ct) (L : AtLoop) (k : List D → Prop) : Prop := wpFn Try.prog (hE C) L 0 15 #[.slice none 0 0] (heapOf []) (dataK k)
theorem gCIn_text (C : Ct) (L : AtLoop) (k : List D → Prop) : gCIn C L k =
 (((0 = 0) ∧
 (0 = 0)) ∧
 (k [(D.sl 0 1 [])])) := by kernel_rfl
def gDv (C : Ct) (L : AtLoop) (x0 : Int) (x1 : Int) (k : List D → Prop) : Prop := wpFn Try.prog (hE C) L 0 118 #[.int .i64 x0, .int .i64 x1] (heapOf []) (dataK k)
theorem gDv_text (C : Ct) (L : AtLoop) (x0 : Int) (x1 : Int) (k : List D → Prop) : gDv C L x0 x1 k =
 (L 0 [(Prod.mk 0 (vI x0)), (Prod.mk 1 (vI x1))] []) := by kernel_rfl
abbrev zDv1 (x0 : Int) (x1 : Int) : Slots × Blocks := ([(0, (Value.int .i64 x0)), (1, (Value.int .i64 x1))], [])
def rDv1 (C : Ct) (L : AtLoop) (x0 : Int) (x1 : Int) (B : Bx) (X : Xx) (k : List D → Prop) : Prop := wpRound Try.prog (hE C) L 118 0 [(0, (Value.int .i64 x0)), (1, (Value.int .i64 x1))] [] B X (dataK k)
theorem rDv1_text (C : Ct) (L : AtLoop) (x0 : Int) (x1 : Int) (B : Bx) (X : Xx) (k : List D → Prop) : rDv1 C L x0 x1 B X k =
 (bcase (x0 != 0)
 (bcase (x0 != 0)
 (B [(Prod.mk 0 (vI (Int.tmod x1 x0))), (Prod.mk 1 (vI x0))] [])
 False)
 (X 0 [(Prod.mk 1 (vI x1))] [])) := by kernel_rfl
def nDv2 (C : Ct) (L : AtLoop) (x0 : Int) (k : List D → Prop) : Prop := wpNext Try.prog (hE C) L 118 0 .normal [(1, (Value.int .i64 x0))] [] (dataK k)
theorem nDv2_text (C : Ct) (L : AtLoop) (x0 : Int) (k : List D → Prop) : nDv2 C L x0 k =
 (k [(D.val (vI (if IntKind.wrap .i64 (0 - x0) > x0 then IntKind.wrap .i64 (0 - x0) else x0)))]) := by kernel_rfl
def gLT (C : Ct) (L : AtLoop) (x0 : Int) (x1 : Int) (k : List D → Prop) : Prop := wpFn Try.prog (hF7 C) L 0 66 #[.int .i64 x0, .int .i64 x1] (heapOf []) (dataK k)
theorem gLT_text (C : Ct) (L : AtLoop) (x0 : Int) (x1 : Int) (k : List D → Prop) : gLT C L x0 x1 k =
 (∃ n1 : Int,
 ((Says C 118 [(D.val (vI x0)), (D.val (vI x1))] [(D.val (vI n1))]) ∧
 (bcase (n1 != 0)
 (bcase (n1 != 0)
 ((((Go.Value.agg [(vI (IntKind.wrap .i64 (Int.tdiv x0 n1))), (vI (IntKind.wrap .i64 (Int.tdiv x1 n1)))].toArray) = (Go.Value.agg [(vI (IntKind.wrap .i64 (Int.tdiv x0 n1))), (vI (IntKind.wrap .i64 (Int.tdiv x1 n1)))].toArray)) ∧
 ((bcase (n1 != 0)
 ((vI (IntKind.wrap .i64 (Int.tdiv x1 n1))) = (vI (IntKind.wrap .i64 (Int.tdiv x1 n1))))
 False) ∧
 (((vI n1) = (vI n1)) ∧
 (((vI x1) = (vI x1)) ∧
 ((bcase (n1 != 0)
 ((vI (IntKind.wrap .i64 (Int.tdiv x0 n1))) = (vI (IntKind.wrap .i64 (Int.tdiv x0 n1))))
 False) ∧
 (((vI n1) = (vI n1)) ∧
 (((vI x0) = (vI x0)) ∧
 True))))))) ∧
 (True ∧
 (k [(D.agg [(D.val (vI (IntKind.wrap .i64 (Int.tdiv x0 n1)))), (D.val (vI (IntKind.wrap .i64 (Int.tdiv x1 n1))))])])))
 False)
 False))) := by kernel_rfl
def gGc (C : Ct) (L : AtLoop) (x0 : Int) (x1 : Int) (k : List D → Prop) : Prop := wpFn Try.prog (hF7 C) L 0 76 #[.int .i64 x0, .int .i64 x1] (heapOf []) (dataK k)
theorem gGc_text (C : Ct) (L : AtLoop) (x0 : Int) (x1 : Int) (k : List D → Prop) : gGc C L x0 x1 k =
 (L 0 [(Prod.mk 0 (vI x0)), (Prod.mk 1 (vI x1))] []) := by kernel_rfl
abbrev zGc1 (x0 : Int) (x1 : Int) : Slots × Blocks := ([(0, (Value.int .i64 x0)), (1, (Value.int .i64 x1))], [])
def rGc1 (C : Ct) (L : AtLoop) (x0 : Int) (x1 : Int) (B : Bx) (X : Xx) (k : List D → Prop) : Prop := wpRound Try.prog (hF7 C) L 76 0 [(0, (Value.int .i64 x0)), (1, (Value.int .i64 x1))] [] B X (dataK k)
theorem rGc1_text (C : Ct) (L : AtLoop) (x0 : Int) (x1 : Int) (B : Bx) (X : Xx) (k : List D → Prop) : rGc1 C L x0 x1 B X k =
 (bcase (x1 != 0)
 (bcase (x1 != 0)
 (((bcase (x1 != 0)
 ((vI (Int.tmod x0 x1)) = (vI (Int.tmod x0 x1)))
 False) ∧
 (((vI x1) = (vI x1)) ∧
 (((vI x0) = (vI x0)) ∧
 (((vI x1) = (vI x1)) ∧
 True)))) ∧
 (((bcase (x1 != 0)
 ((vI (Int.tmod x0 x1)) = (vI (Int.tmod x0 x1)))
 False) ∧
 (((vI x1) = (vI x1)) ∧
 True)) ∧
 (True ∧
 (B [(Prod.mk 0 (vI x1)), (Prod.mk 1 (vI (Int.tmod x0 x1)))] []))))
 False)
 (X 0 [(Prod.mk 0 (vI x0))] [])) := by kernel_rfl
def nGc2 (C : Ct) (L : AtLoop) (x0 : Int) (k : List D → Prop) : Prop := wpNext Try.prog (hF7 C) L 76 0 .normal [(0, (Value.int .i64 x0))] [] (dataK k)
theorem nGc2_text (C : Ct) (L : AtLoop) (x0 : Int) (k : List D → Prop) : nGc2 C L x0 k =
 (∃ n1 : Int,
 ((Says C 96 [(D.val (vI x0))] [(D.val (vI n1))]) ∧
 (k [(D.val (vI n1))]))) := by kernel_rfl
def gLo (C : Ct) (L : AtLoop) (x0 : Int) (x1 : Int) (k : List D → Prop) : Prop := wpFn Try.prog (hF7 C) L 0 70 #[.int .i64 x0, .int .i64 x1] (heapOf []) (dataK k)
theorem gLo_text (C : Ct) (L : AtLoop) (x0 : Int) (x1 : Int) (k : List D → Prop) : gLo C L x0 x1 k =
 (∃ n1 : Int,
 ((Says C 76 [(D.val (vI x0)), (D.val (vI x1))] [(D.val (vI n1))]) ∧
 (bcase (decide (x1 < 0))
 (bcase (IntKind.wrap .i64 (0 - n1) != 0)
 (bcase (IntKind.wrap .i64 (0 - n1) != 0)
 ((((Go.Value.agg [(vI (IntKind.wrap .i64 (Int.tdiv x0 (IntKind.wrap .i64 (0 - n1))))), (vI (IntKind.wrap .i64 (Int.tdiv x1 (IntKind.wrap .i64 (0 - n1)))))].toArray) = (Go.Value.agg [(vI (IntKind.wrap .i64 (Int.tdiv x0 (IntKind.wrap .i64 (0 - n1))))), (vI (IntKind.wrap .i64 (Int.tdiv x1 (IntKind.wrap .i64 (0 - n1)))))].toArray)) ∧
 ((bcase (IntKind.wrap .i64 (0 - n1) != 0)
 ((vI (IntKind.wrap .i64 (Int.tdiv x1 (IntKind.wrap .i64 (0 - n1))))) = (vI (IntKind.wrap .i64 (Int.tdiv x1 (IntKind.wrap .i64 (0 - n1))))))
 False) ∧
 (((vI (IntKind.wrap .i64 (0 - n1))) = (vI (IntKind.wrap .i64 (0 - n1)))) ∧
 (((vI x1) = (vI x1)) ∧
 ((bcase (IntKind.wrap .i64 (0 - n1) != 0)
 ((vI (IntKind.wrap .i64 (Int.tdiv x0 (IntKind.wrap .i64 (0 - n1))))) = (vI (IntKind.wrap .i64 (Int.tdiv x0 (IntKind.wrap .i64 (0 - n1))))))
 False) ∧
 (((vI (IntKind.wrap .i64 (0 - n1))) = (vI (IntKind.wrap .i64 (0 - n1)))) ∧
 (((vI x0) = (vI x0)) ∧
 True))))))) ∧
 (True ∧
 (k [(D.agg [(D.val (vI (IntKind.wrap .i64 (Int.tdiv x0 (IntKind.wrap .i64 (0 - n1)))))), (D.val (vI (IntKind.wrap .i64 (Int.tdiv x1 (IntKind.wrap .i64 (0 - n1))))))])])))
 False)
 False)
 (bcase (n1 != 0)
 (bcase (n1 != 0)
 ((((Go.Value.agg [(vI (IntKind.wrap .i64 (Int.tdiv x0 n1))), (vI (IntKind.wrap .i64 (Int.tdiv x1 n1)))].toArray) = (Go.Value.agg [(vI (IntKind.wrap .i64 (Int.tdiv x0 n1))), (vI (IntKind.wrap .i64 (Int.tdiv x1 n1)))].toArray)) ∧
 ((bcase (n1 != 0)
 ((vI (IntKind.wrap .i64 (Int.tdiv x1 n1))) = (vI (IntKind.wrap .i64 (Int.tdiv x1 n1))))
 False) ∧
 (((vI n1) = (vI n1)) ∧
 (((vI x1) = (vI x1)) ∧
 ((bcase (n1 != 0)
 ((vI (IntKind.wrap .i64 (Int.tdiv x0 n1))) = (vI (IntKind.wrap .i64 (Int.tdiv x0 n1))))
 False) ∧
 (((vI n1) = (vI n1)) ∧
 (((vI x0) = (vI x0)) ∧
 True))))))) ∧
 (True ∧
 (k [(D.agg [(D.val (vI (IntKind.wrap .i64 (Int.tdiv x0 n1)))), (D.val (vI (IntKind.wrap .i64 (Int.tdiv x1 n1))))])])))
 False)
 False)))) := by kernel_rfl
def gHe (C : Ct) (L : AtLoop) (n0 : Nat) (c0 : Nat) (l0 : List Value) (x1 : Int) (x2 : Int) (x3 : Int) (k : List D → Prop) : Prop := jFn Try.prog (hF7 C) L [] 108 #[.slice (some ⟨500, 0, none⟩) n0 c0, .agg #[.int .i64 x1, .int .i64 x2, .int .i64 x3]] (heapOf [(500, .sym l0 false 1)]) (dataK k)
theorem gHe_text (C : Ct) (L : AtLoop) (n0 : Nat) (c0 : Nat) (l0 : List Go.Value) (x1 : Int) (x2 : Int) (x3 : Int) (k : List D → Prop) : gHe C L n0 c0 l0 x1 x2 x3 k =
 (L 0 [(Prod.mk 0 (Go.Value.slice (Option.some (Go.Addr.mk 500 0 Option.none)) (n0) (c0))), (Prod.mk 3 (Go.Value.pointer (Option.some (Go.Addr.mk 1000 0 Option.none)))), (Prod.mk 5 (Go.Value.slice Option.none 0 0)), (Prod.mk 11 (Go.Value.slice (Option.some (Go.Addr.mk 500 0 Option.none)) (n0) (c0))), (Prod.mk 12 (vI ((↑n0 : Int)))), (Prod.mk 13 (vI (0 : Int)))] [(Prod.mk 500 (AObj.sym (l0) false 1)), (Prod.mk 1000 (AObj.cells [(vI x1), (vI x2), (vI x3)] 101 false 1))]) := by kernel_rfl
abbrev zHe1 (n0 : Nat) (c1 : Nat) (n2 : Nat) (c3 : Nat) (x4 : Int) (x5 : Int) (l6 : List Value) (x7 : Int) (x8 : Int) (x9 : Int) : Slots × Blocks := ([(0, (Value.slice (some ⟨500, 0, none⟩) n0 c1)), (3, (Value.pointer (some ⟨1000, 0, none⟩))), (5, (Value.slice none 0 0)), (11, (Value.slice (some ⟨500, 0, none⟩) n2 c3)), (12, (Value.int .i64 x4)), (13, (Value.int .i64 x5))], [(500, (AObj.sym l6 false 1)), (1000, (AObj.cells [(Value.int .i64 x7), (Value.int .i64 x8), (Value.int .i64 x9)] 101 false 1))])
def rHe1 (C : Ct) (L : AtLoop) (n0 : Nat) (c1 : Nat) (n2 : Nat) (c3 : Nat) (x4 : Int) (x5 : Int) (l6 : List Value) (x7 : Int) (x8 : Int) (x9 : Int) (B : Bx) (X : Xx) (k : List D → Prop) : Prop := jRound Try.prog (hF7 C) L [] 108 0 [(0, (Value.slice (some ⟨500, 0, none⟩) n0 c1)), (3, (Value.pointer (some ⟨1000, 0, none⟩))), (5, (Value.slice none 0 0)), (11, (Value.slice (some ⟨500, 0, none⟩) n2 c3)), (12, (Value.int .i64 x4)), (13, (Value.int .i64 x5))] [(500, (AObj.sym l6 false 1)), (1000, (AObj.cells [(Value.int .i64 x7), (Value.int .i64 x8), (Value.int .i64 x9)] 101 false 1))] B X (dataK k)
theorem rHe1_text (C : Ct) (L : AtLoop) (n0 : Nat) (c1 : Nat) (n2 : Nat) (c3 : Nat) (x4 : Int) (x5 : Int) (l6 : List Go.Value) (x7 : Int) (x8 : Int) (x9 : Int) (B : Bx) (X : Xx) (k : List D → Prop) : rHe1 C L n0 c1 n2 c3 x4 x5 l6 x7 x8 x9 B X k =
 (bcase (decide (x5 < x4))
 (bcase (decide (0 ≤ x5))
 (bcase (decide (x5 < (↑n2 : Int)))
 (∃ n1 : Int,
 ((At (l6) (0 + Int.toNat x5 * 1) 1 [(vI n1)]) ∧
 (bcase (decide (0 ≤ if (↑n0 : Int) < IntKind.wrap .i64 (x5 + 2) then (↑n0 : Int) else IntKind.wrap .i64 (x5 + 2)))
 (bcase (decide ((if (↑n0 : Int) < IntKind.wrap .i64 (x5 + 2) then (↑n0 : Int) else IntKind.wrap .i64 (x5 + 2)) ≤ (↑c1 : Int)))
 (bcase (decide (0 ≤ if 0 > IntKind.wrap .i64 (x5 - 1) then 0 else IntKind.wrap .i64 (x5 - 1)))
 (bcase (decide ((if 0 > IntKind.wrap .i64 (x5 - 1) then 0 else IntKind.wrap .i64 (x5 - 1)) ≤ (↑(Int.toNat (if (↑n0 : Int) < IntKind.wrap .i64 (x5 + 2) then (↑n0 : Int) else IntKind.wrap .i64 (x5 + 2))) : Int)))
 (bcase (c1 == Int.toNat (if 0 > IntKind.wrap .i64 (x5 - 1) then 0 else IntKind.wrap .i64 (x5 - 1)))
 (L 2 [(Prod.mk 0 (Go.Value.slice (Option.some (Go.Addr.mk 500 0 Option.none)) (n0) (c1))), (Prod.mk 3 (Go.Value.pointer (Option.some (Go.Addr.mk 1000 0 Option.none)))), (Prod.mk 5 (Go.Value.slice Option.none 0 0)), (Prod.mk 7 (vI n1)), (Prod.mk 8 (vI (IntKind.wrap .i64 (IntKind.wrap .i64 (x7 - n1) * x8)))), (Prod.mk 11 (Go.Value.slice (Option.some (Go.Addr.mk 500 0 Option.none)) (n2) (c3))), (Prod.mk 12 (vI x4)), (Prod.mk 13 (vI x5)), (Prod.mk 34 (Go.Value.slice (Option.some (Go.Addr.mk 500 0 Option.none)) (Int.toNat (if (↑n0 : Int) < IntKind.wrap .i64 (x5 + 2) then (↑n0 : Int) else IntKind.wrap .i64 (x5 + 2)) - Int.toNat (if 0 > IntKind.wrap .i64 (x5 - 1) then 0 else IntKind.wrap .i64 (x5 - 1))) (c1 - Int.toNat (if 0 > IntKind.wrap .i64 (x5 - 1) then 0 else IntKind.wrap .i64 (x5 - 1))))), (Prod.mk 35 (vI ((↑(Int.toNat (if (↑n0 : Int) < IntKind.wrap .i64 (x5 + 2) then (↑n0 : Int) else IntKind.wrap .i64 (x5 + 2)) - Int.toNat (if 0 > IntKind.wrap .i64 (x5 - 1) then 0 else IntKind.wrap .i64 (x5 - 1))) : Int)))), (Prod.mk 36 (vI (0 : Int)))] [(Prod.mk 500 (AObj.sym (l6) false 1)), (Prod.mk 1000 (AObj.cells [(vI x7), (vI x8), (vI x9)] 101 false 1))])
 (L 2 [(Prod.mk 0 (Go.Value.slice (Option.some (Go.Addr.mk 500 0 Option.none)) (n0) (c1))), (Prod.mk 3 (Go.Value.pointer (Option.some (Go.Addr.mk 1000 0 Option.none)))), (Prod.mk 5 (Go.Value.slice Option.none 0 0)), (Prod.mk 7 (vI n1)), (Prod.mk 8 (vI (IntKind.wrap .i64 (IntKind.wrap .i64 (x7 - n1) * x8)))), (Prod.mk 11 (Go.Value.slice (Option.some (Go.Addr.mk 500 0 Option.none)) (n2) (c3))), (Prod.mk 12 (vI x4)), (Prod.mk 13 (vI x5)), (Prod.mk 34 (Go.Value.slice (Option.some (Go.Addr.mk 500 (0 + Int.toNat (if 0 > IntKind.wrap .i64 (x5 - 1) then 0 else IntKind.wrap .i64 (x5 - 1)) * 1) Option.none)) (Int.toNat (if (↑n0 : Int) < IntKind.wrap .i64 (x5 + 2) then (↑n0 : Int) else IntKind.wrap .i64 (x5 + 2)) - Int.toNat (if 0 > IntKind.wrap .i64 (x5 - 1) then 0 else IntKind.wrap .i64 (x5 - 1))) (c1 - Int.toNat (if 0 > IntKind.wrap .i64 (x5 - 1) then 0 else IntKind.wrap .i64 (x5 - 1))))), (Prod.mk 35 (vI ((↑(Int.toNat (if (↑n0 : Int) < IntKind.wrap .i64 (x5 + 2) then (↑n0 : Int) else IntKind.wrap .i64 (x5 + 2)) - Int.toNat (if 0 > IntKind.wrap .i64 (x5 - 1) then 0 else IntKind.wrap .i64 (x5 - 1))) : Int)))), (Prod.mk 36 (vI (0 : Int)))] [(Prod.mk 500 (AObj.sym (l6) false 1)), (Prod.mk 1000 (AObj.cells [(vI x7), (vI x8), (vI x9)] 101 false 1))]))
 False)
 False)
 False)
 False)))
 False)
 False)
 (X 0 [(Prod.mk 5 (Go.Value.slice Option.none 0 0))] [])) := by kernel_rfl
abbrev zHe3 (n0 : Nat) (c1 : Nat) (x2 : Int) (x3 : Int) (n4 : Nat) (c5 : Nat) (x6 : Int) (x7 : Int) (o8 : Nat) (n9 : Nat) (c10 : Nat) (x11 : Int) (x12 : Int) (l13 : List Value) (x14 : Int) (x15 : Int) (x16 : Int) : Slots × Blocks := ([(0, (Value.slice (some ⟨500, 0, none⟩) n0 c1)), (3, (Value.pointer (some ⟨1000, 0, none⟩))), (5, (Value.slice none 0 0)), (7, (Value.int .i64 x2)), (8, (Value.int .i64 x3)), (11, (Value.slice (some ⟨500, 0, none⟩) n4 c5)), (12, (Value.int .i64 x6)), (13, (Value.int .i64 x7)), (34, (Value.slice (some ⟨500, o8, none⟩) n9 c10)), (35, (Value.int .i64 x11)), (36, (Value.int .i64 x12))], [(500, (AObj.sym l13 false 1)), (1000, (AObj.cells [(Value.int .i64 x14), (Value.int .i64 x15), (Value.int .i64 x16)] 101 false 1))])
def rHe3 (C : Ct) (L : AtLoop) (n0 : Nat) (c1 : Nat) (x2 : Int) (x3 : Int) (n4 : Nat) (c5 : Nat) (x6 : Int) (x7 : Int) (o8 : Nat) (n9 : Nat) (c10 : Nat) (x11 : Int) (x12 : Int) (l13 : List Value) (x14 : Int) (x15 : Int) (x16 : Int) (B : Bx) (X : Xx) (k : List D → Prop) : Prop := jRound2 Try.prog (hF7 C) L [] 108 0 2 [(0, (Value.slice (some ⟨500, 0, none⟩) n0 c1)), (3, (Value.pointer (some ⟨1000, 0, none⟩))), (5, (Value.slice none 0 0)), (7, (Value.int .i64 x2)), (8, (Value.int .i64 x3)), (11, (Value.slice (some ⟨500, 0, none⟩) n4 c5)), (12, (Value.int .i64 x6)), (13, (Value.int .i64 x7)), (34, (Value.slice (some ⟨500, o8, none⟩) n9 c10)), (35, (Value.int .i64 x11)), (36, (Value.int .i64 x12))] [(500, (AObj.sym l13 false 1)), (1000, (AObj.cells [(Value.int .i64 x14), (Value.int .i64 x15), (Value.int .i64 x16)] 101 false 1))] B X (dataK k)
theorem rHe3_text (C : Ct) (L : AtLoop) (n0 : Nat) (c1 : Nat) (x2 : Int) (x3 : Int) (n4 : Nat) (c5 : Nat) (x6 : Int) (x7 : Int) (o8 : Nat) (n9 : Nat) (c10 : Nat) (x11 : Int) (x12 : Int) (l13 : List Go.Value) (x14 : Int) (x15 : Int) (x16 : Int) (B : Bx) (X : Xx) (k : List D → Prop) : rHe3 C L n0 c1 x2 x3 n4 c5 x6 x7 o8 n9 c10 x11 x12 l13 x14 x15 x16 B X k =
 (bcase (decide (x12 < x11))
 (bcase (decide (0 ≤ x12))
 (bcase (decide (x12 < (↑n9 : Int)))
 (∃ n1 : Int,
 ((At (l13) (o8 + Int.toNat x12 * 1) 1 [(vI n1)]) ∧
 (B [(Prod.mk 0 (Go.Value.slice (Option.some (Go.Addr.mk 500 0 Option.none)) (n0) (c1))), (Prod.mk 3 (Go.Value.pointer (Option.some (Go.Addr.mk 1000 0 Option.none)))), (Prod.mk 5 (Go.Value.slice Option.none 0 0)), (Prod.mk 7 (vI x2)), (Prod.mk 8 (vI (IntKind.wrap .i64 (x3 + IntKind.wrap .i64 (IntKind.wrap .i64 (n1 - x2) * x16))))), (Prod.mk 11 (Go.Value.slice (Option.some (Go.Addr.mk 500 0 Option.none)) (n4) (c5))), (Prod.mk 12 (vI x6)), (Prod.mk 13 (vI x7)), (Prod.mk 34 (Go.Value.slice (Option.some (Go.Addr.mk 500 (o8) Option.none)) (n9) (c10))), (Prod.mk 35 (vI x11)), (Prod.mk 36 (vI (IntKind.wrap .i64 (x12 + 1))))] [(Prod.mk 500 (AObj.sym (l13) false 1)), (Prod.mk 1000 (AObj.cells [(vI x14), (vI x15), (vI x16)] 101 false 1))])))
 False)
 False)
 (X 2 [(Prod.mk 0 (Go.Value.slice (Option.some (Go.Addr.mk 500 0 Option.none)) (n0) (c1))), (Prod.mk 3 (Go.Value.pointer (Option.some (Go.Addr.mk 1000 0 Option.none)))), (Prod.mk 5 (Go.Value.slice Option.none 0 0)), (Prod.mk 7 (vI x2)), (Prod.mk 8 (vI x3)), (Prod.mk 11 (Go.Value.slice (Option.some (Go.Addr.mk 500 0 Option.none)) (n4) (c5))), (Prod.mk 12 (vI x6)), (Prod.mk 13 (vI x7))] [(Prod.mk 500 (AObj.sym (l13) false 1)), (Prod.mk 1000 (AObj.cells [(vI x14), (vI x15), (vI x16)] 101 false 1))])) := by kernel_rfl
def iHe5 (C : Ct) (L : AtLoop) (n0 : Nat) (c1 : Nat) (x2 : Int) (x3 : Int) (n4 : Nat) (c5 : Nat) (x6 : Int) (x7 : Int) (l8 : List Value) (x9 : Int) (x10 : Int) (x11 : Int) (B : Bx) (X : Xx) (k : List D → Prop) : Prop := jIn Try.prog (hF7 C) L [] 108 0 2 .normal [(0, (Value.slice (some ⟨500, 0, none⟩) n0 c1)), (3, (Value.pointer (some ⟨1000, 0, none⟩))), (5, (Value.slice none 0 0)), (7, (Value.int .i64 x2)), (8, (Value.int .i64 x3)), (11, (Value.slice (some ⟨500, 0, none⟩) n4 c5)), (12, (Value.int .i64 x6)), (13, (Value.int .i64 x7))] [(500, (AObj.sym l8 false 1)), (1000, (AObj.cells [(Value.int .i64 x9), (Value.int .i64 x10), (Value.int .i64 x11)] 101 false 1))] B X (dataK k)
theorem iHe5_text (C : Ct) (L : AtLoop) (n0 : Nat) (c1 : Nat) (x2 : Int) (x3 : Int) (n4 : Nat) (c5 : Nat) (x6 : Int) (x7 : Int) (l8 : List Go.Value) (x9 : Int) (x10 : Int) (x11 : Int) (B : Bx) (X : Xx) (k : List D → Prop) : iHe5 C L n0 c1 x2 x3 n4 c5 x6 x7 l8 x9 x10 x11 B X k =
 (∃ n1 : Int,
 ((Says C 130 [(D.val (vI x3))] [(D.val (vI n1))]) ∧
 (B [(Prod.mk 0 (Go.Value.slice (Option.some (Go.Addr.mk 500 0 Option.none)) (n0) (c1))), (Prod.mk 3 (Go.Value.pointer (Option.some (Go.Addr.mk 1000 0 Option.none)))), (Prod.mk 5 (Go.Value.slice (Option.some (Go.Addr.mk 1001 0 Option.none)) 1 1)), (Prod.mk 11 (Go.Value.slice (Option.some (Go.Addr.mk 500 0 Option.none)) (n4) (c5))), (Prod.mk 12 (vI x6)), (Prod.mk 13 (vI (IntKind.wrap .i64 (x7 + 1))))] [(Prod.mk 500 (AObj.sym (l8) false 1)), (Prod.mk 1000 (AObj.cells [(vI x9), (vI x10), (vI x11)] 101 false 1)), (Prod.mk 1001 (AObj.sym [(vI (IntKind.wrap .i64 (x2 + n1)))] true 1))]))) := by kernel_rfl
abbrev zHe6 (n0 : Nat) (c1 : Nat) (n2 : Nat) (n3 : Nat) (c4 : Nat) (x5 : Int) (x6 : Int) (l7 : List Value) (x8 : Int) (x9 : Int) (x10 : Int) (l11 : List Value) : Slots × Blocks := ([(0, (Value.slice (some ⟨500, 0, none⟩) n0 c1)), (3, (Value.pointer (some ⟨1000, 0, none⟩))), (5, (Value.slice (some ⟨1001, 0, none⟩) n2 n2)), (11, (Value.slice (some ⟨500, 0, none⟩) n3 c4)), (12, (Value.int .i64 x5)), (13, (Value.int .i64 x6))], [(500, (AObj.sym l7 false 1)), (1000, (AObj.cells [(Value.int .i64 x8), (Value.int .i64 x9), (Value.int .i64 x10)] 101 false 1)), (1001, (AObj.sym l11 true 1))])
def rHe6 (C : Ct) (L : AtLoop) (n0 : Nat) (c1 : Nat) (n2 : Nat) (n3 : Nat) (c4 : Nat) (x5 : Int) (x6 : Int) (l7 : List Value) (x8 : Int) (x9 : Int) (x10 : Int) (l11 : List Value) (B : Bx) (X : Xx) (k : List D → Prop) : Prop := jRound Try.prog (hF7 C) L [] 108 0 [(0, (Value.slice (some ⟨500, 0, none⟩) n0 c1)), (3, (Value.pointer (some ⟨1000, 0, none⟩))), (5, (Value.slice (some ⟨1001, 0, none⟩) n2 n2)), (11, (Value.slice (some ⟨500, 0, none⟩) n3 c4)), (12, (Value.int .i64 x5)), (13, (Value.int .i64 x6))] [(500, (AObj.sym l7 false 1)), (1000, (AObj.cells [(Value.int .i64 x8), (Value.int .i64 x9), (Value.int .i64 x10)] 101 false 1)), (1001, (AObj.sym l11 true 1))] B X (dataK k)
theorem rHe6_text (C : Ct) (L : AtLoop) (n0 : Nat) (c1 : Nat) (n2 : Nat) (n3 : Nat) (c4 : Nat) (x5 : Int) (x6 : Int) (l7 : List Go.Value) (x8 : Int) (x9 : Int) (x10 : Int) (l11 : List Go.Value) (B : Bx) (X : Xx) (k : List D → Prop) : rHe6 C L n0 c1 n2 n3 c4 x5 x6 l7 x8 x9 x10 l11 B X k =
 (bcase (decide (x6 < x5))
 (bcase (decide (0 ≤ x6))
 (bcase (decide (x6 < (↑n3 : Int)))
 (∃ n1 : Int,
 ((At (l7) (0 + Int.toNat x6 * 1) 1 [(vI n1)]) ∧
 (bcase (decide (0 ≤ if (↑n0 : Int) < IntKind.wrap .i64 (x6 + 2) then (↑n0 : Int) else IntKind.wrap .i64 (x6 + 2)))
 (bcase (decide ((if (↑n0 : Int) < IntKind.wrap .i64 (x6 + 2) then (↑n0 : Int) else IntKind.wrap .i64 (x6 + 2)) ≤ (↑c1 : Int)))
 (bcase (decide (0 ≤ if 0 > IntKind.wrap .i64 (x6 - 1) then 0 else IntKind.wrap .i64 (x6 - 1)))
 (bcase (decide ((if 0 > IntKind.wrap .i64 (x6 - 1) then 0 else IntKind.wrap .i64 (x6 - 1)) ≤ (↑(Int.toNat (if (↑n0 : Int) < IntKind.wrap .i64 (x6 + 2) then (↑n0 : Int) else IntKind.wrap .i64 (x6 + 2))) : Int)))
 (bcase (c1 == Int.toNat (if 0 > IntKind.wrap .i64 (x6 - 1) then 0 else IntKind.wrap .i64 (x6 - 1)))
 (L 2 [(Prod.mk 0 (Go.Value.slice (Option.some (Go.Addr.mk 500 0 Option.none)) (n0) (c1))), (Prod.mk 3 (Go.Value.pointer (Option.some (Go.Addr.mk 1000 0 Option.none)))), (Prod.mk 5 (Go.Value.slice (Option.some (Go.Addr.mk 1001 0 Option.none)) (n2) (n2))), (Prod.mk 7 (vI n1)), (Prod.mk 8 (vI (IntKind.wrap .i64 (IntKind.wrap .i64 (x8 - n1) * x9)))), (Prod.mk 11 (Go.Value.slice (Option.some (Go.Addr.mk 500 0 Option.none)) (n3) (c4))), (Prod.mk 12 (vI x5)), (Prod.mk 13 (vI x6)), (Prod.mk 34 (Go.Value.slice (Option.some (Go.Addr.mk 500 0 Option.none)) (Int.toNat (if (↑n0 : Int) < IntKind.wrap .i64 (x6 + 2) then (↑n0 : Int) else IntKind.wrap .i64 (x6 + 2)) - Int.toNat (if 0 > IntKind.wrap .i64 (x6 - 1) then 0 else IntKind.wrap .i64 (x6 - 1))) (c1 - Int.toNat (if 0 > IntKind.wrap .i64 (x6 - 1) then 0 else IntKind.wrap .i64 (x6 - 1))))), (Prod.mk 35 (vI ((↑(Int.toNat (if (↑n0 : Int) < IntKind.wrap .i64 (x6 + 2) then (↑n0 : Int) else IntKind.wrap .i64 (x6 + 2)) - Int.toNat (if 0 > IntKind.wrap .i64 (x6 - 1) then 0 else IntKind.wrap .i64 (x6 - 1))) : Int)))), (Prod.mk 36 (vI (0 : Int)))] [(Prod.mk 500 (AObj.sym (l7) false 1)), (Prod.mk 1000 (AObj.cells [(vI x8), (vI x9), (vI x10)] 101 false 1)), (Prod.mk 1001 (AObj.sym (l11) true 1))])
 (L 2 [(Prod.mk 0 (Go.Value.slice (Option.some (Go.Addr.mk 500 0 Option.none)) (n0) (c1))), (Prod.mk 3 (Go.Value.pointer (Option.some (Go.Addr.mk 1000 0 Option.none)))), (Prod.mk 5 (Go.Value.slice (Option.some (Go.Addr.mk 1001 0 Option.none)) (n2) (n2))), (Prod.mk 7 (vI n1)), (Prod.mk 8 (vI (IntKind.wrap .i64 (IntKind.wrap .i64 (x8 - n1) * x9)))), (Prod.mk 11 (Go.Value.slice (Option.some (Go.Addr.mk 500 0 Option.none)) (n3) (c4))), (Prod.mk 12 (vI x5)), (Prod.mk 13 (vI x6)), (Prod.mk 34 (Go.Value.slice (Option.some (Go.Addr.mk 500 (0 + Int.toNat (if 0 > IntKind.wrap .i64 (x6 - 1) then 0 else IntKind.wrap .i64 (x6 - 1)) * 1) Option.none)) (Int.toNat (if (↑n0 : Int) < IntKind.wrap .i64 (x6 + 2) then (↑n0 : Int) else IntKind.wrap .i64 (x6 + 2)) - Int.toNat (if 0 > IntKind.wrap .i64 (x6 - 1) then 0 else IntKind.wrap .i64 (x6 - 1))) (c1 - Int.toNat (if 0 > IntKind.wrap .i64 (x6 - 1) then 0 else IntKind.wrap .i64 (x6 - 1))))), (Prod.mk 35 (vI ((↑(Int.toNat (if (↑n0 : Int) < IntKind.wrap .i64 (x6 + 2) then (↑n0 : Int) else IntKind.wrap .i64 (x6 + 2)) - Int.toNat (if 0 > IntKind.wrap .i64 (x6 - 1) then 0 else IntKind.wrap .i64 (x6 - 1))) : Int)))), (Prod.mk 36 (vI (0 : Int)))] [(Prod.mk 500 (AObj.sym (l7) false 1)), (Prod.mk 1000 (AObj.cells [(vI x8), (vI x9), (vI x10)] 101 false 1)), (Prod.mk 1001 (AObj.sym (l11) true 1))]))
 False)
 False)
 False)
 False)))
 False)
 False)
 (X 0 [(Prod.mk 5 (Go.Value.slice (Option.some (Go.Addr.mk 1000 0 Option.none)) (n2) (n2)))] [(Prod.mk 1000 (AObj.sym (l11) true 1))])) := by kernel_rfl
abbrev zHe8 (n0 : Nat) (c1 : Nat) (n2 : Nat) (x3 : Int) (x4 : Int) (n5 : Nat) (c6 : Nat) (x7 : Int) (x8 : Int) (o9 : Nat) (n10 : Nat) (c11 : Nat) (x12 : Int) (x13 : Int) (l14 : List Value) (x15 : Int) (x16 : Int) (x17 : Int) (l18 : List Value) : Slots × Blocks := ([(0, (Value.slice (some ⟨500, 0, none⟩) n0 c1)), (3, (Value.pointer (some ⟨1000, 0, none⟩))), (5, (Value.slice (some ⟨1001, 0, none⟩) n2 n2)), (7, (Value.int .i64 x3)), (8, (Value.int .i64 x4)), (11, (Value.slice (some ⟨500, 0, none⟩) n5 c6)), (12, (Value.int .i64 x7)), (13, (Value.int .i64 x8)), (34, (Value.slice (some ⟨500, o9, none⟩) n10 c11)), (35, (Value.int .i64 x12)), (36, (Value.int .i64 x13))], [(500, (AObj.sym l14 false 1)), (1000, (AObj.cells [(Value.int .i64 x15), (Value.int .i64 x16), (Value.int .i64 x17)] 101 false 1)), (1001, (AObj.sym l18 true 1))])
def rHe8 (C : Ct) (L : AtLoop) (n0 : Nat) (c1 : Nat) (n2 : Nat) (x3 : Int) (x4 : Int) (n5 : Nat) (c6 : Nat) (x7 : Int) (x8 : Int) (o9 : Nat) (n10 : Nat) (c11 : Nat) (x12 : Int) (x13 : Int) (l14 : List Value) (x15 : Int) (x16 : Int) (x17 : Int) (l18 : List Value) (B : Bx) (X : Xx) (k : List D → Prop) : Prop := jRound2 Try.prog (hF7 C) L [] 108 0 2 [(0, (Value.slice (some ⟨500, 0, none⟩) n0 c1)), (3, (Value.pointer (some ⟨1000, 0, none⟩))), (5, (Value.slice (some ⟨1001, 0, none⟩) n2 n2)), (7, (Value.int .i64 x3)), (8, (Value.int .i64 x4)), (11, (Value.slice (some ⟨500, 0, none⟩) n5 c6)), (12, (Value.int .i64 x7)), (13, (Value.int .i64 x8)), (34, (Value.slice (some ⟨500, o9, none⟩) n10 c11)), (35, (Value.int .i64 x12)), (36, (Value.int .i64 x13))] [(500, (AObj.sym l14 false 1)), (1000, (AObj.cells [(Value.int .i64 x15), (Value.int .i64 x16), (Value.int .i64 x17)] 101 false 1)), (1001, (AObj.sym l18 true 1))] B X (dataK k)
theorem rHe8_text (C : Ct) (L : AtLoop) (n0 : Nat) (c1 : Nat) (n2 : Nat) (x3 : Int) (x4 : Int) (n5 : Nat) (c6 : Nat) (x7 : Int) (x8 : Int) (o9 : Nat) (n10 : Nat) (c11 : Nat) (x12 : Int) (x13 : Int) (l14 : List Go.Value) (x15 : Int) (x16 : Int) (x17 : Int) (l18 : List Go.Value) (B : Bx) (X : Xx) (k : List D → Prop) : rHe8 C L n0 c1 n2 x3 x4 n5 c6 x7 x8 o9 n10 c11 x12 x13 l14 x15 x16 x17 l18 B X k =
 (bcase (decide (x13 < x12))
 (bcase (decide (0 ≤ x13))
 (bcase (decide (x13 < (↑n10 : Int)))
 (∃ n1 : Int,
 ((At (l14) (o9 + Int.toNat x13 * 1) 1 [(vI n1)]) ∧
 (B [(Prod.mk 0 (Go.Value.slice (Option.some (Go.Addr.mk 500 0 Option.none)) (n0) (c1))), (Prod.mk 3 (Go.Value.pointer (Option.some (Go.Addr.mk 1000 0 Option.none)))), (Prod.mk 5 (Go.Value.slice (Option.some (Go.Addr.mk 1001 0 Option.none)) (n2) (n2))), (Prod.mk 7 (vI x3)), (Prod.mk 8 (vI (IntKind.wrap .i64 (x4 + IntKind.wrap .i64 (IntKind.wrap .i64 (n1 - x3) * x17))))), (Prod.mk 11 (Go.Value.slice (Option.some (Go.Addr.mk 500 0 Option.none)) (n5) (c6))), (Prod.mk 12 (vI x7)), (Prod.mk 13 (vI x8)), (Prod.mk 34 (Go.Value.slice (Option.some (Go.Addr.mk 500 (o9) Option.none)) (n10) (c11))), (Prod.mk 35 (vI x12)), (Prod.mk 36 (vI (IntKind.wrap .i64 (x13 + 1))))] [(Prod.mk 500 (AObj.sym (l14) false 1)), (Prod.mk 1000 (AObj.cells [(vI x15), (vI x16), (vI x17)] 101 false 1)), (Prod.mk 1001 (AObj.sym (l18) true 1))])))
 False)
 False)
 (X 2 [(Prod.mk 0 (Go.Value.slice (Option.some (Go.Addr.mk 500 0 Option.none)) (n0) (c1))), (Prod.mk 3 (Go.Value.pointer (Option.some (Go.Addr.mk 1000 0 Option.none)))), (Prod.mk 5 (Go.Value.slice (Option.some (Go.Addr.mk 1001 0 Option.none)) (n2) (n2))), (Prod.mk 7 (vI x3)), (Prod.mk 8 (vI x4)), (Prod.mk 11 (Go.Value.slice (Option.some (Go.Addr.mk 500 0 Option.none)) (n5) (c6))), (Prod.mk 12 (vI x7)), (Prod.mk 13 (vI x8))] [(Prod.mk 500 (AObj.sym (l14) false 1)), (Prod.mk 1000 (AObj.cells [(vI x15), (vI x16), (vI x17)] 101 false 1)), (Prod.mk 1001 (AObj.sym (l18) true 1))])) := by kernel_rfl
def nHe9 (C : Ct) (L : AtLoop) (n0 : Nat) (l1 : List Value) (k : List D → Prop) : Prop := jNext Try.prog (hF7 C) L [] 108 0 .normal [(5, (Value.slice (some ⟨1000, 0, none⟩) n0 n0))] [(1000, (AObj.sym l1 true 1))] (dataK k)
theorem nHe9_text (C : Ct) (L : AtLoop) (n0 : Nat) (l1 : List Go.Value) (k : List D → Prop) : nHe9 C L n0 l1 k =
 ((((n0) = (n0)) ∧
 ((List.length l1) = (n0 * 1))) ∧
 (k [(D.sl (n0) 1 (l1))])) := by kernel_rfl
def iHe10 (C : Ct) (L : AtLoop) (n0 : Nat) (c1 : Nat) (n2 : Nat) (x3 : Int) (x4 : Int) (n5 : Nat) (c6 : Nat) (x7 : Int) (x8 : Int) (l9 : List Value) (x10 : Int) (x11 : Int) (x12 : Int) (l13 : List Value) (B : Bx) (X : Xx) (k : List D → Prop) : Prop := jIn Try.prog (hF7 C) L [] 108 0 2 .normal [(0, (Value.slice (some ⟨500, 0, none⟩) n0 c1)), (3, (Value.pointer (some ⟨1000, 0, none⟩))), (5, (Value.slice (some ⟨1001, 0, none⟩) n2 n2)), (7, (Value.int .i64 x3)), (8, (Value.int .i64 x4)), (11, (Value.slice (some ⟨500, 0, none⟩) n5 c6)), (12, (Value.int .i64 x7)), (13, (Value.int .i64 x8))] [(500, (AObj.sym l9 false 1)), (1000, (AObj.cells [(Value.int .i64 x10), (Value.int .i64 x11), (Value.int .i64 x12)] 101 false 1)), (1001, (AObj.sym l13 true 1))] B X (dataK k)
theorem iHe10_text (C : Ct) (L : AtLoop) (n0 : Nat) (c1 : Nat) (n2 : Nat) (x3 : Int) (x4 : Int) (n5 : Nat) (c6 : Nat) (x7 : Int) (x8 : Int) (l9 : List Go.Value) (x10 : Int) (x11 : Int) (x12 : Int) (l13 : List Go.Value) (B : Bx) (X : Xx) (k : List D → Prop) : iHe10 C L n0 c1 n2 x3 x4 n5 c6 x7 x8 l9 x10 x11 x12 l13 B X k =
 (∃ n1 : Int,
 ((Says C 130 [(D.val (vI x4))] [(D.val (vI n1))]) ∧
 (bcase (decide (n2 < n2 + 1))
 (bcase (decide ((2 * (n2 + 1) + 768) * 8 ≤ 281474976710656))
 (bcase (decide (n2 + 1 ≤ 1099511627776))
 (bcase (decide (0 + n2 * 1 ≤ List.length l13))
 (bcase (decide (0 + n2 * 1 = List.length l13))
 (B [(Prod.mk 0 (Go.Value.slice (Option.some (Go.Addr.mk 500 0 Option.none)) (n0) (c1))), (Prod.mk 3 (Go.Value.pointer (Option.some (Go.Addr.mk 1000 0 Option.none)))), (Prod.mk 5 (Go.Value.slice (Option.some (Go.Addr.mk 1001 0 Option.none)) (n2 + 1) (n2 + 1))), (Prod.mk 11 (Go.Value.slice (Option.some (Go.Addr.mk 500 0 Option.none)) (n5) (c6))), (Prod.mk 12 (vI x7)), (Prod.mk 13 (vI (IntKind.wrap .i64 (x8 + 1))))] [(Prod.mk 500 (AObj.sym (l9) false 1)), (Prod.mk 1000 (AObj.cells [(vI x10), (vI x11), (vI x12)] 101 false 1)), (Prod.mk 1001 (AObj.sym ((List.take (n2 * 1) (List.drop 0 l13)) ++ [(vI (IntKind.wrap .i64 (x3 + n1)))]) true 1))])
 False)
 False)
 False)
 False)
 False))) := by kernel_rfl
def gCH (C : Ct) (L : AtLoop) (x0 : Int) (x1 : Int) (x2 : Int) (k : List D → Prop) : Prop := wpFn Try.prog (hF7 C) L 0 106 #[.agg #[.int .i64 x0, .int .i64 x1, .int .i64 x2]] (heapOf []) (dataK k)
theorem gCH_text (C : Ct) (L : AtLoop) (x0 : Int) (x1 : Int) (x2 : Int) (k : List D → Prop) : gCH C L x0 x1 x2 k =
 (((((Go.Value.slice (Option.some (Go.Addr.mk 1002 0 Option.none)) 2 2) = (Go.Value.slice (Option.some (Go.Addr.mk 1002 0 Option.none)) 2 2)) ∧
 ((Option.some (AObj.cells [(vI x1), (vI x2)] 3 false 1)) = (Option.some (AObj.cells [(vI x1), (vI x2)] 3 false 1)))) ∧
 (((vI x2) = (vI x2)) ∧
 (((Go.Value.pointer (Option.some (Go.Addr.mk 1000 2 Option.none))) = (Go.Value.pointer (Option.some (Go.Addr.mk 1000 2 Option.none)))) ∧
 (((vI x1) = (vI x1)) ∧
 (((Go.Value.pointer (Option.some (Go.Addr.mk 1000 1 Option.none))) = (Go.Value.pointer (Option.some (Go.Addr.mk 1000 1 Option.none)))) ∧
 ((((Go.Value.slice (Option.some (Go.Addr.mk 1001 0 Option.none)) 1 1) = (Go.Value.slice (Option.some (Go.Addr.mk 1001 0 Option.none)) 1 1)) ∧
 ((Option.some (AObj.cells [(vI x0)] 3 false 1)) = (Option.some (AObj.cells [(vI x0)] 3 false 1)))) ∧
 (((vI x0) = (vI x0)) ∧
 (((Go.Value.pointer (Option.some (Go.Addr.mk 1000 0 Option.none))) = (Go.Value.pointer (Option.some (Go.Addr.mk 1000 0 Option.none)))) ∧
 True)))))))) ∧
 (((((Go.Value.slice (Option.some (Go.Addr.mk 1002 0 Option.none)) 2 2) = (Go.Value.slice (Option.some (Go.Addr.mk 1002 0 Option.none)) 2 2)) ∧
 ((Option.some (AObj.cells [(vI x1), (vI x2)] 3 false 1)) = (Option.some (AObj.cells [(vI x1), (vI x2)] 3 false 1)))) ∧
 (((vI x2) = (vI x2)) ∧
 (((Go.Value.pointer (Option.some (Go.Addr.mk 1000 2 Option.none))) = (Go.Value.pointer (Option.some (Go.Addr.mk 1000 2 Option.none)))) ∧
 (((vI x1) = (vI x1)) ∧
 (((Go.Value.pointer (Option.some (Go.Addr.mk 1000 1 Option.none))) = (Go.Value.pointer (Option.some (Go.Addr.mk 1000 1 Option.none)))) ∧
 ((((Go.Value.slice (Option.some (Go.Addr.mk 1001 0 Option.none)) 1 1) = (Go.Value.slice (Option.some (Go.Addr.mk 1001 0 Option.none)) 1 1)) ∧
 ((Option.some (AObj.cells [(vI x0)] 3 false 1)) = (Option.some (AObj.cells [(vI x0)] 3 false 1)))) ∧
 (((vI x0) = (vI x0)) ∧
 (((Go.Value.pointer (Option.some (Go.Addr.mk 1000 0 Option.none))) = (Go.Value.pointer (Option.some (Go.Addr.mk 1000 0 Option.none)))) ∧
 True)))))))) ∧
 (∃ r1 : Int,
 ((Says witC 0 [(D.val (vI (-(99999 + 1) : Int))), (D.val (vI (100000 : Int))), (D.val (vI (2 : Int))), (D.sl 1 1 [(vI x0)])] [(D.val (vI r1))]) ∧
 (((((Go.Value.slice (Option.some (Go.Addr.mk 1002 0 Option.none)) 2 2) = (Go.Value.slice (Option.some (Go.Addr.mk 1002 0 Option.none)) 2 2)) ∧
 ((Option.some (AObj.cells [(vI x1), (vI x2)] 3 false 1)) = (Option.some (AObj.cells [(vI x1), (vI x2)] 3 false 1)))) ∧
 (((vI x2) = (vI x2)) ∧
 (((Go.Value.pointer (Option.some (Go.Addr.mk 1000 2 Option.none))) = (Go.Value.pointer (Option.some (Go.Addr.mk 1000 2 Option.none)))) ∧
 (((vI x1) = (vI x1)) ∧
 (((Go.Value.pointer (Option.some (Go.Addr.mk 1000 1 Option.none))) = (Go.Value.pointer (Option.some (Go.Addr.mk 1000 1 Option.none)))) ∧
 (((vI x0) = (vI x0)) ∧
 (((Go.Value.pointer (Option.some (Go.Addr.mk 1000 0 Option.none))) = (Go.Value.pointer (Option.some (Go.Addr.mk 1000 0 Option.none)))) ∧
 True))))))) ∧
 (((((Go.Value.slice (Option.some (Go.Addr.mk 1002 0 Option.none)) 2 2) = (Go.Value.slice (Option.some (Go.Addr.mk 1002 0 Option.none)) 2 2)) ∧
 ((Option.some (AObj.cells [(vI x1), (vI x2)] 3 false 1)) = (Option.some (AObj.cells [(vI x1), (vI x2)] 3 false 1)))) ∧
 (((vI x2) = (vI x2)) ∧
 (((Go.Value.pointer (Option.some (Go.Addr.mk 1000 2 Option.none))) = (Go.Value.pointer (Option.some (Go.Addr.mk 1000 2 Option.none)))) ∧
 (((vI x1) = (vI x1)) ∧
 (((Go.Value.pointer (Option.some (Go.Addr.mk 1000 1 Option.none))) = (Go.Value.pointer (Option.some (Go.Addr.mk 1000 1 Option.none)))) ∧
 (((vI x0) = (vI x0)) ∧
 (((Go.Value.pointer (Option.some (Go.Addr.mk 1000 0 Option.none))) = (Go.Value.pointer (Option.some (Go.Addr.mk 1000 0 Option.none)))) ∧
 True))))))) ∧
 (∃ r2 : Int,
 ((Says witC 0 [(D.val (vI (0 : Int))), (D.val (vI (1000 : Int))), (D.val (vI (2 : Int))), (D.sl 2 1 [(vI x1), (vI x2)])] [(D.val (vI r2))]) ∧
 (((((Go.Value.slice (Option.some (Go.Addr.mk 1007 0 Option.none)) 2 2) = (Go.Value.slice (Option.some (Go.Addr.mk 1007 0 Option.none)) 2 2)) ∧
 ((Option.some (AObj.cells [(vI r1), (vI r2)] 27 false 1)) = (Option.some (AObj.cells [(vI r1), (vI r2)] 27 false 1)))) ∧
 (((vI x2) = (vI x2)) ∧
 (((Go.Value.pointer (Option.some (Go.Addr.mk 1000 2 Option.none))) = (Go.Value.pointer (Option.some (Go.Addr.mk 1000 2 Option.none)))) ∧
 (((vI x1) = (vI x1)) ∧
 (((Go.Value.pointer (Option.some (Go.Addr.mk 1000 1 Option.none))) = (Go.Value.pointer (Option.some (Go.Addr.mk 1000 1 Option.none)))) ∧
 (((vI x0) = (vI x0)) ∧
 (((Go.Value.pointer (Option.some (Go.Addr.mk 1000 0 Option.none))) = (Go.Value.pointer (Option.some (Go.Addr.mk 1000 0 Option.none)))) ∧
 True))))))) ∧
 (∃ n1 : Int,
 ((Says C 67 [(D.sl 2 1 [(vI r1), (vI r2)])] [(D.val (vI n1))]) ∧
 ((((vI x2) = (vI x2)) ∧
 (((Go.Value.pointer (Option.some (Go.Addr.mk 1000 2 Option.none))) = (Go.Value.pointer (Option.some (Go.Addr.mk 1000 2 Option.none)))) ∧
 (((vI x1) = (vI x1)) ∧
 (((Go.Value.pointer (Option.some (Go.Addr.mk 1000 1 Option.none))) = (Go.Value.pointer (Option.some (Go.Addr.mk 1000 1 Option.none)))) ∧
 (((vI x0) = (vI x0)) ∧
 (((Go.Value.pointer (Option.some (Go.Addr.mk 1000 0 Option.none))) = (Go.Value.pointer (Option.some (Go.Addr.mk 1000 0 Option.none)))) ∧
 True)))))) ∧
 (True ∧
 (bcase (n1 == 0)
 (bcase (decide (IntKind.wrap .i64 (x1 + IntKind.wrap .i64 (2 * x2)) > 1000))
 (k [(D.val (vI (22 : Int)))])
 (k [(D.val (vI n1))]))
 (k [(D.val (vI n1))]))))))))))))))) := by kernel_rfl
def gHB (C : Ct) (L : AtLoop) (n0 : Nat) (c0 : Nat) (l0 : List Value) (x1 : Int) (x2 : Int) (x3 : Int) (x4 : Int) (k : List D → Prop) : Prop := wpFn Try.prog (hF7 C) L 0 59 #[.slice (some ⟨500, 0, none⟩) n0 c0, .agg #[.int .i64 x1, .int .i64 x2, .int .i64 x3], .int .i64 x4] (heapOf [(500, .sym l0 false 1)]) (dataK k)
theorem gHB_text (C : Ct) (L : AtLoop) (n0 : Nat) (c0 : Nat) (l0 : List Go.Value) (x1 : Int) (x2 : Int) (x3 : Int) (x4 : Int) (k : List D → Prop) : gHB C L n0 c0 l0 x1 x2 x3 x4 k =
 (((((Go.Value.slice (Option.some (Go.Addr.mk 1001 0 Option.none)) 1 1) = (Go.Value.slice (Option.some (Go.Addr.mk 1001 0 Option.none)) 1 1)) ∧
 ((Option.some (AObj.cells [(vI x4)] 3 false 1)) = (Option.some (AObj.cells [(vI x4)] 3 false 1)))) ∧
 (((vI x4) = (vI x4)) ∧
 (((Go.Value.agg [(vI x1), (vI x2), (vI x3)].toArray) = (Go.Value.agg [(vI x1), (vI x2), (vI x3)].toArray)) ∧
 (((Go.Value.slice (Option.some (Go.Addr.mk 500 0 Option.none)) (n0) (c0)) = (Go.Value.slice (Option.some (Go.Addr.mk 500 0 Option.none)) (n0) (c0))) ∧
 (((vI ((↑n0 : Int))) = (vI ((↑n0 : Int)))) ∧
 (((Go.Value.slice (Option.some (Go.Addr.mk 500 0 Option.none)) (n0) (c0)) = (Go.Value.slice (Option.some (Go.Addr.mk 500 0 Option.none)) (n0) (c0))) ∧
 True)))))) ∧
 (∃ n1 : Int,
 ((Says C 68 [(D.val (vI ((↑n0 : Int)))), (D.val (vI (2 : Int))), (D.val (vI (9 : Int)))] [(D.val (vI n1))]) ∧
 (((((Go.Value.slice (Option.some (Go.Addr.mk 1001 0 Option.none)) 1 1) = (Go.Value.slice (Option.some (Go.Addr.mk 1001 0 Option.none)) 1 1)) ∧
 ((Option.some (AObj.cells [(vI x4)] 3 false 1)) = (Option.some (AObj.cells [(vI x4)] 3 false 1)))) ∧
 (((vI x4) = (vI x4)) ∧
 (((Go.Value.agg [(vI x1), (vI x2), (vI x3)].toArray) = (Go.Value.agg [(vI x1), (vI x2), (vI x3)].toArray)) ∧
 (((Go.Value.slice (Option.some (Go.Addr.mk 500 0 Option.none)) (n0) (c0)) = (Go.Value.slice (Option.some (Go.Addr.mk 500 0 Option.none)) (n0) (c0))) ∧
 (((Go.Value.slice (Option.some (Go.Addr.mk 500 0 Option.none)) (n0) (c0)) = (Go.Value.slice (Option.some (Go.Addr.mk 500 0 Option.none)) (n0) (c0))) ∧
 True))))) ∧
 (((((Go.Value.slice (Option.some (Go.Addr.mk 1001 0 Option.none)) 1 1) = (Go.Value.slice (Option.some (Go.Addr.mk 1001 0 Option.none)) 1 1)) ∧
 ((Option.some (AObj.cells [(vI x4)] 3 false 1)) = (Option.some (AObj.cells [(vI x4)] 3 false 1)))) ∧
 (((vI x4) = (vI x4)) ∧
 (((Go.Value.agg [(vI x1), (vI x2), (vI x3)].toArray) = (Go.Value.agg [(vI x1), (vI x2), (vI x3)].toArray)) ∧
 (((Go.Value.slice (Option.some (Go.Addr.mk 500 0 Option.none)) (n0) (c0)) = (Go.Value.slice (Option.some (Go.Addr.mk 500 0 Option.none)) (n0) (c0))) ∧
 (((Go.Value.slice (Option.some (Go.Addr.mk 500 0 Option.none)) (n0) (c0)) = (Go.Value.slice (Option.some (Go.Addr.mk 500 0 Option.none)) (n0) (c0))) ∧
 True))))) ∧
 (∃ l1 : List Int,
 (((l0) = (List.map (vI) l1)) ∧
 (((n0) = (List.length l1)) ∧
 (((List.length l1) < 1000000000) ∧
 (∃ r1 : Int,
 ((Says witC 0 [(D.val (vI (-(99999 + 1) : Int))), (D.val (vI (100000 : Int))), (D.val (vI (2 : Int))), (D.sl (n0) 1 (l0))] [(D.val (vI r1))]) ∧
 (((((Go.Value.slice (Option.some (Go.Addr.mk 1001 0 Option.none)) 1 1) = (Go.Value.slice (Option.some (Go.Addr.mk 1001 0 Option.none)) 1 1)) ∧
 ((Option.some (AObj.cells [(vI x4)] 3 false 1)) = (Option.some (AObj.cells [(vI x4)] 3 false 1)))) ∧
 (((vI x4) = (vI x4)) ∧
 (((Go.Value.agg [(vI x1), (vI x2), (vI x3)].toArray) = (Go.Value.agg [(vI x1), (vI x2), (vI x3)].toArray)) ∧
 (((Go.Value.slice (Option.some (Go.Addr.mk 500 0 Option.none)) (n0) (c0)) = (Go.Value.slice (Option.some (Go.Addr.mk 500 0 Option.none)) (n0) (c0))) ∧
 True)))) ∧
 (∃ n2 : Int,
 ((Says C 106 [(D.agg [(D.val (vI x1)), (D.val (vI x2)), (D.val (vI x3))])] [(D.val (vI n2))]) ∧
 (((((Go.Value.slice (Option.some (Go.Addr.mk 1001 0 Option.none)) 1 1) = (Go.Value.slice (Option.some (Go.Addr.mk 1001 0 Option.none)) 1 1)) ∧
 ((Option.some (AObj.cells [(vI x4)] 3 false 1)) = (Option.some (AObj.cells [(vI x4)] 3 false 1)))) ∧
 (((vI x4) = (vI x4)) ∧
 (((Go.Value.slice (Option.some (Go.Addr.mk 500 0 Option.none)) (n0) (c0)) = (Go.Value.slice (Option.some (Go.Addr.mk 500 0 Option.none)) (n0) (c0))) ∧
 True))) ∧
 (((((Go.Value.slice (Option.some (Go.Addr.mk 1001 0 Option.none)) 1 1) = (Go.Value.slice (Option.some (Go.Addr.mk 1001 0 Option.none)) 1 1)) ∧
 ((Option.some (AObj.cells [(vI x4)] 3 false 1)) = (Option.some (AObj.cells [(vI x4)] 3 false 1)))) ∧
 (((vI x4) = (vI x4)) ∧
 (((Go.Value.slice (Option.some (Go.Addr.mk 500 0 Option.none)) (n0) (c0)) = (Go.Value.slice (Option.some (Go.Addr.mk 500 0 Option.none)) (n0) (c0))) ∧
 True))) ∧
 (∃ r2 : Int,
 ((Says witC 0 [(D.val (vI (0 : Int))), (D.val (vI (200 : Int))), (D.val (vI (2 : Int))), (D.sl 1 1 [(vI x4)])] [(D.val (vI r2))]) ∧
 (((((Go.Value.slice (Option.some (Go.Addr.mk 1006 0 Option.none)) 4 4) = (Go.Value.slice (Option.some (Go.Addr.mk 1006 0 Option.none)) 4 4)) ∧
 ((Option.some (AObj.cells [(vI n1), (vI r1), (vI n2), (vI r2)] 27 false 1)) = (Option.some (AObj.cells [(vI n1), (vI r1), (vI n2), (vI r2)] 27 false 1)))) ∧
 (((vI x4) = (vI x4)) ∧
 (((Go.Value.slice (Option.some (Go.Addr.mk 500 0 Option.none)) (n0) (c0)) = (Go.Value.slice (Option.some (Go.Addr.mk 500 0 Option.none)) (n0) (c0))) ∧
 True))) ∧
 (∃ n3 : Int,
 ((Says C 67 [(D.sl 4 1 [(vI n1), (vI r1), (vI n2), (vI r2)])] [(D.val (vI n3))]) ∧
 ((((vI x4) = (vI x4)) ∧
 (((Go.Value.slice (Option.some (Go.Addr.mk 500 0 Option.none)) (n0) (c0)) = (Go.Value.slice (Option.some (Go.Addr.mk 500 0 Option.none)) (n0) (c0))) ∧
 True)) ∧
 (True ∧
 (bcase (n3 != 0)
 (k [D.nil, (D.val (vI n3))])
 (bcase (decide (0 + n0 * 1 ≤ List.length l0))
 ((Says C 107 [(D.sl (n0) 1 (List.take (n0 * 1) (List.drop 0 l0)))] [(D.sl (n0) 1 (List.take (n0 * 1) (List.drop 0 l0)))]) ∧
 (L 0 [(Prod.mk 4 (Go.Value.pointer (Option.some (Go.Addr.mk 1000 0 Option.none)))), (Prod.mk 9 (Go.Value.slice (Option.some (Go.Addr.mk 1001 0 Option.none)) (n0) (n0))), (Prod.mk 29 (vI x4)), (Prod.mk 30 (vI (0 : Int)))] [(Prod.mk 1000 (AObj.cells [(vI x1), (vI x2), (vI x3)] 101 false 1)), (Prod.mk 1001 (AObj.sym (List.take (n0 * 1) (List.drop 0 l0)) true 1))]))
 False))))))))))))))))))))))))) := by kernel_rfl
abbrev zHB1 (n0 : Nat) (x1 : Int) (x2 : Int) (x3 : Int) (x4 : Int) (x5 : Int) (l6 : List Value) : Slots × Blocks := ([(4, (Value.pointer (some ⟨1000, 0, none⟩))), (9, (Value.slice (some ⟨1001, 0, none⟩) n0 n0)), (29, (Value.int .i64 x1)), (30, (Value.int .i64 x2))], [(1000, (AObj.cells [(Value.int .i64 x3), (Value.int .i64 x4), (Value.int .i64 x5)] 101 false 1)), (1001, (AObj.sym l6 true 1))])
def rHB1 (C : Ct) (L : AtLoop) (n0 : Nat) (x1 : Int) (x2 : Int) (x3 : Int) (x4 : Int) (x5 : Int) (l6 : List Value) (B : Bx) (X : Xx) (k : List D → Prop) : Prop := wpRound Try.prog (hF7 C) L 59 0 [(4, (Value.pointer (some ⟨1000, 0, none⟩))), (9, (Value.slice (some ⟨1001, 0, none⟩) n0 n0)), (29, (Value.int .i64 x1)), (30, (Value.int .i64 x2))] [(1000, (AObj.cells [(Value.int .i64 x3), (Value.int .i64 x4), (Value.int .i64 x5)] 101 false 1)), (1001, (AObj.sym l6 true 1))] B X (dataK k)
theorem rHB1_text (C : Ct) (L : AtLoop) (n0 : Nat) (x1 : Int) (x2 : Int) (x3 : Int) (x4 : Int) (x5 : Int) (l6 : List Go.Value) (B : Bx) (X : Xx) (k : List D → Prop) : rHB1 C L n0 x1 x2 x3 x4 x5 l6 B X k =
 (bcase (decide (x2 < x1))
 (bcase (decide (0 + n0 * 1 ≤ List.length l6))
 (((Says C 108 [(D.sl (n0) 1 (List.take (n0 * 1) (List.drop 0 l6))), (D.agg [(D.val (vI x3)), (D.val (vI x4)), (D.val (vI x5))])] [D.nil]) ∧
 (B [(Prod.mk 4 (Go.Value.pointer (Option.some (Go.Addr.mk 1000 0 Option.none)))), (Prod.mk 9 (Go.Value.slice Option.none 0 0)), (Prod.mk 29 (vI x1)), (Prod.mk 30 (vI (IntKind.wrap .i64 (x2 + 1))))] [(Prod.mk 1000 (AObj.cells [(vI x3), (vI x4), (vI x5)] 101 false 1))])) ∨
 (∃ n1 : Nat,
 (∃ cs1 : List Go.Value,
 ((Says C 108 [(D.sl (n0) 1 (List.take (n0 * 1) (List.drop 0 l6))), (D.agg [(D.val (vI x3)), (D.val (vI x4)), (D.val (vI x5))])] [(D.sl (n1) 1 (cs1))]) ∧
 (B [(Prod.mk 4 (Go.Value.pointer (Option.some (Go.Addr.mk 1000 0 Option.none)))), (Prod.mk 9 (Go.Value.slice (Option.some (Go.Addr.mk 1001 0 Option.none)) (n1) (n1))), (Prod.mk 29 (vI x1)), (Prod.mk 30 (vI (IntKind.wrap .i64 (x2 + 1))))] [(Prod.mk 1000 (AObj.cells [(vI x3), (vI x4), (vI x5)] 101 false 1)), (Prod.mk 1001 (AObj.sym (cs1) true 1))])))))
 False)
 (X 0 [(Prod.mk 9 (Go.Value.slice (Option.some (Go.Addr.mk 1000 0 Option.none)) (n0) (n0)))] [(Prod.mk 1000 (AObj.sym (l6) true 1))])) := by kernel_rfl
def nHB3 (C : Ct) (L : AtLoop) (n0 : Nat) (l1 : List Value) (k : List D → Prop) : Prop := wpNext Try.prog (hF7 C) L 59 0 .normal [(9, (Value.slice (some ⟨1000, 0, none⟩) n0 n0))] [(1000, (AObj.sym l1 true 1))] (dataK k)
theorem nHB3_text (C : Ct) (L : AtLoop) (n0 : Nat) (l1 : List Go.Value) (k : List D → Prop) : nHB3 C L n0 l1 k =
 ((((n0) = (n0)) ∧
 ((List.length l1) = (n0 * 1))) ∧
 (k [(D.sl (n0) 1 (l1)), (D.val (vI (0 : Int)))])) := by kernel_rfl
def gRH (C : Ct) (L : AtLoop) (n0 : Nat) (c0 : Nat) (l0 : List Value) (x1 : Int) (x2 : Int) (x3 : Int) (x4 : Int) (k : List D → Prop) : Prop := wpFn Try.prog (hF7 C) L 0 60 #[.slice (some ⟨500, 0, none⟩) n0 c0, .agg #[.int .i64 x1, .int .i64 x2, .int .i64 x3], .int .i64 x4] (heapOf [(500, .sym l0 false 1)]) (dataK k)
theorem gRH_text (C : Ct) (L : AtLoop) (n0 : Nat) (c0 : Nat) (l0 : List Go.Value) (x1 : Int) (x2 : Int) (x3 : Int) (x4 : Int) (k : List D → Prop) : gRH C L n0 c0 l0 x1 x2 x3 x4 k =
 (bcase (decide ((↑n0 : Int) < 2))
 (k [(D.val (vI (10 : Int)))])
 (bcase (decide ((↑n0 : Int) > 9))
 (k [(D.val (vI (8 : Int)))])
 (L 0 [(Prod.mk 0 (Go.Value.slice (Option.some (Go.Addr.mk 500 0 Option.none)) (n0) (c0))), (Prod.mk 2 (vI x4)), (Prod.mk 4 (Go.Value.pointer (Option.some (Go.Addr.mk 1000 0 Option.none)))), (Prod.mk 7 (vI (0 : Int)))] [(Prod.mk 500 (AObj.sym (l0) false 1)), (Prod.mk 1000 (AObj.cells [(vI x1), (vI x2), (vI x3)] 101 false 1))]))) := by kernel_rfl
abbrev zRH1 (n0 : Nat) (c1 : Nat) (x2 : Int) (x3 : Int) (l4 : List Value) (x5 : Int) (x6 : Int) (x7 : Int) : Slots × Blocks := ([(0, (Value.slice (some ⟨500, 0, none⟩) n0 c1)), (2, (Value.int .i64 x2)), (4, (Value.pointer (some ⟨1000, 0, none⟩))), (7, (Value.int .i64 x3))], [(500, (AObj.sym l4 false 1)), (1000, (AObj.cells [(Value.int .i64 x5), (Value.int .i64 x6), (Value.int .i64 x7)] 101 false 1))])
def rRH1 (C : Ct) (L : AtLoop) (n0 : Nat) (c1 : Nat) (x2 : Int) (x3 : Int) (l4 : List Value) (x5 : Int) (x6 : Int) (x7 : Int) (B : Bx) (X : Xx) (k : List D → Prop) : Prop := wpRound Try.prog (hF7 C) L 60 0 [(0, (Value.slice (some ⟨500, 0, none⟩) n0 c1)), (2, (Value.int .i64 x2)), (4, (Value.pointer (some ⟨1000, 0, none⟩))), (7, (Value.int .i64 x3))] [(500, (AObj.sym l4 false 1)), (1000, (AObj.cells [(Value.int .i64 x5), (Value.int .i64 x6), (Value.int .i64 x7)] 101 false 1))] B X (dataK k)
theorem rRH1_text (C : Ct) (L : AtLoop) (n0 : Nat) (c1 : Nat) (x2 : Int) (x3 : Int) (l4 : List Go.Value) (x5 : Int) (x6 : Int) (x7 : Int) (B : Bx) (X : Xx) (k : List D → Prop) : rRH1 C L n0 c1 x2 x3 l4 x5 x6 x7 B X k =
 (bcase (decide (x3 < (↑n0 : Int)))
 (bcase (decide (0 ≤ x3))
 (bcase (decide (x3 < (↑n0 : Int)))
 (∃ n1 : Int,
 ((At (l4) (0 + Int.toNat x3 * 1) 1 [(vI n1)]) ∧
 (((Says C 23 [(D.val (vI n1)), (D.val (vI (-(99999 + 1) : Int))), (D.val (vI (100000 : Int)))] [(D.val (Value.bool true))]) ∧
 (B [(Prod.mk 0 (Go.Value.slice (Option.some (Go.Addr.mk 500 0 Option.none)) (n0) (c1))), (Prod.mk 2 (vI x2)), (Prod.mk 4 (Go.Value.pointer (Option.some (Go.Addr.mk 1000 0 Option.none)))), (Prod.mk 7 (vI (IntKind.wrap .i64 (x3 + 1))))] [(Prod.mk 500 (AObj.sym (l4) false 1)), (Prod.mk 1000 (AObj.cells [(vI x5), (vI x6), (vI x7)] 101 false 1))])) ∨
 ((Says C 23 [(D.val (vI n1)), (D.val (vI (-(99999 + 1) : Int))), (D.val (vI (100000 : Int)))] [(D.val (Value.bool false))]) ∧
 (k [(D.val (vI (2 : Int)))])))))
 False)
 False)
 (X 0 [(Prod.mk 2 (vI x2)), (Prod.mk 4 (Go.Value.pointer (Option.some (Go.Addr.mk 1000 0 Option.none))))] [(Prod.mk 1000 (AObj.cells [(vI x5), (vI x6), (vI x7)] 101 false 1))])) := by kernel_rfl
def nRH2 (C : Ct) (L : AtLoop) (x0 : Int) (x1 : Int) (x2 : Int) (x3 : Int) (k : List D → Prop) : Prop := wpNext Try.prog (hF7 C) L 60 0 .normal [(2, (Value.int .i64 x0)), (4, (Value.pointer (some ⟨1000, 0, none⟩)))] [(1000, (AObj.cells [(Value.int .i64 x1), (Value.int .i64 x2), (Value.int .i64 x3)] 101 false 1))] (dataK k)
theorem nRH2_text (C : Ct) (L : AtLoop) (x0 : Int) (x1 : Int) (x2 : Int) (x3 : Int) (k : List D → Prop) : nRH2 C L x0 x1 x2 x3 k =
 (((Says C 23 [(D.val (vI x1)), (D.val (vI (-(99999 + 1) : Int))), (D.val (vI (100000 : Int)))] [(D.val (Value.bool true))]) ∧
 (((Says C 23 [(D.val (vI x2)), (D.val (vI (0 : Int))), (D.val (vI (1000 : Int)))] [(D.val (Value.bool true))]) ∧
 (((Says C 23 [(D.val (vI x3)), (D.val (vI (0 : Int))), (D.val (vI (1000 : Int)))] [(D.val (Value.bool true))]) ∧
 (bcase (decide (IntKind.wrap .i64 (x2 + IntKind.wrap .i64 (2 * x3)) > 1000))
 (k [(D.val (vI (22 : Int)))])
 (((Says C 23 [(D.val (vI x0)), (D.val (vI (0 : Int))), (D.val (vI (200 : Int)))] [(D.val (Value.bool true))]) ∧
 (k [(D.val (vI (0 : Int)))])) ∨
 ((Says C 23 [(D.val (vI x0)), (D.val (vI (0 : Int))), (D.val (vI (200 : Int)))] [(D.val (Value.bool false))]) ∧
 (k [(D.val (vI (2 : Int)))]))))) ∨
 ((Says C 23 [(D.val (vI x3)), (D.val (vI (0 : Int))), (D.val (vI (1000 : Int)))] [(D.val (Value.bool false))]) ∧
 (k [(D.val (vI (2 : Int)))])))) ∨
 ((Says C 23 [(D.val (vI x2)), (D.val (vI (0 : Int))), (D.val (vI (1000 : Int)))] [(D.val (Value.bool false))]) ∧
 (k [(D.val (vI (2 : Int)))])))) ∨
 ((Says C 23 [(D.val (vI x1)), (D.val (vI (-(99999 + 1) : Int))), (D.val (vI (100000 : Int)))] [(D.val (Value.bool false))]) ∧
 (k [(D.val (vI (2 : Int)))]))) := by kernel_rfl
def gRHn (C : Ct) (L : AtLoop) (x1 : Int) (x2 : Int) (x3 : Int) (x4 : Int) (k : List D → Prop) : Prop := wpFn Try.prog (hF7 C) L 0 60 #[.slice none 0 0, .agg #[.int .i64 x1, .int .i64 x2, .int .i64 x3], .int .i64 x4] (heapOf []) (dataK k)
theorem gRHn_text (C : Ct) (L : AtLoop) (x1 : Int) (x2 : Int) (x3 : Int) (x4 : Int) (k : List D → Prop) : gRHn C L x1 x2 x3 x4 k =
 (k [(D.val (vI (10 : Int)))]) := by kernel_rfl
def gHd (C : Ct) (L : AtLoop) (n0 : Nat) (c0 : Nat) (l0 : List Value) (x1 : Int) (x2 : Int) (x3 : Int) (x4 : Int) (k : List D → Prop) : Prop := jFn Try.prog (hF7 C) L [] 61 #[.slice (some ⟨500, 0, none⟩) n0 c0, .agg #[.int .i64 x1, .int .i64 x2, .int .i64 x3], .int .i64 x4] (heapOf [(500, .sym l0 false 1)]) (dataK k)
theorem gHd_text (C : Ct) (L : AtLoop) (n0 : Nat) (c0 : Nat) (l0 : List Go.Value) (x1 : Int) (x2 : Int) (x3 : Int) (x4 : Int) (k : List D → Prop) : gHd C L n0 c0 l0 x1 x2 x3 x4 k =
 (L 0 [(Prod.mk 0 (Go.Value.slice (Option.some (Go.Addr.mk 500 0 Option.none)) (n0) (c0))), (Prod.mk 2 (vI x4)), (Prod.mk 4 (Go.Value.pointer (Option.some (Go.Addr.mk 1000 0 Option.none)))), (Prod.mk 7 (vI (0 : Int)))] [(Prod.mk 500 (AObj.sym (l0) false 1)), (Prod.mk 1000 (AObj.cells [(vI x1), (vI x2), (vI x3)] 101 false 1))]) := by kernel_rfl
abbrev zHd1 (n0 : Nat) (c1 : Nat) (x2 : Int) (x3 : Int) (l4 : List Value) (x5 : Int) (x6 : Int) (x7 : Int) : Slots × Blocks := ([(0, (Value.slice (some ⟨500, 0, none⟩) n0 c1)), (2, (Value.int .i64 x2)), (4, (Value.pointer (some ⟨1000, 0, none⟩))), (7, (Value.int .i64 x3))], [(500, (AObj.sym l4 false 1)), (1000, (AObj.cells [(Value.int .i64 x5), (Value.int .i64 x6), (Value.int .i64 x7)] 101 false 1))])
def rHd1 (C : Ct) (L : AtLoop) (n0 : Nat) (c1 : Nat) (x2 : Int) (x3 : Int) (l4 : List Value) (x5 : Int) (x6 : Int) (x7 : Int) (B : Bx) (X : Xx) (k : List D → Prop) : Prop := jRound Try.prog (hF7 C) L [] 61 0 [(0, (Value.slice (some ⟨500, 0, none⟩) n0 c1)), (2, (Value.int .i64 x2)), (4, (Value.pointer (some ⟨1000, 0, none⟩))), (7, (Value.int .i64 x3))] [(500, (AObj.sym l4 false 1)), (1000, (AObj.cells [(Value.int .i64 x5), (Value.int .i64 x6), (Value.int .i64 x7)] 101 false 1))] B X (dataK k)
theorem rHd1_text (C : Ct) (L : AtLoop) (n0 : Nat) (c1 : Nat) (x2 : Int) (x3 : Int) (l4 : List Go.Value) (x5 : Int) (x6 : Int) (x7 : Int) (B : Bx) (X : Xx) (k : List D → Prop) : rHd1 C L n0 c1 x2 x3 l4 x5 x6 x7 B X k =
 (bcase (decide (x3 < x2))
 (L 2 [(Prod.mk 0 (Go.Value.slice (Option.some (Go.Addr.mk 500 0 Option.none)) (n0) (c1))), (Prod.mk 2 (vI x2)), (Prod.mk 4 (Go.Value.pointer (Option.some (Go.Addr.mk 1000 0 Option.none)))), (Prod.mk 7 (vI x3)), (Prod.mk 8 (Go.Value.slice Option.none 0 0)), (Prod.mk 9 (vI (0 : Int)))] [(Prod.mk 500 (AObj.sym (l4) false 1)), (Prod.mk 1000 (AObj.cells [(vI x5), (vI x6), (vI x7)] 101 false 1))])
 (X 0 [(Prod.mk 0 (Go.Value.slice (Option.some (Go.Addr.mk 500 0 Option.none)) (n0) (c1)))] [(Prod.mk 500 (AObj.sym (l4) false 1))])) := by kernel_rfl
abbrev zHd2 (n0 : Nat) (c1 : Nat) (x2 : Int) (x3 : Int) (x4 : Int) (l5 : List Value) (x6 : Int) (x7 : Int) (x8 : Int) : Slots × Blocks := ([(0, (Value.slice (some ⟨500, 0, none⟩) n0 c1)), (2, (Value.int .i64 x2)), (4, (Value.pointer (some ⟨1000, 0, none⟩))), (7, (Value.int .i64 x3)), (8, (Value.slice none 0 0)), (9, (Value.int .i64 x4))], [(500, (AObj.sym l5 false 1)), (1000, (AObj.cells [(Value.int .i64 x6), (Value.int .i64 x7), (Value.int .i64 x8)] 101 false 1))])
def rHd2 (C : Ct) (L : AtLoop) (n0 : Nat) (c1 : Nat) (x2 : Int) (x3 : Int) (x4 : Int) (l5 : List Value) (x6 : Int) (x7 : Int) (x8 : Int) (B : Bx) (X : Xx) (k : List D → Prop) : Prop := jRound2 Try.prog (hF7 C) L [] 61 0 2 [(0, (Value.slice (some ⟨500, 0, none⟩) n0 c1)), (2, (Value.int .i64 x2)), (4, (Value.pointer (some ⟨1000, 0, none⟩))), (7, (Value.int .i64 x3)), (8, (Value.slice none 0 0)), (9, (Value.int .i64 x4))] [(500, (AObj.sym l5 false 1)), (1000, (AObj.cells [(Value.int .i64 x6), (Value.int .i64 x7), (Value.int .i64 x8)] 101 false 1))] B X (dataK k)
theorem rHd2_text (C : Ct) (L : AtLoop) (n0 : Nat) (c1 : Nat) (x2 : Int) (x3 : Int) (x4 : Int) (l5 : List Go.Value) (x6 : Int) (x7 : Int) (x8 : Int) (B : Bx) (X : Xx) (k : List D → Prop) : rHd2 C L n0 c1 x2 x3 x4 l5 x6 x7 x8 B X k =
 (bcase (decide (x4 < (↑n0 : Int)))
 (bcase (decide (0 ≤ x4))
 (bcase (decide (x4 < (↑n0 : Int)))
 (∃ n1 : Int,
 ((At (l5) (0 + Int.toNat x4 * 1) 1 [(vI n1)]) ∧
 ((((vI (IntKind.wrap .i64 (IntKind.wrap .i64 (x6 - n1) * x7))) = (vI (IntKind.wrap .i64 (IntKind.wrap .i64 (x6 - n1) * x7)))) ∧
 (((vI x7) = (vI x7)) ∧
 (((Go.Value.pointer (Option.some (Go.Addr.mk 1000 1 Option.none))) = (Go.Value.pointer (Option.some (Go.Addr.mk 1000 1 Option.none)))) ∧
 (((vI (IntKind.wrap .i64 (x6 - n1))) = (vI (IntKind.wrap .i64 (x6 - n1)))) ∧
 ((∃ n2 : Int,
 ((At (l5) (0 + Int.toNat x4 * 1) 1 [(vI n2)]) ∧
 ((vI n2) = (vI n1)))) ∧
 ((bcase (decide (0 ≤ x4))
 (bcase (decide (x4 < (↑n0 : Int)))
 ((Go.Value.pointer (Option.some (Go.Addr.mk 500 (0 + Int.toNat x4 * 1) Option.none))) = (Go.Value.pointer (Option.some (Go.Addr.mk 500 (0 + Int.toNat x4 * 1) Option.none))))
 False)
 False) ∧
 (((vI x4) = (vI x4)) ∧
 (((Go.Value.slice (Option.some (Go.Addr.mk 500 0 Option.none)) (n0) (c1)) = (Go.Value.slice (Option.some (Go.Addr.mk 500 0 Option.none)) (n0) (c1))) ∧
 (((vI x6) = (vI x6)) ∧
 (((Go.Value.pointer (Option.some (Go.Addr.mk 1000 0 Option.none))) = (Go.Value.pointer (Option.some (Go.Addr.mk 1000 0 Option.none)))) ∧
 True)))))))))) ∧
 (True ∧
 (bcase (decide (x4 > 0))
 (bcase (decide (0 ≤ IntKind.wrap .i64 (x4 - 1)))
 (bcase (decide (IntKind.wrap .i64 (x4 - 1) < (↑n0 : Int)))
 (∃ n2 : Int,
 ((At (l5) (0 + Int.toNat (IntKind.wrap .i64 (x4 - 1)) * 1) 1 [(vI n2)]) ∧
 (bcase (decide (0 ≤ x4))
 (bcase (decide (x4 < (↑n0 : Int)))
 (∃ n3 : Int,
 ((At (l5) (0 + Int.toNat x4 * 1) 1 [(vI n3)]) ∧
 ((((vI (IntKind.wrap .i64 (IntKind.wrap .i64 (IntKind.wrap .i64 (x6 - n1) * x7) + IntKind.wrap .i64 (IntKind.wrap .i64 (n2 - n3) * x8)))) = (vI (IntKind.wrap .i64 (IntKind.wrap .i64 (IntKind.wrap .i64 (x6 - n1) * x7) + IntKind.wrap .i64 (IntKind.wrap .i64 (n2 - n3) * x8))))) ∧
 (((vI (IntKind.wrap .i64 (IntKind.wrap .i64 (n2 - n3) * x8))) = (vI (IntKind.wrap .i64 (IntKind.wrap .i64 (n2 - n3) * x8)))) ∧
 (((vI x8) = (vI x8)) ∧
 (((Go.Value.pointer (Option.some (Go.Addr.mk 1000 2 Option.none))) = (Go.Value.pointer (Option.some (Go.Addr.mk 1000 2 Option.none)))) ∧
 (((vI (IntKind.wrap .i64 (n2 - n3))) = (vI (IntKind.wrap .i64 (n2 - n3)))) ∧
 ((∃ n4 : Int,
 ((At (l5) (0 + Int.toNat x4 * 1) 1 [(vI n4)]) ∧
 ((vI n4) = (vI n3)))) ∧
 ((bcase (decide (0 ≤ x4))
 (bcase (decide (x4 < (↑n0 : Int)))
 ((Go.Value.pointer (Option.some (Go.Addr.mk 500 (0 + Int.toNat x4 * 1) Option.none))) = (Go.Value.pointer (Option.some (Go.Addr.mk 500 (0 + Int.toNat x4 * 1) Option.none))))
 False)
 False) ∧
 (((vI x4) = (vI x4)) ∧
 (((Go.Value.slice (Option.some (Go.Addr.mk 500 0 Option.none)) (n0) (c1)) = (Go.Value.slice (Option.some (Go.Addr.mk 500 0 Option.none)) (n0) (c1))) ∧
 ((∃ n4 : Int,
 ((At (l5) (0 + Int.toNat (IntKind.wrap .i64 (x4 - 1)) * 1) 1 [(vI n4)]) ∧
 ((vI n4) = (vI n2)))) ∧
 ((bcase (decide (0 ≤ IntKind.wrap .i64 (x4 - 1)))
 (bcase (decide (IntKind.wrap .i64 (x4 - 1) < (↑n0 : Int)))
 ((Go.Value.pointer (Option.some (Go.Addr.mk 500 (0 + Int.toNat (IntKind.wrap .i64 (x4 - 1)) * 1) Option.none))) = (Go.Value.pointer (Option.some (Go.Addr.mk 500 (0 + Int.toNat (IntKind.wrap .i64 (x4 - 1)) * 1) Option.none))))
 False)
 False) ∧
 (((vI (IntKind.wrap .i64 (x4 - 1))) = (vI (IntKind.wrap .i64 (x4 - 1)))) ∧
 (((vI x4) = (vI x4)) ∧
 (((Go.Value.slice (Option.some (Go.Addr.mk 500 0 Option.none)) (n0) (c1)) = (Go.Value.slice (Option.some (Go.Addr.mk 500 0 Option.none)) (n0) (c1))) ∧
 (((vI (IntKind.wrap .i64 (IntKind.wrap .i64 (x6 - n1) * x7))) = (vI (IntKind.wrap .i64 (IntKind.wrap .i64 (x6 - n1) * x7)))) ∧
 True))))))))))))))) ∧
 (True ∧
 (bcase (decide (x4 < IntKind.wrap .i64 ((↑n0 : Int) - 1)))
 (bcase (decide (0 ≤ IntKind.wrap .i64 (x4 + 1)))
 (bcase (decide (IntKind.wrap .i64 (x4 + 1) < (↑n0 : Int)))
 (∃ n4 : Int,
 ((At (l5) (0 + Int.toNat (IntKind.wrap .i64 (x4 + 1)) * 1) 1 [(vI n4)]) ∧
 (bcase (decide (0 ≤ x4))
 (bcase (decide (x4 < (↑n0 : Int)))
 (∃ n5 : Int,
 ((At (l5) (0 + Int.toNat x4 * 1) 1 [(vI n5)]) ∧
 ((((vI (IntKind.wrap .i64 (IntKind.wrap .i64 (IntKind.wrap .i64 (IntKind.wrap .i64 (x6 - n1) * x7) + IntKind.wrap .i64 (IntKind.wrap .i64 (n2 - n3) * x8)) + IntKind.wrap .i64 (IntKind.wrap .i64 (n4 - n5) * x8)))) = (vI (IntKind.wrap .i64 (IntKind.wrap .i64 (IntKind.wrap .i64 (IntKind.wrap .i64 (x6 - n1) * x7) + IntKind.wrap .i64 (IntKind.wrap .i64 (n2 - n3) * x8)) + IntKind.wrap .i64 (IntKind.wrap .i64 (n4 - n5) * x8))))) ∧
 (((vI (IntKind.wrap .i64 (IntKind.wrap .i64 (n4 - n5) * x8))) = (vI (IntKind.wrap .i64 (IntKind.wrap .i64 (n4 - n5) * x8)))) ∧
 (((vI x8) = (vI x8)) ∧
 (((Go.Value.pointer (Option.some (Go.Addr.mk 1000 2 Option.none))) = (Go.Value.pointer (Option.some (Go.Addr.mk 1000 2 Option.none)))) ∧
 (((vI (IntKind.wrap .i64 (n4 - n5))) = (vI (IntKind.wrap .i64 (n4 - n5)))) ∧
 ((∃ n6 : Int,
 ((At (l5) (0 + Int.toNat x4 * 1) 1 [(vI n6)]) ∧
 ((vI n6) = (vI n5)))) ∧
 ((bcase (decide (0 ≤ x4))
 (bcase (decide (x4 < (↑n0 : Int)))
 ((Go.Value.pointer (Option.some (Go.Addr.mk 500 (0 + Int.toNat x4 * 1) Option.none))) = (Go.Value.pointer (Option.some (Go.Addr.mk 500 (0 + Int.toNat x4 * 1) Option.none))))
 False)
 False) ∧
 (((vI x4) = (vI x4)) ∧
 (((Go.Value.slice (Option.some (Go.Addr.mk 500 0 Option.none)) (n0) (c1)) = (Go.Value.slice (Option.some (Go.Addr.mk 500 0 Option.none)) (n0) (c1))) ∧
 ((∃ n6 : Int,
 ((At (l5) (0 + Int.toNat (IntKind.wrap .i64 (x4 + 1)) * 1) 1 [(vI n6)]) ∧
 ((vI n6) = (vI n4)))) ∧
 ((bcase (decide (0 ≤ IntKind.wrap .i64 (x4 + 1)))
 (bcase (decide (IntKind.wrap .i64 (x4 + 1) < (↑n0 : Int)))
 ((Go.Value.pointer (Option.some (Go.Addr.mk 500 (0 + Int.toNat (IntKind.wrap .i64 (x4 + 1)) * 1) Option.none))) = (Go.Value.pointer (Option.some (Go.Addr.mk 500 (0 + Int.toNat (IntKind.wrap .i64 (x4 + 1)) * 1) Option.none))))
 False)
 False) ∧
 (((vI (IntKind.wrap .i64 (x4 + 1))) = (vI (IntKind.wrap .i64 (x4 + 1)))) ∧
 (((vI x4) = (vI x4)) ∧
 (((Go.Value.slice (Option.some (Go.Addr.mk 500 0 Option.none)) (n0) (c1)) = (Go.Value.slice (Option.some (Go.Addr.mk 500 0 Option.none)) (n0) (c1))) ∧
 (((vI (IntKind.wrap .i64 (IntKind.wrap .i64 (IntKind.wrap .i64 (x6 - n1) * x7) + IntKind.wrap .i64 (IntKind.wrap .i64 (n2 - n3) * x8)))) = (vI (IntKind.wrap .i64 (IntKind.wrap .i64 (IntKind.wrap .i64 (x6 - n1) * x7) + IntKind.wrap .i64 (IntKind.wrap .i64 (n2 - n3) * x8))))) ∧
 True))))))))))))))) ∧
 (True ∧
 (bcase (decide (0 ≤ x4))
 (bcase (decide (x4 < (↑n0 : Int)))
 (∃ n6 : Int,
 ((At (l5) (0 + Int.toNat x4 * 1) 1 [(vI n6)]) ∧
 ((((vI (IntKind.wrap .i64 (IntKind.wrap .i64 (IntKind.wrap .i64 (IntKind.wrap .i64 (x6 - n1) * x7) + IntKind.wrap .i64 (IntKind.wrap .i64 (n2 - n3) * x8)) + IntKind.wrap .i64 (IntKind.wrap .i64 (n4 - n5) * x8)))) = (vI (IntKind.wrap .i64 (IntKind.wrap .i64 (IntKind.wrap .i64 (IntKind.wrap .i64 (x6 - n1) * x7) + IntKind.wrap .i64 (IntKind.wrap .i64 (n2 - n3) * x8)) + IntKind.wrap .i64 (IntKind.wrap .i64 (n4 - n5) * x8))))) ∧
 ((∃ n7 : Int,
 ((At (l5) (0 + Int.toNat x4 * 1) 1 [(vI n7)]) ∧
 ((vI n7) = (vI n6)))) ∧
 ((bcase (decide (0 ≤ x4))
 (bcase (decide (x4 < (↑n0 : Int)))
 ((Go.Value.pointer (Option.some (Go.Addr.mk 500 (0 + Int.toNat x4 * 1) Option.none))) = (Go.Value.pointer (Option.some (Go.Addr.mk 500 (0 + Int.toNat x4 * 1) Option.none))))
 False)
 False) ∧
 (((vI x4) = (vI x4)) ∧
 (((Go.Value.slice (Option.some (Go.Addr.mk 500 0 Option.none)) (n0) (c1)) = (Go.Value.slice (Option.some (Go.Addr.mk 500 0 Option.none)) (n0) (c1))) ∧
 (((Go.Value.slice Option.none 0 0) = (Go.Value.slice Option.none 0 0)) ∧
 True)))))) ∧
 (∃ n7 : Int,
 ((Says C 109 [(D.val (vI (IntKind.wrap .i64 (IntKind.wrap .i64 (IntKind.wrap .i64 (IntKind.wrap .i64 (x6 - n1) * x7) + IntKind.wrap .i64 (IntKind.wrap .i64 (n2 - n3) * x8)) + IntKind.wrap .i64 (IntKind.wrap .i64 (n4 - n5) * x8))))), (D.val (vI (1000 : Int)))] [(D.val (vI n7))]) ∧
 (((((Go.Value.slice (Option.some (Go.Addr.mk 1001 0 Option.none)) 1 1) = (Go.Value.slice (Option.some (Go.Addr.mk 1001 0 Option.none)) 1 1)) ∧
 ((Option.some (AObj.cells [(vI (IntKind.wrap .i64 (n6 + n7)))] 3 false 1)) = (Option.some (AObj.cells [(vI (IntKind.wrap .i64 (n6 + n7)))] 3 false 1)))) ∧
 (((vI (IntKind.wrap .i64 (n6 + n7))) = (vI (IntKind.wrap .i64 (n6 + n7)))) ∧
 ((∃ n8 : Int,
 ((At (l5) (0 + Int.toNat x4 * 1) 1 [(vI n8)]) ∧
 ((vI n8) = (vI n6)))) ∧
 ((bcase (decide (0 ≤ x4))
 (bcase (decide (x4 < (↑n0 : Int)))
 ((Go.Value.pointer (Option.some (Go.Addr.mk 500 (0 + Int.toNat x4 * 1) Option.none))) = (Go.Value.pointer (Option.some (Go.Addr.mk 500 (0 + Int.toNat x4 * 1) Option.none))))
 False)
 False) ∧
 (((vI x4) = (vI x4)) ∧
 (((Go.Value.slice (Option.some (Go.Addr.mk 500 0 Option.none)) (n0) (c1)) = (Go.Value.slice (Option.some (Go.Addr.mk 500 0 Option.none)) (n0) (c1))) ∧
 (((Go.Value.slice Option.none 0 0) = (Go.Value.slice Option.none 0 0)) ∧
 True))))))) ∧
 ((((vI (IntKind.wrap .i64 (n6 + n7))) = (vI (IntKind.wrap .i64 (n6 + n7)))) ∧
 ((∃ n8 : Int,
 ((At (l5) (0 + Int.toNat x4 * 1) 1 [(vI n8)]) ∧
 ((vI n8) = (vI n6)))) ∧
 ((bcase (decide (0 ≤ x4))
 (bcase (decide (x4 < (↑n0 : Int)))
 ((Go.Value.pointer (Option.some (Go.Addr.mk 500 (0 + Int.toNat x4 * 1) Option.none))) = (Go.Value.pointer (Option.some (Go.Addr.mk 500 (0 + Int.toNat x4 * 1) Option.none))))
 False)
 False) ∧
 (((vI x4) = (vI x4)) ∧
 (((Go.Value.slice (Option.some (Go.Addr.mk 500 0 Option.none)) (n0) (c1)) = (Go.Value.slice (Option.some (Go.Addr.mk 500 0 Option.none)) (n0) (c1))) ∧
 True))))) ∧
 (True ∧
 (B [(Prod.mk 0 (Go.Value.slice (Option.some (Go.Addr.mk 500 0 Option.none)) (n0) (c1))), (Prod.mk 2 (vI x2)), (Prod.mk 4 (Go.Value.pointer (Option.some (Go.Addr.mk 1000 0 Option.none)))), (Prod.mk 7 (vI x3)), (Prod.mk 8 (Go.Value.slice (Option.some (Go.Addr.mk 1001 0 Option.none)) 1 1)), (Prod.mk 9 (vI (IntKind.wrap .i64 (x4 + 1))))] [(Prod.mk 500 (AObj.sym (l5) false 1)), (Prod.mk 1000 (AObj.cells [(vI x6), (vI x7), (vI x8)] 101 false 1)), (Prod.mk 1001 (AObj.sym [(vI (IntKind.wrap .i64 (n6 + n7)))] true 1))])))))))))
 False)
 False)))))
 False)
 False)))
 False)
 False)
 (bcase (decide (0 ≤ x4))
 (bcase (decide (x4 < (↑n0 : Int)))
 (∃ n4 : Int,
 ((At (l5) (0 + Int.toNat x4 * 1) 1 [(vI n4)]) ∧
 ((((vI (IntKind.wrap .i64 (IntKind.wrap .i64 (IntKind.wrap .i64 (x6 - n1) * x7) + IntKind.wrap .i64 (IntKind.wrap .i64 (n2 - n3) * x8)))) = (vI (IntKind.wrap .i64 (IntKind.wrap .i64 (IntKind.wrap .i64 (x6 - n1) * x7) + IntKind.wrap .i64 (IntKind.wrap .i64 (n2 - n3) * x8))))) ∧
 ((∃ n5 : Int,
 ((At (l5) (0 + Int.toNat x4 * 1) 1 [(vI n5)]) ∧
 ((vI n5) = (vI n4)))) ∧
 ((bcase (decide (0 ≤ x4))
 (bcase (decide (x4 < (↑n0 : Int)))
 ((Go.Value.pointer (Option.some (Go.Addr.mk 500 (0 + Int.toNat x4 * 1) Option.none))) = (Go.Value.pointer (Option.some (Go.Addr.mk 500 (0 + Int.toNat x4 * 1) Option.none))))
 False)
 False) ∧
 (((vI x4) = (vI x4)) ∧
 (((Go.Value.slice (Option.some (Go.Addr.mk 500 0 Option.none)) (n0) (c1)) = (Go.Value.slice (Option.some (Go.Addr.mk 500 0 Option.none)) (n0) (c1))) ∧
 (((Go.Value.slice Option.none 0 0) = (Go.Value.slice Option.none 0 0)) ∧
 True)))))) ∧
 (∃ n5 : Int,
 ((Says C 109 [(D.val (vI (IntKind.wrap .i64 (IntKind.wrap .i64 (IntKind.wrap .i64 (x6 - n1) * x7) + IntKind.wrap .i64 (IntKind.wrap .i64 (n2 - n3) * x8))))), (D.val (vI (1000 : Int)))] [(D.val (vI n5))]) ∧
 (((((Go.Value.slice (Option.some (Go.Addr.mk 1001 0 Option.none)) 1 1) = (Go.Value.slice (Option.some (Go.Addr.mk 1001 0 Option.none)) 1 1)) ∧
 ((Option.some (AObj.cells [(vI (IntKind.wrap .i64 (n4 + n5)))] 3 false 1)) = (Option.some (AObj.cells [(vI (IntKind.wrap .i64 (n4 + n5)))] 3 false 1)))) ∧
 (((vI (IntKind.wrap .i64 (n4 + n5))) = (vI (IntKind.wrap .i64 (n4 + n5)))) ∧
 ((∃ n6 : Int,
 ((At (l5) (0 + Int.toNat x4 * 1) 1 [(vI n6)]) ∧
 ((vI n6) = (vI n4)))) ∧
 ((bcase (decide (0 ≤ x4))
 (bcase (decide (x4 < (↑n0 : Int)))
 ((Go.Value.pointer (Option.some (Go.Addr.mk 500 (0 + Int.toNat x4 * 1) Option.none))) = (Go.Value.pointer (Option.some (Go.Addr.mk 500 (0 + Int.toNat x4 * 1) Option.none))))
 False)
 False) ∧
 (((vI x4) = (vI x4)) ∧
 (((Go.Value.slice (Option.some (Go.Addr.mk 500 0 Option.none)) (n0) (c1)) = (Go.Value.slice (Option.some (Go.Addr.mk 500 0 Option.none)) (n0) (c1))) ∧
 (((Go.Value.slice Option.none 0 0) = (Go.Value.slice Option.none 0 0)) ∧
 True))))))) ∧
 ((((vI (IntKind.wrap .i64 (n4 + n5))) = (vI (IntKind.wrap .i64 (n4 + n5)))) ∧
 ((∃ n6 : Int,
 ((At (l5) (0 + Int.toNat x4 * 1) 1 [(vI n6)]) ∧
 ((vI n6) = (vI n4)))) ∧
 ((bcase (decide (0 ≤ x4))
 (bcase (decide (x4 < (↑n0 : Int)))
 ((Go.Value.pointer (Option.some (Go.Addr.mk 500 (0 + Int.toNat x4 * 1) Option.none))) = (Go.Value.pointer (Option.some (Go.Addr.mk 500 (0 + Int.toNat x4 * 1) Option.none))))
 False)
 False) ∧
 (((vI x4) = (vI x4)) ∧
 (((Go.Value.slice (Option.some (Go.Addr.mk 500 0 Option.none)) (n0) (c1)) = (Go.Value.slice (Option.some (Go.Addr.mk 500 0 Option.none)) (n0) (c1))) ∧
 True))))) ∧
 (True ∧
 (B [(Prod.mk 0 (Go.Value.slice (Option.some (Go.Addr.mk 500 0 Option.none)) (n0) (c1))), (Prod.mk 2 (vI x2)), (Prod.mk 4 (Go.Value.pointer (Option.some (Go.Addr.mk 1000 0 Option.none)))), (Prod.mk 7 (vI x3)), (Prod.mk 8 (Go.Value.slice (Option.some (Go.Addr.mk 1001 0 Option.none)) 1 1)), (Prod.mk 9 (vI (IntKind.wrap .i64 (x4 + 1))))] [(Prod.mk 500 (AObj.sym (l5) false 1)), (Prod.mk 1000 (AObj.cells [(vI x6), (vI x7), (vI x8)] 101 false 1)), (Prod.mk 1001 (AObj.sym [(vI (IntKind.wrap .i64 (n4 + n5)))] true 1))])))))))))
 False)
 False))))))
 False)
 False)))
 False)
 False)
 (bcase (decide (x4 < IntKind.wrap .i64 ((↑n0 : Int) - 1)))
 (bcase (decide (0 ≤ IntKind.wrap .i64 (x4 + 1)))
 (bcase (decide (IntKind.wrap .i64 (x4 + 1) < (↑n0 : Int)))
 (∃ n2 : Int,
 ((At (l5) (0 + Int.toNat (IntKind.wrap .i64 (x4 + 1)) * 1) 1 [(vI n2)]) ∧
 (bcase (decide (0 ≤ x4))
 (bcase (decide (x4 < (↑n0 : Int)))
 (∃ n3 : Int,
 ((At (l5) (0 + Int.toNat x4 * 1) 1 [(vI n3)]) ∧
 ((((vI (IntKind.wrap .i64 (IntKind.wrap .i64 (IntKind.wrap .i64 (x6 - n1) * x7) + IntKind.wrap .i64 (IntKind.wrap .i64 (n2 - n3) * x8)))) = (vI (IntKind.wrap .i64 (IntKind.wrap .i64 (IntKind.wrap .i64 (x6 - n1) * x7) + IntKind.wrap .i64 (IntKind.wrap .i64 (n2 - n3) * x8))))) ∧
 (((vI (IntKind.wrap .i64 (IntKind.wrap .i64 (n2 - n3) * x8))) = (vI (IntKind.wrap .i64 (IntKind.wrap .i64 (n2 - n3) * x8)))) ∧
 (((vI x8) = (vI x8)) ∧
 (((Go.Value.pointer (Option.some (Go.Addr.mk 1000 2 Option.none))) = (Go.Value.pointer (Option.some (Go.Addr.mk 1000 2 Option.none)))) ∧
 (((vI (IntKind.wrap .i64 (n2 - n3))) = (vI (IntKind.wrap .i64 (n2 - n3)))) ∧
 ((∃ n4 : Int,
 ((At (l5) (0 + Int.toNat x4 * 1) 1 [(vI n4)]) ∧
 ((vI n4) = (vI n3)))) ∧
 ((bcase (decide (0 ≤ x4))
 (bcase (decide (x4 < (↑n0 : Int)))
 ((Go.Value.pointer (Option.some (Go.Addr.mk 500 (0 + Int.toNat x4 * 1) Option.none))) = (Go.Value.pointer (Option.some (Go.Addr.mk 500 (0 + Int.toNat x4 * 1) Option.none))))
 False)
 False) ∧
 (((vI x4) = (vI x4)) ∧
 (((Go.Value.slice (Option.some (Go.Addr.mk 500 0 Option.none)) (n0) (c1)) = (Go.Value.slice (Option.some (Go.Addr.mk 500 0 Option.none)) (n0) (c1))) ∧
 ((∃ n4 : Int,
 ((At (l5) (0 + Int.toNat (IntKind.wrap .i64 (x4 + 1)) * 1) 1 [(vI n4)]) ∧
 ((vI n4) = (vI n2)))) ∧
 ((bcase (decide (0 ≤ IntKind.wrap .i64 (x4 + 1)))
 (bcase (decide (IntKind.wrap .i64 (x4 + 1) < (↑n0 : Int)))
 ((Go.Value.pointer (Option.some (Go.Addr.mk 500 (0 + Int.toNat (IntKind.wrap .i64 (x4 + 1)) * 1) Option.none))) = (Go.Value.pointer (Option.some (Go.Addr.mk 500 (0 + Int.toNat (IntKind.wrap .i64 (x4 + 1)) * 1) Option.none))))
 False)
 False) ∧
 (((vI (IntKind.wrap .i64 (x4 + 1))) = (vI (IntKind.wrap .i64 (x4 + 1)))) ∧
 (((vI x4) = (vI x4)) ∧
 (((Go.Value.slice (Option.some (Go.Addr.mk 500 0 Option.none)) (n0) (c1)) = (Go.Value.slice (Option.some (Go.Addr.mk 500 0 Option.none)) (n0) (c1))) ∧
 (((vI (IntKind.wrap .i64 (IntKind.wrap .i64 (x6 - n1) * x7))) = (vI (IntKind.wrap .i64 (IntKind.wrap .i64 (x6 - n1) * x7)))) ∧
 True))))))))))))))) ∧
 (True ∧
 (bcase (decide (0 ≤ x4))
 (bcase (decide (x4 < (↑n0 : Int)))
 (∃ n4 : Int,
 ((At (l5) (0 + Int.toNat x4 * 1) 1 [(vI n4)]) ∧
 ((((vI (IntKind.wrap .i64 (IntKind.wrap .i64 (IntKind.wrap .i64 (x6 - n1) * x7) + IntKind.wrap .i64 (IntKind.wrap .i64 (n2 - n3) * x8)))) = (vI (IntKind.wrap .i64 (IntKind.wrap .i64 (IntKind.wrap .i64 (x6 - n1) * x7) + IntKind.wrap .i64 (IntKind.wrap .i64 (n2 - n3) * x8))))) ∧
 ((∃ n5 : Int,
 ((At (l5) (0 + Int.toNat x4 * 1) 1 [(vI n5)]) ∧
 ((vI n5) = (vI n4)))) ∧
 ((bcase (decide (0 ≤ x4))
 (bcase (decide (x4 < (↑n0 : Int)))
 ((Go.Value.pointer (Option.some (Go.Addr.mk 500 (0 + Int.toNat x4 * 1) Option.none))) = (Go.Value.pointer (Option.some (Go.Addr.mk 500 (0 + Int.toNat x4 * 1) Option.none))))
 False)
 False) ∧
 (((vI x4) = (vI x4)) ∧
 (((Go.Value.slice (Option.some (Go.Addr.mk 500 0 Option.none)) (n0) (c1)) = (Go.Value.slice (Option.some (Go.Addr.mk 500 0 Option.none)) (n0) (c1))) ∧
 (((Go.Value.slice Option.none 0 0) = (Go.Value.slice Option.none 0 0)) ∧
 True)))))) ∧
 (∃ n5 : Int,
 ((Says C 109 [(D.val (vI (IntKind.wrap .i64 (IntKind.wrap .i64 (IntKind.wrap .i64 (x6 - n1) * x7) + IntKind.wrap .i64 (IntKind.wrap .i64 (n2 - n3) * x8))))), (D.val (vI (1000 : Int)))] [(D.val (vI n5))]) ∧
 (((((Go.Value.slice (Option.some (Go.Addr.mk 1001 0 Option.none)) 1 1) = (Go.Value.slice (Option.some (Go.Addr.mk 1001 0 Option.none)) 1 1)) ∧
 ((Option.some (AObj.cells [(vI (IntKind.wrap .i64 (n4 + n5)))] 3 false 1)) = (Option.some (AObj.cells [(vI (IntKind.wrap .i64 (n4 + n5)))] 3 false 1)))) ∧
 (((vI (IntKind.wrap .i64 (n4 + n5))) = (vI (IntKind.wrap .i64 (n4 + n5)))) ∧
 ((∃ n6 : Int,
 ((At (l5) (0 + Int.toNat x4 * 1) 1 [(vI n6)]) ∧
 ((vI n6) = (vI n4)))) ∧
 ((bcase (decide (0 ≤ x4))
 (bcase (decide (x4 < (↑n0 : Int)))
 ((Go.Value.pointer (Option.some (Go.Addr.mk 500 (0 + Int.toNat x4 * 1) Option.none))) = (Go.Value.pointer (Option.some (Go.Addr.mk 500 (0 + Int.toNat x4 * 1) Option.none))))
 False)
 False) ∧
 (((vI x4) = (vI x4)) ∧
 (((Go.Value.slice (Option.some (Go.Addr.mk 500 0 Option.none)) (n0) (c1)) = (Go.Value.slice (Option.some (Go.Addr.mk 500 0 Option.none)) (n0) (c1))) ∧
 (((Go.Value.slice Option.none 0 0) = (Go.Value.slice Option.none 0 0)) ∧
 True))))))) ∧
 ((((vI (IntKind.wrap .i64 (n4 + n5))) = (vI (IntKind.wrap .i64 (n4 + n5)))) ∧
 ((∃ n6 : Int,
 ((At (l5) (0 + Int.toNat x4 * 1) 1 [(vI n6)]) ∧
 ((vI n6) = (vI n4)))) ∧
 ((bcase (decide (0 ≤ x4))
 (bcase (decide (x4 < (↑n0 : Int)))
 ((Go.Value.pointer (Option.some (Go.Addr.mk 500 (0 + Int.toNat x4 * 1) Option.none))) = (Go.Value.pointer (Option.some (Go.Addr.mk 500 (0 + Int.toNat x4 * 1) Option.none))))
 False)
 False) ∧
 (((vI x4) = (vI x4)) ∧
 (((Go.Value.slice (Option.some (Go.Addr.mk 500 0 Option.none)) (n0) (c1)) = (Go.Value.slice (Option.some (Go.Addr.mk 500 0 Option.none)) (n0) (c1))) ∧
 True))))) ∧
 (True ∧
 (B [(Prod.mk 0 (Go.Value.slice (Option.some (Go.Addr.mk 500 0 Option.none)) (n0) (c1))), (Prod.mk 2 (vI x2)), (Prod.mk 4 (Go.Value.pointer (Option.some (Go.Addr.mk 1000 0 Option.none)))), (Prod.mk 7 (vI x3)), (Prod.mk 8 (Go.Value.slice (Option.some (Go.Addr.mk 1001 0 Option.none)) 1 1)), (Prod.mk 9 (vI (IntKind.wrap .i64 (x4 + 1))))] [(Prod.mk 500 (AObj.sym (l5) false 1)), (Prod.mk 1000 (AObj.cells [(vI x6), (vI x7), (vI x8)] 101 false 1)), (Prod.mk 1001 (AObj.sym [(vI (IntKind.wrap .i64 (n4 + n5)))] true 1))])))))))))
 False)
 False)))))
 False)
 False)))
 False)
 False)
 (bcase (decide (0 ≤ x4))
 (bcase (decide (x4 < (↑n0 : Int)))
 (∃ n2 : Int,
 ((At (l5) (0 + Int.toNat x4 * 1) 1 [(vI n2)]) ∧
 ((((vI (IntKind.wrap .i64 (IntKind.wrap .i64 (x6 - n1) * x7))) = (vI (IntKind.wrap .i64 (IntKind.wrap .i64 (x6 - n1) * x7)))) ∧
 ((∃ n3 : Int,
 ((At (l5) (0 + Int.toNat x4 * 1) 1 [(vI n3)]) ∧
 ((vI n3) = (vI n2)))) ∧
 ((bcase (decide (0 ≤ x4))
 (bcase (decide (x4 < (↑n0 : Int)))
 ((Go.Value.pointer (Option.some (Go.Addr.mk 500 (0 + Int.toNat x4 * 1) Option.none))) = (Go.Value.pointer (Option.some (Go.Addr.mk 500 (0 + Int.toNat x4 * 1) Option.none))))
 False)
 False) ∧
 (((vI x4) = (vI x4)) ∧
 (((Go.Value.slice (Option.some (Go.Addr.mk 500 0 Option.none)) (n0) (c1)) = (Go.Value.slice (Option.some (Go.Addr.mk 500 0 Option.none)) (n0) (c1))) ∧
 (((Go.Value.slice Option.none 0 0) = (Go.Value.slice Option.none 0 0)) ∧
 True)))))) ∧
 (∃ n3 : Int,
 ((Says C 109 [(D.val (vI (IntKind.wrap .i64 (IntKind.wrap .i64 (x6 - n1) * x7)))), (D.val (vI (1000 : Int)))] [(D.val (vI n3))]) ∧
 (((((Go.Value.slice (Option.some (Go.Addr.mk 1001 0 Option.none)) 1 1) = (Go.Value.slice (Option.some (Go.Addr.mk 1001 0 Option.none)) 1 1)) ∧
 ((Option.some (AObj.cells [(vI (IntKind.wrap .i64 (n2 + n3)))] 3 false 1)) = (Option.some (AObj.cells [(vI (IntKind.wrap .i64 (n2 + n3)))] 3 false 1)))) ∧
 (((vI (IntKind.wrap .i64 (n2 + n3))) = (vI (IntKind.wrap .i64 (n2 + n3)))) ∧
 ((∃ n4 : Int,
 ((At (l5) (0 + Int.toNat x4 * 1) 1 [(vI n4)]) ∧
 ((vI n4) = (vI n2)))) ∧
 ((bcase (decide (0 ≤ x4))
 (bcase (decide (x4 < (↑n0 : Int)))
 ((Go.Value.pointer (Option.some (Go.Addr.mk 500 (0 + Int.toNat x4 * 1) Option.none))) = (Go.Value.pointer (Option.some (Go.Addr.mk 500 (0 + Int.toNat x4 * 1) Option.none))))
 False)
 False) ∧
 (((vI x4) = (vI x4)) ∧
 (((Go.Value.slice (Option.some (Go.Addr.mk 500 0 Option.none)) (n0) (c1)) = (Go.Value.slice (Option.some (Go.Addr.mk 500 0 Option.none)) (n0) (c1))) ∧
 (((Go.Value.slice Option.none 0 0) = (Go.Value.slice Option.none 0 0)) ∧
 True))))))) ∧
 ((((vI (IntKind.wrap .i64 (n2 + n3))) = (vI (IntKind.wrap .i64 (n2 + n3)))) ∧
 ((∃ n4 : Int,
 ((At (l5) (0 + Int.toNat x4 * 1) 1 [(vI n4)]) ∧
 ((vI n4) = (vI n2)))) ∧
 ((bcase (decide (0 ≤ x4))
 (bcase (decide (x4 < (↑n0 : Int)))
 ((Go.Value.pointer (Option.some (Go.Addr.mk 500 (0 + Int.toNat x4 * 1) Option.none))) = (Go.Value.pointer (Option.some (Go.Addr.mk 500 (0 + Int.toNat x4 * 1) Option.none))))
 False)
 False) ∧
 (((vI x4) = (vI x4)) ∧
 (((Go.Value.slice (Option.some (Go.Addr.mk 500 0 Option.none)) (n0) (c1)) = (Go.Value.slice (Option.some (Go.Addr.mk 500 0 Option.none)) (n0) (c1))) ∧
 True))))) ∧
 (True ∧
 (B [(Prod.mk 0 (Go.Value.slice (Option.some (Go.Addr.mk 500 0 Option.none)) (n0) (c1))), (Prod.mk 2 (vI x2)), (Prod.mk 4 (Go.Value.pointer (Option.some (Go.Addr.mk 1000 0 Option.none)))), (Prod.mk 7 (vI x3)), (Prod.mk 8 (Go.Value.slice (Option.some (Go.Addr.mk 1001 0 Option.none)) 1 1)), (Prod.mk 9 (vI (IntKind.wrap .i64 (x4 + 1))))] [(Prod.mk 500 (AObj.sym (l5) false 1)), (Prod.mk 1000 (AObj.cells [(vI x6), (vI x7), (vI x8)] 101 false 1)), (Prod.mk 1001 (AObj.sym [(vI (IntKind.wrap .i64 (n2 + n3)))] true 1))])))))))))
 False)
 False)))))))
 False)
 False)
 (X 2 [(Prod.mk 2 (vI x2)), (Prod.mk 4 (Go.Value.pointer (Option.some (Go.Addr.mk 1000 0 Option.none)))), (Prod.mk 7 (vI x3)), (Prod.mk 8 (Go.Value.slice Option.none 0 0))] [(Prod.mk 1000 (AObj.cells [(vI x6), (vI x7), (vI x8)] 101 false 1))])) := by kernel_rfl
def nHd3 (C : Ct) (L : AtLoop) (n0 : Nat) (c1 : Nat) (l2 : List Value) (k : List D → Prop) : Prop := jNext Try.prog (hF7 C) L [] 61 0 .normal [(0, (Value.slice (some ⟨500, 0, none⟩) n0 c1))] [(500, (AObj.sym l2 false 1))] (dataK k)
theorem nHd3_text (C : Ct) (L : AtLoop) (n0 : Nat) (c1 : Nat) (l2 : List Go.Value) (k : List D → Prop) : nHd3 C L n0 c1 l2 k =
 (bcase (decide (0 + n0 * 1 ≤ List.length l2))
 ((Says C 15 [(D.sl (n0) 1 (List.take (n0 * 1) (List.drop 0 l2)))] [(D.sl (n0) 1 (List.take (n0 * 1) (List.drop 0 l2)))]) ∧
 ((((n0) = (n0)) ∧
 ((List.length (List.take (n0 * 1) (List.drop 0 l2))) = (n0 * 1))) ∧
 (k [(D.sl (n0) 1 (List.take (n0 * 1) (List.drop 0 l2)))])))
 False) := by kernel_rfl
abbrev zHd4 (n0 : Nat) (c1 : Nat) (x2 : Int) (x3 : Int) (n4 : Nat) (x5 : Int) (l6 : List Value) (x7 : Int) (x8 : Int) (x9 : Int) (l10 : List Value) : Slots × Blocks := ([(0, (Value.slice (some ⟨500, 0, none⟩) n0 c1)), (2, (Value.int .i64 x2)), (4, (Value.pointer (some ⟨1000, 0, none⟩))), (7, (Value.int .i64 x3)), (8, (Value.slice (some ⟨1001, 0, none⟩) n4 n4)), (9, (Value.int .i64 x5))], [(500, (AObj.sym l6 false 1)), (1000, (AObj.cells [(Value.int .i64 x7), (Value.int .i64 x8), (Value.int .i64 x9)] 101 false 1)), (1001, (AObj.sym l10 true 1))])
def rHd4 (C : Ct) (L : AtLoop) (n0 : Nat) (c1 : Nat) (x2 : Int) (x3 : Int) (n4 : Nat) (x5 : Int) (l6 : List Value) (x7 : Int) (x8 : Int) (x9 : Int) (l10 : List Value) (B : Bx) (X : Xx) (k : List D → Prop) : Prop := jRound2 Try.prog (hF7 C) L [] 61 0 2 [(0, (Value.slice (some ⟨500, 0, none⟩) n0 c1)), (2, (Value.int .i64 x2)), (4, (Value.pointer (some ⟨1000, 0, none⟩))), (7, (Value.int .i64 x3)), (8, (Value.slice (some ⟨1001, 0, none⟩) n4 n4)), (9, (Value.int .i64 x5))] [(500, (AObj.sym l6 false 1)), (1000, (AObj.cells [(Value.int .i64 x7), (Value.int .i64 x8), (Value.int .i64 x9)] 101 false 1)), (1001, (AObj.sym l10 true 1))] B X (dataK k)
theorem rHd4_text (C : Ct) (L : AtLoop) (n0 : Nat) (c1 : Nat) (x2 : Int) (x3 : Int) (n4 : Nat) (x5 : Int) (l6 : List Go.Value) (x7 : Int) (x8 : Int) (x9 : Int) (l10 : List Go.Value) (B : Bx) (X : Xx) (k : List D → Prop) : rHd4 C L n0 c1 x2 x3 n4 x5 l6 x7 x8 x9 l10 B X k =
 (bcase (decide (x5 < (↑n0 : Int)))
 (bcase (decide (0 ≤ x5))
 (bcase (decide (x5 < (↑n0 : Int)))
 (∃ n1 : Int,
 ((At (l6) (0 + Int.toNat x5 * 1) 1 [(vI n1)]) ∧
 ((((vI (IntKind.wrap .i64 (IntKind.wrap .i64 (x7 - n1) * x8))) = (vI (IntKind.wrap .i64 (IntKind.wrap .i64 (x7 - n1) * x8)))) ∧
 (((vI x8) = (vI x8)) ∧
 (((Go.Value.pointer (Option.some (Go.Addr.mk 1000 1 Option.none))) = (Go.Value.pointer (Option.some (Go.Addr.mk 1000 1 Option.none)))) ∧
 (((vI (IntKind.wrap .i64 (x7 - n1))) = (vI (IntKind.wrap .i64 (x7 - n1)))) ∧
 ((∃ n2 : Int,
 ((At (l6) (0 + Int.toNat x5 * 1) 1 [(vI n2)]) ∧
 ((vI n2) = (vI n1)))) ∧
 ((bcase (decide (0 ≤ x5))
 (bcase (decide (x5 < (↑n0 : Int)))
 ((Go.Value.pointer (Option.some (Go.Addr.mk 500 (0 + Int.toNat x5 * 1) Option.none))) = (Go.Value.pointer (Option.some (Go.Addr.mk 500 (0 + Int.toNat x5 * 1) Option.none))))
 False)
 False) ∧
 (((vI x5) = (vI x5)) ∧
 (((Go.Value.slice (Option.some (Go.Addr.mk 500 0 Option.none)) (n0) (c1)) = (Go.Value.slice (Option.some (Go.Addr.mk 500 0 Option.none)) (n0) (c1))) ∧
 (((vI x7) = (vI x7)) ∧
 (((Go.Value.pointer (Option.some (Go.Addr.mk 1000 0 Option.none))) = (Go.Value.pointer (Option.some (Go.Addr.mk 1000 0 Option.none)))) ∧
 True)))))))))) ∧
 (True ∧
 (bcase (decide (x5 > 0))
 (bcase (decide (0 ≤ IntKind.wrap .i64 (x5 - 1)))
 (bcase (decide (IntKind.wrap .i64 (x5 - 1) < (↑n0 : Int)))
 (∃ n2 : Int,
 ((At (l6) (0 + Int.toNat (IntKind.wrap .i64 (x5 - 1)) * 1) 1 [(vI n2)]) ∧
 (bcase (decide (0 ≤ x5))
 (bcase (decide (x5 < (↑n0 : Int)))
 (∃ n3 : Int,
 ((At (l6) (0 + Int.toNat x5 * 1) 1 [(vI n3)]) ∧
 ((((vI (IntKind.wrap .i64 (IntKind.wrap .i64 (IntKind.wrap .i64 (x7 - n1) * x8) + IntKind.wrap .i64 (IntKind.wrap .i64 (n2 - n3) * x9)))) = (vI (IntKind.wrap .i64 (IntKind.wrap .i64 (IntKind.wrap .i64 (x7 - n1) * x8) + IntKind.wrap .i64 (IntKind.wrap .i64 (n2 - n3) * x9))))) ∧
 (((vI (IntKind.wrap .i64 (IntKind.wrap .i64 (n2 - n3) * x9))) = (vI (IntKind.wrap .i64 (IntKind.wrap .i64 (n2 - n3) * x9)))) ∧
 (((vI x9) = (vI x9)) ∧
 (((Go.Value.pointer (Option.some (Go.Addr.mk 1000 2 Option.none))) = (Go.Value.pointer (Option.some (Go.Addr.mk 1000 2 Option.none)))) ∧
 (((vI (IntKind.wrap .i64 (n2 - n3))) = (vI (IntKind.wrap .i64 (n2 - n3)))) ∧
 ((∃ n5 : Int,
 ((At (l6) (0 + Int.toNat x5 * 1) 1 [(vI n5)]) ∧
 ((vI n5) = (vI n3)))) ∧
 ((bcase (decide (0 ≤ x5))
 (bcase (decide (x5 < (↑n0 : Int)))
 ((Go.Value.pointer (Option.some (Go.Addr.mk 500 (0 + Int.toNat x5 * 1) Option.none))) = (Go.Value.pointer (Option.some (Go.Addr.mk 500 (0 + Int.toNat x5 * 1) Option.none))))
 False)
 False) ∧
 (((vI x5) = (vI x5)) ∧
 (((Go.Value.slice (Option.some (Go.Addr.mk 500 0 Option.none)) (n0) (c1)) = (Go.Value.slice (Option.some (Go.Addr.mk 500 0 Option.none)) (n0) (c1))) ∧
 ((∃ n5 : Int,
 ((At (l6) (0 + Int.toNat (IntKind.wrap .i64 (x5 - 1)) * 1) 1 [(vI n5)]) ∧
 ((vI n5) = (vI n2)))) ∧
 ((bcase (decide (0 ≤ IntKind.wrap .i64 (x5 - 1)))
 (bcase (decide (IntKind.wrap .i64 (x5 - 1) < (↑n0 : Int)))
 ((Go.Value.pointer (Option.some (Go.Addr.mk 500 (0 + Int.toNat (IntKind.wrap .i64 (x5 - 1)) * 1) Option.none))) = (Go.Value.pointer (Option.some (Go.Addr.mk 500 (0 + Int.toNat (IntKind.wrap .i64 (x5 - 1)) * 1) Option.none))))
 False)
 False) ∧
 (((vI (IntKind.wrap .i64 (x5 - 1))) = (vI (IntKind.wrap .i64 (x5 - 1)))) ∧
 (((vI x5) = (vI x5)) ∧
 (((Go.Value.slice (Option.some (Go.Addr.mk 500 0 Option.none)) (n0) (c1)) = (Go.Value.slice (Option.some (Go.Addr.mk 500 0 Option.none)) (n0) (c1))) ∧
 (((vI (IntKind.wrap .i64 (IntKind.wrap .i64 (x7 - n1) * x8))) = (vI (IntKind.wrap .i64 (IntKind.wrap .i64 (x7 - n1) * x8)))) ∧
 True))))))))))))))) ∧
 (True ∧
 (bcase (decide (x5 < IntKind.wrap .i64 ((↑n0 : Int) - 1)))
 (bcase (decide (0 ≤ IntKind.wrap .i64 (x5 + 1)))
 (bcase (decide (IntKind.wrap .i64 (x5 + 1) < (↑n0 : Int)))
 (∃ n5 : Int,
 ((At (l6) (0 + Int.toNat (IntKind.wrap .i64 (x5 + 1)) * 1) 1 [(vI n5)]) ∧
 (bcase (decide (0 ≤ x5))
 (bcase (decide (x5 < (↑n0 : Int)))
 (∃ n6 : Int,
 ((At (l6) (0 + Int.toNat x5 * 1) 1 [(vI n6)]) ∧
 ((((vI (IntKind.wrap .i64 (IntKind.wrap .i64 (IntKind.wrap .i64 (IntKind.wrap .i64 (x7 - n1) * x8) + IntKind.wrap .i64 (IntKind.wrap .i64 (n2 - n3) * x9)) + IntKind.wrap .i64 (IntKind.wrap .i64 (n5 - n6) * x9)))) = (vI (IntKind.wrap .i64 (IntKind.wrap .i64 (IntKind.wrap .i64 (IntKind.wrap .i64 (x7 - n1) * x8) + IntKind.wrap .i64 (IntKind.wrap .i64 (n2 - n3) * x9)) + IntKind.wrap .i64 (IntKind.wrap .i64 (n5 - n6) * x9))))) ∧
 (((vI (IntKind.wrap .i64 (IntKind.wrap .i64 (n5 - n6) * x9))) = (vI (IntKind.wrap .i64 (IntKind.wrap .i64 (n5 - n6) * x9)))) ∧
 (((vI x9) = (vI x9)) ∧
 (((Go.Value.pointer (Option.some (Go.Addr.mk 1000 2 Option.none))) = (Go.Value.pointer (Option.some (Go.Addr.mk 1000 2 Option.none)))) ∧
 (((vI (IntKind.wrap .i64 (n5 - n6))) = (vI (IntKind.wrap .i64 (n5 - n6)))) ∧
 ((∃ n7 : Int,
 ((At (l6) (0 + Int.toNat x5 * 1) 1 [(vI n7)]) ∧
 ((vI n7) = (vI n6)))) ∧
 ((bcase (decide (0 ≤ x5))
 (bcase (decide (x5 < (↑n0 : Int)))
 ((Go.Value.pointer (Option.some (Go.Addr.mk 500 (0 + Int.toNat x5 * 1) Option.none))) = (Go.Value.pointer (Option.some (Go.Addr.mk 500 (0 + Int.toNat x5 * 1) Option.none))))
 False)
 False) ∧
 (((vI x5) = (vI x5)) ∧
 (((Go.Value.slice (Option.some (Go.Addr.mk 500 0 Option.none)) (n0) (c1)) = (Go.Value.slice (Option.some (Go.Addr.mk 500 0 Option.none)) (n0) (c1))) ∧
 ((∃ n7 : Int,
 ((At (l6) (0 + Int.toNat (IntKind.wrap .i64 (x5 + 1)) * 1) 1 [(vI n7)]) ∧
 ((vI n7) = (vI n5)))) ∧
 ((bcase (decide (0 ≤ IntKind.wrap .i64 (x5 + 1)))
 (bcase (decide (IntKind.wrap .i64 (x5 + 1) < (↑n0 : Int)))
 ((Go.Value.pointer (Option.some (Go.Addr.mk 500 (0 + Int.toNat (IntKind.wrap .i64 (x5 + 1)) * 1) Option.none))) = (Go.Value.pointer (Option.some (Go.Addr.mk 500 (0 + Int.toNat (IntKind.wrap .i64 (x5 + 1)) * 1) Option.none))))
 False)
 False) ∧
 (((vI (IntKind.wrap .i64 (x5 + 1))) = (vI (IntKind.wrap .i64 (x5 + 1)))) ∧
 (((vI x5) = (vI x5)) ∧
 (((Go.Value.slice (Option.some (Go.Addr.mk 500 0 Option.none)) (n0) (c1)) = (Go.Value.slice (Option.some (Go.Addr.mk 500 0 Option.none)) (n0) (c1))) ∧
 (((vI (IntKind.wrap .i64 (IntKind.wrap .i64 (IntKind.wrap .i64 (x7 - n1) * x8) + IntKind.wrap .i64 (IntKind.wrap .i64 (n2 - n3) * x9)))) = (vI (IntKind.wrap .i64 (IntKind.wrap .i64 (IntKind.wrap .i64 (x7 - n1) * x8) + IntKind.wrap .i64 (IntKind.wrap .i64 (n2 - n3) * x9))))) ∧
 True))))))))))))))) ∧
 (True ∧
 (bcase (decide (0 ≤ x5))
 (bcase (decide (x5 < (↑n0 : Int)))
 (∃ n7 : Int,
 ((At (l6) (0 + Int.toNat x5 * 1) 1 [(vI n7)]) ∧
 ((((vI (IntKind.wrap .i64 (IntKind.wrap .i64 (IntKind.wrap .i64 (IntKind.wrap .i64 (x7 - n1) * x8) + IntKind.wrap .i64 (IntKind.wrap .i64 (n2 - n3) * x9)) + IntKind.wrap .i64 (IntKind.wrap .i64 (n5 - n6) * x9)))) = (vI (IntKind.wrap .i64 (IntKind.wrap .i64 (IntKind.wrap .i64 (IntKind.wrap .i64 (x7 - n1) * x8) + IntKind.wrap .i64 (IntKind.wrap .i64 (n2 - n3) * x9)) + IntKind.wrap .i64 (IntKind.wrap .i64 (n5 - n6) * x9))))) ∧
 ((∃ n8 : Int,
 ((At (l6) (0 + Int.toNat x5 * 1) 1 [(vI n8)]) ∧
 ((vI n8) = (vI n7)))) ∧
 ((bcase (decide (0 ≤ x5))
 (bcase (decide (x5 < (↑n0 : Int)))
 ((Go.Value.pointer (Option.some (Go.Addr.mk 500 (0 + Int.toNat x5 * 1) Option.none))) = (Go.Value.pointer (Option.some (Go.Addr.mk 500 (0 + Int.toNat x5 * 1) Option.none))))
 False)
 False) ∧
 (((vI x5) = (vI x5)) ∧
 (((Go.Value.slice (Option.some (Go.Addr.mk 500 0 Option.none)) (n0) (c1)) = (Go.Value.slice (Option.some (Go.Addr.mk 500 0 Option.none)) (n0) (c1))) ∧
 (((Go.Value.slice (Option.some (Go.Addr.mk 1001 0 Option.none)) (n4) (n4)) = (Go.Value.slice (Option.some (Go.Addr.mk 1001 0 Option.none)) (n4) (n4))) ∧
 True)))))) ∧
 (∃ n8 : Int,
 ((Says C 109 [(D.val (vI (IntKind.wrap .i64 (IntKind.wrap .i64 (IntKind.wrap .i64 (IntKind.wrap .i64 (x7 - n1) * x8) + IntKind.wrap .i64 (IntKind.wrap .i64 (n2 - n3) * x9)) + IntKind.wrap .i64 (IntKind.wrap .i64 (n5 - n6) * x9))))), (D.val (vI (1000 : Int)))] [(D.val (vI n8))]) ∧
 (((((Go.Value.slice (Option.some (Go.Addr.mk 1002 0 Option.none)) 1 1) = (Go.Value.slice (Option.some (Go.Addr.mk 1002 0 Option.none)) 1 1)) ∧
 ((Option.some (AObj.cells [(vI (IntKind.wrap .i64 (n7 + n8)))] 3 false 1)) = (Option.some (AObj.cells [(vI (IntKind.wrap .i64 (n7 + n8)))] 3 false 1)))) ∧
 (((vI (IntKind.wrap .i64 (n7 + n8))) = (vI (IntKind.wrap .i64 (n7 + n8)))) ∧
 ((∃ n9 : Int,
 ((At (l6) (0 + Int.toNat x5 * 1) 1 [(vI n9)]) ∧
 ((vI n9) = (vI n7)))) ∧
 ((bcase (decide (0 ≤ x5))
 (bcase (decide (x5 < (↑n0 : Int)))
 ((Go.Value.pointer (Option.some (Go.Addr.mk 500 (0 + Int.toNat x5 * 1) Option.none))) = (Go.Value.pointer (Option.some (Go.Addr.mk 500 (0 + Int.toNat x5 * 1) Option.none))))
 False)
 False) ∧
 (((vI x5) = (vI x5)) ∧
 (((Go.Value.slice (Option.some (Go.Addr.mk 500 0 Option.none)) (n0) (c1)) = (Go.Value.slice (Option.some (Go.Addr.mk 500 0 Option.none)) (n0) (c1))) ∧
 (((Go.Value.slice (Option.some (Go.Addr.mk 1001 0 Option.none)) (n4) (n4)) = (Go.Value.slice (Option.some (Go.Addr.mk 1001 0 Option.none)) (n4) (n4))) ∧
 True))))))) ∧
 (bcase (decide (n4 < n4 + 1))
 (bcase (decide ((2 * (n4 + 1) + 768) * 8 ≤ 281474976710656))
 (bcase (decide (n4 + 1 ≤ 1099511627776))
 (bcase (decide (0 + n4 * 1 ≤ List.length l10))
 (bcase (decide (0 + n4 * 1 = List.length l10))
 ((((vI (IntKind.wrap .i64 (n7 + n8))) = (vI (IntKind.wrap .i64 (n7 + n8)))) ∧
 ((∃ n9 : Int,
 ((At (l6) (0 + Int.toNat x5 * 1) 1 [(vI n9)]) ∧
 ((vI n9) = (vI n7)))) ∧
 ((bcase (decide (0 ≤ x5))
 (bcase (decide (x5 < (↑n0 : Int)))
 ((Go.Value.pointer (Option.some (Go.Addr.mk 500 (0 + Int.toNat x5 * 1) Option.none))) = (Go.Value.pointer (Option.some (Go.Addr.mk 500 (0 + Int.toNat x5 * 1) Option.none))))
 False)
 False) ∧
 (((vI x5) = (vI x5)) ∧
 (((Go.Value.slice (Option.some (Go.Addr.mk 500 0 Option.none)) (n0) (c1)) = (Go.Value.slice (Option.some (Go.Addr.mk 500 0 Option.none)) (n0) (c1))) ∧
 True))))) ∧
 (True ∧
 (B [(Prod.mk 0 (Go.Value.slice (Option.some (Go.Addr.mk 500 0 Option.none)) (n0) (c1))), (Prod.mk 2 (vI x2)), (Prod.mk 4 (Go.Value.pointer (Option.some (Go.Addr.mk 1000 0 Option.none)))), (Prod.mk 7 (vI x3)), (Prod.mk 8 (Go.Value.slice (Option.some (Go.Addr.mk 1001 0 Option.none)) (n4 + 1) (n4 + 1))), (Prod.mk 9 (vI (IntKind.wrap .i64 (x5 + 1))))] [(Prod.mk 500 (AObj.sym (l6) false 1)), (Prod.mk 1000 (AObj.cells [(vI x7), (vI x8), (vI x9)] 101 false 1)), (Prod.mk 1001 (AObj.sym ((List.take (n4 * 1) (List.drop 0 l10)) ++ [(vI (IntKind.wrap .i64 (n7 + n8)))]) true 1))])))
 False)
 False)
 False)
 False)
 False)))))))
 False)
 False)))))
 False)
 False)))
 False)
 False)
 (bcase (decide (0 ≤ x5))
 (bcase (decide (x5 < (↑n0 : Int)))
 (∃ n5 : Int,
 ((At (l6) (0 + Int.toNat x5 * 1) 1 [(vI n5)]) ∧
 ((((vI (IntKind.wrap .i64 (IntKind.wrap .i64 (IntKind.wrap .i64 (x7 - n1) * x8) + IntKind.wrap .i64 (IntKind.wrap .i64 (n2 - n3) * x9)))) = (vI (IntKind.wrap .i64 (IntKind.wrap .i64 (IntKind.wrap .i64 (x7 - n1) * x8) + IntKind.wrap .i64 (IntKind.wrap .i64 (n2 - n3) * x9))))) ∧
 ((∃ n6 : Int,
 ((At (l6) (0 + Int.toNat x5 * 1) 1 [(vI n6)]) ∧
 ((vI n6) = (vI n5)))) ∧
 ((bcase (decide (0 ≤ x5))
 (bcase (decide (x5 < (↑n0 : Int)))
 ((Go.Value.pointer (Option.some (Go.Addr.mk 500 (0 + Int.toNat x5 * 1) Option.none))) = (Go.Value.pointer (Option.some (Go.Addr.mk 500 (0 + Int.toNat x5 * 1) Option.none))))
 False)
 False) ∧
 (((vI x5) = (vI x5)) ∧
 (((Go.Value.slice (Option.some (Go.Addr.mk 500 0 Option.none)) (n0) (c1)) = (Go.Value.slice (Option.some (Go.Addr.mk 500 0 Option.none)) (n0) (c1))) ∧
 (((Go.Value.slice (Option.some (Go.Addr.mk 1001 0 Option.none)) (n4) (n4)) = (Go.Value.slice (Option.some (Go.Addr.mk 1001 0 Option.none)) (n4) (n4))) ∧
 True)))))) ∧
 (∃ n6 : Int,
 ((Says C 109 [(D.val (vI (IntKind.wrap .i64 (IntKind.wrap .i64 (IntKind.wrap .i64 (x7 - n1) * x8) + IntKind.wrap .i64 (IntKind.wrap .i64 (n2 - n3) * x9))))), (D.val (vI (1000 : Int)))] [(D.val (vI n6))]) ∧
 (((((Go.Value.slice (Option.some (Go.Addr.mk 1002 0 Option.none)) 1 1) = (Go.Value.slice (Option.some (Go.Addr.mk 1002 0 Option.none)) 1 1)) ∧
 ((Option.some (AObj.cells [(vI (IntKind.wrap .i64 (n5 + n6)))] 3 false 1)) = (Option.some (AObj.cells [(vI (IntKind.wrap .i64 (n5 + n6)))] 3 false 1)))) ∧
 (((vI (IntKind.wrap .i64 (n5 + n6))) = (vI (IntKind.wrap .i64 (n5 + n6)))) ∧
 ((∃ n7 : Int,
 ((At (l6) (0 + Int.toNat x5 * 1) 1 [(vI n7)]) ∧
 ((vI n7) = (vI n5)))) ∧
 ((bcase (decide (0 ≤ x5))
 (bcase (decide (x5 < (↑n0 : Int)))
 ((Go.Value.pointer (Option.some (Go.Addr.mk 500 (0 + Int.toNat x5 * 1) Option.none))) = (Go.Value.pointer (Option.some (Go.Addr.mk 500 (0 + Int.toNat x5 * 1) Option.none))))
 False)
 False) ∧
 (((vI x5) = (vI x5)) ∧
 (((Go.Value.slice (Option.some (Go.Addr.mk 500 0 Option.none)) (n0) (c1)) = (Go.Value.slice (Option.some (Go.Addr.mk 500 0 Option.none)) (n0) (c1))) ∧
 (((Go.Value.slice (Option.some (Go.Addr.mk 1001 0 Option.none)) (n4) (n4)) = (Go.Value.slice (Option.some (Go.Addr.mk 1001 0 Option.none)) (n4) (n4))) ∧
 True))))))) ∧
 (bcase (decide (n4 < n4 + 1))
 (bcase (decide ((2 * (n4 + 1) + 768) * 8 ≤ 281474976710656))
 (bcase (decide (n4 + 1 ≤ 1099511627776))
 (bcase (decide (0 + n4 * 1 ≤ List.length l10))
 (bcase (decide (0 + n4 * 1 = List.length l10))
 ((((vI (IntKind.wrap .i64 (n5 + n6))) = (vI (IntKind.wrap .i64 (n5 + n6)))) ∧
 ((∃ n7 : Int,
 ((At (l6) (0 + Int.toNat x5 * 1) 1 [(vI n7)]) ∧
 ((vI n7) = (vI n5)))) ∧
 ((bcase (decide (0 ≤ x5))
 (bcase (decide (x5 < (↑n0 : Int)))
 ((Go.Value.pointer (Option.some (Go.Addr.mk 500 (0 + Int.toNat x5 * 1) Option.none))) = (Go.Value.pointer (Option.some (Go.Addr.mk 500 (0 + Int.toNat x5 * 1) Option.none))))
 False)
 False) ∧
 (((vI x5) = (vI x5)) ∧
 (((Go.Value.slice (Option.some (Go.Addr.mk 500 0 Option.none)) (n0) (c1)) = (Go.Value.slice (Option.some (Go.Addr.mk 500 0 Option.none)) (n0) (c1))) ∧
 True))))) ∧
 (True ∧
 (B [(Prod.mk 0 (Go.Value.slice (Option.some (Go.Addr.mk 500 0 Option.none)) (n0) (c1))), (Prod.mk 2 (vI x2)), (Prod.mk 4 (Go.Value.pointer (Option.some (Go.Addr.mk 1000 0 Option.none)))), (Prod.mk 7 (vI x3)), (Prod.mk 8 (Go.Value.slice (Option.some (Go.Addr.mk 1001 0 Option.none)) (n4 + 1) (n4 + 1))), (Prod.mk 9 (vI (IntKind.wrap .i64 (x5 + 1))))] [(Prod.mk 500 (AObj.sym (l6) false 1)), (Prod.mk 1000 (AObj.cells [(vI x7), (vI x8), (vI x9)] 101 false 1)), (Prod.mk 1001 (AObj.sym ((List.take (n4 * 1) (List.drop 0 l10)) ++ [(vI (IntKind.wrap .i64 (n5 + n6)))]) true 1))])))
 False)
 False)
 False)
 False)
 False)))))))
 False)
 False))))))
 False)
 False)))
 False)
 False)
 (bcase (decide (x5 < IntKind.wrap .i64 ((↑n0 : Int) - 1)))
 (bcase (decide (0 ≤ IntKind.wrap .i64 (x5 + 1)))
 (bcase (decide (IntKind.wrap .i64 (x5 + 1) < (↑n0 : Int)))
 (∃ n2 : Int,
 ((At (l6) (0 + Int.toNat (IntKind.wrap .i64 (x5 + 1)) * 1) 1 [(vI n2)]) ∧
 (bcase (decide (0 ≤ x5))
 (bcase (decide (x5 < (↑n0 : Int)))
 (∃ n3 : Int,
 ((At (l6) (0 + Int.toNat x5 * 1) 1 [(vI n3)]) ∧
 ((((vI (IntKind.wrap .i64 (IntKind.wrap .i64 (IntKind.wrap .i64 (x7 - n1) * x8) + IntKind.wrap .i64 (IntKind.wrap .i64 (n2 - n3) * x9)))) = (vI (IntKind.wrap .i64 (IntKind.wrap .i64 (IntKind.wrap .i64 (x7 - n1) * x8) + IntKind.wrap .i64 (IntKind.wrap .i64 (n2 - n3) * x9))))) ∧
 (((vI (IntKind.wrap .i64 (IntKind.wrap .i64 (n2 - n3) * x9))) = (vI (IntKind.wrap .i64 (IntKind.wrap .i64 (n2 - n3) * x9)))) ∧
 (((vI x9) = (vI x9)) ∧
 (((Go.Value.pointer (Option.some (Go.Addr.mk 1000 2 Option.none))) = (Go.Value.pointer (Option.some (Go.Addr.mk 1000 2 Option.none)))) ∧
 (((vI (IntKind.wrap .i64 (n2 - n3))) = (vI (IntKind.wrap .i64 (n2 - n3)))) ∧
 ((∃ n5 : Int,
 ((At (l6) (0 + Int.toNat x5 * 1) 1 [(vI n5)]) ∧
 ((vI n5) = (vI n3)))) ∧
 ((bcase (decide (0 ≤ x5))
 (bcase (decide (x5 < (↑n0 : Int)))
 ((Go.Value.pointer (Option.some (Go.Addr.mk 500 (0 + Int.toNat x5 * 1) Option.none))) = (Go.Value.pointer (Option.some (Go.Addr.mk 500 (0 + Int.toNat x5 * 1) Option.none))))
 False)
 False) ∧
 (((vI x5) = (vI x5)) ∧
 (((Go.Value.slice (Option.some (Go.Addr.mk 500 0 Option.none)) (n0) (c1)) = (Go.Value.slice (Option.some (Go.Addr.mk 500 0 Option.none)) (n0) (c1))) ∧
 ((∃ n5 : Int,
 ((At (l6) (0 + Int.toNat (IntKind.wrap .i64 (x5 + 1)) * 1) 1 [(vI n5)]) ∧
 ((vI n5) = (vI n2)))) ∧
 ((bcase (decide (0 ≤ IntKind.wrap .i64 (x5 + 1)))
 (bcase (decide (IntKind.wrap .i64 (x5 + 1) < (↑n0 : Int)))
 ((Go.Value.pointer (Option.some (Go.Addr.mk 500 (0 + Int.toNat (IntKind.wrap .i64 (x5 + 1)) * 1) Option.none))) = (Go.Value.pointer (Option.some (Go.Addr.mk 500 (0 + Int.toNat (IntKind.wrap .i64 (x5 + 1)) * 1) Option.none))))
 False)
 False) ∧
 (((vI (IntKind.wrap .i64 (x5 + 1))) = (vI (IntKind.wrap .i64 (x5 + 1)))) ∧
 (((vI x5) = (vI x5)) ∧
 (((Go.Value.slice (Option.some (Go.Addr.mk 500 0 Option.none)) (n0) (c1)) = (Go.Value.slice (Option.some (Go.Addr.mk 500 0 Option.none)) (n0) (c1))) ∧
 (((vI (IntKind.wrap .i64 (IntKind.wrap .i64 (x7 - n1) * x8))) = (vI (IntKind.wrap .i64 (IntKind.wrap .i64 (x7 - n1) * x8)))) ∧
 True))))))))))))))) ∧
 (True ∧
 (bcase (decide (0 ≤ x5))
 (bcase (decide (x5 < (↑n0 : Int)))
 (∃ n5 : Int,
 ((At (l6) (0 + Int.toNat x5 * 1) 1 [(vI n5)]) ∧
 ((((vI (IntKind.wrap .i64 (IntKind.wrap .i64 (IntKind.wrap .i64 (x7 - n1) * x8) + IntKind.wrap .i64 (IntKind.wrap .i64 (n2 - n3) * x9)))) = (vI (IntKind.wrap .i64 (IntKind.wrap .i64 (IntKind.wrap .i64 (x7 - n1) * x8) + IntKind.wrap .i64 (IntKind.wrap .i64 (n2 - n3) * x9))))) ∧
 ((∃ n6 : Int,
 ((At (l6) (0 + Int.toNat x5 * 1) 1 [(vI n6)]) ∧
 ((vI n6) = (vI n5)))) ∧
 ((bcase (decide (0 ≤ x5))
 (bcase (decide (x5 < (↑n0 : Int)))
 ((Go.Value.pointer (Option.some (Go.Addr.mk 500 (0 + Int.toNat x5 * 1) Option.none))) = (Go.Value.pointer (Option.some (Go.Addr.mk 500 (0 + Int.toNat x5 * 1) Option.none))))
 False)
 False) ∧
 (((vI x5) = (vI x5)) ∧
 (((Go.Value.slice (Option.some (Go.Addr.mk 500 0 Option.none)) (n0) (c1)) = (Go.Value.slice (Option.some (Go.Addr.mk 500 0 Option.none)) (n0) (c1))) ∧
 (((Go.Value.slice (Option.some (Go.Addr.mk 1001 0 Option.none)) (n4) (n4)) = (Go.Value.slice (Option.some (Go.Addr.mk 1001 0 Option.none)) (n4) (n4))) ∧
 True)))))) ∧
 (∃ n6 : Int,
 ((Says C 109 [(D.val (vI (IntKind.wrap .i64 (IntKind.wrap .i64 (IntKind.wrap .i64 (x7 - n1) * x8) + IntKind.wrap .i64 (IntKind.wrap .i64 (n2 - n3) * x9))))), (D.val (vI (1000 : Int)))] [(D.val (vI n6))]) ∧
 (((((Go.Value.slice (Option.some (Go.Addr.mk 1002 0 Option.none)) 1 1) = (Go.Value.slice (Option.some (Go.Addr.mk 1002 0 Option.none)) 1 1)) ∧
 ((Option.some (AObj.cells [(vI (IntKind.wrap .i64 (n5 + n6)))] 3 false 1)) = (Option.some (AObj.cells [(vI (IntKind.wrap .i64 (n5 + n6)))] 3 false 1)))) ∧
 (((vI (IntKind.wrap .i64 (n5 + n6))) = (vI (IntKind.wrap .i64 (n5 + n6)))) ∧
 ((∃ n7 : Int,
 ((At (l6) (0 + Int.toNat x5 * 1) 1 [(vI n7)]) ∧
 ((vI n7) = (vI n5)))) ∧
 ((bcase (decide (0 ≤ x5))
 (bcase (decide (x5 < (↑n0 : Int)))
 ((Go.Value.pointer (Option.some (Go.Addr.mk 500 (0 + Int.toNat x5 * 1) Option.none))) = (Go.Value.pointer (Option.some (Go.Addr.mk 500 (0 + Int.toNat x5 * 1) Option.none))))
 False)
 False) ∧
 (((vI x5) = (vI x5)) ∧
 (((Go.Value.slice (Option.some (Go.Addr.mk 500 0 Option.none)) (n0) (c1)) = (Go.Value.slice (Option.some (Go.Addr.mk 500 0 Option.none)) (n0) (c1))) ∧
 (((Go.Value.slice (Option.some (Go.Addr.mk 1001 0 Option.none)) (n4) (n4)) = (Go.Value.slice (Option.some (Go.Addr.mk 1001 0 Option.none)) (n4) (n4))) ∧
 True))))))) ∧
 (bcase (decide (n4 < n4 + 1))
 (bcase (decide ((2 * (n4 + 1) + 768) * 8 ≤ 281474976710656))
 (bcase (decide (n4 + 1 ≤ 1099511627776))
 (bcase (decide (0 + n4 * 1 ≤ List.length l10))
 (bcase (decide (0 + n4 * 1 = List.length l10))
 ((((vI (IntKind.wrap .i64 (n5 + n6))) = (vI (IntKind.wrap .i64 (n5 + n6)))) ∧
 ((∃ n7 : Int,
 ((At (l6) (0 + Int.toNat x5 * 1) 1 [(vI n7)]) ∧
 ((vI n7) = (vI n5)))) ∧
 ((bcase (decide (0 ≤ x5))
 (bcase (decide (x5 < (↑n0 : Int)))
 ((Go.Value.pointer (Option.some (Go.Addr.mk 500 (0 + Int.toNat x5 * 1) Option.none))) = (Go.Value.pointer (Option.some (Go.Addr.mk 500 (0 + Int.toNat x5 * 1) Option.none))))
 False)
 False) ∧
 (((vI x5) = (vI x5)) ∧
 (((Go.Value.slice (Option.some (Go.Addr.mk 500 0 Option.none)) (n0) (c1)) = (Go.Value.slice (Option.some (Go.Addr.mk 500 0 Option.none)) (n0) (c1))) ∧
 True))))) ∧
 (True ∧
 (B [(Prod.mk 0 (Go.Value.slice (Option.some (Go.Addr.mk 500 0 Option.none)) (n0) (c1))), (Prod.mk 2 (vI x2)), (Prod.mk 4 (Go.Value.pointer (Option.some (Go.Addr.mk 1000 0 Option.none)))), (Prod.mk 7 (vI x3)), (Prod.mk 8 (Go.Value.slice (Option.some (Go.Addr.mk 1001 0 Option.none)) (n4 + 1) (n4 + 1))), (Prod.mk 9 (vI (IntKind.wrap .i64 (x5 + 1))))] [(Prod.mk 500 (AObj.sym (l6) false 1)), (Prod.mk 1000 (AObj.cells [(vI x7), (vI x8), (vI x9)] 101 false 1)), (Prod.mk 1001 (AObj.sym ((List.take (n4 * 1) (List.drop 0 l10)) ++ [(vI (IntKind.wrap .i64 (n5 + n6)))]) true 1))])))
 False)
 False)
 False)
 False)
 False)))))))
 False)
 False)))))
 False)
 False)))
 False)
 False)
 (bcase (decide (0 ≤ x5))
 (bcase (decide (x5 < (↑n0 : Int)))
 (∃ n2 : Int,
 ((At (l6) (0 + Int.toNat x5 * 1) 1 [(vI n2)]) ∧
 ((((vI (IntKind.wrap .i64 (IntKind.wrap .i64 (x7 - n1) * x8))) = (vI (IntKind.wrap .i64 (IntKind.wrap .i64 (x7 - n1) * x8)))) ∧
 ((∃ n3 : Int,
 ((At (l6) (0 + Int.toNat x5 * 1) 1 [(vI n3)]) ∧
 ((vI n3) = (vI n2)))) ∧
 ((bcase (decide (0 ≤ x5))
 (bcase (decide (x5 < (↑n0 : Int)))
 ((Go.Value.pointer (Option.some (Go.Addr.mk 500 (0 + Int.toNat x5 * 1) Option.none))) = (Go.Value.pointer (Option.some (Go.Addr.mk 500 (0 + Int.toNat x5 * 1) Option.none))))
 False)
 False) ∧
 (((vI x5) = (vI x5)) ∧
 (((Go.Value.slice (Option.some (Go.Addr.mk 500 0 Option.none)) (n0) (c1)) = (Go.Value.slice (Option.some (Go.Addr.mk 500 0 Option.none)) (n0) (c1))) ∧
 (((Go.Value.slice (Option.some (Go.Addr.mk 1001 0 Option.none)) (n4) (n4)) = (Go.Value.slice (Option.some (Go.Addr.mk 1001 0 Option.none)) (n4) (n4))) ∧
 True)))))) ∧
 (∃ n3 : Int,
 ((Says C 109 [(D.val (vI (IntKind.wrap .i64 (IntKind.wrap .i64 (x7 - n1) * x8)))), (D.val (vI (1000 : Int)))] [(D.val (vI n3))]) ∧
 (((((Go.Value.slice (Option.some (Go.Addr.mk 1002 0 Option.none)) 1 1) = (Go.Value.slice (Option.some (Go.Addr.mk 1002 0 Option.none)) 1 1)) ∧
 ((Option.some (AObj.cells [(vI (IntKind.wrap .i64 (n2 + n3)))] 3 false 1)) = (Option.some (AObj.cells [(vI (IntKind.wrap .i64 (n2 + n3)))] 3 false 1)))) ∧
 (((vI (IntKind.wrap .i64 (n2 + n3))) = (vI (IntKind.wrap .i64 (n2 + n3)))) ∧
 ((∃ n5 : Int,
 ((At (l6) (0 + Int.toNat x5 * 1) 1 [(vI n5)]) ∧
 ((vI n5) = (vI n2)))) ∧
 ((bcase (decide (0 ≤ x5))
 (bcase (decide (x5 < (↑n0 : Int)))
 ((Go.Value.pointer (Option.some (Go.Addr.mk 500 (0 + Int.toNat x5 * 1) Option.none))) = (Go.Value.pointer (Option.some (Go.Addr.mk 500 (0 + Int.toNat x5 * 1) Option.none))))
 False)
 False) ∧
 (((vI x5) = (vI x5)) ∧
 (((Go.Value.slice (Option.some (Go.Addr.mk 500 0 Option.none)) (n0) (c1)) = (Go.Value.slice (Option.some (Go.Addr.mk 500 0 Option.none)) (n0) (c1))) ∧
 (((Go.Value.slice (Option.some (Go.Addr.mk 1001 0 Option.none)) (n4) (n4)) = (Go.Value.slice (Option.some (Go.Addr.mk 1001 0 Option.none)) (n4) (n4))) ∧
 True))))))) ∧
 (bcase (decide (n4 < n4 + 1))
 (bcase (decide ((2 * (n4 + 1) + 768) * 8 ≤ 281474976710656))
 (bcase (decide (n4 + 1 ≤ 1099511627776))
 (bcase (decide (0 + n4 * 1 ≤ List.length l10))
 (bcase (decide (0 + n4 * 1 = List.length l10))
 ((((vI (IntKind.wrap .i64 (n2 + n3))) = (vI (IntKind.wrap .i64 (n2 + n3)))) ∧
 ((∃ n5 : Int,
 ((At (l6) (0 + Int.toNat x5 * 1) 1 [(vI n5)]) ∧
 ((vI n5) = (vI n2)))) ∧
 ((bcase (decide (0 ≤ x5))
 (bcase (decide (x5 < (↑n0 : Int)))
 ((Go.Value.pointer (Option.some (Go.Addr.mk 500 (0 + Int.toNat x5 * 1) Option.none))) = (Go.Value.pointer (Option.some (Go.Addr.mk 500 (0 + Int.toNat x5 * 1) Option.none))))
 False)
 False) ∧
 (((vI x5) = (vI x5)) ∧
 (((Go.Value.slice (Option.some (Go.Addr.mk 500 0 Option.none)) (n0) (c1)) = (Go.Value.slice (Option.some (Go.Addr.mk 500 0 Option.none)) (n0) (c1))) ∧
 True))))) ∧
 (True ∧
 (B [(Prod.mk 0 (Go.Value.slice (Option.some (Go.Addr.mk 500 0 Option.none)) (n0) (c1))), (Prod.mk 2 (vI x2)), (Prod.mk 4 (Go.Value.pointer (Option.some (Go.Addr.mk 1000 0 Option.none)))), (Prod.mk 7 (vI x3)), (Prod.mk 8 (Go.Value.slice (Option.some (Go.Addr.mk 1001 0 Option.none)) (n4 + 1) (n4 + 1))), (Prod.mk 9 (vI (IntKind.wrap .i64 (x5 + 1))))] [(Prod.mk 500 (AObj.sym (l6) false 1)), (Prod.mk 1000 (AObj.cells [(vI x7), (vI x8), (vI x9)] 101 false 1)), (Prod.mk 1001 (AObj.sym ((List.take (n4 * 1) (List.drop 0 l10)) ++ [(vI (IntKind.wrap .i64 (n2 + n3)))]) true 1))])))
 False)
 False)
 False)
 False)
 False)))))))
 False)
 False)))))))
 False)
 False)
 (X 2 [(Prod.mk 2 (vI x2)), (Prod.mk 4 (Go.Value.pointer (Option.some (Go.Addr.mk 1000 0 Option.none)))), (Prod.mk 7 (vI x3)), (Prod.mk 8 (Go.Value.slice (Option.some (Go.Addr.mk 1001 0 Option.none)) (n4) (n4)))] [(Prod.mk 1000 (AObj.cells [(vI x7), (vI x8), (vI x9)] 101 false 1)), (Prod.mk 1001 (AObj.sym (l10) true 1))])) := by kernel_rfl
def iHd6 (C : Ct) (L : AtLoop) (x0 : Int) (x1 : Int) (n2 : Nat) (x3 : Int) (x4 : Int) (x5 : Int) (l6 : List Value) (B : Bx) (X : Xx) (k : List D → Prop) : Prop := jIn Try.prog (hF7 C) L [] 61 0 2 .normal [(2, (Value.int .i64 x0)), (4, (Value.pointer (some ⟨1000, 0, none⟩))), (7, (Value.int .i64 x1)), (8, (Value.slice (some ⟨1001, 0, none⟩) n2 n2))] [(1000, (AObj.cells [(Value.int .i64 x3), (Value.int .i64 x4), (Value.int .i64 x5)] 101 false 1)), (1001, (AObj.sym l6 true 1))] B X (dataK k)
theorem iHd6_text (C : Ct) (L : AtLoop) (x0 : Int) (x1 : Int) (n2 : Nat) (x3 : Int) (x4 : Int) (x5 : Int) (l6 : List Go.Value) (B : Bx) (X : Xx) (k : List D → Prop) : iHd6 C L x0 x1 n2 x3 x4 x5 l6 B X k =
 (B [(Prod.mk 0 (Go.Value.slice (Option.some (Go.Addr.mk 1000 0 Option.none)) (n2) (n2))), (Prod.mk 2 (vI x0)), (Prod.mk 4 (Go.Value.pointer (Option.some (Go.Addr.mk 1001 0 Option.none)))), (Prod.mk 7 (vI (IntKind.wrap .i64 (x1 + 1))))] [(Prod.mk 1000 (AObj.sym (l6) true 1)), (Prod.mk 1001 (AObj.cells [(vI x3), (vI x4), (vI x5)] 101 false 1))]) := by kernel_rfl
abbrev zHd8 (n0 : Nat) (x1 : Int) (x2 : Int) (l3 : List Value) (x4 : Int) (x5 : Int) (x6 : Int) : Slots × Blocks := ([(0, (Value.slice (some ⟨1000, 0, none⟩) n0 n0)), (2, (Value.int .i64 x1)), (4, (Value.pointer (some ⟨1001, 0, none⟩))), (7, (Value.int .i64 x2))], [(1000, (AObj.sym l3 true 1)), (1001, (AObj.cells [(Value.int .i64 x4), (Value.int .i64 x5), (Value.int .i64 x6)] 101 false 1))])
def rHd8 (C : Ct) (L : AtLoop) (n0 : Nat) (x1 : Int) (x2 : Int) (l3 : List Value) (x4 : Int) (x5 : Int) (x6 : Int) (B : Bx) (X : Xx) (k : List D → Prop) : Prop := jRound Try.prog (hF7 C) L [] 61 0 [(0, (Value.slice (some ⟨1000, 0, none⟩) n0 n0)), (2, (Value.int .i64 x1)), (4, (Value.pointer (some ⟨1001, 0, none⟩))), (7, (Value.int .i64 x2))] [(1000, (AObj.sym l3 true 1)), (1001, (AObj.cells [(Value.int .i64 x4), (Value.int .i64 x5), (Value.int .i64 x6)] 101 false 1))] B X (dataK k)
theorem rHd8_text (C : Ct) (L : AtLoop) (n0 : Nat) (x1 : Int) (x2 : Int) (l3 : List Go.Value) (x4 : Int) (x5 : Int) (x6 : Int) (B : Bx) (X : Xx) (k : List D → Prop) : rHd8 C L n0 x1 x2 l3 x4 x5 x6 B X k =
 (bcase (decide (x2 < x1))
 (L 2 [(Prod.mk 0 (Go.Value.slice (Option.some (Go.Addr.mk 1000 0 Option.none)) (n0) (n0))), (Prod.mk 2 (vI x1)), (Prod.mk 4 (Go.Value.pointer (Option.some (Go.Addr.mk 1001 0 Option.none)))), (Prod.mk 7 (vI x2)), (Prod.mk 8 (Go.Value.slice Option.none 0 0)), (Prod.mk 9 (vI (0 : Int)))] [(Prod.mk 1000 (AObj.sym (l3) true 1)), (Prod.mk 1001 (AObj.cells [(vI x4), (vI x5), (vI x6)] 101 false 1))])
 (X 0 [(Prod.mk 0 (Go.Value.slice (Option.some (Go.Addr.mk 1000 0 Option.none)) (n0) (n0)))] [(Prod.mk 1000 (AObj.sym (l3) true 1))])) := by kernel_rfl
abbrev zHd11 (n0 : Nat) (x1 : Int) (x2 : Int) (x3 : Int) (l4 : List Value) (x5 : Int) (x6 : Int) (x7 : Int) : Slots × Blocks := ([(0, (Value.slice (some ⟨1000, 0, none⟩) n0 n0)), (2, (Value.int .i64 x1)), (4, (Value.pointer (some ⟨1001, 0, none⟩))), (7, (Value.int .i64 x2)), (8, (Value.slice none 0 0)), (9, (Value.int .i64 x3))], [(1000, (AObj.sym l4 true 1)), (1001, (AObj.cells [(Value.int .i64 x5), (Value.int .i64 x6), (Value.int .i64 x7)] 101 false 1))])
def rHd11 (C : Ct) (L : AtLoop) (n0 : Nat) (x1 : Int) (x2 : Int) (x3 : Int) (l4 : List Value) (x5 : Int) (x6 : Int) (x7 : Int) (B : Bx) (X : Xx) (k : List D → Prop) : Prop := jRound2 Try.prog (hF7 C) L [] 61 0 2 [(0, (Value.slice (some ⟨1000, 0, none⟩) n0 n0)), (2, (Value.int .i64 x1)), (4, (Value.pointer (some ⟨1001, 0, none⟩))), (7, (Value.int .i64 x2)), (8, (Value.slice none 0 0)), (9, (Value.int .i64 x3))] [(1000, (AObj.sym l4 true 1)), (1001, (AObj.cells [(Value.int .i64 x5), (Value.int .i64 x6), (Value.int .i64 x7)] 101 false 1))] B X (dataK k)
theorem rHd11_text (C : Ct) (L : AtLoop) (n0 : Nat) (x1 : Int) (x2 : Int) (x3 : Int) (l4 : List Go.Value) (x5 : Int) (x6 : Int) (x7 : Int) (B : Bx) (X : Xx) (k : List D → Prop) : rHd11 C L n0 x1 x2 x3 l4 x5 x6 x7 B X k =
 (bcase (decide (x3 < (↑n0 : Int)))
 (bcase (decide (0 ≤ x3))
 (bcase (decide (x3 < (↑n0 : Int)))
 (∃ n1 : Int,
 ((At (l4) (0 + Int.toNat x3 * 1) 1 [(vI n1)]) ∧
 ((((vI (IntKind.wrap .i64 (IntKind.wrap .i64 (x5 - n1) * x6))) = (vI (IntKind.wrap .i64 (IntKind.wrap .i64 (x5 - n1) * x6)))) ∧
 (((vI x6) = (vI x6)) ∧
 (((Go.Value.pointer (Option.some (Go.Addr.mk 1001 1 Option.none))) = (Go.Value.pointer (Option.some (Go.Addr.mk 1001 1 Option.none)))) ∧
 (((vI (IntKind.wrap .i64 (x5 - n1))) = (vI (IntKind.wrap .i64 (x5 - n1)))) ∧
 ((∃ n2 : Int,
 ((At (l4) (0 + Int.toNat x3 * 1) 1 [(vI n2)]) ∧
 ((vI n2) = (vI n1)))) ∧
 ((bcase (decide (0 ≤ x3))
 (bcase (decide (x3 < (↑n0 : Int)))
 ((Go.Value.pointer (Option.some (Go.Addr.mk 1000 (0 + Int.toNat x3 * 1) Option.none))) = (Go.Value.pointer (Option.some (Go.Addr.mk 1000 (0 + Int.toNat x3 * 1) Option.none))))
 False)
 False) ∧
 (((vI x3) = (vI x3)) ∧
 (((Go.Value.slice (Option.some (Go.Addr.mk 1000 0 Option.none)) (n0) (n0)) = (Go.Value.slice (Option.some (Go.Addr.mk 1000 0 Option.none)) (n0) (n0))) ∧
 (((vI x5) = (vI x5)) ∧
 (((Go.Value.pointer (Option.some (Go.Addr.mk 1001 0 Option.none))) = (Go.Value.pointer (Option.some (Go.Addr.mk 1001 0 Option.none)))) ∧
 True)))))))))) ∧
 (True ∧
 (bcase (decide (x3 > 0))
 (bcase (decide (0 ≤ IntKind.wrap .i64 (x3 - 1)))
 (bcase (decide (IntKind.wrap .i64 (x3 - 1) < (↑n0 : Int)))
 (∃ n2 : Int,
 ((At (l4) (0 + Int.toNat (IntKind.wrap .i64 (x3 - 1)) * 1) 1 [(vI n2)]) ∧
 (bcase (decide (0 ≤ x3))
 (bcase (decide (x3 < (↑n0 : Int)))
 (∃ n3 : Int,
 ((At (l4) (0 + Int.toNat x3 * 1) 1 [(vI n3)]) ∧
 ((((vI (IntKind.wrap .i64 (IntKind.wrap .i64 (IntKind.wrap .i64 (x5 - n1) * x6) + IntKind.wrap .i64 (IntKind.wrap .i64 (n2 - n3) * x7)))) = (vI (IntKind.wrap .i64 (IntKind.wrap .i64 (IntKind.wrap .i64 (x5 - n1) * x6) + IntKind.wrap .i64 (IntKind.wrap .i64 (n2 - n3) * x7))))) ∧
 (((vI (IntKind.wrap .i64 (IntKind.wrap .i64 (n2 - n3) * x7))) = (vI (IntKind.wrap .i64 (IntKind.wrap .i64 (n2 - n3) * x7)))) ∧
 (((vI x7) = (vI x7)) ∧
 (((Go.Value.pointer (Option.some (Go.Addr.mk 1001 2 Option.none))) = (Go.Value.pointer (Option.some (Go.Addr.mk 1001 2 Option.none)))) ∧
 (((vI (IntKind.wrap .i64 (n2 - n3))) = (vI (IntKind.wrap .i64 (n2 - n3)))) ∧
 ((∃ n4 : Int,
 ((At (l4) (0 + Int.toNat x3 * 1) 1 [(vI n4)]) ∧
 ((vI n4) = (vI n3)))) ∧
 ((bcase (decide (0 ≤ x3))
 (bcase (decide (x3 < (↑n0 : Int)))
 ((Go.Value.pointer (Option.some (Go.Addr.mk 1000 (0 + Int.toNat x3 * 1) Option.none))) = (Go.Value.pointer (Option.some (Go.Addr.mk 1000 (0 + Int.toNat x3 * 1) Option.none))))
 False)
 False) ∧
 (((vI x3) = (vI x3)) ∧
 (((Go.Value.slice (Option.some (Go.Addr.mk 1000 0 Option.none)) (n0) (n0)) = (Go.Value.slice (Option.some (Go.Addr.mk 1000 0 Option.none)) (n0) (n0))) ∧
 ((∃ n4 : Int,
 ((At (l4) (0 + Int.toNat (IntKind.wrap .i64 (x3 - 1)) * 1) 1 [(vI n4)]) ∧
 ((vI n4) = (vI n2)))) ∧
 ((bcase (decide (0 ≤ IntKind.wrap .i64 (x3 - 1)))
 (bcase (decide (IntKind.wrap .i64 (x3 - 1) < (↑n0 : Int)))
 ((Go.Value.pointer (Option.some (Go.Addr.mk 1000 (0 + Int.toNat (IntKind.wrap .i64 (x3 - 1)) * 1) Option.none))) = (Go.Value.pointer (Option.some (Go.Addr.mk 1000 (0 + Int.toNat (IntKind.wrap .i64 (x3 - 1)) * 1) Option.none))))
 False)
 False) ∧
 (((vI (IntKind.wrap .i64 (x3 - 1))) = (vI (IntKind.wrap .i64 (x3 - 1)))) ∧
 (((vI x3) = (vI x3)) ∧
 (((Go.Value.slice (Option.some (Go.Addr.mk 1000 0 Option.none)) (n0) (n0)) = (Go.Value.slice (Option.some (Go.Addr.mk 1000 0 Option.none)) (n0) (n0))) ∧
 (((vI (IntKind.wrap .i64 (IntKind.wrap .i64 (x5 - n1) * x6))) = (vI (IntKind.wrap .i64 (IntKind.wrap .i64 (x5 - n1) * x6)))) ∧
 True))))))))))))))) ∧
 (True ∧
 (bcase (decide (x3 < IntKind.wrap .i64 ((↑n0 : Int) - 1)))
 (bcase (decide (0 ≤ IntKind.wrap .i64 (x3 + 1)))
 (bcase (decide (IntKind.wrap .i64 (x3 + 1) < (↑n0 : Int)))
 (∃ n4 : Int,
 ((At (l4) (0 + Int.toNat (IntKind.wrap .i64 (x3 + 1)) * 1) 1 [(vI n4)]) ∧
 (bcase (decide (0 ≤ x3))
 (bcase (decide (x3 < (↑n0 : Int)))
 (∃ n5 : Int,
 ((At (l4) (0 + Int.toNat x3 * 1) 1 [(vI n5)]) ∧
 ((((vI (IntKind.wrap .i64 (IntKind.wrap .i64 (IntKind.wrap .i64 (IntKind.wrap .i64 (x5 - n1) * x6) + IntKind.wrap .i64 (IntKind.wrap .i64 (n2 - n3) * x7)) + IntKind.wrap .i64 (IntKind.wrap .i64 (n4 - n5) * x7)))) = (vI (IntKind.wrap .i64 (IntKind.wrap .i64 (IntKind.wrap .i64 (IntKind.wrap .i64 (x5 - n1) * x6) + IntKind.wrap .i64 (IntKind.wrap .i64 (n2 - n3) * x7)) + IntKind.wrap .i64 (IntKind.wrap .i64 (n4 - n5) * x7))))) ∧
 (((vI (IntKind.wrap .i64 (IntKind.wrap .i64 (n4 - n5) * x7))) = (vI (IntKind.wrap .i64 (IntKind.wrap .i64 (n4 - n5) * x7)))) ∧
 (((vI x7) = (vI x7)) ∧
 (((Go.Value.pointer (Option.some (Go.Addr.mk 1001 2 Option.none))) = (Go.Value.pointer (Option.some (Go.Addr.mk 1001 2 Option.none)))) ∧
 (((vI (IntKind.wrap .i64 (n4 - n5))) = (vI (IntKind.wrap .i64 (n4 - n5)))) ∧
 ((∃ n6 : Int,
 ((At (l4) (0 + Int.toNat x3 * 1) 1 [(vI n6)]) ∧
 ((vI n6) = (vI n5)))) ∧
 ((bcase (decide (0 ≤ x3))
 (bcase (decide (x3 < (↑n0 : Int)))
 ((Go.Value.pointer (Option.some (Go.Addr.mk 1000 (0 + Int.toNat x3 * 1) Option.none))) = (Go.Value.pointer (Option.some (Go.Addr.mk 1000 (0 + Int.toNat x3 * 1) Option.none))))
 False)
 False) ∧
 (((vI x3) = (vI x3)) ∧
 (((Go.Value.slice (Option.some (Go.Addr.mk 1000 0 Option.none)) (n0) (n0)) = (Go.Value.slice (Option.some (Go.Addr.mk 1000 0 Option.none)) (n0) (n0))) ∧
 ((∃ n6 : Int,
 ((At (l4) (0 + Int.toNat (IntKind.wrap .i64 (x3 + 1)) * 1) 1 [(vI n6)]) ∧
 ((vI n6) = (vI n4)))) ∧
 ((bcase (decide (0 ≤ IntKind.wrap .i64 (x3 + 1)))
 (bcase (decide (IntKind.wrap .i64 (x3 + 1) < (↑n0 : Int)))
 ((Go.Value.pointer (Option.some (Go.Addr.mk 1000 (0 + Int.toNat (IntKind.wrap .i64 (x3 + 1)) * 1) Option.none))) = (Go.Value.pointer (Option.some (Go.Addr.mk 1000 (0 + Int.toNat (IntKind.wrap .i64 (x3 + 1)) * 1) Option.none))))
 False)
 False) ∧
 (((vI (IntKind.wrap .i64 (x3 + 1))) = (vI (IntKind.wrap .i64 (x3 + 1)))) ∧
 (((vI x3) = (vI x3)) ∧
 (((Go.Value.slice (Option.some (Go.Addr.mk 1000 0 Option.none)) (n0) (n0)) = (Go.Value.slice (Option.some (Go.Addr.mk 1000 0 Option.none)) (n0) (n0))) ∧
 (((vI (IntKind.wrap .i64 (IntKind.wrap .i64 (IntKind.wrap .i64 (x5 - n1) * x6) + IntKind.wrap .i64 (IntKind.wrap .i64 (n2 - n3) * x7)))) = (vI (IntKind.wrap .i64 (IntKind.wrap .i64 (IntKind.wrap .i64 (x5 - n1) * x6) + IntKind.wrap .i64 (IntKind.wrap .i64 (n2 - n3) * x7))))) ∧
 True))))))))))))))) ∧
 (True ∧
 (bcase (decide (0 ≤ x3))
 (bcase (decide (x3 < (↑n0 : Int)))
 (∃ n6 : Int,
 ((At (l4) (0 + Int.toNat x3 * 1) 1 [(vI n6)]) ∧
 ((((vI (IntKind.wrap .i64 (IntKind.wrap .i64 (IntKind.wrap .i64 (IntKind.wrap .i64 (x5 - n1) * x6) + IntKind.wrap .i64 (IntKind.wrap .i64 (n2 - n3) * x7)) + IntKind.wrap .i64 (IntKind.wrap .i64 (n4 - n5) * x7)))) = (vI (IntKind.wrap .i64 (IntKind.wrap .i64 (IntKind.wrap .i64 (IntKind.wrap .i64 (x5 - n1) * x6) + IntKind.wrap .i64 (IntKind.wrap .i64 (n2 - n3) * x7)) + IntKind.wrap .i64 (IntKind.wrap .i64 (n4 - n5) * x7))))) ∧
 ((∃ n7 : Int,
 ((At (l4) (0 + Int.toNat x3 * 1) 1 [(vI n7)]) ∧
 ((vI n7) = (vI n6)))) ∧
 ((bcase (decide (0 ≤ x3))
 (bcase (decide (x3 < (↑n0 : Int)))
 ((Go.Value.pointer (Option.some (Go.Addr.mk 1000 (0 + Int.toNat x3 * 1) Option.none))) = (Go.Value.pointer (Option.some (Go.Addr.mk 1000 (0 + Int.toNat x3 * 1) Option.none))))
 False)
 False) ∧
 (((vI x3) = (vI x3)) ∧
 (((Go.Value.slice (Option.some (Go.Addr.mk 1000 0 Option.none)) (n0) (n0)) = (Go.Value.slice (Option.some (Go.Addr.mk 1000 0 Option.none)) (n0) (n0))) ∧
 (((Go.Value.slice Option.none 0 0) = (Go.Value.slice Option.none 0 0)) ∧
 True)))))) ∧
 (∃ n7 : Int,
 ((Says C 109 [(D.val (vI (IntKind.wrap .i64 (IntKind.wrap .i64 (IntKind.wrap .i64 (IntKind.wrap .i64 (x5 - n1) * x6) + IntKind.wrap .i64 (IntKind.wrap .i64 (n2 - n3) * x7)) + IntKind.wrap .i64 (IntKind.wrap .i64 (n4 - n5) * x7))))), (D.val (vI (1000 : Int)))] [(D.val (vI n7))]) ∧
 (((((Go.Value.slice (Option.some (Go.Addr.mk 1002 0 Option.none)) 1 1) = (Go.Value.slice (Option.some (Go.Addr.mk 1002 0 Option.none)) 1 1)) ∧
 ((Option.some (AObj.cells [(vI (IntKind.wrap .i64 (n6 + n7)))] 3 false 1)) = (Option.some (AObj.cells [(vI (IntKind.wrap .i64 (n6 + n7)))] 3 false 1)))) ∧
 (((vI (IntKind.wrap .i64 (n6 + n7))) = (vI (IntKind.wrap .i64 (n6 + n7)))) ∧
 ((∃ n8 : Int,
 ((At (l4) (0 + Int.toNat x3 * 1) 1 [(vI n8)]) ∧
 ((vI n8) = (vI n6)))) ∧
 ((bcase (decide (0 ≤ x3))
 (bcase (decide (x3 < (↑n0 : Int)))
 ((Go.Value.pointer (Option.some (Go.Addr.mk 1000 (0 + Int.toNat x3 * 1) Option.none))) = (Go.Value.pointer (Option.some (Go.Addr.mk 1000 (0 + Int.toNat x3 * 1) Option.none))))
 False)
 False) ∧
 (((vI x3) = (vI x3)) ∧
 (((Go.Value.slice (Option.some (Go.Addr.mk 1000 0 Option.none)) (n0) (n0)) = (Go.Value.slice (Option.some (Go.Addr.mk 1000 0 Option.none)) (n0) (n0))) ∧
 (((Go.Value.slice Option.none 0 0) = (Go.Value.slice Option.none 0 0)) ∧
 True))))))) ∧
 ((((vI (IntKind.wrap .i64 (n6 + n7))) = (vI (IntKind.wrap .i64 (n6 + n7)))) ∧
 ((∃ n8 : Int,
 ((At (l4) (0 + Int.toNat x3 * 1) 1 [(vI n8)]) ∧
 ((vI n8) = (vI n6)))) ∧
 ((bcase (decide (0 ≤ x3))
 (bcase (decide (x3 < (↑n0 : Int)))
 ((Go.Value.pointer (Option.some (Go.Addr.mk 1000 (0 + Int.toNat x3 * 1) Option.none))) = (Go.Value.pointer (Option.some (Go.Addr.mk 1000 (0 + Int.toNat x3 * 1) Option.none))))
 False)
 False) ∧
 (((vI x3) = (vI x3)) ∧
 (((Go.Value.slice (Option.some (Go.Addr.mk 1000 0 Option.none)) (n0) (n0)) = (Go.Value.slice (Option.some (Go.Addr.mk 1000 0 Option.none)) (n0) (n0))) ∧
 True))))) ∧
 (True ∧
 (B [(Prod.mk 0 (Go.Value.slice (Option.some (Go.Addr.mk 1000 0 Option.none)) (n0) (n0))), (Prod.mk 2 (vI x1)), (Prod.mk 4 (Go.Value.pointer (Option.some (Go.Addr.mk 1001 0 Option.none)))), (Prod.mk 7 (vI x2)), (Prod.mk 8 (Go.Value.slice (Option.some (Go.Addr.mk 1002 0 Option.none)) 1 1)), (Prod.mk 9 (vI (IntKind.wrap .i64 (x3 + 1))))] [(Prod.mk 1000 (AObj.sym (l4) true 1)), (Prod.mk 1001 (AObj.cells [(vI x5), (vI x6), (vI x7)] 101 false 1)), (Prod.mk 1002 (AObj.sym [(vI (IntKind.wrap .i64 (n6 + n7)))] true 1))])))))))))
 False)
 False)))))
 False)
 False)))
 False)
 False)
 (bcase (decide (0 ≤ x3))
 (bcase (decide (x3 < (↑n0 : Int)))
 (∃ n4 : Int,
 ((At (l4) (0 + Int.toNat x3 * 1) 1 [(vI n4)]) ∧
 ((((vI (IntKind.wrap .i64 (IntKind.wrap .i64 (IntKind.wrap .i64 (x5 - n1) * x6) + IntKind.wrap .i64 (IntKind.wrap .i64 (n2 - n3) * x7)))) = (vI (IntKind.wrap .i64 (IntKind.wrap .i64 (IntKind.wrap .i64 (x5 - n1) * x6) + IntKind.wrap .i64 (IntKind.wrap .i64 (n2 - n3) * x7))))) ∧
 ((∃ n5 : Int,
 ((At (l4) (0 + Int.toNat x3 * 1) 1 [(vI n5)]) ∧
 ((vI n5) = (vI n4)))) ∧
 ((bcase (decide (0 ≤ x3))
 (bcase (decide (x3 < (↑n0 : Int)))
 ((Go.Value.pointer (Option.some (Go.Addr.mk 1000 (0 + Int.toNat x3 * 1) Option.none))) = (Go.Value.pointer (Option.some (Go.Addr.mk 1000 (0 + Int.toNat x3 * 1) Option.none))))
 False)
 False) ∧
 (((vI x3) = (vI x3)) ∧
 (((Go.Value.slice (Option.some (Go.Addr.mk 1000 0 Option.none)) (n0) (n0)) = (Go.Value.slice (Option.some (Go.Addr.mk 1000 0 Option.none)) (n0) (n0))) ∧
 (((Go.Value.slice Option.none 0 0) = (Go.Value.slice Option.none 0 0)) ∧
 True)))))) ∧
 (∃ n5 : Int,
 ((Says C 109 [(D.val (vI (IntKind.wrap .i64 (IntKind.wrap .i64 (IntKind.wrap .i64 (x5 - n1) * x6) + IntKind.wrap .i64 (IntKind.wrap .i64 (n2 - n3) * x7))))), (D.val (vI (1000 : Int)))] [(D.val (vI n5))]) ∧
 (((((Go.Value.slice (Option.some (Go.Addr.mk 1002 0 Option.none)) 1 1) = (Go.Value.slice (Option.some (Go.Addr.mk 1002 0 Option.none)) 1 1)) ∧
 ((Option.some (AObj.cells [(vI (IntKind.wrap .i64 (n4 + n5)))] 3 false 1)) = (Option.some (AObj.cells [(vI (IntKind.wrap .i64 (n4 + n5)))] 3 false 1)))) ∧
 (((vI (IntKind.wrap .i64 (n4 + n5))) = (vI (IntKind.wrap .i64 (n4 + n5)))) ∧
 ((∃ n6 : Int,
 ((At (l4) (0 + Int.toNat x3 * 1) 1 [(vI n6)]) ∧
 ((vI n6) = (vI n4)))) ∧
 ((bcase (decide (0 ≤ x3))
 (bcase (decide (x3 < (↑n0 : Int)))
 ((Go.Value.pointer (Option.some (Go.Addr.mk 1000 (0 + Int.toNat x3 * 1) Option.none))) = (Go.Value.pointer (Option.some (Go.Addr.mk 1000 (0 + Int.toNat x3 * 1) Option.none))))
 False)
 False) ∧
 (((vI x3) = (vI x3)) ∧
 (((Go.Value.slice (Option.some (Go.Addr.mk 1000 0 Option.none)) (n0) (n0)) = (Go.Value.slice (Option.some (Go.Addr.mk 1000 0 Option.none)) (n0) (n0))) ∧
 (((Go.Value.slice Option.none 0 0) = (Go.Value.slice Option.none 0 0)) ∧
 True))))))) ∧
 ((((vI (IntKind.wrap .i64 (n4 + n5))) = (vI (IntKind.wrap .i64 (n4 + n5)))) ∧
 ((∃ n6 : Int,
 ((At (l4) (0 + Int.toNat x3 * 1) 1 [(vI n6)]) ∧
 ((vI n6) = (vI n4)))) ∧
 ((bcase (decide (0 ≤ x3))
 (bcase (decide (x3 < (↑n0 : Int)))
 ((Go.Value.pointer (Option.some (Go.Addr.mk 1000 (0 + Int.toNat x3 * 1) Option.none))) = (Go.Value.pointer (Option.some (Go.Addr.mk 1000 (0 + Int.toNat x3 * 1) Option.none))))
 False)
 False) ∧
 (((vI x3) = (vI x3)) ∧
 (((Go.Value.slice (Option.some (Go.Addr.mk 1000 0 Option.none)) (n0) (n0)) = (Go.Value.slice (Option.some (Go.Addr.mk 1000 0 Option.none)) (n0) (n0))) ∧
 True))))) ∧
 (True ∧
 (B [(Prod.mk 0 (Go.Value.slice (Option.some (Go.Addr.mk 1000 0 Option.none)) (n0) (n0))), (Prod.mk 2 (vI x1)), (Prod.mk 4 (Go.Value.pointer (Option.some (Go.Addr.mk 1001 0 Option.none)))), (Prod.mk 7 (vI x2)), (Prod.mk 8 (Go.Value.slice (Option.some (Go.Addr.mk 1002 0 Option.none)) 1 1)), (Prod.mk 9 (vI (IntKind.wrap .i64 (x3 + 1))))] [(Prod.mk 1000 (AObj.sym (l4) true 1)), (Prod.mk 1001 (AObj.cells [(vI x5), (vI x6), (vI x7)] 101 false 1)), (Prod.mk 1002 (AObj.sym [(vI (IntKind.wrap .i64 (n4 + n5)))] true 1))])))))))))
 False)
 False))))))
 False)
 False)))
 False)
 False)
 (bcase (decide (x3 < IntKind.wrap .i64 ((↑n0 : Int) - 1)))
 (bcase (decide (0 ≤ IntKind.wrap .i64 (x3 + 1)))
 (bcase (decide (IntKind.wrap .i64 (x3 + 1) < (↑n0 : Int)))
 (∃ n2 : Int,
 ((At (l4) (0 + Int.toNat (IntKind.wrap .i64 (x3 + 1)) * 1) 1 [(vI n2)]) ∧
 (bcase (decide (0 ≤ x3))
 (bcase (decide (x3 < (↑n0 : Int)))
 (∃ n3 : Int,
 ((At (l4) (0 + Int.toNat x3 * 1) 1 [(vI n3)]) ∧
 ((((vI (IntKind.wrap .i64 (IntKind.wrap .i64 (IntKind.wrap .i64 (x5 - n1) * x6) + IntKind.wrap .i64 (IntKind.wrap .i64 (n2 - n3) * x7)))) = (vI (IntKind.wrap .i64 (IntKind.wrap .i64 (IntKind.wrap .i64 (x5 - n1) * x6) + IntKind.wrap .i64 (IntKind.wrap .i64 (n2 - n3) * x7))))) ∧
 (((vI (IntKind.wrap .i64 (IntKind.wrap .i64 (n2 - n3) * x7))) = (vI (IntKind.wrap .i64 (IntKind.wrap .i64 (n2 - n3) * x7)))) ∧
 (((vI x7) = (vI x7)) ∧
 (((Go.Value.pointer (Option.some (Go.Addr.mk 1001 2 Option.none))) = (Go.Value.pointer (Option.some (Go.Addr.mk 1001 2 Option.none)))) ∧
 (((vI (IntKind.wrap .i64 (n2 - n3))) = (vI (IntKind.wrap .i64 (n2 - n3)))) ∧
 ((∃ n4 : Int,
 ((At (l4) (0 + Int.toNat x3 * 1) 1 [(vI n4)]) ∧
 ((vI n4) = (vI n3)))) ∧
 ((bcase (decide (0 ≤ x3))
 (bcase (decide (x3 < (↑n0 : Int)))
 ((Go.Value.pointer (Option.some (Go.Addr.mk 1000 (0 + Int.toNat x3 * 1) Option.none))) = (Go.Value.pointer (Option.some (Go.Addr.mk 1000 (0 + Int.toNat x3 * 1) Option.none))))
 False)
 False) ∧
 (((vI x3) = (vI x3)) ∧
 (((Go.Value.slice (Option.some (Go.Addr.mk 1000 0 Option.none)) (n0) (n0)) = (Go.Value.slice (Option.some (Go.Addr.mk 1000 0 Option.none)) (n0) (n0))) ∧
 ((∃ n4 : Int,
 ((At (l4) (0 + Int.toNat (IntKind.wrap .i64 (x3 + 1)) * 1) 1 [(vI n4)]) ∧
 ((vI n4) = (vI n2)))) ∧
 ((bcase (decide (0 ≤ IntKind.wrap .i64 (x3 + 1)))
 (bcase (decide (IntKind.wrap .i64 (x3 + 1) < (↑n0 : Int)))
 ((Go.Value.pointer (Option.some (Go.Addr.mk 1000 (0 + Int.toNat (IntKind.wrap .i64 (x3 + 1)) * 1) Option.none))) = (Go.Value.pointer (Option.some (Go.Addr.mk 1000 (0 + Int.toNat (IntKind.wrap .i64 (x3 + 1)) * 1) Option.none))))
 False)
 False) ∧
 (((vI (IntKind.wrap .i64 (x3 + 1))) = (vI (IntKind.wrap .i64 (x3 + 1)))) ∧
 (((vI x3) = (vI x3)) ∧
 (((Go.Value.slice (Option.some (Go.Addr.mk 1000 0 Option.none)) (n0) (n0)) = (Go.Value.slice (Option.some (Go.Addr.mk 1000 0 Option.none)) (n0) (n0))) ∧
 (((vI (IntKind.wrap .i64 (IntKind.wrap .i64 (x5 - n1) * x6))) = (vI (IntKind.wrap .i64 (IntKind.wrap .i64 (x5 - n1) * x6)))) ∧
 True))))))))))))))) ∧
 (True ∧
 (bcase (decide (0 ≤ x3))
 (bcase (decide (x3 < (↑n0 : Int)))
 (∃ n4 : Int,
 ((At (l4) (0 + Int.toNat x3 * 1) 1 [(vI n4)]) ∧
 ((((vI (IntKind.wrap .i64 (IntKind.wrap .i64 (IntKind.wrap .i64 (x5 - n1) * x6) + IntKind.wrap .i64 (IntKind.wrap .i64 (n2 - n3) * x7)))) = (vI (IntKind.wrap .i64 (IntKind.wrap .i64 (IntKind.wrap .i64 (x5 - n1) * x6) + IntKind.wrap .i64 (IntKind.wrap .i64 (n2 - n3) * x7))))) ∧
 ((∃ n5 : Int,
 ((At (l4) (0 + Int.toNat x3 * 1) 1 [(vI n5)]) ∧
 ((vI n5) = (vI n4)))) ∧
 ((bcase (decide (0 ≤ x3))
 (bcase (decide (x3 < (↑n0 : Int)))
 ((Go.Value.pointer (Option.some (Go.Addr.mk 1000 (0 + Int.toNat x3 * 1) Option.none))) = (Go.Value.pointer (Option.some (Go.Addr.mk 1000 (0 + Int.toNat x3 * 1) Option.none))))
 False)
 False) ∧
 (((vI x3) = (vI x3)) ∧
 (((Go.Value.slice (Option.some (Go.Addr.mk 1000 0 Option.none)) (n0) (n0)) = (Go.Value.slice (Option.some (Go.Addr.mk 1000 0 Option.none)) (n0) (n0))) ∧
 (((Go.Value.slice Option.none 0 0) = (Go.Value.slice Option.none 0 0)) ∧
 True)))))) ∧
 (∃ n5 : Int,
 ((Says C 109 [(D.val (vI (IntKind.wrap .i64 (IntKind.wrap .i64 (IntKind.wrap .i64 (x5 - n1) * x6) + IntKind.wrap .i64 (IntKind.wrap .i64 (n2 - n3) * x7))))), (D.val (vI (1000 : Int)))] [(D.val (vI n5))]) ∧
 (((((Go.Value.slice (Option.some (Go.Addr.mk 1002 0 Option.none)) 1 1) = (Go.Value.slice (Option.some (Go.Addr.mk 1002 0 Option.none)) 1 1)) ∧
 ((Option.some (AObj.cells [(vI (IntKind.wrap .i64 (n4 + n5)))] 3 false 1)) = (Option.some (AObj.cells [(vI (IntKind.wrap .i64 (n4 + n5)))] 3 false 1)))) ∧
 (((vI (IntKind.wrap .i64 (n4 + n5))) = (vI (IntKind.wrap .i64 (n4 + n5)))) ∧
 ((∃ n6 : Int,
 ((At (l4) (0 + Int.toNat x3 * 1) 1 [(vI n6)]) ∧
 ((vI n6) = (vI n4)))) ∧
 ((bcase (decide (0 ≤ x3))
 (bcase (decide (x3 < (↑n0 : Int)))
 ((Go.Value.pointer (Option.some (Go.Addr.mk 1000 (0 + Int.toNat x3 * 1) Option.none))) = (Go.Value.pointer (Option.some (Go.Addr.mk 1000 (0 + Int.toNat x3 * 1) Option.none))))
 False)
 False) ∧
 (((vI x3) = (vI x3)) ∧
 (((Go.Value.slice (Option.some (Go.Addr.mk 1000 0 Option.none)) (n0) (n0)) = (Go.Value.slice (Option.some (Go.Addr.mk 1000 0 Option.none)) (n0) (n0))) ∧
 (((Go.Value.slice Option.none 0 0) = (Go.Value.slice Option.none 0 0)) ∧
 True))))))) ∧
 ((((vI (IntKind.wrap .i64 (n4 + n5))) = (vI (IntKind.wrap .i64 (n4 + n5)))) ∧
 ((∃ n6 : Int,
 ((At (l4) (0 + Int.toNat x3 * 1) 1 [(vI n6)]) ∧
 ((vI n6) = (vI n4)))) ∧
 ((bcase (decide (0 ≤ x3))
 (bcase (decide (x3 < (↑n0 : Int)))
 ((Go.Value.pointer (Option.some (Go.Addr.mk 1000 (0 + Int.toNat x3 * 1) Option.none))) = (Go.Value.pointer (Option.some (Go.Addr.mk 1000 (0 + Int.toNat x3 * 1) Option.none))))
 False)
 False) ∧
 (((vI x3) = (vI x3)) ∧
 (((Go.Value.slice (Option.some (Go.Addr.mk 1000 0 Option.none)) (n0) (n0)) = (Go.Value.slice (Option.some (Go.Addr.mk 1000 0 Option.none)) (n0) (n0))) ∧
 True))))) ∧
 (True ∧
 (B [(Prod.mk 0 (Go.Value.slice (Option.some (Go.Addr.mk 1000 0 Option.none)) (n0) (n0))), (Prod.mk 2 (vI x1)), (Prod.mk 4 (Go.Value.pointer (Option.some (Go.Addr.mk 1001 0 Option.none)))), (Prod.mk 7 (vI x2)), (Prod.mk 8 (Go.Value.slice (Option.some (Go.Addr.mk 1002 0 Option.none)) 1 1)), (Prod.mk 9 (vI (IntKind.wrap .i64 (x3 + 1))))] [(Prod.mk 1000 (AObj.sym (l4) true 1)), (Prod.mk 1001 (AObj.cells [(vI x5), (vI x6), (vI x7)] 101 false 1)), (Prod.mk 1002 (AObj.sym [(vI (IntKind.wrap .i64 (n4 + n5)))] true 1))])))))))))
 False)
 False)))))
 False)
 False)))
 False)
 False)
 (bcase (decide (0 ≤ x3))
 (bcase (decide (x3 < (↑n0 : Int)))
 (∃ n2 : Int,
 ((At (l4) (0 + Int.toNat x3 * 1) 1 [(vI n2)]) ∧
 ((((vI (IntKind.wrap .i64 (IntKind.wrap .i64 (x5 - n1) * x6))) = (vI (IntKind.wrap .i64 (IntKind.wrap .i64 (x5 - n1) * x6)))) ∧
 ((∃ n3 : Int,
 ((At (l4) (0 + Int.toNat x3 * 1) 1 [(vI n3)]) ∧
 ((vI n3) = (vI n2)))) ∧
 ((bcase (decide (0 ≤ x3))
 (bcase (decide (x3 < (↑n0 : Int)))
 ((Go.Value.pointer (Option.some (Go.Addr.mk 1000 (0 + Int.toNat x3 * 1) Option.none))) = (Go.Value.pointer (Option.some (Go.Addr.mk 1000 (0 + Int.toNat x3 * 1) Option.none))))
 False)
 False) ∧
 (((vI x3) = (vI x3)) ∧
 (((Go.Value.slice (Option.some (Go.Addr.mk 1000 0 Option.none)) (n0) (n0)) = (Go.Value.slice (Option.some (Go.Addr.mk 1000 0 Option.none)) (n0) (n0))) ∧
 (((Go.Value.slice Option.none 0 0) = (Go.Value.slice Option.none 0 0)) ∧
 True)))))) ∧
 (∃ n3 : Int,
 ((Says C 109 [(D.val (vI (IntKind.wrap .i64 (IntKind.wrap .i64 (x5 - n1) * x6)))), (D.val (vI (1000 : Int)))] [(D.val (vI n3))]) ∧
 (((((Go.Value.slice (Option.some (Go.Addr.mk 1002 0 Option.none)) 1 1) = (Go.Value.slice (Option.some (Go.Addr.mk 1002 0 Option.none)) 1 1)) ∧
 ((Option.some (AObj.cells [(vI (IntKind.wrap .i64 (n2 + n3)))] 3 false 1)) = (Option.some (AObj.cells [(vI (IntKind.wrap .i64 (n2 + n3)))] 3 false 1)))) ∧
 (((vI (IntKind.wrap .i64 (n2 + n3))) = (vI (IntKind.wrap .i64 (n2 + n3)))) ∧
 ((∃ n4 : Int,
 ((At (l4) (0 + Int.toNat x3 * 1) 1 [(vI n4)]) ∧
 ((vI n4) = (vI n2)))) ∧
 ((bcase (decide (0 ≤ x3))
 (bcase (decide (x3 < (↑n0 : Int)))
 ((Go.Value.pointer (Option.some (Go.Addr.mk 1000 (0 + Int.toNat x3 * 1) Option.none))) = (Go.Value.pointer (Option.some (Go.Addr.mk 1000 (0 + Int.toNat x3 * 1) Option.none))))
 False)
 False) ∧
 (((vI x3) = (vI x3)) ∧
 (((Go.Value.slice (Option.some (Go.Addr.mk 1000 0 Option.none)) (n0) (n0)) = (Go.Value.slice (Option.some (Go.Addr.mk 1000 0 Option.none)) (n0) (n0))) ∧
 (((Go.Value.slice Option.none 0 0) = (Go.Value.slice Option.none 0 0)) ∧
 True))))))) ∧
 ((((vI (IntKind.wrap .i64 (n2 + n3))) = (vI (IntKind.wrap .i64 (n2 + n3)))) ∧
 ((∃ n4 : Int,
 ((At (l4) (0 + Int.toNat x3 * 1) 1 [(vI n4)]) ∧
 ((vI n4) = (vI n2)))) ∧
 ((bcase (decide (0 ≤ x3))
 (bcase (decide (x3 < (↑n0 : Int)))
 ((Go.Value.pointer (Option.some (Go.Addr.mk 1000 (0 + Int.toNat x3 * 1) Option.none))) = (Go.Value.pointer (Option.some (Go.Addr.mk 1000 (0 + Int.toNat x3 * 1) Option.none))))
 False)
 False) ∧
 (((vI x3) = (vI x3)) ∧
 (((Go.Value.slice (Option.some (Go.Addr.mk 1000 0 Option.none)) (n0) (n0)) = (Go.Value.slice (Option.some (Go.Addr.mk 1000 0 Option.none)) (n0) (n0))) ∧
 True))))) ∧
 (True ∧
 (B [(Prod.mk 0 (Go.Value.slice (Option.some (Go.Addr.mk 1000 0 Option.none)) (n0) (n0))), (Prod.mk 2 (vI x1)), (Prod.mk 4 (Go.Value.pointer (Option.some (Go.Addr.mk 1001 0 Option.none)))), (Prod.mk 7 (vI x2)), (Prod.mk 8 (Go.Value.slice (Option.some (Go.Addr.mk 1002 0 Option.none)) 1 1)), (Prod.mk 9 (vI (IntKind.wrap .i64 (x3 + 1))))] [(Prod.mk 1000 (AObj.sym (l4) true 1)), (Prod.mk 1001 (AObj.cells [(vI x5), (vI x6), (vI x7)] 101 false 1)), (Prod.mk 1002 (AObj.sym [(vI (IntKind.wrap .i64 (n2 + n3)))] true 1))])))))))))
 False)
 False)))))))
 False)
 False)
 (X 2 [(Prod.mk 2 (vI x1)), (Prod.mk 4 (Go.Value.pointer (Option.some (Go.Addr.mk 1000 0 Option.none)))), (Prod.mk 7 (vI x2)), (Prod.mk 8 (Go.Value.slice Option.none 0 0))] [(Prod.mk 1000 (AObj.cells [(vI x5), (vI x6), (vI x7)] 101 false 1))])) := by kernel_rfl
def nHd12 (C : Ct) (L : AtLoop) (n0 : Nat) (l1 : List Value) (k : List D → Prop) : Prop := jNext Try.prog (hF7 C) L [] 61 0 .normal [(0, (Value.slice (some ⟨1000, 0, none⟩) n0 n0))] [(1000, (AObj.sym l1 true 1))] (dataK k)
theorem nHd12_text (C : Ct) (L : AtLoop) (n0 : Nat) (l1 : List Go.Value) (k : List D → Prop) : nHd12 C L n0 l1 k =
 (bcase (decide (0 + n0 * 1 ≤ List.length l1))
 ((Says C 15 [(D.sl (n0) 1 (List.take (n0 * 1) (List.drop 0 l1)))] [(D.sl (n0) 1 (List.take (n0 * 1) (List.drop 0 l1)))]) ∧
 ((((n0) = (n0)) ∧
 ((List.length (List.take (n0 * 1) (List.drop 0 l1))) = (n0 * 1))) ∧
 (k [(D.sl (n0) 1 (List.take (n0 * 1) (List.drop 0 l1)))])))
 False) := by kernel_rfl
abbrev zHd13 (n0 : Nat) (x1 : Int) (x2 : Int) (n3 : Nat) (x4 : Int) (l5 : List Value) (x6 : Int) (x7 : Int) (x8 : Int) (l9 : List Value) : Slots × Blocks := ([(0, (Value.slice (some ⟨1000, 0, none⟩) n0 n0)), (2, (Value.int .i64 x1)), (4, (Value.pointer (some ⟨1001, 0, none⟩))), (7, (Value.int .i64 x2)), (8, (Value.slice (some ⟨1002, 0, none⟩) n3 n3)), (9, (Value.int .i64 x4))], [(1000, (AObj.sym l5 true 1)), (1001, (AObj.cells [(Value.int .i64 x6), (Value.int .i64 x7), (Value.int .i64 x8)] 101 false 1)), (1002, (AObj.sym l9 true 1))])
def rHd13 (C : Ct) (L : AtLoop) (n0 : Nat) (x1 : Int) (x2 : Int) (n3 : Nat) (x4 : Int) (l5 : List Value) (x6 : Int) (x7 : Int) (x8 : Int) (l9 : List Value) (B : Bx) (X : Xx) (k : List D → Prop) : Prop := jRound2 Try.prog (hF7 C) L [] 61 0 2 [(0, (Value.slice (some ⟨1000, 0, none⟩) n0 n0)), (2, (Value.int .i64 x1)), (4, (Value.pointer (some ⟨1001, 0, none⟩))), (7, (Value.int .i64 x2)), (8, (Value.slice (some ⟨1002, 0, none⟩) n3 n3)), (9, (Value.int .i64 x4))] [(1000, (AObj.sym l5 true 1)), (1001, (AObj.cells [(Value.int .i64 x6), (Value.int .i64 x7), (Value.int .i64 x8)] 101 false 1)), (1002, (AObj.sym l9 true 1))] B X (dataK k)
theorem rHd13_text (C : Ct) (L : AtLoop) (n0 : Nat) (x1 : Int) (x2 : Int) (n3 : Nat) (x4 : Int) (l5 : List Go.Value) (x6 : Int) (x7 : Int) (x8 : Int) (l9 : List Go.Value) (B : Bx) (X : Xx) (k : List D → Prop) : rHd13 C L n0 x1 x2 n3 x4 l5 x6 x7 x8 l9 B X k =
 (bcase (decide (x4 < (↑n0 : Int)))
 (bcase (decide (0 ≤ x4))
 (bcase (decide (x4 < (↑n0 : Int)))
 (∃ n1 : Int,
 ((At (l5) (0 + Int.toNat x4 * 1) 1 [(vI n1)]) ∧
 ((((vI (IntKind.wrap .i64 (IntKind.wrap .i64 (x6 - n1) * x7))) = (vI (IntKind.wrap .i64 (IntKind.wrap .i64 (x6 - n1) * x7)))) ∧
 (((vI x7) = (vI x7)) ∧
 (((Go.Value.pointer (Option.some (Go.Addr.mk 1001 1 Option.none))) = (Go.Value.pointer (Option.some (Go.Addr.mk 1001 1 Option.none)))) ∧
 (((vI (IntKind.wrap .i64 (x6 - n1))) = (vI (IntKind.wrap .i64 (x6 - n1)))) ∧
 ((∃ n2 : Int,
 ((At (l5) (0 + Int.toNat x4 * 1) 1 [(vI n2)]) ∧
 ((vI n2) = (vI n1)))) ∧
 ((bcase (decide (0 ≤ x4))
 (bcase (decide (x4 < (↑n0 : Int)))
 ((Go.Value.pointer (Option.some (Go.Addr.mk 1000 (0 + Int.toNat x4 * 1) Option.none))) = (Go.Value.pointer (Option.some (Go.Addr.mk 1000 (0 + Int.toNat x4 * 1) Option.none))))
 False)
 False) ∧
 (((vI x4) = (vI x4)) ∧
 (((Go.Value.slice (Option.some (Go.Addr.mk 1000 0 Option.none)) (n0) (n0)) = (Go.Value.slice (Option.some (Go.Addr.mk 1000 0 Option.none)) (n0) (n0))) ∧
 (((vI x6) = (vI x6)) ∧
 (((Go.Value.pointer (Option.some (Go.Addr.mk 1001 0 Option.none))) = (Go.Value.pointer (Option.some (Go.Addr.mk 1001 0 Option.none)))) ∧
 True)))))))))) ∧
 (True ∧
 (bcase (decide (x4 > 0))
 (bcase (decide (0 ≤ IntKind.wrap .i64 (x4 - 1)))
 (bcase (decide (IntKind.wrap .i64 (x4 - 1) < (↑n0 : Int)))
 (∃ n2 : Int,
 ((At (l5) (0 + Int.toNat (IntKind.wrap .i64 (x4 - 1)) * 1) 1 [(vI n2)]) ∧
 (bcase (decide (0 ≤ x4))
 (bcase (decide (x4 < (↑n0 : Int)))
 (∃ n4 : Int,
 ((At (l5) (0 + Int.toNat x4 * 1) 1 [(vI n4)]) ∧
 ((((vI (IntKind.wrap .i64 (IntKind.wrap .i64 (IntKind.wrap .i64 (x6 - n1) * x7) + IntKind.wrap .i64 (IntKind.wrap .i64 (n2 - n4) * x8)))) = (vI (IntKind.wrap .i64 (IntKind.wrap .i64 (IntKind.wrap .i64 (x6 - n1) * x7) + IntKind.wrap .i64 (IntKind.wrap .i64 (n2 - n4) * x8))))) ∧
 (((vI (IntKind.wrap .i64 (IntKind.wrap .i64 (n2 - n4) * x8))) = (vI (IntKind.wrap .i64 (IntKind.wrap .i64 (n2 - n4) * x8)))) ∧
 (((vI x8) = (vI x8)) ∧
 (((Go.Value.pointer (Option.some (Go.Addr.mk 1001 2 Option.none))) = (Go.Value.pointer (Option.some (Go.Addr.mk 1001 2 Option.none)))) ∧
 (((vI (IntKind.wrap .i64 (n2 - n4))) = (vI (IntKind.wrap .i64 (n2 - n4)))) ∧
 ((∃ n5 : Int,
 ((At (l5) (0 + Int.toNat x4 * 1) 1 [(vI n5)]) ∧
 ((vI n5) = (vI n4)))) ∧
 ((bcase (decide (0 ≤ x4))
 (bcase (decide (x4 < (↑n0 : Int)))
 ((Go.Value.pointer (Option.some (Go.Addr.mk 1000 (0 + Int.toNat x4 * 1) Option.none))) = (Go.Value.pointer (Option.some (Go.Addr.mk 1000 (0 + Int.toNat x4 * 1) Option.none))))
 False)
 False) ∧
 (((vI x4) = (vI x4)) ∧
 (((Go.Value.slice (Option.some (Go.Addr.mk 1000 0 Option.none)) (n0) (n0)) = (Go.Value.slice (Option.some (Go.Addr.mk 1000 0 Option.none)) (n0) (n0))) ∧
 ((∃ n5 : Int,
 ((At (l5) (0 + Int.toNat (IntKind.wrap .i64 (x4 - 1)) * 1) 1 [(vI n5)]) ∧
 ((vI n5) = (vI n2)))) ∧
 ((bcase (decide (0 ≤ IntKind.wrap .i64 (x4 - 1)))
 (bcase (decide (IntKind.wrap .i64 (x4 - 1) < (↑n0 : Int)))
 ((Go.Value.pointer (Option.some (Go.Addr.mk 1000 (0 + Int.toNat (IntKind.wrap .i64 (x4 - 1)) * 1) Option.none))) = (Go.Value.pointer (Option.some (Go.Addr.mk 1000 (0 + Int.toNat (IntKind.wrap .i64 (x4 - 1)) * 1) Option.none))))
 False)
 False) ∧
 (((vI (IntKind.wrap .i64 (x4 - 1))) = (vI (IntKind.wrap .i64 (x4 - 1)))) ∧
 (((vI x4) = (vI x4)) ∧
 (((Go.Value.slice (Option.some (Go.Addr.mk 1000 0 Option.none)) (n0) (n0)) = (Go.Value.slice (Option.some (Go.Addr.mk 1000 0 Option.none)) (n0) (n0))) ∧
 (((vI (IntKind.wrap .i64 (IntKind.wrap .i64 (x6 - n1) * x7))) = (vI (IntKind.wrap .i64 (IntKind.wrap .i64 (x6 - n1) * x7)))) ∧
 True))))))))))))))) ∧
 (True ∧
 (bcase (decide (x4 < IntKind.wrap .i64 ((↑n0 : Int) - 1)))
 (bcase (decide (0 ≤ IntKind.wrap .i64 (x4 + 1)))
 (bcase (decide (IntKind.wrap .i64 (x4 + 1) < (↑n0 : Int)))
 (∃ n5 : Int,
 ((At (l5) (0 + Int.toNat (IntKind.wrap .i64 (x4 + 1)) * 1) 1 [(vI n5)]) ∧
 (bcase (decide (0 ≤ x4))
 (bcase (decide (x4 < (↑n0 : Int)))
 (∃ n6 : Int,
 ((At (l5) (0 + Int.toNat x4 * 1) 1 [(vI n6)]) ∧
 ((((vI (IntKind.wrap .i64 (IntKind.wrap .i64 (IntKind.wrap .i64 (IntKind.wrap .i64 (x6 - n1) * x7) + IntKind.wrap .i64 (IntKind.wrap .i64 (n2 - n4) * x8)) + IntKind.wrap .i64 (IntKind.wrap .i64 (n5 - n6) * x8)))) = (vI (IntKind.wrap .i64 (IntKind.wrap .i64 (IntKind.wrap .i64 (IntKind.wrap .i64 (x6 - n1) * x7) + IntKind.wrap .i64 (IntKind.wrap .i64 (n2 - n4) * x8)) + IntKind.wrap .i64 (IntKind.wrap .i64 (n5 - n6) * x8))))) ∧
 (((vI (IntKind.wrap .i64 (IntKind.wrap .i64 (n5 - n6) * x8))) = (vI (IntKind.wrap .i64 (IntKind.wrap .i64 (n5 - n6) * x8)))) ∧
 (((vI x8) = (vI x8)) ∧
 (((Go.Value.pointer (Option.some (Go.Addr.mk 1001 2 Option.none))) = (Go.Value.pointer (Option.some (Go.Addr.mk 1001 2 Option.none)))) ∧
 (((vI (IntKind.wrap .i64 (n5 - n6))) = (vI (IntKind.wrap .i64 (n5 - n6)))) ∧
 ((∃ n7 : Int,
 ((At (l5) (0 + Int.toNat x4 * 1) 1 [(vI n7)]) ∧
 ((vI n7) = (vI n6)))) ∧
 ((bcase (decide (0 ≤ x4))
 (bcase (decide (x4 < (↑n0 : Int)))
 ((Go.Value.pointer (Option.some (Go.Addr.mk 1000 (0 + Int.toNat x4 * 1) Option.none))) = (Go.Value.pointer (Option.some (Go.Addr.mk 1000 (0 + Int.toNat x4 * 1) Option.none))))
 False)
 False) ∧
 (((vI x4) = (vI x4)) ∧
 (((Go.Value.slice (Option.some (Go.Addr.mk 1000 0 Option.none)) (n0) (n0)) = (Go.Value.slice (Option.some (Go.Addr.mk 1000 0 Option.none)) (n0) (n0))) ∧
 ((∃ n7 : Int,
 ((At (l5) (0 + Int.toNat (IntKind.wrap .i64 (x4 + 1)) * 1) 1 [(vI n7)]) ∧
 ((vI n7) = (vI n5)))) ∧
 ((bcase (decide (0 ≤ IntKind.wrap .i64 (x4 + 1)))
 (bcase (decide (IntKind.wrap .i64 (x4 + 1) < (↑n0 : Int)))
 ((Go.Value.pointer (Option.some (Go.Addr.mk 1000 (0 + Int.toNat (IntKind.wrap .i64 (x4 + 1)) * 1) Option.none))) = (Go.Value.pointer (Option.some (Go.Addr.mk 1000 (0 + Int.toNat (IntKind.wrap .i64 (x4 + 1)) * 1) Option.none))))
 False)
 False) ∧
 (((vI (IntKind.wrap .i64 (x4 + 1))) = (vI (IntKind.wrap .i64 (x4 + 1)))) ∧
 (((vI x4) = (vI x4)) ∧
 (((Go.Value.slice (Option.some (Go.Addr.mk 1000 0 Option.none)) (n0) (n0)) = (Go.Value.slice (Option.some (Go.Addr.mk 1000 0 Option.none)) (n0) (n0))) ∧
 (((vI (IntKind.wrap .i64 (IntKind.wrap .i64 (IntKind.wrap .i64 (x6 - n1) * x7) + IntKind.wrap .i64 (IntKind.wrap .i64 (n2 - n4) * x8)))) = (vI (IntKind.wrap .i64 (IntKind.wrap .i64 (IntKind.wrap .i64 (x6 - n1) * x7) + IntKind.wrap .i64 (IntKind.wrap .i64 (n2 - n4) * x8))))) ∧
 True))))))))))))))) ∧
 (True ∧
 (bcase (decide (0 ≤ x4))
 (bcase (decide (x4 < (↑n0 : Int)))
 (∃ n7 : Int,
 ((At (l5) (0 + Int.toNat x4 * 1) 1 [(vI n7)]) ∧
 ((((vI (IntKind.wrap .i64 (IntKind.wrap .i64 (IntKind.wrap .i64 (IntKind.wrap .i64 (x6 - n1) * x7) + IntKind.wrap .i64 (IntKind.wrap .i64 (n2 - n4) * x8)) + IntKind.wrap .i64 (IntKind.wrap .i64 (n5 - n6) * x8)))) = (vI (IntKind.wrap .i64 (IntKind.wrap .i64 (IntKind.wrap .i64 (IntKind.wrap .i64 (x6 - n1) * x7) + IntKind.wrap .i64 (IntKind.wrap .i64 (n2 - n4) * x8)) + IntKind.wrap .i64 (IntKind.wrap .i64 (n5 - n6) * x8))))) ∧
 ((∃ n8 : Int,
 ((At (l5) (0 + Int.toNat x4 * 1) 1 [(vI n8)]) ∧
 ((vI n8) = (vI n7)))) ∧
 ((bcase (decide (0 ≤ x4))
 (bcase (decide (x4 < (↑n0 : Int)))
 ((Go.Value.pointer (Option.some (Go.Addr.mk 1000 (0 + Int.toNat x4 * 1) Option.none))) = (Go.Value.pointer (Option.some (Go.Addr.mk 1000 (0 + Int.toNat x4 * 1) Option.none))))
 False)
 False) ∧
 (((vI x4) = (vI x4)) ∧
 (((Go.Value.slice (Option.some (Go.Addr.mk 1000 0 Option.none)) (n0) (n0)) = (Go.Value.slice (Option.some (Go.Addr.mk 1000 0 Option.none)) (n0) (n0))) ∧
 (((Go.Value.slice (Option.some (Go.Addr.mk 1002 0 Option.none)) (n3) (n3)) = (Go.Value.slice (Option.some (Go.Addr.mk 1002 0 Option.none)) (n3) (n3))) ∧
 True)))))) ∧
 (∃ n8 : Int,
 ((Says C 109 [(D.val (vI (IntKind.wrap .i64 (IntKind.wrap .i64 (IntKind.wrap .i64 (IntKind.wrap .i64 (x6 - n1) * x7) + IntKind.wrap .i64 (IntKind.wrap .i64 (n2 - n4) * x8)) + IntKind.wrap .i64 (IntKind.wrap .i64 (n5 - n6) * x8))))), (D.val (vI (1000 : Int)))] [(D.val (vI n8))]) ∧
 (((((Go.Value.slice (Option.some (Go.Addr.mk 1003 0 Option.none)) 1 1) = (Go.Value.slice (Option.some (Go.Addr.mk 1003 0 Option.none)) 1 1)) ∧
 ((Option.some (AObj.cells [(vI (IntKind.wrap .i64 (n7 + n8)))] 3 false 1)) = (Option.some (AObj.cells [(vI (IntKind.wrap .i64 (n7 + n8)))] 3 false 1)))) ∧
 (((vI (IntKind.wrap .i64 (n7 + n8))) = (vI (IntKind.wrap .i64 (n7 + n8)))) ∧
 ((∃ n9 : Int,
 ((At (l5) (0 + Int.toNat x4 * 1) 1 [(vI n9)]) ∧
 ((vI n9) = (vI n7)))) ∧
 ((bcase (decide (0 ≤ x4))
 (bcase (decide (x4 < (↑n0 : Int)))
 ((Go.Value.pointer (Option.some (Go.Addr.mk 1000 (0 + Int.toNat x4 * 1) Option.none))) = (Go.Value.pointer (Option.some (Go.Addr.mk 1000 (0 + Int.toNat x4 * 1) Option.none))))
 False)
 False) ∧
 (((vI x4) = (vI x4)) ∧
 (((Go.Value.slice (Option.some (Go.Addr.mk 1000 0 Option.none)) (n0) (n0)) = (Go.Value.slice (Option.some (Go.Addr.mk 1000 0 Option.none)) (n0) (n0))) ∧
 (((Go.Value.slice (Option.some (Go.Addr.mk 1002 0 Option.none)) (n3) (n3)) = (Go.Value.slice (Option.some (Go.Addr.mk 1002 0 Option.none)) (n3) (n3))) ∧
 True))))))) ∧
 (bcase (decide (n3 < n3 + 1))
 (bcase (decide ((2 * (n3 + 1) + 768) * 8 ≤ 281474976710656))
 (bcase (decide (n3 + 1 ≤ 1099511627776))
 (bcase (decide (0 + n3 * 1 ≤ List.length l9))
 (bcase (decide (0 + n3 * 1 = List.length l9))
 ((((vI (IntKind.wrap .i64 (n7 + n8))) = (vI (IntKind.wrap .i64 (n7 + n8)))) ∧
 ((∃ n9 : Int,
 ((At (l5) (0 + Int.toNat x4 * 1) 1 [(vI n9)]) ∧
 ((vI n9) = (vI n7)))) ∧
 ((bcase (decide (0 ≤ x4))
 (bcase (decide (x4 < (↑n0 : Int)))
 ((Go.Value.pointer (Option.some (Go.Addr.mk 1000 (0 + Int.toNat x4 * 1) Option.none))) = (Go.Value.pointer (Option.some (Go.Addr.mk 1000 (0 + Int.toNat x4 * 1) Option.none))))
 False)
 False) ∧
 (((vI x4) = (vI x4)) ∧
 (((Go.Value.slice (Option.some (Go.Addr.mk 1000 0 Option.none)) (n0) (n0)) = (Go.Value.slice (Option.some (Go.Addr.mk 1000 0 Option.none)) (n0) (n0))) ∧
 True))))) ∧
 (True ∧
 (B [(Prod.mk 0 (Go.Value.slice (Option.some (Go.Addr.mk 1000 0 Option.none)) (n0) (n0))), (Prod.mk 2 (vI x1)), (Prod.mk 4 (Go.Value.pointer (Option.some (Go.Addr.mk 1001 0 Option.none)))), (Prod.mk 7 (vI x2)), (Prod.mk 8 (Go.Value.slice (Option.some (Go.Addr.mk 1002 0 Option.none)) (n3 + 1) (n3 + 1))), (Prod.mk 9 (vI (IntKind.wrap .i64 (x4 + 1))))] [(Prod.mk 1000 (AObj.sym (l5) true 1)), (Prod.mk 1001 (AObj.cells [(vI x6), (vI x7), (vI x8)] 101 false 1)), (Prod.mk 1002 (AObj.sym ((List.take (n3 * 1) (List.drop 0 l9)) ++ [(vI (IntKind.wrap .i64 (n7 + n8)))]) true 1))])))
 False)
 False)
 False)
 False)
 False)))))))
 False)
 False)))))
 False)
 False)))
 False)
 False)
 (bcase (decide (0 ≤ x4))
 (bcase (decide (x4 < (↑n0 : Int)))
 (∃ n5 : Int,
 ((At (l5) (0 + Int.toNat x4 * 1) 1 [(vI n5)]) ∧
 ((((vI (IntKind.wrap .i64 (IntKind.wrap .i64 (IntKind.wrap .i64 (x6 - n1) * x7) + IntKind.wrap .i64 (IntKind.wrap .i64 (n2 - n4) * x8)))) = (vI (IntKind.wrap .i64 (IntKind.wrap .i64 (IntKind.wrap .i64 (x6 - n1) * x7) + IntKind.wrap .i64 (IntKind.wrap .i64 (n2 - n4) * x8))))) ∧
 ((∃ n6 : Int,
 ((At (l5) (0 + Int.toNat x4 * 1) 1 [(vI n6)]) ∧
 ((vI n6) = (vI n5)))) ∧
 ((bcase (decide (0 ≤ x4))
 (bcase (decide (x4 < (↑n0 : Int)))
 ((Go.Value.pointer (Option.some (Go.Addr.mk 1000 (0 + Int.toNat x4 * 1) Option.none))) = (Go.Value.pointer (Option.some (Go.Addr.mk 1000 (0 + Int.toNat x4 * 1) Option.none))))
 False)
 False) ∧
 (((vI x4) = (vI x4)) ∧
 (((Go.Value.slice (Option.some (Go.Addr.mk 1000 0 Option.none)) (n0) (n0)) = (Go.Value.slice (Option.some (Go.Addr.mk 1000 0 Option.none)) (n0) (n0))) ∧
 (((Go.Value.slice (Option.some (Go.Addr.mk 1002 0 Option.none)) (n3) (n3)) = (Go.Value.slice (Option.some (Go.Addr.mk 1002 0 Option.none)) (n3) (n3))) ∧
 True)))))) ∧
 (∃ n6 : Int,
 ((Says C 109 [(D.val (vI (IntKind.wrap .i64 (IntKind.wrap .i64 (IntKind.wrap .i64 (x6 - n1) * x7) + IntKind.wrap .i64 (IntKind.wrap .i64 (n2 - n4) * x8))))), (D.val (vI (1000 : Int)))] [(D.val (vI n6))]) ∧
 (((((Go.Value.slice (Option.some (Go.Addr.mk 1003 0 Option.none)) 1 1) = (Go.Value.slice (Option.some (Go.Addr.mk 1003 0 Option.none)) 1 1)) ∧
 ((Option.some (AObj.cells [(vI (IntKind.wrap .i64 (n5 + n6)))] 3 false 1)) = (Option.some (AObj.cells [(vI (IntKind.wrap .i64 (n5 + n6)))] 3 false 1)))) ∧
 (((vI (IntKind.wrap .i64 (n5 + n6))) = (vI (IntKind.wrap .i64 (n5 + n6)))) ∧
 ((∃ n7 : Int,
 ((At (l5) (0 + Int.toNat x4 * 1) 1 [(vI n7)]) ∧
 ((vI n7) = (vI n5)))) ∧
 ((bcase (decide (0 ≤ x4))
 (bcase (decide (x4 < (↑n0 : Int)))
 ((Go.Value.pointer (Option.some (Go.Addr.mk 1000 (0 + Int.toNat x4 * 1) Option.none))) = (Go.Value.pointer (Option.some (Go.Addr.mk 1000 (0 + Int.toNat x4 * 1) Option.none))))
 False)
 False) ∧
 (((vI x4) = (vI x4)) ∧
 (((Go.Value.slice (Option.some (Go.Addr.mk 1000 0 Option.none)) (n0) (n0)) = (Go.Value.slice (Option.some (Go.Addr.mk 1000 0 Option.none)) (n0) (n0))) ∧
 (((Go.Value.slice (Option.some (Go.Addr.mk 1002 0 Option.none)) (n3) (n3)) = (Go.Value.slice (Option.some (Go.Addr.mk 1002 0 Option.none)) (n3) (n3))) ∧
 True))))))) ∧
 (bcase (decide (n3 < n3 + 1))
 (bcase (decide ((2 * (n3 + 1) + 768) * 8 ≤ 281474976710656))
 (bcase (decide (n3 + 1 ≤ 1099511627776))
 (bcase (decide (0 + n3 * 1 ≤ List.length l9))
 (bcase (decide (0 + n3 * 1 = List.length l9))
 ((((vI (IntKind.wrap .i64 (n5 + n6))) = (vI (IntKind.wrap .i64 (n5 + n6)))) ∧
 ((∃ n7 : Int,
 ((At (l5) (0 + Int.toNat x4 * 1) 1 [(vI n7)]) ∧
 ((vI n7) = (vI n5)))) ∧
 ((bcase (decide (0 ≤ x4))
 (bcase (decide (x4 < (↑n0 : Int)))
 ((Go.Value.pointer (Option.some (Go.Addr.mk 1000 (0 + Int.toNat x4 * 1) Option.none))) = (Go.Value.pointer (Option.some (Go.Addr.mk 1000 (0 + Int.toNat x4 * 1) Option.none))))
 False)
 False) ∧
 (((vI x4) = (vI x4)) ∧
 (((Go.Value.slice (Option.some (Go.Addr.mk 1000 0 Option.none)) (n0) (n0)) = (Go.Value.slice (Option.some (Go.Addr.mk 1000 0 Option.none)) (n0) (n0))) ∧
 True))))) ∧
 (True ∧
 (B [(Prod.mk 0 (Go.Value.slice (Option.some (Go.Addr.mk 1000 0 Option.none)) (n0) (n0))), (Prod.mk 2 (vI x1)), (Prod.mk 4 (Go.Value.pointer (Option.some (Go.Addr.mk 1001 0 Option.none)))), (Prod.mk 7 (vI x2)), (Prod.mk 8 (Go.Value.slice (Option.some (Go.Addr.mk 1002 0 Option.none)) (n3 + 1) (n3 + 1))), (Prod.mk 9 (vI (IntKind.wrap .i64 (x4 + 1))))] [(Prod.mk 1000 (AObj.sym (l5) true 1)), (Prod.mk 1001 (AObj.cells [(vI x6), (vI x7), (vI x8)] 101 false 1)), (Prod.mk 1002 (AObj.sym ((List.take (n3 * 1) (List.drop 0 l9)) ++ [(vI (IntKind.wrap .i64 (n5 + n6)))]) true 1))])))
 False)
 False)
 False)
 False)
 False)))))))
 False)
 False))))))
 False)
 False)))
 False)
 False)
 (bcase (decide (x4 < IntKind.wrap .i64 ((↑n0 : Int) - 1)))
 (bcase (decide (0 ≤ IntKind.wrap .i64 (x4 + 1)))
 (bcase (decide (IntKind.wrap .i64 (x4 + 1) < (↑n0 : Int)))
 (∃ n2 : Int,
 ((At (l5) (0 + Int.toNat (IntKind.wrap .i64 (x4 + 1)) * 1) 1 [(vI n2)]) ∧
 (bcase (decide (0 ≤ x4))
 (bcase (decide (x4 < (↑n0 : Int)))
 (∃ n4 : Int,
 ((At (l5) (0 + Int.toNat x4 * 1) 1 [(vI n4)]) ∧
 ((((vI (IntKind.wrap .i64 (IntKind.wrap .i64 (IntKind.wrap .i64 (x6 - n1) * x7) + IntKind.wrap .i64 (IntKind.wrap .i64 (n2 - n4) * x8)))) = (vI (IntKind.wrap .i64 (IntKind.wrap .i64 (IntKind.wrap .i64 (x6 - n1) * x7) + IntKind.wrap .i64 (IntKind.wrap .i64 (n2 - n4) * x8))))) ∧
 (((vI (IntKind.wrap .i64 (IntKind.wrap .i64 (n2 - n4) * x8))) = (vI (IntKind.wrap .i64 (IntKind.wrap .i64 (n2 - n4) * x8)))) ∧
 (((vI x8) = (vI x8)) ∧
 (((Go.Value.pointer (Option.some (Go.Addr.mk 1001 2 Option.none))) = (Go.Value.pointer (Option.some (Go.Addr.mk 1001 2 Option.none)))) ∧
 (((vI (IntKind.wrap .i64 (n2 - n4))) = (vI (IntKind.wrap .i64 (n2 - n4)))) ∧
 ((∃ n5 : Int,
 ((At (l5) (0 + Int.toNat x4 * 1) 1 [(vI n5)]) ∧
 ((vI n5) = (vI n4)))) ∧
 ((bcase (decide (0 ≤ x4))
 (bcase (decide (x4 < (↑n0 : Int)))
 ((Go.Value.pointer (Option.some (Go.Addr.mk 1000 (0 + Int.toNat x4 * 1) Option.none))) = (Go.Value.pointer (Option.some (Go.Addr.mk 1000 (0 + Int.toNat x4 * 1) Option.none))))
 False)
 False) ∧
 (((vI x4) = (vI x4)) ∧
 (((Go.Value.slice (Option.some (Go.Addr.mk 1000 0 Option.none)) (n0) (n0)) = (Go.Value.slice (Option.some (Go.Addr.mk 1000 0 Option.none)) (n0) (n0))) ∧
 ((∃ n5 : Int,
 ((At (l5) (0 + Int.toNat (IntKind.wrap .i64 (x4 + 1)) * 1) 1 [(vI n5)]) ∧
 ((vI n5) = (vI n2)))) ∧
 ((bcase (decide (0 ≤ IntKind.wrap .i64 (x4 + 1)))
 (bcase (decide (IntKind.wrap .i64 (x4 + 1) < (↑n0 : Int)))
 ((Go.Value.pointer (Option.some (Go.Addr.mk 1000 (0 + Int.toNat (IntKind.wrap .i64 (x4 + 1)) * 1) Option.none))) = (Go.Value.pointer (Option.some (Go.Addr.mk 1000 (0 + Int.toNat (IntKind.wrap .i64 (x4 + 1)) * 1) Option.none))))
 False)
 False) ∧
 (((vI (IntKind.wrap .i64 (x4 + 1))) = (vI (IntKind.wrap .i64 (x4 + 1)))) ∧
 (((vI x4) = (vI x4)) ∧
 (((Go.Value.slice (Option.some (Go.Addr.mk 1000 0 Option.none)) (n0) (n0)) = (Go.Value.slice (Option.some (Go.Addr.mk 1000 0 Option.none)) (n0) (n0))) ∧
 (((vI (IntKind.wrap .i64 (IntKind.wrap .i64 (x6 - n1) * x7))) = (vI (IntKind.wrap .i64 (IntKind.wrap .i64 (x6 - n1) * x7)))) ∧
 True))))))))))))))) ∧
 (True ∧
 (bcase (decide (0 ≤ x4))
 (bcase (decide (x4 < (↑n0 : Int)))
 (∃ n5 : Int,
 ((At (l5) (0 + Int.toNat x4 * 1) 1 [(vI n5)]) ∧
 ((((vI (IntKind.wrap .i64 (IntKind.wrap .i64 (IntKind.wrap .i64 (x6 - n1) * x7) + IntKind.wrap .i64 (IntKind.wrap .i64 (n2 - n4) * x8)))) = (vI (IntKind.wrap .i64 (IntKind.wrap .i64 (IntKind.wrap .i64 (x6 - n1) * x7) + IntKind.wrap .i64 (IntKind.wrap .i64 (n2 - n4) * x8))))) ∧
 ((∃ n6 : Int,
 ((At (l5) (0 + Int.toNat x4 * 1) 1 [(vI n6)]) ∧
 ((vI n6) = (vI n5)))) ∧
 ((bcase (decide (0 ≤ x4))
 (bcase (decide (x4 < (↑n0 : Int)))
 ((Go.Value.pointer (Option.some (Go.Addr.mk 1000 (0 + Int.toNat x4 * 1) Option.none))) = (Go.Value.pointer (Option.some (Go.Addr.mk 1000 (0 + Int.toNat x4 * 1) Option.none))))
 False)
 False) ∧
 (((vI x4) = (vI x4)) ∧
 (((Go.Value.slice (Option.some (Go.Addr.mk 1000 0 Option.none)) (n0) (n0)) = (Go.Value.slice (Option.some (Go.Addr.mk 1000 0 Option.none)) (n0) (n0))) ∧
 (((Go.Value.slice (Option.some (Go.Addr.mk 1002 0 Option.none)) (n3) (n3)) = (Go.Value.slice (Option.some (Go.Addr.mk 1002 0 Option.none)) (n3) (n3))) ∧
 True)))))) ∧
 (∃ n6 : Int,
 ((Says C 109 [(D.val (vI (IntKind.wrap .i64 (IntKind.wrap .i64 (IntKind.wrap .i64 (x6 - n1) * x7) + IntKind.wrap .i64 (IntKind.wrap .i64 (n2 - n4) * x8))))), (D.val (vI (1000 : Int)))] [(D.val (vI n6))]) ∧
 (((((Go.Value.slice (Option.some (Go.Addr.mk 1003 0 Option.none)) 1 1) = (Go.Value.slice (Option.some (Go.Addr.mk 1003 0 Option.none)) 1 1)) ∧
 ((Option.some (AObj.cells [(vI (IntKind.wrap .i64 (n5 + n6)))] 3 false 1)) = (Option.some (AObj.cells [(vI (IntKind.wrap .i64 (n5 + n6)))] 3 false 1)))) ∧
 (((vI (IntKind.wrap .i64 (n5 + n6))) = (vI (IntKind.wrap .i64 (n5 + n6)))) ∧
 ((∃ n7 : Int,
 ((At (l5) (0 + Int.toNat x4 * 1) 1 [(vI n7)]) ∧
 ((vI n7) = (vI n5)))) ∧
 ((bcase (decide (0 ≤ x4))
 (bcase (decide (x4 < (↑n0 : Int)))
 ((Go.Value.pointer (Option.some (Go.Addr.mk 1000 (0 + Int.toNat x4 * 1) Option.none))) = (Go.Value.pointer (Option.some (Go.Addr.mk 1000 (0 + Int.toNat x4 * 1) Option.none))))
 False)
 False) ∧
 (((vI x4) = (vI x4)) ∧
 (((Go.Value.slice (Option.some (Go.Addr.mk 1000 0 Option.none)) (n0) (n0)) = (Go.Value.slice (Option.some (Go.Addr.mk 1000 0 Option.none)) (n0) (n0))) ∧
 (((Go.Value.slice (Option.some (Go.Addr.mk 1002 0 Option.none)) (n3) (n3)) = (Go.Value.slice (Option.some (Go.Addr.mk 1002 0 Option.none)) (n3) (n3))) ∧
 True))))))) ∧
 (bcase (decide (n3 < n3 + 1))
 (bcase (decide ((2 * (n3 + 1) + 768) * 8 ≤ 281474976710656))
 (bcase (decide (n3 + 1 ≤ 1099511627776))
 (bcase (decide (0 + n3 * 1 ≤ List.length l9))
 (bcase (decide (0 + n3 * 1 = List.length l9))
 ((((vI (IntKind.wrap .i64 (n5 + n6))) = (vI (IntKind.wrap .i64 (n5 + n6)))) ∧
 ((∃ n7 : Int,
 ((At (l5) (0 + Int.toNat x4 * 1) 1 [(vI n7)]) ∧
 ((vI n7) = (vI n5)))) ∧
 ((bcase (decide (0 ≤ x4))
 (bcase (decide (x4 < (↑n0 : Int)))
 ((Go.Value.pointer (Option.some (Go.Addr.mk 1000 (0 + Int.toNat x4 * 1) Option.none))) = (Go.Value.pointer (Option.some (Go.Addr.mk 1000 (0 + Int.toNat x4 * 1) Option.none))))
 False)
 False) ∧
 (((vI x4) = (vI x4)) ∧
 (((Go.Value.slice (Option.some (Go.Addr.mk 1000 0 Option.none)) (n0) (n0)) = (Go.Value.slice (Option.some (Go.Addr.mk 1000 0 Option.none)) (n0) (n0))) ∧
 True))))) ∧
 (True ∧
 (B [(Prod.mk 0 (Go.Value.slice (Option.some (Go.Addr.mk 1000 0 Option.none)) (n0) (n0))), (Prod.mk 2 (vI x1)), (Prod.mk 4 (Go.Value.pointer (Option.some (Go.Addr.mk 1001 0 Option.none)))), (Prod.mk 7 (vI x2)), (Prod.mk 8 (Go.Value.slice (Option.some (Go.Addr.mk 1002 0 Option.none)) (n3 + 1) (n3 + 1))), (Prod.mk 9 (vI (IntKind.wrap .i64 (x4 + 1))))] [(Prod.mk 1000 (AObj.sym (l5) true 1)), (Prod.mk 1001 (AObj.cells [(vI x6), (vI x7), (vI x8)] 101 false 1)), (Prod.mk 1002 (AObj.sym ((List.take (n3 * 1) (List.drop 0 l9)) ++ [(vI (IntKind.wrap .i64 (n5 + n6)))]) true 1))])))
 False)
 False)
 False)
 False)
 False)))))))
 False)
 False)))))
 False)
 False)))
 False)
 False)
 (bcase (decide (0 ≤ x4))
 (bcase (decide (x4 < (↑n0 : Int)))
 (∃ n2 : Int,
 ((At (l5) (0 + Int.toNat x4 * 1) 1 [(vI n2)]) ∧
 ((((vI (IntKind.wrap .i64 (IntKind.wrap .i64 (x6 - n1) * x7))) = (vI (IntKind.wrap .i64 (IntKind.wrap .i64 (x6 - n1) * x7)))) ∧
 ((∃ n4 : Int,
 ((At (l5) (0 + Int.toNat x4 * 1) 1 [(vI n4)]) ∧
 ((vI n4) = (vI n2)))) ∧
 ((bcase (decide (0 ≤ x4))
 (bcase (decide (x4 < (↑n0 : Int)))
 ((Go.Value.pointer (Option.some (Go.Addr.mk 1000 (0 + Int.toNat x4 * 1) Option.none))) = (Go.Value.pointer (Option.some (Go.Addr.mk 1000 (0 + Int.toNat x4 * 1) Option.none))))
 False)
 False) ∧
 (((vI x4) = (vI x4)) ∧
 (((Go.Value.slice (Option.some (Go.Addr.mk 1000 0 Option.none)) (n0) (n0)) = (Go.Value.slice (Option.some (Go.Addr.mk 1000 0 Option.none)) (n0) (n0))) ∧
 (((Go.Value.slice (Option.some (Go.Addr.mk 1002 0 Option.none)) (n3) (n3)) = (Go.Value.slice (Option.some (Go.Addr.mk 1002 0 Option.none)) (n3) (n3))) ∧
 True)))))) ∧
 (∃ n4 : Int,
 ((Says C 109 [(D.val (vI (IntKind.wrap .i64 (IntKind.wrap .i64 (x6 - n1) * x7)))), (D.val (vI (1000 : Int)))] [(D.val (vI n4))]) ∧
 (((((Go.Value.slice (Option.some (Go.Addr.mk 1003 0 Option.none)) 1 1) = (Go.Value.slice (Option.some (Go.Addr.mk 1003 0 Option.none)) 1 1)) ∧
 ((Option.some (AObj.cells [(vI (IntKind.wrap .i64 (n2 + n4)))] 3 false 1)) = (Option.some (AObj.cells [(vI (IntKind.wrap .i64 (n2 + n4)))] 3 false 1)))) ∧
 (((vI (IntKind.wrap .i64 (n2 + n4))) = (vI (IntKind.wrap .i64 (n2 + n4)))) ∧
 ((∃ n5 : Int,
 ((At (l5) (0 + Int.toNat x4 * 1) 1 [(vI n5)]) ∧
 ((vI n5) = (vI n2)))) ∧
 ((bcase (decide (0 ≤ x4))
 (bcase (decide (x4 < (↑n0 : Int)))
 ((Go.Value.pointer (Option.some (Go.Addr.mk 1000 (0 + Int.toNat x4 * 1) Option.none))) = (Go.Value.pointer (Option.some (Go.Addr.mk 1000 (0 + Int.toNat x4 * 1) Option.none))))
 False)
 False) ∧
 (((vI x4) = (vI x4)) ∧
 (((Go.Value.slice (Option.some (Go.Addr.mk 1000 0 Option.none)) (n0) (n0)) = (Go.Value.slice (Option.some (Go.Addr.mk 1000 0 Option.none)) (n0) (n0))) ∧
 (((Go.Value.slice (Option.some (Go.Addr.mk 1002 0 Option.none)) (n3) (n3)) = (Go.Value.slice (Option.some (Go.Addr.mk 1002 0 Option.none)) (n3) (n3))) ∧
 True))))))) ∧
 (bcase (decide (n3 < n3 + 1))
 (bcase (decide ((2 * (n3 + 1) + 768) * 8 ≤ 281474976710656))
 (bcase (decide (n3 + 1 ≤ 1099511627776))
 (bcase (decide (0 + n3 * 1 ≤ List.length l9))
 (bcase (decide (0 + n3 * 1 = List.length l9))
 ((((vI (IntKind.wrap .i64 (n2 + n4))) = (vI (IntKind.wrap .i64 (n2 + n4)))) ∧
 ((∃ n5 : Int,
 ((At (l5) (0 + Int.toNat x4 * 1) 1 [(vI n5)]) ∧
 ((vI n5) = (vI n2)))) ∧
 ((bcase (decide (0 ≤ x4))
 (bcase (decide (x4 < (↑n0 : Int)))
 ((Go.Value.pointer (Option.some (Go.Addr.mk 1000 (0 + Int.toNat x4 * 1) Option.none))) = (Go.Value.pointer (Option.some (Go.Addr.mk 1000 (0 + Int.toNat x4 * 1) Option.none))))
 False)
 False) ∧
 (((vI x4) = (vI x4)) ∧
 (((Go.Value.slice (Option.some (Go.Addr.mk 1000 0 Option.none)) (n0) (n0)) = (Go.Value.slice (Option.some (Go.Addr.mk 1000 0 Option.none)) (n0) (n0))) ∧
 True))))) ∧
 (True ∧
 (B [(Prod.mk 0 (Go.Value.slice (Option.some (Go.Addr.mk 1000 0 Option.none)) (n0) (n0))), (Prod.mk 2 (vI x1)), (Prod.mk 4 (Go.Value.pointer (Option.some (Go.Addr.mk 1001 0 Option.none)))), (Prod.mk 7 (vI x2)), (Prod.mk 8 (Go.Value.slice (Option.some (Go.Addr.mk 1002 0 Option.none)) (n3 + 1) (n3 + 1))), (Prod.mk 9 (vI (IntKind.wrap .i64 (x4 + 1))))] [(Prod.mk 1000 (AObj.sym (l5) true 1)), (Prod.mk 1001 (AObj.cells [(vI x6), (vI x7), (vI x8)] 101 false 1)), (Prod.mk 1002 (AObj.sym ((List.take (n3 * 1) (List.drop 0 l9)) ++ [(vI (IntKind.wrap .i64 (n2 + n4)))]) true 1))])))
 False)
 False)
 False)
 False)
 False)))))))
 False)
 False)))))))
 False)
 False)
 (X 2 [(Prod.mk 2 (vI x1)), (Prod.mk 4 (Go.Value.pointer (Option.some (Go.Addr.mk 1000 0 Option.none)))), (Prod.mk 7 (vI x2)), (Prod.mk 8 (Go.Value.slice (Option.some (Go.Addr.mk 1001 0 Option.none)) (n3) (n3)))] [(Prod.mk 1000 (AObj.cells [(vI x6), (vI x7), (vI x8)] 101 false 1)), (Prod.mk 1001 (AObj.sym (l9) true 1))])) := by kernel_rfl
end Go.Proofs.G5f

/- The evaluator with a table: calls whose outcome on some data is known are not entered. -/
namespace Go.Abs
open Go.RowKit
variable {P : Program} {ρ : Ren} {w0 : Start} {w : World} {H : Heap}

/-! ### Data of values, computed -/
def readCO (H : Heap) : List Value → Option (List D)
  | [] => some []
  | v :: r =>
    match v with
    | .slice none 0 0 => (readCO H r).map (.nil :: ·)
    | .slice (some ⟨i, o, none⟩) len _ =>
      match H.get i with
      | some (.sym cs _ es) => if o + len * es ≤ cs.length then (readCO H r).map (.sl len es ((cs.drop o).take (len * es)) :: ·) else none
      | some (.cells cs _ _ es) => if o + len * es ≤ cs.length then (if ((cs.drop o).take (len * es)).all cellP then (readCO H r).map (.sl len es ((cs.drop o).take (len * es)) :: ·) else none) else none
      | _ => none
    | v => if plain 8 v then (readCO H r).map (.val v :: ·) else none
def readVO (H : Heap) : List Value → Option (List D)
  | [] => some []
  | .agg cs :: r => (readCO H cs.toList).bind fun ds => (readVO H r).map (.agg ds :: ·)
  | v :: r => (readCO H [v]).bind fun ds => (readVO H r).map (ds ++ ·)
theorem readCO_ok : ∀ {l : List Value} {ds : List D}, readCO H l = some ds → ∀ k : List D → Prop, k ds → readCells H l k
  | [], ds, h, k, hk => by
    simp only [readCO, Option.some.injEq] at h; subst h; exact hk
  | v :: r, ds, h, k, hk => by
    unfold readCO at h
    unfold readCells
    split at h
    · obtain ⟨x, hx, rfl⟩ := Option.map_eq_some_iff.1 h
      exact readCO_ok hx _ hk
    · simp only
      split at h
      · rename_i hg
        simp only [hg]
        split at h
        · rename_i hle
          obtain ⟨x, hx, rfl⟩ := Option.map_eq_some_iff.1 h
          exact bcase_intro (fun _ => readCO_ok hx _ hk) (fun hf => absurd hle (of_decide_eq_false hf))
        · cases h
      · rename_i hg
        simp only [hg]
        split at h
        · rename_i hle
          split at h
          · rename_i hall
            obtain ⟨x, hx, rfl⟩ := Option.map_eq_some_iff.1 h
            exact bcase_intro (fun _ => bcase_intro (fun _ => readCO_ok hx _ hk) (fun hf => by rw [hall] at hf; cases hf)) (fun hf => absurd hle (of_decide_eq_false hf))
          · cases h
        · cases h
      · cases h
    · rename_i h1 h2
      split
      · exact absurd rfl h1
      · exact absurd rfl (h2 _ _ _ _)
      · split at h
        · rename_i hp
          obtain ⟨x, hx, rfl⟩ := Option.map_eq_some_iff.1 h
          rw [if_pos hp]
          exact readCO_ok hx _ hk
        · cases h
theorem readVO_ok : ∀ {l : List Value} {ds : List D}, readVO H l = some ds → ∀ k : List D → Prop, k ds → readVals H l k
  | [], ds, h, k, hk => by
    simp only [readVO, Option.some.injEq] at h; subst h; exact hk
  | v :: r, ds, h, k, hk => by
    unfold readVO at h
    unfold readVals
    split at h
    · rename_i e; cases e
    · rename_i e; cases e
      obtain ⟨x, hx, h⟩ := Option.bind_eq_some_iff.1 h
      obtain ⟨y, hy, rfl⟩ := Option.map_eq_some_iff.1 h
      exact readCO_ok hx _ (readVO_ok hy _ hk)
    · rename_i h1 e; cases e
      obtain ⟨x, hx, h⟩ := Option.bind_eq_some_iff.1 h
      obtain ⟨y, hy, rfl⟩ := Option.map_eq_some_iff.1 h
      split
      · rename_i e; cases e
      · rename_i e; cases e; exact absurd rfl (h1 _)
      · rename_i e; cases e
        exact readCO_ok hx _ (readVO_ok hy _ hk)

/-! ### Data laid, computed -/
def layCO : List D → Heap → Option (List Value × Heap)
  | [], H => some ([], H)
  | .nil :: r, H => (layCO r H).map fun x => (.slice none 0 0 :: x.1, x.2)
  | .sl n es cs :: r, H => (layCO r (H.new (.sym cs true es))).map fun x => (.slice (some ⟨H.next, 0, none⟩) n n :: x.1, x.2)
  | .val v :: r, H => match v with
    | .agg _ => none
    | v => (layCO r H).map fun x => (v :: x.1, x.2)
  | .agg _ :: _, _ => none
def layVO : List D → Heap → Option (List Value × Heap)
  | [], H => some ([], H)
  | .agg ds :: r, H => (layCO ds H).bind fun x => (layVO r x.2).map fun y => (.agg x.1.toArray :: y.1, y.2)
  | d :: r, H => (layCO [d] H).bind fun x => match x.1 with
    | [v] => (layVO r x.2).map fun y => (v :: y.1, y.2)
    | _ => none
theorem layCO_ok : ∀ {ds : List D} {H : Heap} {x : List Value × Heap}, layCO ds H = some x → ∀ k : List Value → Heap → Prop, k x.1 x.2 → layC ds H k
  | [], H, x, h, k, hk => by
    simp only [layCO, Option.some.injEq] at h; subst h; exact hk
  | .nil :: r, H, x, h, k, hk => by
    obtain ⟨y, hy, rfl⟩ := Option.map_eq_some_iff.1 h
    exact layCO_ok hy _ hk
  | .sl n es cs :: r, H, x, h, k, hk => by
    obtain ⟨y, hy, rfl⟩ := Option.map_eq_some_iff.1 h
    exact layCO_ok hy _ hk
  | .val v :: r, H, x, h, k, hk => by
    unfold layCO at h
    unfold layC
    split at h
    · cases h
    · rename_i hv
      split
      · exact absurd rfl (hv _)
      · obtain ⟨y, hy, rfl⟩ := Option.map_eq_some_iff.1 h
        exact layCO_ok hy _ hk
  | .agg _ :: _, H, x, h, k, hk => by cases h
theorem layVO_ok : ∀ {ds : List D} {H : Heap} {x : List Value × Heap}, layVO ds H = some x → ∀ k : List Value → Heap → Prop, k x.1 x.2 → layV ds H k
  | [], H, x, h, k, hk => by
    simp only [layVO, Option.some.injEq] at h; subst h; exact hk
  | d :: r, H, x, h, k, hk => by
    unfold layVO at h
    unfold layV
    split at h
    · rename_i e; cases e
    · rename_i e; cases e
      obtain ⟨y, hy, h⟩ := Option.bind_eq_some_iff.1 h
      obtain ⟨z, hz, rfl⟩ := Option.map_eq_some_iff.1 h
      exact layCO_ok hy _ (layVO_ok hz _ hk)
    · rename_i h1 e; cases e
      obtain ⟨y, hy, h⟩ := Option.bind_eq_some_iff.1 h
      split at h
      · rename_i he
        obtain ⟨z, hz, rfl⟩ := Option.map_eq_some_iff.1 h
        split
        · rename_i e; cases e
        · rename_i e; cases e; exact absurd rfl (h1 _)
        · rename_i e; cases e
          refine layCO_ok hy _ ?_
          simp only [he]
          exact layVO_ok hz _ hk
      · cases h

/-! ### Data given, computed -/
def giveCO (H : Heap) : List Nat → List Value → Option (List Nat × List D)
  | used, [] => some (used, [])
  | used, v :: r =>
    match v with
    | .slice none 0 0 => (giveCO H used r).map fun x => (x.1, .nil :: x.2)
    | .slice (some ⟨i, 0, none⟩) len cap =>
      if gbase ≤ i ∧ used.contains i = false then
        match H.get i with
        | some (.sym cs true es) => if len = cap ∧ cs.length = len * es then (giveCO H (i :: used) r).map fun x => (x.1, .sl len es cs :: x.2) else none
        | some (.cells cs _ _ es) => if len = cap ∧ cs.length = len * es then (if cs.all cellP then (giveCO H (i :: used) r).map fun x => (x.1, .sl len es cs :: x.2) else none) else none
        | _ => none
      else none
    | v => if plain 8 v then (giveCO H used r).map fun x => (x.1, .val v :: x.2) else none
def giveVO (H : Heap) : List Nat → List Value → Option (List D)
  | _, [] => some []
  | used, .agg cs :: r => (giveCO H used cs.toList).bind fun x => (giveVO H x.1 r).map (.agg x.2 :: ·)
  | used, v :: r => (giveCO H used [v]).bind fun x => (giveVO H x.1 r).map (x.2 ++ ·)
def giveO (v : Value) (H : Heap) : Option (List D) :=
  match v with
  | .tuple vs => if vs.size = 1 then none else giveVO H [] vs.toList
  | v => giveVO H [] [v]
theorem giveCO_ok : ∀ {l : List Value} {used : List Nat} {x : List Nat × List D}, giveCO H used l = some x → ∀ k : List Nat → List D → Prop, k x.1 x.2 → giveCells H used l k
  | [], used, x, h, k, hk => by
    simp only [giveCO, Option.some.injEq] at h; subst h; exact hk
  | v :: r, used, x, h, k, hk => by
    unfold giveCO at h
    unfold giveCells
    split at h
    · obtain ⟨y, hy, rfl⟩ := Option.map_eq_some_iff.1 h
      exact giveCO_ok hy _ hk
    · simp only
      split at h
      · rename_i hc
        rw [if_pos hc]
        split at h
        · rename_i hg
          simp only [hg]
          split at h
          · rename_i hl
            obtain ⟨y, hy, rfl⟩ := Option.map_eq_some_iff.1 h
            exact ⟨hl, giveCO_ok hy _ hk⟩
          · cases h
        · rename_i hg
          simp only [hg]
          split at h
          · rename_i hl
            split at h
            · rename_i hall
              obtain ⟨y, hy, rfl⟩ := Option.map_eq_some_iff.1 h
              exact ⟨hl, bcase_intro (fun _ => giveCO_ok hy _ hk) (fun hf => by rw [hall] at hf; cases hf)⟩
            · cases h
          · cases h
        · cases h
      · cases h
    · rename_i h1 h2
      split
      · exact absurd rfl h1
      · exact absurd rfl (h2 _ _ _)
      · split at h
        · rename_i hp
          obtain ⟨y, hy, rfl⟩ := Option.map_eq_some_iff.1 h
          rw [if_pos hp]
          exact giveCO_ok hy _ hk
        · cases h
theorem giveVO_ok : ∀ {l : List Value} {used : List Nat} {ds : List D}, giveVO H used l = some ds → ∀ k : List D → Prop, k ds → giveVals H used l k
  | [], used, ds, h, k, hk => by
    simp only [giveVO, Option.some.injEq] at h; subst h; exact hk
  | v :: r, used, ds, h, k, hk => by
    unfold giveVO at h
    unfold giveVals
    split at h
    · rename_i e; cases e
    · rename_i e; cases e
      obtain ⟨x, hx, h⟩ := Option.bind_eq_some_iff.1 h
      obtain ⟨y, hy, rfl⟩ := Option.map_eq_some_iff.1 h
      exact giveCO_ok hx _ (giveVO_ok hy _ hk)
    · rename_i h1 e; cases e
      obtain ⟨x, hx, h⟩ := Option.bind_eq_some_iff.1 h
      obtain ⟨y, hy, rfl⟩ := Option.map_eq_some_iff.1 h
      split
      · rename_i e; cases e
      · rename_i e; cases e; exact absurd rfl (h1 _)
      · rename_i e; cases e
        exact giveCO_ok hx _ (giveVO_ok hy _ hk)
theorem giveO_ok {v : Value} {ds : List D} (h : giveO v H = some ds) : dataK (· = ds) v H := by
  unfold giveO at h
  unfold dataK
  split at h
  · split at h
    · cases h
    · rename_i hs
      simp only [if_neg hs]
      exact giveVO_ok h _ rfl
  · rename_i hn
    split
    · exact absurd rfl (hn _)
    · exact giveVO_ok h _ rfl

/-! ### Data compared -/
def cEq : Value → Value → Bool
  | .int j a, .int k b => j == k && a == b
  | .bool a, .bool b => a == b
  | .string a, .string b => a.data.toList == b.data.toList
  | _, _ => false
def csEq : List Value → List Value → Bool
  | [], [] => true
  | a :: xs, b :: bs => cEq a b && csEq xs bs
  | _, _ => false
def d1Eq : D → D → Bool
  | .nil, .nil => true
  | .val a, .val b => cEq a b
  | .sl n es cs, .sl m fs bs => n == m && es == fs && csEq cs bs
  | _, _ => false
def d2Eq : List D → List D → Bool
  | [], [] => true
  | a :: xs, b :: bs => d1Eq a b && d2Eq xs bs
  | _, _ => false
def dEq : D → D → Bool
  | .agg a, .agg b => d2Eq a b
  | a, b => d1Eq a b
def dsEq : List D → List D → Bool
  | [], [] => true
  | a :: xs, b :: bs => dEq a b && dsEq xs bs
  | _, _ => false
theorem cEq_ok : ∀ {a b : Value}, cEq a b = true → a = b := by
  intro a b h
  unfold cEq at h
  split at h
  · simp only [Bool.and_eq_true, beq_iff_eq] at h; rw [h.1, h.2]
  · rw [eq_of_beq h]
  · rename_i x y
    have e := eq_of_beq h
    obtain ⟨x⟩ := x
    obtain ⟨y⟩ := y
    have : x = y := Array.ext' e
    rw [this]
  · cases h
theorem csEq_ok : ∀ {a b : List Value}, csEq a b = true → a = b
  | [], [], _ => rfl
  | a :: xs, b :: bs, h => by
    simp only [csEq, Bool.and_eq_true] at h
    rw [cEq_ok h.1, csEq_ok h.2]
  | [], _ :: _, h => by cases h
  | _ :: _, [], h => by cases h
theorem d1Eq_ok {a b : D} (h : d1Eq a b = true) : a = b := by
  unfold d1Eq at h
  split at h
  · rfl
  · rw [cEq_ok h]
  · simp only [Bool.and_eq_true, beq_iff_eq] at h
    rw [h.1.1, h.1.2, csEq_ok h.2]
  · cases h
theorem d2Eq_ok : ∀ {a b : List D}, d2Eq a b = true → a = b
  | [], [], _ => rfl
  | a :: xs, b :: bs, h => by
    simp only [d2Eq, Bool.and_eq_true] at h
    rw [d1Eq_ok h.1, d2Eq_ok h.2]
  | [], _ :: _, h => by cases h
  | _ :: _, [], h => by cases h
theorem dEq_ok {a b : D} (h : dEq a b = true) : a = b := by
  unfold dEq at h
  split at h
  · rw [d2Eq_ok h]
  · exact d1Eq_ok h
theorem dsEq_ok : ∀ {a b : List D}, dsEq a b = true → a = b
  | [], [], _ => rfl
  | a :: xs, b :: bs, h => by
    simp only [dsEq, Bool.and_eq_true] at h
    rw [dEq_ok h.1, dsEq_ok h.2]
  | [], _ :: _, h => by cases h
  | _ :: _, [], h => by cases h

/-! ### The evaluator with a table -/
abbrev Tab := FuncId → Option (List D → Option (List D))
def tabCall (t : List D → Option (List D)) (args : Array Value) (H : Heap) : Option (Value × Heap) :=
  (readVO H args.toList).bind fun ds => (t ds).bind fun rs => (layVO rs H).map fun x => (tupleOf x.1, x.2)
def evalT (P : Program) (tab : Tab) : Nat → Self
  | 0 => ⟨fun _ _ _ => none, fun _ _ _ _ => none⟩
  | n + 1 => ⟨fun f args H => match tab f with | none => callBody P (evalT P tab n) f args H | some t => tabCall t args H, fun round c A H => codeA P (evalT P tab n) round c A H⟩
def TabOK (P : Program) (tab : Tab) : Prop := ∀ f t, tab f = some t → ∀ ds rs, t ds = some rs → Con P f ds rs
theorem tabCall_sound {f : FuncId} {t : List D → Option (List D)} (ht : ∀ ds rs, t ds = some rs → Con P f ds rs) {args : Array Value} {v : Value} {H' : Heap} (h : tabCall t args H = some (v, H')) : CallH P f args H (fun u K => u = v ∧ K = H') := by
  obtain ⟨ds, h1, h⟩ := Option.bind_eq_some_iff.1 h
  obtain ⟨rs, h2, h⟩ := Option.bind_eq_some_iff.1 h
  obtain ⟨x, h3, h⟩ := Option.map_eq_some_iff.1 h
  simp only [Prod.mk.injEq] at h
  obtain ⟨rfl, rfl⟩ := h
  refine wpFix_call (C := fun g ds rs => g = f ∧ t ds = some rs ∨ Con P g ds rs) (fun g ds rs hc => ?_) (fix := t) ?_
  · rcases hc with ⟨rfl, hm⟩ | hc
    · exact ht _ _ hm
    · exact hc
  · unfold wpFix
    refine readVO_ok h1 _ ?_
    simp only [h2]
    exact ⟨⟨.inl ⟨rfl, h2⟩⟩, layVO_ok h3 _ ⟨rfl, rfl⟩⟩
theorem evalT_sound {tab : Tab} (htab : TabOK P tab) (hmix : P.follows .mixedOrders = true) : ∀ n, SelfS P w0 (evalT P tab n)
  | 0 => ⟨fun n _ _ h => by simp [evalT] at h, fun n _ _ _ h => by simp [evalT] at h, fun n _ _ _ h => by simp [evalT] at h⟩
  | k + 1 => ⟨fun {ρ H w f args args' v H'} n g ha h => by
      simp only [evalT] at h
      split at h
      · exact callBody_sound (evalT_sound htab hmix k) g n ha h
      · rename_i t ht
        refine (tabCall_sound (htab f t ht) h w0 ρ w args' n g ha).mono ?_
        rintro e w' ⟨u, K, ρ', v', ⟨rfl, rfl⟩, h1, h2, h3, h4⟩
        exact ⟨ρ', v', h1, h2, h3, h4⟩, fun n g rr ra h => codeA_sound (evalT_sound htab hmix k) hmix n _ g rr ra h,
      fun n g rr ra h => loopIn_once (loop_body (evalT_sound htab hmix k) n _ (fun g rr ra h => codeA_sound (evalT_sound htab hmix k) hmix n _ g rr ra h) g rr ra h)⟩
/-- A call of known data is run. -/
def runOK (P : Program) (tab : Tab) (n : Nat) (f : FuncId) (ds rs : List D) (caps : Nat → Nat) : Bool :=
  match (evalT P tab n).call f (layVals caps 500 ds).1.toArray (heapOf (layVals caps 500 ds).2) with
  | some (v, H) => (match giveO v H with | some rs' => dsEq rs' rs | none => false)
  | none => false
theorem con_run {tab : Tab} (htab : TabOK P tab) (hmix : P.follows .mixedOrders = true) {n : Nat} {f : FuncId} {ds rs : List D} (hcount : countV ds ≤ 400) (h : ∀ caps, runOK P tab n f ds rs caps = true) : Con P f ds rs := by
  intro w args hr
  obtain ⟨caps, ρ, hst, g, ha⟩ := lay_gam hr hcount
  have h := h caps
  unfold runOK at h
  split at h
  · rename_i v H hc
    split at h
    · rename_i rs' hg
      have e := dsEq_ok h
      subst e
      refine callsIn_wide.1 (((evalT_sound htab hmix n).call 0 g (by simpa using ha) hc).mono ?_)
      rintro e w' ⟨ρ', v', rfl, hv, g', ext'⟩
      obtain ⟨vs, ds', u, rfl, h1, rfl⟩ := dataK_out g' hv (giveO_ok hg)
      exact ⟨⟨vs, u, rfl, h1⟩, g'.below.below hst⟩
    · cases h
  · cases h
end Go.Abs

/- Numbers: greatest divisors, quotients rounded down, fractions in lowest terms. -/
namespace Go.Abs
theorem natAbs_tmod (a b : Int) : (a.tmod b).natAbs = a.natAbs % b.natAbs := Int.natAbs_tmod a b
/-- one step of the division of both -/
theorem gcd_step (a b : Int) : (Int.gcd b (a.tmod b) : Int) = Int.gcd a b := by
  have : Int.gcd b (a.tmod b) = Int.gcd a b := by
    show Nat.gcd b.natAbs (a.tmod b).natAbs = Nat.gcd a.natAbs b.natAbs
    rw [natAbs_tmod, Nat.gcd_comm b.natAbs, ← Nat.gcd_rec, Nat.gcd_comm]
  rw [this]
theorem gcd_step_lt {a b : Int} (h : b ≠ 0) : (a.tmod b).natAbs < b.natAbs := by
  rw [natAbs_tmod]; exact Nat.mod_lt _ (by omega)
theorem gcd_end (a : Int) : (Int.gcd a 0 : Int) = if a < 0 then -a else a := by
  have : Int.gcd a 0 = a.natAbs := Nat.gcd_zero_right _
  rw [this]; split <;> omega
theorem gcd_pos {a b : Int} (h : a ≠ 0 ∨ b ≠ 0) : 0 < (Int.gcd a b : Int) := by
  have : Int.gcd a b ≠ 0 := fun e => by
    have := Int.gcd_eq_zero_iff.1 e
    omega
  omega
/-- rounded down, as it is written -/
theorem floor_eq {n b : Int} (hb : 0 < b) : (if n.tmod b < 0 then n.tdiv b - 1 else n.tdiv b) = n / b := by
  rw [Int.tdiv_eq_ediv, Int.tmod_eq_emod]
  have h0 := Int.emod_nonneg n (show b ≠ 0 by omega)
  have h1 := Int.emod_lt_of_pos n hb
  have hs : b.sign = 1 := Int.sign_eq_one_of_pos hb
  have hn : (b.natAbs : Int) = b := by omega
  split
  · rename_i h
    rw [if_neg (by omega)]; omega
  · rename_i h
    have hne : n % b ≠ 0 := fun e => h (.inr (Int.dvd_of_emod_eq_zero e))
    rw [if_pos (by omega), hs]; omega
end Go.Abs

/- Fractions in lowest terms: their parts, and how they compare. -/
namespace Go.Abs
/-- a fraction in lowest terms -/
def low (n d : Int) : Int × Int := if d < 0 then ((0 - n).tdiv (Int.gcd n d), (0 - d).tdiv (Int.gcd n d)) else (n.tdiv (Int.gcd n d), d.tdiv (Int.gcd n d))
theorem tdiv_small {n g : Int} (hn : -4611686018427387904 ≤ n ∧ n ≤ 4611686018427387904) (_ : 0 < g) : -4611686018427387904 ≤ n.tdiv g ∧ n.tdiv g ≤ 4611686018427387904 := by
  have h := Int.natAbs_tdiv_le_natAbs n g
  omega
theorem tdiv_neg' (n g : Int) : n.tdiv (0 - g) = (0 - n).tdiv g := by
  rw [show (0 : Int) - g = -g by omega, show (0 : Int) - n = -n by omega, Int.tdiv_neg, Int.neg_tdiv]
end Go.Abs
