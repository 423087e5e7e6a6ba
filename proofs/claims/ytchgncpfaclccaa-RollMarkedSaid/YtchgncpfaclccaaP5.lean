/- Texts of the proof, put together: GrRT, AbsTab, AbsNum, AbsLow, GrYR0, AbsGood, GrYK0, GrYR1, GrYR2, GrYR3, GrYR4, GrRT3, GrYR5. -/
import Derived.Test.YtchgncpfaclccaaP4
import Derived.Test.YtchgncpfaclccaaP3
import Derived.Test.YtchgncpfaclccaaProg
import Derived.Lib.LaidTab
import Derived.Lib.ItoaNum
import Derived.Test.YtchgncpfaclccaaRows
import Derived.Handed
import Derived.JoinedCond
/- What is left to show of each function, written out; the kernel reckons it. -/
namespace Go.Proofs.G5r
open Go Go.Abs Go.Proofs
set_option maxRecDepth 100000
set_option linter.unusedVariables false
abbrev vI (n : Int) : Value := .int .i64 n
abbrev Ct := FuncId → List D → List D → Prop
abbrev Bx := Slots → Blocks → Prop
abbrev Xx := Nat → Slots → Blocks → Prop
abbrev Ex := Exit → Slots → Blocks → Prop
abbrev Kh := FuncId → List Value → Blocks → Slots → Blocks → Prop
abbrev hE (C : Ct) : Handler := handlerX Try.prog (fun _ => none) 12 6
def preM (C : Ct) : FuncId → Option Handler := fun g => if g == 65 then some (freshNH Try.prog g 1) else if g == 9 then some (fixH C copySla) else if g == 19 then some (fixH C copyNum) else if [7, 61, 62, 8, 63, 36, 67, 10, 11, 64, 12, 20, 13, 68, 39, 15, 14, 17, 24, 25, 40, 16, 84].contains g then some (saidH Try.prog C) else none
abbrev hM (C : Ct) : Handler := handlerX Try.prog (preM C) 12 6
def gWi (C : Ct) (L : AtLoop) (x0 : Int) (x1 : Int) (x2 : Int) (k : List D → Prop) : Prop := wpFn Try.prog (hE C) L 0 24 #[.int .i64 x0, .int .i64 x1, .int .i64 x2] (heapOf []) (dataK k)
theorem gWi_text (C : Ct) (L : AtLoop) (x0 : Int) (x1 : Int) (x2 : Int) (k : List D → Prop) : gWi C L x0 x1 x2 k =
 (bcase (decide (x1 ≤ x0))
 (bcase (decide (x0 ≤ x2))
 (k [(D.val (Value.bool true))])
 (k [(D.val (Value.bool false))]))
 (k [(D.val (Value.bool false))])) := by kernel_rfl
def gMd (C : Ct) (L : AtLoop) (x0 : Int) (x1 : Int) (k : List D → Prop) : Prop := wpFn Try.prog (hE C) L 0 25 #[.int .i64 x0, .int .i64 x1] (heapOf []) (dataK k)
theorem gMd_text (C : Ct) (L : AtLoop) (x0 : Int) (x1 : Int) (k : List D → Prop) : gMd C L x0 x1 k =
 (bcase (x1 != 0)
 (bcase (decide (Int.tmod x0 x1 < 0))
 (k [(D.val (vI (IntKind.wrap .i64 (Int.tmod x0 x1 + x1))))])
 (k [(D.val (vI (Int.tmod x0 x1)))]))
 False) := by kernel_rfl
def gSz (C : Ct) (L : AtLoop) (x0 : Int) (k : List D → Prop) : Prop := wpFn Try.prog (hE C) L 0 40 #[.int .i64 x0] (heapOf []) (dataK k)
theorem gSz_text (C : Ct) (L : AtLoop) (x0 : Int) (k : List D → Prop) : gSz C L x0 k =
 (k [(D.val (vI (if IntKind.wrap .i64 (0 - x0) > x0 then IntKind.wrap .i64 (0 - x0) else x0)))]) := by kernel_rfl
def gIn (C : Ct) (L : AtLoop) (n0 : Nat) (c0 : Nat) (l0 : List Value) (n1 : Nat) (c1 : Nat) (l1 : List Value) (k : List D → Prop) : Prop := wpFn Try.prog (hE C) L 0 16 #[.slice (some ⟨500, 0, none⟩) n0 c0, .slice (some ⟨501, 0, none⟩) n1 c1] (heapOf [(500, .sym l0 false 1), (501, .sym l1 false 1)]) (dataK k)
theorem gIn_text (C : Ct) (L : AtLoop) (n0 : Nat) (c0 : Nat) (l0 : List Go.Value) (n1 : Nat) (c1 : Nat) (l1 : List Go.Value) (k : List D → Prop) : gIn C L n0 c0 l0 n1 c1 l1 k =
 (bcase ((↑n0 : Int) != (↑n1 : Int))
 (k [(D.val (Value.bool false))])
 (L 0 [(Prod.mk 0 (Sl 500 (n0) (c0))), (Prod.mk 1 (Sl 501 (n1) (c1))), (Prod.mk 5 (vI 0))] [(Prod.mk 500 (AObj.sym (l0) false 1)), (Prod.mk 501 (AObj.sym (l1) false 1))])) := by kernel_rfl
abbrev zIn1 (n0 : Nat) (c1 : Nat) (n2 : Nat) (c3 : Nat) (x4 : Int) (l5 : List Value) (l6 : List Value) : Slots × Blocks := ([(0, (Value.slice (some ⟨500, 0, none⟩) n0 c1)), (1, (Value.slice (some ⟨501, 0, none⟩) n2 c3)), (5, (Value.int .i64 x4))], [(500, (AObj.sym l5 false 1)), (501, (AObj.sym l6 false 1))])
def rIn1 (C : Ct) (L : AtLoop) (n0 : Nat) (c1 : Nat) (n2 : Nat) (c3 : Nat) (x4 : Int) (l5 : List Value) (l6 : List Value) (B : Bx) (X : Xx) (k : List D → Prop) : Prop := wpRound Try.prog (hE C) L 16 0 [(0, (Value.slice (some ⟨500, 0, none⟩) n0 c1)), (1, (Value.slice (some ⟨501, 0, none⟩) n2 c3)), (5, (Value.int .i64 x4))] [(500, (AObj.sym l5 false 1)), (501, (AObj.sym l6 false 1))] B X (dataK k)
theorem rIn1_text (C : Ct) (L : AtLoop) (n0 : Nat) (c1 : Nat) (n2 : Nat) (c3 : Nat) (x4 : Int) (l5 : List Go.Value) (l6 : List Go.Value) (B : Bx) (X : Xx) (k : List D → Prop) : rIn1 C L n0 c1 n2 c3 x4 l5 l6 B X k =
 (bcase (decide (x4 < (↑n0 : Int)))
 (bcase (decide (0 ≤ x4))
 (bcase (decide (x4 < (↑n0 : Int)))
 (∃ n1 : Int,
 ((At (l5) (0 + Int.toNat x4 * 1) 1 [(vI n1)]) ∧
 (bcase (decide (0 ≤ x4))
 (bcase (decide (x4 < (↑n2 : Int)))
 (∃ n3 : Int,
 ((At (l6) (0 + Int.toNat x4 * 1) 1 [(vI n3)]) ∧
 (bcase (n1 != n3)
 (((bcase (n1 != n3)
 Qb
 Qft) ∧
 ((∃ n4 : Int,
 ((At (l6) (0 + Int.toNat x4 * 1) 1 [(vI n4)]) ∧
 ((vI n4) = (vI n3)))) ∧
 ((bcase (decide (0 ≤ x4))
 (bcase (decide (x4 < (↑n2 : Int)))
 (Qv (Pt 501 (0 + Int.toNat x4 * 1)))
 False)
 False) ∧
 ((Qv (vI x4)) ∧
 ((Qv (Sl 501 (n2) (c3))) ∧
 ((∃ n4 : Int,
 ((At (l5) (0 + Int.toNat x4 * 1) 1 [(vI n4)]) ∧
 ((vI n4) = (vI n1)))) ∧
 ((bcase (decide (0 ≤ x4))
 (bcase (decide (x4 < (↑n0 : Int)))
 (Qv (Pt 500 (0 + Int.toNat x4 * 1)))
 False)
 False) ∧
 ((Qv (vI x4)) ∧
 ((Qv (Sl 500 (n0) (c1))) ∧
 True))))))))) ∧
 (k [(D.val (Value.bool false))]))
 (((bcase (n1 != n3)
 Qtf
 Qf) ∧
 ((∃ n4 : Int,
 ((At (l6) (0 + Int.toNat x4 * 1) 1 [(vI n4)]) ∧
 ((vI n4) = (vI n3)))) ∧
 ((bcase (decide (0 ≤ x4))
 (bcase (decide (x4 < (↑n2 : Int)))
 (Qv (Pt 501 (0 + Int.toNat x4 * 1)))
 False)
 False) ∧
 ((Qv (vI x4)) ∧
 ((Qv (Sl 501 (n2) (c3))) ∧
 ((∃ n4 : Int,
 ((At (l5) (0 + Int.toNat x4 * 1) 1 [(vI n4)]) ∧
 ((vI n4) = (vI n1)))) ∧
 ((bcase (decide (0 ≤ x4))
 (bcase (decide (x4 < (↑n0 : Int)))
 (Qv (Pt 500 (0 + Int.toNat x4 * 1)))
 False)
 False) ∧
 ((Qv (vI x4)) ∧
 ((Qv (Sl 500 (n0) (c1))) ∧
 True))))))))) ∧
 (B [(Prod.mk 0 (Sl 500 (n0) (c1))), (Prod.mk 1 (Sl 501 (n2) (c3))), (Prod.mk 5 (vI (IntKind.wrap .i64 (x4 + 1))))] [(Prod.mk 500 (AObj.sym (l5) false 1)), (Prod.mk 501 (AObj.sym (l6) false 1))])))))
 False)
 False)))
 False)
 False)
 (X 0 [] [])) := by kernel_rfl
def nIn2 (C : Ct) (L : AtLoop) (k : List D → Prop) : Prop := wpNext Try.prog (hE C) L 16 0 .normal [] [] (dataK k)
theorem nIn2_text (C : Ct) (L : AtLoop) (k : List D → Prop) : nIn2 C L k =
 (k [(D.val (Value.bool true))]) := by kernel_rfl
def gInn (C : Ct) (L : AtLoop) (k : List D → Prop) : Prop := wpFn Try.prog (hE C) L 0 16 #[.slice none 0 0, .slice none 0 0] (heapOf []) (dataK k)
theorem gInn_text (C : Ct) (L : AtLoop) (k : List D → Prop) : gInn C L k =
 (L 0 [(Prod.mk 0 (Value.slice none 0 0)), (Prod.mk 1 (Value.slice none 0 0)), (Prod.mk 5 (vI 0))] []) := by kernel_rfl
abbrev zInn1 (x0 : Int) : Slots × Blocks := ([(0, (Value.slice none 0 0)), (1, (Value.slice none 0 0)), (5, (Value.int .i64 x0))], [])
def rInn1 (C : Ct) (L : AtLoop) (x0 : Int) (B : Bx) (X : Xx) (k : List D → Prop) : Prop := wpRound Try.prog (hE C) L 16 0 [(0, (Value.slice none 0 0)), (1, (Value.slice none 0 0)), (5, (Value.int .i64 x0))] [] B X (dataK k)
theorem rInn1_text (C : Ct) (L : AtLoop) (x0 : Int) (B : Bx) (X : Xx) (k : List D → Prop) : rInn1 C L x0 B X k =
 (bcase (decide (x0 < (↑0 : Int)))
 False
 (X 0 [] [])) := by kernel_rfl
def nInn2 (C : Ct) (L : AtLoop) (k : List D → Prop) : Prop := wpNext Try.prog (hE C) L 16 0 .normal [] [] (dataK k)
theorem nInn2_text (C : Ct) (L : AtLoop) (k : List D → Prop) : nInn2 C L k =
 (k [(D.val (Value.bool true))]) := by kernel_rfl
def gmo (C : Ct) (L : AtLoop) (x0 : Int) (x1 : Int) (k : List D → Prop) : Prop := wpFn Try.prog (hE C) L 0 64 #[.int .i64 x0, .int .i64 x1] (heapOf []) (dataK k)
theorem gmo_text (C : Ct) (L : AtLoop) (x0 : Int) (x1 : Int) (k : List D → Prop) : gmo C L x0 x1 k =
 (bcase (x1 != 0)
 (bcase (x1 != 0)
 (k [(D.val (vI (Int.tmod (IntKind.wrap .i64 (Int.tmod x0 x1 + x1)) x1)))])
 False)
 False) := by kernel_rfl
def gcr (C : Ct) (L : AtLoop) (n0 : Nat) (c0 : Nat) (l0 : List Value) (x1 : Int) (x2 : Int) (k : List D → Prop) : Prop := wpFn Try.prog (hE C) L 0 62 #[.agg #[.slice (some ⟨500, 0, none⟩) n0 c0, .int .i64 x1], .int .i64 x2] (heapOf [(500, .sym l0 false 1)]) (dataK k)
theorem gcr_text (C : Ct) (L : AtLoop) (n0 : Nat) (c0 : Nat) (l0 : List Go.Value) (x1 : Int) (x2 : Int) (k : List D → Prop) : gcr C L n0 c0 l0 x1 x2 k =
 (bcase (decide (x2 < 1))
 (k [(D.val (vI 2))])
 (bcase (decide (x2 > 10000))
 (k [(D.val (vI 2))])
 (bcase (decide (x2 ≤ IntKind.wrap .i64 (4 * x1)))
 (k [(D.val (vI 22))])
 (k [(D.val (vI 0))])))) := by kernel_rfl
def gbe (C : Ct) (L : AtLoop) (n0 : Nat) (c0 : Nat) (l0 : List Value) (x1 : Int) (x2 : Int) (x3 : Int) (x4 : Int) (k : List D → Prop) : Prop := wpFn Try.prog (hM C) L 0 63 #[.agg #[.slice (some ⟨500, 0, none⟩) n0 c0, .int .i64 x1, .int .i64 x2], .int .i64 x3, .int .i64 x4] (heapOf [(500, .sym l0 false 1)]) (dataK k)
theorem gbe_text (C : Ct) (L : AtLoop) (n0 : Nat) (c0 : Nat) (l0 : List Go.Value) (x1 : Int) (x2 : Int) (x3 : Int) (x4 : Int) (k : List D → Prop) : gbe C L n0 c0 l0 x1 x2 x3 x4 k =
 (∃ n1 : Int,
 ((Says C 64 [(D.val (vI (IntKind.wrap .i64 (x4 - x3)))), (D.val (vI x2))] [(D.val (vI n1))]) ∧
 (bcase (decide (IntKind.wrap .i64 (2 * n1) > x2))
 (k [(D.val (vI (IntKind.wrap .i64 (n1 - x2))))])
 (k [(D.val (vI n1))])))) := by kernel_rfl
def gCM (C : Ct) (L : AtLoop) (n0 : Nat) (c0 : Nat) (l0 : List Value) (x1 : Int) (k : List D → Prop) : Prop := wpFn Try.prog (hE C) L 0 8 #[.agg #[.slice (some ⟨500, 0, none⟩) n0 c0, .int .i64 x1]] (heapOf [(500, .sym l0 false 1)]) (dataK k)
theorem gCM_text (C : Ct) (L : AtLoop) (n0 : Nat) (c0 : Nat) (l0 : List Go.Value) (x1 : Int) (k : List D → Prop) : gCM C L n0 c0 l0 x1 k =
 (bcase (decide ((↑n0 : Int) < 2))
 (k [(D.val (vI 0)), (D.val (vI 10))])
 (bcase (decide ((↑n0 : Int) > 30))
 (k [(D.val (vI 0)), (D.val (vI 8))])
 ((((Qv (Sl 1001 1 1)) ∧
 (Qv (some (AObj.cells [(vI x1)] 3 false 1)))) ∧
 ((Qv (vI x1)) ∧
 ((Qv (Pt 1000 1)) ∧
 True))) ∧
 ((((Qv (Sl 1001 1 1)) ∧
 (Qv (some (AObj.cells [(vI x1)] 3 false 1)))) ∧
 ((Qv (vI x1)) ∧
 ((Qv (Pt 1000 1)) ∧
 True))) ∧
 (bcase (decide (x1 < 0))
 (((Qv (vI x1)) ∧
 ((Qv (Pt 1000 1)) ∧
 True)) ∧
 (True ∧
 (k [(D.val (vI 0)), (D.val (vI 2))])))
 (bcase (decide (x1 > 10000))
 (((Qv (vI x1)) ∧
 ((Qv (Pt 1000 1)) ∧
 True)) ∧
 (True ∧
 (k [(D.val (vI 0)), (D.val (vI 2))])))
 (((Qv (vI x1)) ∧
 ((Qv (Pt 1000 1)) ∧
 True)) ∧
 (True ∧
 (L 1 [(Prod.mk 1 (Pt 1000 0)), (Prod.mk 27 (Sl 500 (n0) (c0))), (Prod.mk 28 (vI ((↑n0 : Int)))), (Prod.mk 29 (vI 0))] [(Prod.mk 1000 (AObj.cells [(Sl 500 (n0) (c0)), (vI x1)] 24 false 1)), (Prod.mk 500 (AObj.sym (l0) false 1))]))))))))) := by kernel_rfl
abbrev zCM1 (n0 : Nat) (c1 : Nat) (x2 : Int) (x3 : Int) (n4 : Nat) (c5 : Nat) (x6 : Int) (l7 : List Value) : Slots × Blocks := ([(1, (Value.pointer (some ⟨1000, 0, none⟩))), (27, (Value.slice (some ⟨500, 0, none⟩) n0 c1)), (28, (Value.int .i64 x2)), (29, (Value.int .i64 x3))], [(1000, (AObj.cells [(Value.slice (some ⟨500, 0, none⟩) n4 c5), (Value.int .i64 x6)] 24 false 1)), (500, (AObj.sym l7 false 1))])
def rCM1 (C : Ct) (L : AtLoop) (n0 : Nat) (c1 : Nat) (x2 : Int) (x3 : Int) (n4 : Nat) (c5 : Nat) (x6 : Int) (l7 : List Value) (B : Bx) (X : Xx) (k : List D → Prop) : Prop := wpRound Try.prog (hE C) L 8 1 [(1, (Value.pointer (some ⟨1000, 0, none⟩))), (27, (Value.slice (some ⟨500, 0, none⟩) n0 c1)), (28, (Value.int .i64 x2)), (29, (Value.int .i64 x3))] [(1000, (AObj.cells [(Value.slice (some ⟨500, 0, none⟩) n4 c5), (Value.int .i64 x6)] 24 false 1)), (500, (AObj.sym l7 false 1))] B X (dataK k)
theorem rCM1_text (C : Ct) (L : AtLoop) (n0 : Nat) (c1 : Nat) (x2 : Int) (x3 : Int) (n4 : Nat) (c5 : Nat) (x6 : Int) (l7 : List Go.Value) (B : Bx) (X : Xx) (k : List D → Prop) : rCM1 C L n0 c1 x2 x3 n4 c5 x6 l7 B X k =
 (bcase (decide (x3 < x2))
 (bcase (decide (0 ≤ x3))
 (bcase (decide (x3 < (↑n0 : Int)))
 (∃ n1 : Int,
 ((At (l7) (0 + Int.toNat x3 * 1) 1 [(vI n1)]) ∧
 (bcase (decide (n1 < 0))
 (k [(D.val (vI x3)), (D.val (vI 2))])
 (bcase (decide (n1 > 1000000))
 (k [(D.val (vI x3)), (D.val (vI 2))])
 (bcase (decide (x3 > 0))
 (bcase (decide (0 ≤ IntKind.wrap .i64 (x3 - 1)))
 (bcase (decide (IntKind.wrap .i64 (x3 - 1) < (↑n4 : Int)))
 (∃ n2 : Int,
 ((At (l7) (0 + Int.toNat (IntKind.wrap .i64 (x3 - 1)) * 1) 1 [(vI n2)]) ∧
 (bcase (decide (n1 ≤ n2))
 (k [(D.val (vI x3)), (D.val (vI 9))])
 (B [(Prod.mk 1 (Pt 1000 0)), (Prod.mk 27 (Sl 500 (n0) (c1))), (Prod.mk 28 (vI x2)), (Prod.mk 29 (vI (IntKind.wrap .i64 (x3 + 1))))] [(Prod.mk 1000 (AObj.cells [(Sl 500 (n4) (c5)), (vI x6)] 24 false 1)), (Prod.mk 500 (AObj.sym (l7) false 1))]))))
 False)
 False)
 (B [(Prod.mk 1 (Pt 1000 0)), (Prod.mk 27 (Sl 500 (n0) (c1))), (Prod.mk 28 (vI x2)), (Prod.mk 29 (vI (IntKind.wrap .i64 (x3 + 1))))] [(Prod.mk 1000 (AObj.cells [(Sl 500 (n4) (c5)), (vI x6)] 24 false 1)), (Prod.mk 500 (AObj.sym (l7) false 1))]))))))
 False)
 False)
 (X 1 [] [])) := by kernel_rfl
def nCM2 (C : Ct) (L : AtLoop) (k : List D → Prop) : Prop := wpNext Try.prog (hE C) L 8 1 .normal [] [] (dataK k)
theorem nCM2_text (C : Ct) (L : AtLoop) (k : List D → Prop) : nCM2 C L k =
 (k [(D.val (vI 0)), (D.val (vI 0))]) := by kernel_rfl
def gBS (C : Ct) (L : AtLoop) (n0 : Nat) (c0 : Nat) (l0 : List Value) (x1 : Int) (k : List D → Prop) : Prop := wpFn Try.prog (hE C) L 0 84 #[.slice (some ⟨500, 0, none⟩) n0 c0, .int .i64 x1] (heapOf [(500, .sym l0 false 1)]) (dataK k)
theorem gBS_text (C : Ct) (L : AtLoop) (n0 : Nat) (c0 : Nat) (l0 : List Go.Value) (x1 : Int) (k : List D → Prop) : gBS C L n0 c0 l0 x1 k =
 (L 0 [(Prod.mk 0 (Sl 500 (n0) (c0))), (Prod.mk 1 (vI x1)), (Prod.mk 6 (vI ((↑n0 : Int)))), (Prod.mk 7 (vI 0)), (Prod.mk 8 (vI ((↑n0 : Int))))] [(Prod.mk 500 (AObj.sym (l0) false 1))]) := by kernel_rfl
abbrev zBS1 (n0 : Nat) (c1 : Nat) (x2 : Int) (x3 : Int) (x4 : Int) (x5 : Int) (l6 : List Value) : Slots × Blocks := ([(0, (Value.slice (some ⟨500, 0, none⟩) n0 c1)), (1, (Value.int .i64 x2)), (6, (Value.int .i64 x3)), (7, (Value.int .i64 x4)), (8, (Value.int .i64 x5))], [(500, (AObj.sym l6 false 1))])
def rBS1 (C : Ct) (L : AtLoop) (n0 : Nat) (c1 : Nat) (x2 : Int) (x3 : Int) (x4 : Int) (x5 : Int) (l6 : List Value) (B : Bx) (X : Xx) (k : List D → Prop) : Prop := wpRound Try.prog (hE C) L 84 0 [(0, (Value.slice (some ⟨500, 0, none⟩) n0 c1)), (1, (Value.int .i64 x2)), (6, (Value.int .i64 x3)), (7, (Value.int .i64 x4)), (8, (Value.int .i64 x5))] [(500, (AObj.sym l6 false 1))] B X (dataK k)
theorem rBS1_text (C : Ct) (L : AtLoop) (n0 : Nat) (c1 : Nat) (x2 : Int) (x3 : Int) (x4 : Int) (x5 : Int) (l6 : List Go.Value) (B : Bx) (X : Xx) (k : List D → Prop) : rBS1 C L n0 c1 x2 x3 x4 x5 l6 B X k =
 (bcase (decide (x4 < x5))
 (bcase (decide (0 ≤ IntKind.wrap .i64 (Int.fdiv (IntKind.wrap IntKind.u64 (IntKind.wrap .i64 (x4 + x5))) (2 ^ 1))))
 (bcase (decide (IntKind.wrap .i64 (Int.fdiv (IntKind.wrap IntKind.u64 (IntKind.wrap .i64 (x4 + x5))) (2 ^ 1)) < (↑n0 : Int)))
 (∃ n1 : Int,
 ((At (l6) (0 + Int.toNat (IntKind.wrap .i64 (Int.fdiv (IntKind.wrap IntKind.u64 (IntKind.wrap .i64 (x4 + x5))) (2 ^ 1))) * 1) 1 [(vI n1)]) ∧
 (bcase (n1 != n1)
 (bcase (x2 != x2)
 (bcase (decide (n1 < x2))
 (B [(Prod.mk 0 (Sl 500 (n0) (c1))), (Prod.mk 1 (vI x2)), (Prod.mk 6 (vI x3)), (Prod.mk 7 (vI (IntKind.wrap .i64 (IntKind.wrap .i64 (Int.fdiv (IntKind.wrap IntKind.u64 (IntKind.wrap .i64 (x4 + x5))) (2 ^ 1)) + 1)))), (Prod.mk 8 (vI x5))] [(Prod.mk 500 (AObj.sym (l6) false 1))])
 (B [(Prod.mk 0 (Sl 500 (n0) (c1))), (Prod.mk 1 (vI x2)), (Prod.mk 6 (vI x3)), (Prod.mk 7 (vI x4)), (Prod.mk 8 (vI (IntKind.wrap .i64 (Int.fdiv (IntKind.wrap IntKind.u64 (IntKind.wrap .i64 (x4 + x5))) (2 ^ 1)))))] [(Prod.mk 500 (AObj.sym (l6) false 1))]))
 (B [(Prod.mk 0 (Sl 500 (n0) (c1))), (Prod.mk 1 (vI x2)), (Prod.mk 6 (vI x3)), (Prod.mk 7 (vI (IntKind.wrap .i64 (IntKind.wrap .i64 (Int.fdiv (IntKind.wrap IntKind.u64 (IntKind.wrap .i64 (x4 + x5))) (2 ^ 1)) + 1)))), (Prod.mk 8 (vI x5))] [(Prod.mk 500 (AObj.sym (l6) false 1))]))
 (bcase (decide (n1 < x2))
 (B [(Prod.mk 0 (Sl 500 (n0) (c1))), (Prod.mk 1 (vI x2)), (Prod.mk 6 (vI x3)), (Prod.mk 7 (vI (IntKind.wrap .i64 (IntKind.wrap .i64 (Int.fdiv (IntKind.wrap IntKind.u64 (IntKind.wrap .i64 (x4 + x5))) (2 ^ 1)) + 1)))), (Prod.mk 8 (vI x5))] [(Prod.mk 500 (AObj.sym (l6) false 1))])
 (B [(Prod.mk 0 (Sl 500 (n0) (c1))), (Prod.mk 1 (vI x2)), (Prod.mk 6 (vI x3)), (Prod.mk 7 (vI x4)), (Prod.mk 8 (vI (IntKind.wrap .i64 (Int.fdiv (IntKind.wrap IntKind.u64 (IntKind.wrap .i64 (x4 + x5))) (2 ^ 1)))))] [(Prod.mk 500 (AObj.sym (l6) false 1))])))))
 False)
 False)
 (X 0 [(Prod.mk 0 (Sl 500 (n0) (c1))), (Prod.mk 1 (vI x2)), (Prod.mk 6 (vI x3)), (Prod.mk 7 (vI x4))] [(Prod.mk 500 (AObj.sym (l6) false 1))])) := by kernel_rfl
def nBS2 (C : Ct) (L : AtLoop) (n0 : Nat) (c1 : Nat) (x2 : Int) (x3 : Int) (x4 : Int) (l5 : List Value) (k : List D → Prop) : Prop := wpNext Try.prog (hE C) L 84 0 .normal [(0, (Value.slice (some ⟨500, 0, none⟩) n0 c1)), (1, (Value.int .i64 x2)), (6, (Value.int .i64 x3)), (7, (Value.int .i64 x4))] [(500, (AObj.sym l5 false 1))] (dataK k)
theorem nBS2_text (C : Ct) (L : AtLoop) (n0 : Nat) (c1 : Nat) (x2 : Int) (x3 : Int) (x4 : Int) (l5 : List Go.Value) (k : List D → Prop) : nBS2 C L n0 c1 x2 x3 x4 l5 k =
 (bcase (decide (x4 < x3))
 (bcase (decide (0 ≤ x4))
 (bcase (decide (x4 < (↑n0 : Int)))
 (∃ n1 : Int,
 ((At (l5) (0 + Int.toNat x4 * 1) 1 [(vI n1)]) ∧
 (bcase (n1 == x2)
 (k [(D.val (vI x4)), (D.val (Value.bool true))])
 (bcase (decide (0 ≤ x4))
 (bcase (decide (x4 < (↑n0 : Int)))
 (∃ n2 : Int,
 ((At (l5) (0 + Int.toNat x4 * 1) 1 [(vI n2)]) ∧
 (bcase (n2 != n2)
 (bcase (x2 != x2)
 (k [(D.val (vI x4)), (D.val (Value.bool true))])
 (k [(D.val (vI x4)), (D.val (Value.bool false))]))
 (k [(D.val (vI x4)), (D.val (Value.bool false))]))))
 False)
 False))))
 False)
 False)
 (k [(D.val (vI x4)), (D.val (Value.bool false))])) := by kernel_rfl
def ghn (C : Ct) (L : AtLoop) (n0 : Nat) (c0 : Nat) (l0 : List Value) (x1 : Int) (x2 : Int) (x3 : Int) (k : List D → Prop) : Prop := wpFn Try.prog (hM C) L 0 67 #[.agg #[.slice (some ⟨500, 0, none⟩) n0 c0, .int .i64 x1, .int .i64 x2], .int .i64 x3] (heapOf [(500, .sym l0 false 1)]) (dataK k)
theorem ghn_text (C : Ct) (L : AtLoop) (n0 : Nat) (c0 : Nat) (l0 : List Go.Value) (x1 : Int) (x2 : Int) (x3 : Int) (k : List D → Prop) : ghn C L n0 c0 l0 x1 x2 x3 k =
 (bcase (decide (0 + n0 * 1 ≤ List.length l0))
 (∃ n1 : Int,
 (((Says C 84 [(D.sl (n0) 1 (List.take (n0 * 1) (List.drop 0 l0))), (D.val (vI (IntKind.wrap .i64 (x3 - IntKind.wrap .i64 (2 * x1)))))] [(D.val (vI n1)), (D.val (Value.bool true))]) ∧
 (bcase (decide (n1 < (↑n0 : Int)))
 (bcase (decide (0 ≤ n1))
 (bcase (decide (n1 < (↑n0 : Int)))
 (∃ n2 : Int,
 ((At (l0) (0 + Int.toNat n1 * 1) 1 [(vI n2)]) ∧
 (bcase (decide (n2 ≤ IntKind.wrap .i64 (x3 + IntKind.wrap .i64 (2 * x1))))
 (k [(D.val (Value.bool true))])
 (k [(D.val (Value.bool false))]))))
 False)
 False)
 (k [(D.val (Value.bool false))]))) ∨
 ((Says C 84 [(D.sl (n0) 1 (List.take (n0 * 1) (List.drop 0 l0))), (D.val (vI (IntKind.wrap .i64 (x3 - IntKind.wrap .i64 (2 * x1)))))] [(D.val (vI n1)), (D.val (Value.bool false))]) ∧
 (bcase (decide (n1 < (↑n0 : Int)))
 (bcase (decide (0 ≤ n1))
 (bcase (decide (n1 < (↑n0 : Int)))
 (∃ n2 : Int,
 ((At (l0) (0 + Int.toNat n1 * 1) 1 [(vI n2)]) ∧
 (bcase (decide (n2 ≤ IntKind.wrap .i64 (x3 + IntKind.wrap .i64 (2 * x1))))
 (k [(D.val (Value.bool true))])
 (k [(D.val (Value.bool false))]))))
 False)
 False)
 (k [(D.val (Value.bool false))])))))
 False) := by kernel_rfl
def gph (C : Ct) (L : AtLoop) (n0 : Nat) (c0 : Nat) (l0 : List Value) (x1 : Int) (x2 : Int) (n3 : Nat) (c3 : Nat) (l3 : List Value) (k : List D → Prop) : Prop := wpFn Try.prog (hM C) L 0 36 #[.agg #[.slice (some ⟨500, 0, none⟩) n0 c0, .int .i64 x1, .int .i64 x2], .slice (some ⟨501, 0, none⟩) n3 c3] (heapOf [(500, .sym l0 false 1), (501, .sym l3 false 1)]) (dataK k)
theorem gph_text (C : Ct) (L : AtLoop) (n0 : Nat) (c0 : Nat) (l0 : List Go.Value) (x1 : Int) (x2 : Int) (n3 : Nat) (c3 : Nat) (l3 : List Go.Value) (k : List D → Prop) : gph C L n0 c0 l0 x1 x2 n3 c3 l3 k =
 (bcase (decide (0 < (↑n3 : Int)))
 (∃ n1 : Int,
 ((At (l3) 0 1 [(vI n1)]) ∧
 (((Qv (vI (IntKind.wrap .i64 (n1 + x1)))) ∧
 ((Qv (vI x1)) ∧
 ((Qv (Pt 1000 1)) ∧
 ((Qv (Pt 1000 0)) ∧
 ((Qv (vI n1)) ∧
 ((Qv (vI (IntKind.wrap .i64 (n1 - x1)))) ∧
 ((Qv (vI x1)) ∧
 ((Qv (Pt 1000 1)) ∧
 ((Qv (Pt 1000 0)) ∧
 ((Qv (vI n1)) ∧
 True)))))))))) ∧
 (((Qv (vI (IntKind.wrap .i64 (n1 + x1)))) ∧
 ((Qv (vI x1)) ∧
 ((Qv (Pt 1000 1)) ∧
 ((Qv (Pt 1000 0)) ∧
 ((Qv (vI n1)) ∧
 True))))) ∧
 (True ∧
 (L 0 [(Prod.mk 2 (Pt 1000 0)), (Prod.mk 4 (Pt 1001 0)), (Prod.mk 6 (vI n1)), (Prod.mk 7 (vI (IntKind.wrap .i64 (n1 - x1)))), (Prod.mk 8 (vI (IntKind.wrap .i64 (n1 + x1)))), (Prod.mk 26 (Sl 501 (n3) (c3))), (Prod.mk 27 (vI ((↑n3 : Int)))), (Prod.mk 28 (vI 0))] [(Prod.mk 1000 (AObj.cells [(Sl 500 (n0) (c0)), (vI x1), (vI x2)] 78 false 1)), (Prod.mk 1001 (AObj.cells [(vI 0), (vI 0)] 31 false 2)), (Prod.mk 501 (AObj.sym (l3) false 1)), (Prod.mk 500 (AObj.sym (l0) false 1))]))))))
 False) := by kernel_rfl
abbrev zph1 (x0 : Int) (x1 : Int) (x2 : Int) (n3 : Nat) (c4 : Nat) (x5 : Int) (x6 : Int) (n7 : Nat) (c8 : Nat) (x9 : Int) (x10 : Int) (x11 : Int) (x12 : Int) (l13 : List Value) (l14 : List Value) : Slots × Blocks := ([(2, (Value.pointer (some ⟨1000, 0, none⟩))), (4, (Value.pointer (some ⟨1001, 0, none⟩))), (6, (Value.int .i64 x0)), (7, (Value.int .i64 x1)), (8, (Value.int .i64 x2)), (26, (Value.slice (some ⟨501, 0, none⟩) n3 c4)), (27, (Value.int .i64 x5)), (28, (Value.int .i64 x6))], [(1000, (AObj.cells [(Value.slice (some ⟨500, 0, none⟩) n7 c8), (Value.int .i64 x9), (Value.int .i64 x10)] 78 false 1)), (1001, (AObj.cells [(Value.int .i64 x11), (Value.int .i64 x12)] 31 false 2)), (501, (AObj.sym l13 false 1)), (500, (AObj.sym l14 false 1))])
def rph1 (C : Ct) (L : AtLoop) (x0 : Int) (x1 : Int) (x2 : Int) (n3 : Nat) (c4 : Nat) (x5 : Int) (x6 : Int) (n7 : Nat) (c8 : Nat) (x9 : Int) (x10 : Int) (x11 : Int) (x12 : Int) (l13 : List Value) (l14 : List Value) (B : Bx) (X : Xx) (k : List D → Prop) : Prop := wpRound Try.prog (hM C) L 36 0 [(2, (Value.pointer (some ⟨1000, 0, none⟩))), (4, (Value.pointer (some ⟨1001, 0, none⟩))), (6, (Value.int .i64 x0)), (7, (Value.int .i64 x1)), (8, (Value.int .i64 x2)), (26, (Value.slice (some ⟨501, 0, none⟩) n3 c4)), (27, (Value.int .i64 x5)), (28, (Value.int .i64 x6))] [(1000, (AObj.cells [(Value.slice (some ⟨500, 0, none⟩) n7 c8), (Value.int .i64 x9), (Value.int .i64 x10)] 78 false 1)), (1001, (AObj.cells [(Value.int .i64 x11), (Value.int .i64 x12)] 31 false 2)), (501, (AObj.sym l13 false 1)), (500, (AObj.sym l14 false 1))] B X (dataK k)
theorem rph1_text (C : Ct) (L : AtLoop) (x0 : Int) (x1 : Int) (x2 : Int) (n3 : Nat) (c4 : Nat) (x5 : Int) (x6 : Int) (n7 : Nat) (c8 : Nat) (x9 : Int) (x10 : Int) (x11 : Int) (x12 : Int) (l13 : List Go.Value) (l14 : List Go.Value) (B : Bx) (X : Xx) (k : List D → Prop) : rph1 C L x0 x1 x2 n3 c4 x5 x6 n7 c8 x9 x10 x11 x12 l13 l14 B X k =
 (bcase (decide (x6 < x5))
 (bcase (decide (0 ≤ x6))
 (bcase (decide (x6 < (↑n3 : Int)))
 (∃ n1 : Int,
 ((At (l13) (0 + Int.toNat x6 * 1) 1 [(vI n1)]) ∧
 (bcase (decide (0 + n7 * 1 ≤ List.length l14))
 (∃ n2 : Int,
 ((Says C 63 [(D.agg [(D.sl (n7) 1 (List.take (n7 * 1) (List.drop 0 l14))), (D.val (vI x9)), (D.val (vI x10))]), (D.val (vI x0)), (D.val (vI n1))] [(D.val (vI n2))]) ∧
 (((Qv (vI (if IntKind.wrap .i64 (IntKind.wrap .i64 (x0 + n2) + x9) < x2 then IntKind.wrap .i64 (IntKind.wrap .i64 (x0 + n2) + x9) else x2))) ∧
 ((Qv (vI (IntKind.wrap .i64 (IntKind.wrap .i64 (x0 + n2) + x9)))) ∧
 ((Qv (vI x9)) ∧
 ((Qv (Pt 1000 1)) ∧
 ((Qv (Pt 1000 0)) ∧
 ((Qv (vI (IntKind.wrap .i64 (x0 + n2)))) ∧
 ((Qv (vI x2)) ∧
 ((Qv (vI (if IntKind.wrap .i64 (IntKind.wrap .i64 (x0 + n2) - x9) > x1 then IntKind.wrap .i64 (IntKind.wrap .i64 (x0 + n2) - x9) else x1))) ∧
 ((Qv (vI (IntKind.wrap .i64 (IntKind.wrap .i64 (x0 + n2) - x9)))) ∧
 ((Qv (vI x9)) ∧
 ((Qv (Pt 1000 1)) ∧
 ((Qv (Pt 1000 0)) ∧
 ((Qv (vI (IntKind.wrap .i64 (x0 + n2)))) ∧
 ((Qv (vI x1)) ∧
 True)))))))))))))) ∧
 (((Qv (vI (if IntKind.wrap .i64 (IntKind.wrap .i64 (x0 + n2) + x9) < x2 then IntKind.wrap .i64 (IntKind.wrap .i64 (x0 + n2) + x9) else x2))) ∧
 ((Qv (vI (IntKind.wrap .i64 (IntKind.wrap .i64 (x0 + n2) + x9)))) ∧
 ((Qv (vI x9)) ∧
 ((Qv (Pt 1000 1)) ∧
 ((Qv (Pt 1000 0)) ∧
 ((Qv (vI (IntKind.wrap .i64 (x0 + n2)))) ∧
 ((Qv (vI x2)) ∧
 True))))))) ∧
 (True ∧
 (B [(Prod.mk 2 (Pt 1000 0)), (Prod.mk 4 (Pt 1001 0)), (Prod.mk 6 (vI x0)), (Prod.mk 7 (vI (if IntKind.wrap .i64 (IntKind.wrap .i64 (x0 + n2) - x9) > x1 then IntKind.wrap .i64 (IntKind.wrap .i64 (x0 + n2) - x9) else x1))), (Prod.mk 8 (vI (if IntKind.wrap .i64 (IntKind.wrap .i64 (x0 + n2) + x9) < x2 then IntKind.wrap .i64 (IntKind.wrap .i64 (x0 + n2) + x9) else x2))), (Prod.mk 26 (Sl 501 (n3) (c4))), (Prod.mk 27 (vI x5)), (Prod.mk 28 (vI (IntKind.wrap .i64 (x6 + 1))))] [(Prod.mk 1000 (AObj.cells [(Sl 500 (n7) (c8)), (vI x9), (vI x10)] 78 false 1)), (Prod.mk 1001 (AObj.cells [(vI x11), (vI x12)] 31 false 2)), (Prod.mk 501 (AObj.sym (l13) false 1)), (Prod.mk 500 (AObj.sym (l14) false 1))]))))))
 False)))
 False)
 False)
 (X 0 [(Prod.mk 2 (Pt 1000 0)), (Prod.mk 4 (Pt 1001 0)), (Prod.mk 7 (vI x1)), (Prod.mk 8 (vI x2))] [(Prod.mk 1000 (AObj.cells [(Sl 500 (n7) (c8)), (vI x9), (vI x10)] 78 false 1)), (Prod.mk 1001 (AObj.cells [(vI x11), (vI x12)] 31 false 2)), (Prod.mk 500 (AObj.sym (l14) false 1))])) := by kernel_rfl
def nph2 (C : Ct) (L : AtLoop) (x0 : Int) (x1 : Int) (n2 : Nat) (c3 : Nat) (x4 : Int) (x5 : Int) (x6 : Int) (x7 : Int) (l8 : List Value) (k : List D → Prop) : Prop := wpNext Try.prog (hM C) L 36 0 .normal [(2, (Value.pointer (some ⟨1000, 0, none⟩))), (4, (Value.pointer (some ⟨1001, 0, none⟩))), (7, (Value.int .i64 x0)), (8, (Value.int .i64 x1))] [(1000, (AObj.cells [(Value.slice (some ⟨500, 0, none⟩) n2 c3), (Value.int .i64 x4), (Value.int .i64 x5)] 78 false 1)), (1001, (AObj.cells [(Value.int .i64 x6), (Value.int .i64 x7)] 31 false 2)), (500, (AObj.sym l8 false 1))] (dataK k)
theorem nph2_text (C : Ct) (L : AtLoop) (x0 : Int) (x1 : Int) (n2 : Nat) (c3 : Nat) (x4 : Int) (x5 : Int) (x6 : Int) (x7 : Int) (l8 : List Go.Value) (k : List D → Prop) : nph2 C L x0 x1 n2 c3 x4 x5 x6 x7 l8 k =
 (bcase (decide (x0 > x1))
 (k [(D.agg [(D.val (vI 0)), (D.val (vI 0))]), (D.val (vI 12))])
 (∃ n1 : Int,
 ((Says C 64 [(D.val (vI x0)), (D.val (vI x5))] [(D.val (vI n1))]) ∧
 (k [(D.agg [(D.val (vI n1)), (D.val (vI (IntKind.wrap .i64 (IntKind.wrap .i64 (n1 + x1) - x0))))]), (D.val (vI 0))])))) := by kernel_rfl
def gPO (C : Ct) (L : AtLoop) (n0 : Nat) (c0 : Nat) (l0 : List Value) (x1 : Int) (x2 : Int) (k : List D → Prop) : Prop := wpFn Try.prog (hM C) L 0 10 #[.agg #[.slice (some ⟨500, 0, none⟩) n0 c0, .int .i64 x1], .int .i64 x2] (heapOf [(500, .sym l0 false 1)]) (dataK k)
theorem gPO_text (C : Ct) (L : AtLoop) (n0 : Nat) (c0 : Nat) (l0 : List Go.Value) (x1 : Int) (x2 : Int) (k : List D → Prop) : gPO C L n0 c0 l0 x1 x2 k =
 (bcase (decide (0 + n0 * 1 ≤ List.length l0))
 (∃ n1 : Int,
 (∃ n2 : Int,
 ((Says C 8 [(D.agg [(D.sl (n0) 1 (List.take (n0 * 1) (List.drop 0 l0))), (D.val (vI x1))])] [(D.val (vI n1)), (D.val (vI n2))]) ∧
 (bcase (decide (0 + n0 * 1 ≤ List.length l0))
 (∃ n3 : Int,
 ((Says C 62 [(D.agg [(D.sl (n0) 1 (List.take (n0 * 1) (List.drop 0 l0))), (D.val (vI x1))]), (D.val (vI x2))] [(D.val (vI n3))]) ∧
 (∃ n4 : Int,
 ((Says C 61 [(D.sl 2 1 [(vI n2), (vI n3)])] [(D.val (vI n4))]) ∧
 (bcase (n4 != 0)
 (bcase (n4 != 0)
 (k [(D.agg [(D.val (vI 0)), (D.val (vI 0))]), (D.val (vI n4))])
 (∃ n5 : Int,
 (∃ n6 : Int,
 (∃ n7 : Int,
 ((Says C 36 [(D.agg [D.nil, (D.val (vI 0)), (D.val (vI 0))]), D.nil] [(D.agg [(D.val (vI n5)), (D.val (vI n6))]), (D.val (vI n7))]) ∧
 (k [(D.agg [(D.val (vI n5)), (D.val (vI n6))]), (D.val (vI n7))]))))))
 (bcase (decide (0 + n0 * 1 ≤ List.length l0))
 (bcase (decide (0 + n0 * 1 ≤ List.length l0))
 (∃ n5 : Int,
 (∃ n6 : Int,
 (∃ n7 : Int,
 ((Says C 36 [(D.agg [(D.sl (n0) 1 (List.take (n0 * 1) (List.drop 0 l0))), (D.val (vI x1)), (D.val (vI x2))]), (D.sl (n0) 1 (List.take (n0 * 1) (List.drop 0 l0)))] [(D.agg [(D.val (vI n5)), (D.val (vI n6))]), (D.val (vI n7))]) ∧
 (k [(D.agg [(D.val (vI n5)), (D.val (vI n6))]), (D.val (vI n7))])))))
 False)
 False))))))
 False))))
 False) := by kernel_rfl
def grC (C : Ct) (L : AtLoop) (n0 : Nat) (c0 : Nat) (l0 : List Value) (x1 : Int) (k : List D → Prop) : Prop := wpFn Try.prog (hM C) L 0 12 #[.agg #[.slice (some ⟨500, 0, none⟩) n0 c0, .int .i64 x1]] (heapOf [(500, .sym l0 false 1)]) (dataK k)
theorem grC_text (C : Ct) (L : AtLoop) (n0 : Nat) (c0 : Nat) (l0 : List Go.Value) (x1 : Int) (k : List D → Prop) : grC C L n0 c0 l0 x1 k =
 (bcase (decide ((↑n0 : Int) < 2))
 (k [(D.val (vI 0)), (D.val (vI 10))])
 (bcase (decide ((↑n0 : Int) > 30))
 (k [(D.val (vI 0)), (D.val (vI 8))])
 (((Says C 24 [(D.val (vI x1)), (D.val (vI 0)), (D.val (vI 10000))] [(D.val (Value.bool true))]) ∧
 (L 0 [(Prod.mk 1 (Pt 1000 0)), (Prod.mk 4 (vI 0))] [(Prod.mk 1000 (AObj.cells [(Sl 500 (n0) (c0)), (vI x1)] 24 false 1)), (Prod.mk 500 (AObj.sym (l0) false 1))])) ∨
 ((Says C 24 [(D.val (vI x1)), (D.val (vI 0)), (D.val (vI 10000))] [(D.val (Value.bool false))]) ∧
 (k [(D.val (vI 0)), (D.val (vI 2))]))))) := by kernel_rfl
abbrev zrC1 (x0 : Int) (n1 : Nat) (c2 : Nat) (x3 : Int) (l4 : List Value) : Slots × Blocks := ([(1, (Value.pointer (some ⟨1000, 0, none⟩))), (4, (Value.int .i64 x0))], [(1000, (AObj.cells [(Value.slice (some ⟨500, 0, none⟩) n1 c2), (Value.int .i64 x3)] 24 false 1)), (500, (AObj.sym l4 false 1))])
def rrC1 (C : Ct) (L : AtLoop) (x0 : Int) (n1 : Nat) (c2 : Nat) (x3 : Int) (l4 : List Value) (B : Bx) (X : Xx) (k : List D → Prop) : Prop := wpRound Try.prog (hM C) L 12 0 [(1, (Value.pointer (some ⟨1000, 0, none⟩))), (4, (Value.int .i64 x0))] [(1000, (AObj.cells [(Value.slice (some ⟨500, 0, none⟩) n1 c2), (Value.int .i64 x3)] 24 false 1)), (500, (AObj.sym l4 false 1))] B X (dataK k)
theorem rrC1_text (C : Ct) (L : AtLoop) (x0 : Int) (n1 : Nat) (c2 : Nat) (x3 : Int) (l4 : List Go.Value) (B : Bx) (X : Xx) (k : List D → Prop) : rrC1 C L x0 n1 c2 x3 l4 B X k =
 (bcase (decide (x0 < (↑n1 : Int)))
 (bcase (decide (0 ≤ x0))
 (bcase (decide (x0 < (↑n1 : Int)))
 (∃ n2 : Int,
 ((At (l4) (0 + Int.toNat x0 * 1) 1 [(vI n2)]) ∧
 (((Says C 24 [(D.val (vI n2)), (D.val (vI 0)), (D.val (vI 1000000))] [(D.val (Value.bool true))]) ∧
 (bcase (decide (x0 > 0))
 (bcase (decide (0 ≤ x0))
 (bcase (decide (x0 < (↑n1 : Int)))
 (∃ n3 : Int,
 ((At (l4) (0 + Int.toNat x0 * 1) 1 [(vI n3)]) ∧
 (bcase (decide (0 ≤ IntKind.wrap .i64 (x0 - 1)))
 (bcase (decide (IntKind.wrap .i64 (x0 - 1) < (↑n1 : Int)))
 (∃ n4 : Int,
 ((At (l4) (0 + Int.toNat (IntKind.wrap .i64 (x0 - 1)) * 1) 1 [(vI n4)]) ∧
 (bcase (decide (n3 ≤ n4))
 ((Qb ∧
 ((bcase (decide (n3 ≤ n4))
 Qb
 Qft) ∧
 ((∃ n5 : Int,
 ((At (l4) (0 + Int.toNat (IntKind.wrap .i64 (x0 - 1)) * 1) 1 [(vI n5)]) ∧
 ((vI n5) = (vI n4)))) ∧
 ((bcase (decide (0 ≤ IntKind.wrap .i64 (x0 - 1)))
 (bcase (decide (IntKind.wrap .i64 (x0 - 1) < (↑n1 : Int)))
 (Qv (Pt 500 (0 + Int.toNat (IntKind.wrap .i64 (x0 - 1)) * 1)))
 False)
 False) ∧
 ((Qv (vI (IntKind.wrap .i64 (x0 - 1)))) ∧
 ((Qv (vI x0)) ∧
 ((Qv (Sl 500 (n1) (c2))) ∧
 ((Qv (Pt 1000 0)) ∧
 ((∃ n5 : Int,
 ((At (l4) (0 + Int.toNat x0 * 1) 1 [(vI n5)]) ∧
 ((vI n5) = (vI n3)))) ∧
 ((bcase (decide (0 ≤ x0))
 (bcase (decide (x0 < (↑n1 : Int)))
 (Qv (Pt 500 (0 + Int.toNat x0 * 1)))
 False)
 False) ∧
 ((Qv (vI x0)) ∧
 ((Qv (Sl 500 (n1) (c2))) ∧
 ((Qv (Pt 1000 0)) ∧
 (Qb ∧
 ((bcase (decide (x0 > 0))
 Qb
 Qft) ∧
 ((Qv (vI x0)) ∧
 True)))))))))))))))) ∧
 (k [(D.val (vI x0)), (D.val (vI 9))]))
 ((Qf ∧
 ((bcase (decide (n3 ≤ n4))
 Qtf
 Qf) ∧
 ((∃ n5 : Int,
 ((At (l4) (0 + Int.toNat (IntKind.wrap .i64 (x0 - 1)) * 1) 1 [(vI n5)]) ∧
 ((vI n5) = (vI n4)))) ∧
 ((bcase (decide (0 ≤ IntKind.wrap .i64 (x0 - 1)))
 (bcase (decide (IntKind.wrap .i64 (x0 - 1) < (↑n1 : Int)))
 (Qv (Pt 500 (0 + Int.toNat (IntKind.wrap .i64 (x0 - 1)) * 1)))
 False)
 False) ∧
 ((Qv (vI (IntKind.wrap .i64 (x0 - 1)))) ∧
 ((Qv (vI x0)) ∧
 ((Qv (Sl 500 (n1) (c2))) ∧
 ((Qv (Pt 1000 0)) ∧
 ((∃ n5 : Int,
 ((At (l4) (0 + Int.toNat x0 * 1) 1 [(vI n5)]) ∧
 ((vI n5) = (vI n3)))) ∧
 ((bcase (decide (0 ≤ x0))
 (bcase (decide (x0 < (↑n1 : Int)))
 (Qv (Pt 500 (0 + Int.toNat x0 * 1)))
 False)
 False) ∧
 ((Qv (vI x0)) ∧
 ((Qv (Sl 500 (n1) (c2))) ∧
 ((Qv (Pt 1000 0)) ∧
 (Qb ∧
 ((bcase (decide (x0 > 0))
 Qb
 Qft) ∧
 ((Qv (vI x0)) ∧
 True)))))))))))))))) ∧
 (B [(Prod.mk 1 (Pt 1000 0)), (Prod.mk 4 (vI (IntKind.wrap .i64 (x0 + 1))))] [(Prod.mk 1000 (AObj.cells [(Sl 500 (n1) (c2)), (vI x3)] 24 false 1)), (Prod.mk 500 (AObj.sym (l4) false 1))])))))
 False)
 False)))
 False)
 False)
 ((Qf ∧
 (Qu ∧
 (Qu ∧
 (Qu ∧
 (Qu ∧
 (Qu ∧
 (Qu ∧
 (Qu ∧
 (Qu ∧
 (Qu ∧
 (Qu ∧
 (Qu ∧
 (Qu ∧
 (Qf ∧
 ((bcase (decide (x0 > 0))
 Qtf
 Qf) ∧
 ((Qv (vI x0)) ∧
 True)))))))))))))))) ∧
 (B [(Prod.mk 1 (Pt 1000 0)), (Prod.mk 4 (vI (IntKind.wrap .i64 (x0 + 1))))] [(Prod.mk 1000 (AObj.cells [(Sl 500 (n1) (c2)), (vI x3)] 24 false 1)), (Prod.mk 500 (AObj.sym (l4) false 1))])))) ∨
 ((Says C 24 [(D.val (vI n2)), (D.val (vI 0)), (D.val (vI 1000000))] [(D.val (Value.bool false))]) ∧
 (k [(D.val (vI x0)), (D.val (vI 2))])))))
 False)
 False)
 (X 0 [] [])) := by kernel_rfl
def nrC2 (C : Ct) (L : AtLoop) (k : List D → Prop) : Prop := wpNext Try.prog (hM C) L 12 0 .normal [] [] (dataK k)
theorem nrC2_text (C : Ct) (L : AtLoop) (k : List D → Prop) : nrC2 C L k =
 (k [(D.val (vI 0)), (D.val (vI 0))]) := by kernel_rfl
def grCn (C : Ct) (L : AtLoop) (x1 : Int) (k : List D → Prop) : Prop := wpFn Try.prog (hM C) L 0 12 #[.agg #[.slice none 0 0, .int .i64 x1]] (heapOf []) (dataK k)
theorem grCn_text (C : Ct) (L : AtLoop) (x1 : Int) (k : List D → Prop) : grCn C L x1 k =
 (k [(D.val (vI 0)), (D.val (vI 10))]) := by kernel_rfl
def grR (C : Ct) (L : AtLoop) (n0 : Nat) (c0 : Nat) (l0 : List Value) (x1 : Int) (x2 : Int) (k : List D → Prop) : Prop := wpFn Try.prog (hM C) L 0 13 #[.agg #[.slice (some ⟨500, 0, none⟩) n0 c0, .int .i64 x1], .int .i64 x2] (heapOf [(500, .sym l0 false 1)]) (dataK k)
theorem grR_text (C : Ct) (L : AtLoop) (n0 : Nat) (c0 : Nat) (l0 : List Go.Value) (x1 : Int) (x2 : Int) (k : List D → Prop) : grR C L n0 c0 l0 x1 x2 k =
 (((Says C 24 [(D.val (vI x2)), (D.val (vI 1)), (D.val (vI 10000))] [(D.val (Value.bool true))]) ∧
 (bcase (decide (x2 ≤ IntKind.wrap .i64 (4 * x1)))
 (k [(D.val (vI 22))])
 (k [(D.val (vI 0))]))) ∨
 ((Says C 24 [(D.val (vI x2)), (D.val (vI 1)), (D.val (vI 10000))] [(D.val (Value.bool false))]) ∧
 (k [(D.val (vI 2))]))) := by kernel_rfl
def grX (C : Ct) (L : AtLoop) (n0 : Nat) (c0 : Nat) (l0 : List Value) (x1 : Int) (x2 : Int) (x3 : Int) (x4 : Int) (k : List D → Prop) : Prop := wpFn Try.prog (hM C) L 0 68 #[.agg #[.slice (some ⟨500, 0, none⟩) n0 c0, .int .i64 x1], .int .i64 x2, .int .i64 x3, .int .i64 x4] (heapOf [(500, .sym l0 false 1)]) (dataK k)
theorem grX_text (C : Ct) (L : AtLoop) (n0 : Nat) (c0 : Nat) (l0 : List Go.Value) (x1 : Int) (x2 : Int) (x3 : Int) (x4 : Int) (k : List D → Prop) : grX C L n0 c0 l0 x1 x2 x3 x4 k =
 (bcase (decide (0 ≤ x4))
 (bcase (decide (x4 < (↑n0 : Int)))
 (∃ n1 : Int,
 ((At (l0) (0 + Int.toNat x4 * 1) 1 [(vI n1)]) ∧
 (∃ n2 : Int,
 ((Says C 25 [(D.val (vI (IntKind.wrap .i64 (n1 - x3)))), (D.val (vI x2))] [(D.val (vI n2))]) ∧
 (bcase (decide (n2 ≤ x1))
 (k [(D.val (Value.bool true))])
 (bcase (decide (IntKind.wrap .i64 (x2 - n2) ≤ x1))
 (k [(D.val (Value.bool true))])
 (k [(D.val (Value.bool false))])))))))
 False)
 False) := by kernel_rfl
def grA (C : Ct) (L : AtLoop) (n0 : Nat) (c0 : Nat) (l0 : List Value) (x1 : Int) (x2 : Int) (x3 : Int) (n4 : Nat) (c4 : Nat) (l4 : List Value) (k : List D → Prop) : Prop := wpFn Try.prog (hM C) L 0 39 #[.agg #[.slice (some ⟨500, 0, none⟩) n0 c0, .int .i64 x1], .int .i64 x2, .int .i64 x3, .slice (some ⟨501, 0, none⟩) n4 c4] (heapOf [(500, .sym l0 false 1), (501, .sym l4 false 1)]) (dataK k)
theorem grA_text (C : Ct) (L : AtLoop) (n0 : Nat) (c0 : Nat) (l0 : List Go.Value) (x1 : Int) (x2 : Int) (x3 : Int) (n4 : Nat) (c4 : Nat) (l4 : List Go.Value) (k : List D → Prop) : grA C L n0 c0 l0 x1 x2 x3 n4 c4 l4 k =
 (L 0 [(Prod.mk 1 (vI x2)), (Prod.mk 2 (vI x3)), (Prod.mk 3 (Sl 501 (n4) (c4))), (Prod.mk 4 (Pt 1000 0)), (Prod.mk 9 (vI 0))] [(Prod.mk 501 (AObj.sym (l4) false 1)), (Prod.mk 1000 (AObj.cells [(Sl 500 (n0) (c0)), (vI x1)] 24 false 1)), (Prod.mk 500 (AObj.sym (l0) false 1))]) := by kernel_rfl
abbrev zrA1 (x0 : Int) (x1 : Int) (n2 : Nat) (c3 : Nat) (x4 : Int) (l5 : List Value) (n6 : Nat) (c7 : Nat) (x8 : Int) (l9 : List Value) : Slots × Blocks := ([(1, (Value.int .i64 x0)), (2, (Value.int .i64 x1)), (3, (Value.slice (some ⟨501, 0, none⟩) n2 c3)), (4, (Value.pointer (some ⟨1000, 0, none⟩))), (9, (Value.int .i64 x4))], [(501, (AObj.sym l5 false 1)), (1000, (AObj.cells [(Value.slice (some ⟨500, 0, none⟩) n6 c7), (Value.int .i64 x8)] 24 false 1)), (500, (AObj.sym l9 false 1))])
def rrA1 (C : Ct) (L : AtLoop) (x0 : Int) (x1 : Int) (n2 : Nat) (c3 : Nat) (x4 : Int) (l5 : List Value) (n6 : Nat) (c7 : Nat) (x8 : Int) (l9 : List Value) (B : Bx) (X : Xx) (k : List D → Prop) : Prop := wpRound Try.prog (hM C) L 39 0 [(1, (Value.int .i64 x0)), (2, (Value.int .i64 x1)), (3, (Value.slice (some ⟨501, 0, none⟩) n2 c3)), (4, (Value.pointer (some ⟨1000, 0, none⟩))), (9, (Value.int .i64 x4))] [(501, (AObj.sym l5 false 1)), (1000, (AObj.cells [(Value.slice (some ⟨500, 0, none⟩) n6 c7), (Value.int .i64 x8)] 24 false 1)), (500, (AObj.sym l9 false 1))] B X (dataK k)
theorem rrA1_text (C : Ct) (L : AtLoop) (x0 : Int) (x1 : Int) (n2 : Nat) (c3 : Nat) (x4 : Int) (l5 : List Go.Value) (n6 : Nat) (c7 : Nat) (x8 : Int) (l9 : List Go.Value) (B : Bx) (X : Xx) (k : List D → Prop) : rrA1 C L x0 x1 n2 c3 x4 l5 n6 c7 x8 l9 B X k =
 (bcase (decide (x4 < (↑n2 : Int)))
 (bcase (decide (0 ≤ x4))
 (bcase (decide (x4 < (↑n2 : Int)))
 (∃ n1 : Int,
 ((At (l5) (0 + Int.toNat x4 * 1) 1 [(vI n1)]) ∧
 (((∃ n3 : Int,
 ((At (l5) (0 + Int.toNat x4 * 1) 1 [(vI n3)]) ∧
 ((vI n3) = (vI n1)))) ∧
 ((bcase (decide (0 ≤ x4))
 (bcase (decide (x4 < (↑n2 : Int)))
 (Qv (Pt 501 (0 + Int.toNat x4 * 1)))
 False)
 False) ∧
 ((Qv (vI x4)) ∧
 ((Qv (Sl 501 (n2) (c3))) ∧
 ((Qv (vI x1)) ∧
 ((Qv (vI x0)) ∧
 ((Qv (Value.agg [(Sl 500 (n6) (c7)), (vI x8)].toArray)) ∧
 True))))))) ∧
 (bcase (decide (0 + n6 * 1 ≤ List.length l9))
 (((Says C 68 [(D.agg [(D.sl (n6) 1 (List.take (n6 * 1) (List.drop 0 l9))), (D.val (vI x8))]), (D.val (vI x0)), (D.val (vI x1)), (D.val (vI n1))] [(D.val (Value.bool true))]) ∧
 ((Qf ∧
 ((bcase (decide (0 ≤ x4))
 (bcase (decide (x4 < (↑n2 : Int)))
 (Qv (Pt 501 (0 + Int.toNat x4 * 1)))
 False)
 False) ∧
 ((Qv (vI x4)) ∧
 ((Qv (Sl 501 (n2) (c3))) ∧
 True)))) ∧
 (B [(Prod.mk 1 (vI x0)), (Prod.mk 2 (vI x1)), (Prod.mk 3 (Sl 501 (n2) (c3))), (Prod.mk 4 (Pt 1000 0)), (Prod.mk 9 (vI (IntKind.wrap .i64 (x4 + 1))))] [(Prod.mk 501 (AObj.sym (l5) false 1)), (Prod.mk 1000 (AObj.cells [(Sl 500 (n6) (c7)), (vI x8)] 24 false 1)), (Prod.mk 500 (AObj.sym (l9) false 1))]))) ∨
 ((Says C 68 [(D.agg [(D.sl (n6) 1 (List.take (n6 * 1) (List.drop 0 l9))), (D.val (vI x8))]), (D.val (vI x0)), (D.val (vI x1)), (D.val (vI n1))] [(D.val (Value.bool false))]) ∧
 ((Qb ∧
 ((bcase (decide (0 ≤ x4))
 (bcase (decide (x4 < (↑n2 : Int)))
 (Qv (Pt 501 (0 + Int.toNat x4 * 1)))
 False)
 False) ∧
 ((Qv (vI x4)) ∧
 ((Qv (Sl 501 (n2) (c3))) ∧
 True)))) ∧
 (k [(D.val (Value.bool false))]))))
 False))))
 False)
 False)
 (X 0 [] [])) := by kernel_rfl
def nrA2 (C : Ct) (L : AtLoop) (k : List D → Prop) : Prop := wpNext Try.prog (hM C) L 39 0 .normal [] [] (dataK k)
theorem nrA2_text (C : Ct) (L : AtLoop) (k : List D → Prop) : nrA2 C L k =
 (k [(D.val (Value.bool true))]) := by kernel_rfl
def grL (C : Ct) (L : AtLoop) (n0 : Nat) (c0 : Nat) (l0 : List Value) (x1 : Int) (k : List D → Prop) : Prop := wpFn Try.prog (hM C) L 0 15 #[.agg #[.slice (some ⟨500, 0, none⟩) n0 c0, .int .i64 x1]] (heapOf [(500, .sym l0 false 1)]) (dataK k)
theorem grL_text (C : Ct) (L : AtLoop) (n0 : Nat) (c0 : Nat) (l0 : List Go.Value) (x1 : Int) (k : List D → Prop) : grL C L n0 c0 l0 x1 k =
 (L 0 [(Prod.mk 1 (Pt 1000 0)), (Prod.mk 3 (Value.slice none 0 0)), (Prod.mk 4 (vI 0))] [(Prod.mk 1000 (AObj.cells [(Sl 500 (n0) (c0)), (vI x1)] 24 false 1)), (Prod.mk 500 (AObj.sym (l0) false 1))]) := by kernel_rfl
abbrev zrL1 (x0 : Int) (n1 : Nat) (c2 : Nat) (x3 : Int) (l4 : List Value) : Slots × Blocks := ([(1, (Value.pointer (some ⟨1000, 0, none⟩))), (3, (Value.slice none 0 0)), (4, (Value.int .i64 x0))], [(1000, (AObj.cells [(Value.slice (some ⟨500, 0, none⟩) n1 c2), (Value.int .i64 x3)] 24 false 1)), (500, (AObj.sym l4 false 1))])
def rrL1 (C : Ct) (L : AtLoop) (x0 : Int) (n1 : Nat) (c2 : Nat) (x3 : Int) (l4 : List Value) (B : Bx) (X : Xx) (k : List D → Prop) : Prop := wpRound Try.prog (hM C) L 15 0 [(1, (Value.pointer (some ⟨1000, 0, none⟩))), (3, (Value.slice none 0 0)), (4, (Value.int .i64 x0))] [(1000, (AObj.cells [(Value.slice (some ⟨500, 0, none⟩) n1 c2), (Value.int .i64 x3)] 24 false 1)), (500, (AObj.sym l4 false 1))] B X (dataK k)
theorem rrL1_text (C : Ct) (L : AtLoop) (x0 : Int) (n1 : Nat) (c2 : Nat) (x3 : Int) (l4 : List Go.Value) (B : Bx) (X : Xx) (k : List D → Prop) : rrL1 C L x0 n1 c2 x3 l4 B X k =
 (bcase (decide (x0 < (↑n1 : Int)))
 (B [(Prod.mk 1 (Pt 1000 0)), (Prod.mk 3 (Sl 1001 1 1)), (Prod.mk 4 (vI (IntKind.wrap .i64 (x0 + 1))))] [(Prod.mk 1000 (AObj.cells [(Sl 500 (n1) (c2)), (vI x3)] 24 false 1)), (Prod.mk 1001 (AObj.sym [(vI x0)] true 1)), (Prod.mk 500 (AObj.sym (l4) false 1))])
 (X 0 [(Prod.mk 3 (Value.slice none 0 0))] [])) := by kernel_rfl
abbrev zrL2 (n0 : Nat) (x1 : Int) (n2 : Nat) (c3 : Nat) (x4 : Int) (l5 : List Value) (l6 : List Value) : Slots × Blocks := ([(1, (Value.pointer (some ⟨1000, 0, none⟩))), (3, (Value.slice (some ⟨1001, 0, none⟩) n0 n0)), (4, (Value.int .i64 x1))], [(1000, (AObj.cells [(Value.slice (some ⟨500, 0, none⟩) n2 c3), (Value.int .i64 x4)] 24 false 1)), (1001, (AObj.sym l5 true 1)), (500, (AObj.sym l6 false 1))])
def rrL2 (C : Ct) (L : AtLoop) (n0 : Nat) (x1 : Int) (n2 : Nat) (c3 : Nat) (x4 : Int) (l5 : List Value) (l6 : List Value) (B : Bx) (X : Xx) (k : List D → Prop) : Prop := wpRound Try.prog (hM C) L 15 0 [(1, (Value.pointer (some ⟨1000, 0, none⟩))), (3, (Value.slice (some ⟨1001, 0, none⟩) n0 n0)), (4, (Value.int .i64 x1))] [(1000, (AObj.cells [(Value.slice (some ⟨500, 0, none⟩) n2 c3), (Value.int .i64 x4)] 24 false 1)), (1001, (AObj.sym l5 true 1)), (500, (AObj.sym l6 false 1))] B X (dataK k)
theorem rrL2_text (C : Ct) (L : AtLoop) (n0 : Nat) (x1 : Int) (n2 : Nat) (c3 : Nat) (x4 : Int) (l5 : List Go.Value) (l6 : List Go.Value) (B : Bx) (X : Xx) (k : List D → Prop) : rrL2 C L n0 x1 n2 c3 x4 l5 l6 B X k =
 (bcase (decide (x1 < (↑n2 : Int)))
 (bcase (decide (n0 < n0 + 1))
 (bcase (decide ((2 * (n0 + 1) + 768) * 8 ≤ 281474976710656))
 (bcase (decide (n0 + 1 ≤ 1099511627776))
 (bcase (decide (0 + n0 * 1 ≤ List.length l5))
 (bcase (decide (0 + n0 * 1 = List.length l5))
 (B [(Prod.mk 1 (Pt 1000 0)), (Prod.mk 3 (Sl 1001 (n0 + 1) (n0 + 1))), (Prod.mk 4 (vI (IntKind.wrap .i64 (x1 + 1))))] [(Prod.mk 1000 (AObj.cells [(Sl 500 (n2) (c3)), (vI x4)] 24 false 1)), (Prod.mk 1001 (AObj.sym ((List.take (n0 * 1) (List.drop 0 l5)) ++ [(vI x1)]) true 1)), (Prod.mk 500 (AObj.sym (l6) false 1))])
 False)
 False)
 False)
 False)
 False)
 (X 0 [(Prod.mk 3 (Sl 1000 (n0) (n0)))] [(Prod.mk 1000 (AObj.sym (l5) true 1))])) := by kernel_rfl
def nrL4 (C : Ct) (L : AtLoop) (n0 : Nat) (l1 : List Value) (k : List D → Prop) : Prop := wpNext Try.prog (hM C) L 15 0 .normal [(3, (Value.slice (some ⟨1000, 0, none⟩) n0 n0))] [(1000, (AObj.sym l1 true 1))] (dataK k)
theorem nrL4_text (C : Ct) (L : AtLoop) (n0 : Nat) (l1 : List Go.Value) (k : List D → Prop) : nrL4 C L n0 l1 k =
 (((Qv (n0)) ∧
 ((List.length l1) = (n0 * 1))) ∧
 (k [(D.sl (n0) 1 (l1))])) := by kernel_rfl
def grP (C : Ct) (L : AtLoop) (n0 : Nat) (c0 : Nat) (l0 : List Value) (x1 : Int) (x2 : Int) (n3 : Nat) (c3 : Nat) (l3 : List Value) (k : List D → Prop) : Prop := jFn Try.prog (hM C) L [] 14 #[.agg #[.slice (some ⟨500, 0, none⟩) n0 c0, .int .i64 x1], .int .i64 x2, .slice (some ⟨501, 0, none⟩) n3 c3] (heapOf [(500, .sym l0 false 1), (501, .sym l3 false 1)]) (dataK k)
theorem grP_text (C : Ct) (L : AtLoop) (n0 : Nat) (c0 : Nat) (l0 : List Go.Value) (x1 : Int) (x2 : Int) (n3 : Nat) (c3 : Nat) (l3 : List Go.Value) (k : List D → Prop) : grP C L n0 c0 l0 x1 x2 n3 c3 l3 k =
 (bcase (decide (0 < (↑n3 : Int)))
 (∃ n1 : Int,
 ((At (l3) 0 1 [(vI n1)]) ∧
 (bcase (decide (0 ≤ n1))
 (bcase (decide (n1 < (↑n0 : Int)))
 (∃ n2 : Int,
 ((At (l0) (0 + Int.toNat n1 * 1) 1 [(vI n2)]) ∧
 (((∃ n4 : Int,
 ((At (l0) (0 + Int.toNat n1 * 1) 1 [(vI n4)]) ∧
 ((vI n4) = (vI n2)))) ∧
 ((bcase (decide (0 ≤ n1))
 (bcase (decide (n1 < (↑n0 : Int)))
 (Qv (Pt 500 (0 + Int.toNat n1 * 1)))
 False)
 False) ∧
 ((∃ n4 : Int,
 ((At (l3) 0 1 [(vI n4)]) ∧
 ((vI n4) = (vI n1)))) ∧
 ((bcase (decide (0 < (↑n3 : Int)))
 (Qv (Pt 501 0))
 False) ∧
 ((Qv (Sl 501 (n3) (c3))) ∧
 ((Qv (Sl 500 (n0) (c0))) ∧
 ((Qv (Pt 1000 0)) ∧
 True))))))) ∧
 (True ∧
 (L 0 [(Prod.mk 1 (vI x2)), (Prod.mk 2 (Sl 501 (n3) (c3))), (Prod.mk 3 (Pt 1000 0)), (Prod.mk 6 (Pt 1001 0)), (Prod.mk 8 (vI n2)), (Prod.mk 9 (vI (IntKind.wrap .i64 (n2 - x1))))] [(Prod.mk 501 (AObj.sym (l3) false 1)), (Prod.mk 1000 (AObj.cells [(Sl 500 (n0) (c0)), (vI x1)] 24 false 1)), (Prod.mk 1001 (AObj.cells [(vI 0), (vI 0)] 31 false 2)), (Prod.mk 500 (AObj.sym (l0) false 1))])))))
 False)
 False)))
 False) := by kernel_rfl
abbrev zrP1 (x0 : Int) (n1 : Nat) (c2 : Nat) (x3 : Int) (x4 : Int) (l5 : List Value) (n6 : Nat) (c7 : Nat) (x8 : Int) (x9 : Int) (x10 : Int) (l11 : List Value) : Slots × Blocks := ([(1, (Value.int .i64 x0)), (2, (Value.slice (some ⟨501, 0, none⟩) n1 c2)), (3, (Value.pointer (some ⟨1000, 0, none⟩))), (6, (Value.pointer (some ⟨1001, 0, none⟩))), (8, (Value.int .i64 x3)), (9, (Value.int .i64 x4))], [(501, (AObj.sym l5 false 1)), (1000, (AObj.cells [(Value.slice (some ⟨500, 0, none⟩) n6 c7), (Value.int .i64 x8)] 24 false 1)), (1001, (AObj.cells [(Value.int .i64 x9), (Value.int .i64 x10)] 31 false 2)), (500, (AObj.sym l11 false 1))])
def rrP1 (C : Ct) (L : AtLoop) (x0 : Int) (n1 : Nat) (c2 : Nat) (x3 : Int) (x4 : Int) (l5 : List Value) (n6 : Nat) (c7 : Nat) (x8 : Int) (x9 : Int) (x10 : Int) (l11 : List Value) (B : Bx) (X : Xx) (k : List D → Prop) : Prop := jRound Try.prog (hM C) L [] 14 0 [(1, (Value.int .i64 x0)), (2, (Value.slice (some ⟨501, 0, none⟩) n1 c2)), (3, (Value.pointer (some ⟨1000, 0, none⟩))), (6, (Value.pointer (some ⟨1001, 0, none⟩))), (8, (Value.int .i64 x3)), (9, (Value.int .i64 x4))] [(501, (AObj.sym l5 false 1)), (1000, (AObj.cells [(Value.slice (some ⟨500, 0, none⟩) n6 c7), (Value.int .i64 x8)] 24 false 1)), (1001, (AObj.cells [(Value.int .i64 x9), (Value.int .i64 x10)] 31 false 2)), (500, (AObj.sym l11 false 1))] B X (dataK k)
theorem rrP1_text (C : Ct) (L : AtLoop) (x0 : Int) (n1 : Nat) (c2 : Nat) (x3 : Int) (x4 : Int) (l5 : List Go.Value) (n6 : Nat) (c7 : Nat) (x8 : Int) (x9 : Int) (x10 : Int) (l11 : List Go.Value) (B : Bx) (X : Xx) (k : List D → Prop) : rrP1 C L x0 n1 c2 x3 x4 l5 n6 c7 x8 x9 x10 l11 B X k =
 (bcase (decide (x4 ≤ IntKind.wrap .i64 (x3 + x8)))
 (bcase (decide (0 + n6 * 1 ≤ List.length l11))
 (bcase (decide (0 + n1 * 1 ≤ List.length l5))
 (((Says C 39 [(D.agg [(D.sl (n6) 1 (List.take (n6 * 1) (List.drop 0 l11))), (D.val (vI x8))]), (D.val (vI x0)), (D.val (vI x4)), (D.sl (n1) 1 (List.take (n1 * 1) (List.drop 0 l5)))] [(D.val (Value.bool true))]) ∧
 (L 2 [(Prod.mk 1 (vI x0)), (Prod.mk 2 (Sl 501 (n1) (c2))), (Prod.mk 3 (Pt 1000 0)), (Prod.mk 6 (Pt 1001 0)), (Prod.mk 8 (vI x3)), (Prod.mk 9 (vI x4)), (Prod.mk 10 (vI x4))] [(Prod.mk 501 (AObj.sym (l5) false 1)), (Prod.mk 1000 (AObj.cells [(Sl 500 (n6) (c7)), (vI x8)] 24 false 1)), (Prod.mk 1001 (AObj.cells [(vI x9), (vI x10)] 31 false 2)), (Prod.mk 500 (AObj.sym (l11) false 1))])) ∨
 ((Says C 39 [(D.agg [(D.sl (n6) 1 (List.take (n6 * 1) (List.drop 0 l11))), (D.val (vI x8))]), (D.val (vI x0)), (D.val (vI x4)), (D.sl (n1) 1 (List.take (n1 * 1) (List.drop 0 l5)))] [(D.val (Value.bool false))]) ∧
 (B [(Prod.mk 1 (vI x0)), (Prod.mk 2 (Sl 501 (n1) (c2))), (Prod.mk 3 (Pt 1000 0)), (Prod.mk 6 (Pt 1001 0)), (Prod.mk 8 (vI x3)), (Prod.mk 9 (vI (IntKind.wrap .i64 (x4 + 1))))] [(Prod.mk 501 (AObj.sym (l5) false 1)), (Prod.mk 1000 (AObj.cells [(Sl 500 (n6) (c7)), (vI x8)] 24 false 1)), (Prod.mk 1001 (AObj.cells [(vI x9), (vI x10)] 31 false 2)), (Prod.mk 500 (AObj.sym (l11) false 1))])))
 False)
 False)
 (X 0 [(Prod.mk 6 (Pt 1000 0))] [(Prod.mk 1000 (AObj.cells [(vI x9), (vI x10)] 31 false 2))])) := by kernel_rfl
abbrev zrP2 (x0 : Int) (n1 : Nat) (c2 : Nat) (x3 : Int) (x4 : Int) (x5 : Int) (l6 : List Value) (n7 : Nat) (c8 : Nat) (x9 : Int) (x10 : Int) (x11 : Int) (l12 : List Value) : Slots × Blocks := ([(1, (Value.int .i64 x0)), (2, (Value.slice (some ⟨501, 0, none⟩) n1 c2)), (3, (Value.pointer (some ⟨1000, 0, none⟩))), (6, (Value.pointer (some ⟨1001, 0, none⟩))), (8, (Value.int .i64 x3)), (9, (Value.int .i64 x4)), (10, (Value.int .i64 x5))], [(501, (AObj.sym l6 false 1)), (1000, (AObj.cells [(Value.slice (some ⟨500, 0, none⟩) n7 c8), (Value.int .i64 x9)] 24 false 1)), (1001, (AObj.cells [(Value.int .i64 x10), (Value.int .i64 x11)] 31 false 2)), (500, (AObj.sym l12 false 1))])
def rrP2 (C : Ct) (L : AtLoop) (x0 : Int) (n1 : Nat) (c2 : Nat) (x3 : Int) (x4 : Int) (x5 : Int) (l6 : List Value) (n7 : Nat) (c8 : Nat) (x9 : Int) (x10 : Int) (x11 : Int) (l12 : List Value) (B : Bx) (X : Xx) (k : List D → Prop) : Prop := jRound2 Try.prog (hM C) L [] 14 0 2 [(1, (Value.int .i64 x0)), (2, (Value.slice (some ⟨501, 0, none⟩) n1 c2)), (3, (Value.pointer (some ⟨1000, 0, none⟩))), (6, (Value.pointer (some ⟨1001, 0, none⟩))), (8, (Value.int .i64 x3)), (9, (Value.int .i64 x4)), (10, (Value.int .i64 x5))] [(501, (AObj.sym l6 false 1)), (1000, (AObj.cells [(Value.slice (some ⟨500, 0, none⟩) n7 c8), (Value.int .i64 x9)] 24 false 1)), (1001, (AObj.cells [(Value.int .i64 x10), (Value.int .i64 x11)] 31 false 2)), (500, (AObj.sym l12 false 1))] B X (dataK k)
theorem rrP2_text (C : Ct) (L : AtLoop) (x0 : Int) (n1 : Nat) (c2 : Nat) (x3 : Int) (x4 : Int) (x5 : Int) (l6 : List Go.Value) (n7 : Nat) (c8 : Nat) (x9 : Int) (x10 : Int) (x11 : Int) (l12 : List Go.Value) (B : Bx) (X : Xx) (k : List D → Prop) : rrP2 C L x0 n1 c2 x3 x4 x5 l6 n7 c8 x9 x10 x11 l12 B X k =
 (bcase (decide (x5 < IntKind.wrap .i64 (x3 + x9)))
 (bcase (decide (0 + n7 * 1 ≤ List.length l12))
 (bcase (decide (0 + n1 * 1 ≤ List.length l6))
 (((Says C 39 [(D.agg [(D.sl (n7) 1 (List.take (n7 * 1) (List.drop 0 l12))), (D.val (vI x9))]), (D.val (vI x0)), (D.val (vI (IntKind.wrap .i64 (x5 + 1)))), (D.sl (n1) 1 (List.take (n1 * 1) (List.drop 0 l6)))] [(D.val (Value.bool true))]) ∧
 (B [(Prod.mk 1 (vI x0)), (Prod.mk 2 (Sl 501 (n1) (c2))), (Prod.mk 3 (Pt 1000 0)), (Prod.mk 6 (Pt 1001 0)), (Prod.mk 8 (vI x3)), (Prod.mk 9 (vI x4)), (Prod.mk 10 (vI (IntKind.wrap .i64 (x5 + 1))))] [(Prod.mk 501 (AObj.sym (l6) false 1)), (Prod.mk 1000 (AObj.cells [(Sl 500 (n7) (c8)), (vI x9)] 24 false 1)), (Prod.mk 1001 (AObj.cells [(vI x10), (vI x11)] 31 false 2)), (Prod.mk 500 (AObj.sym (l12) false 1))])) ∨
 ((Says C 39 [(D.agg [(D.sl (n7) 1 (List.take (n7 * 1) (List.drop 0 l12))), (D.val (vI x9))]), (D.val (vI x0)), (D.val (vI (IntKind.wrap .i64 (x5 + 1)))), (D.sl (n1) 1 (List.take (n1 * 1) (List.drop 0 l6)))] [(D.val (Value.bool false))]) ∧
 (X 2 [(Prod.mk 1 (vI x0)), (Prod.mk 6 (Pt 1000 0)), (Prod.mk 9 (vI x4)), (Prod.mk 10 (vI x5))] [(Prod.mk 1000 (AObj.cells [(vI x10), (vI x11)] 31 false 2))])))
 False)
 False)
 (X 2 [(Prod.mk 1 (vI x0)), (Prod.mk 6 (Pt 1000 0)), (Prod.mk 9 (vI x4)), (Prod.mk 10 (vI x5))] [(Prod.mk 1000 (AObj.cells [(vI x10), (vI x11)] 31 false 2))])) := by kernel_rfl
def nrP3 (C : Ct) (L : AtLoop) (x0 : Int) (x1 : Int) (k : List D → Prop) : Prop := jNext Try.prog (hM C) L [] 14 0 .normal [(6, (Value.pointer (some ⟨1000, 0, none⟩)))] [(1000, (AObj.cells [(Value.int .i64 x0), (Value.int .i64 x1)] 31 false 2))] (dataK k)
theorem nrP3_text (C : Ct) (L : AtLoop) (x0 : Int) (x1 : Int) (k : List D → Prop) : nrP3 C L x0 x1 k =
 (k [(D.agg [(D.val (vI 0)), (D.val (vI 0))]), (D.val (Value.bool false))]) := by kernel_rfl
def irP4 (C : Ct) (L : AtLoop) (x0 : Int) (x1 : Int) (x2 : Int) (x3 : Int) (x4 : Int) (B : Bx) (X : Xx) (k : List D → Prop) : Prop := jIn Try.prog (hM C) L [] 14 0 2 .normal [(1, (Value.int .i64 x0)), (6, (Value.pointer (some ⟨1000, 0, none⟩))), (9, (Value.int .i64 x1)), (10, (Value.int .i64 x2))] [(1000, (AObj.cells [(Value.int .i64 x3), (Value.int .i64 x4)] 31 false 2))] B X (dataK k)
theorem irP4_text (C : Ct) (L : AtLoop) (x0 : Int) (x1 : Int) (x2 : Int) (x3 : Int) (x4 : Int) (B : Bx) (X : Xx) (k : List D → Prop) : irP4 C L x0 x1 x2 x3 x4 B X k =
 (∃ n1 : Int,
 ((Says C 25 [(D.val (vI x1)), (D.val (vI x0))] [(D.val (vI n1))]) ∧
 (k [(D.agg [(D.val (vI n1)), (D.val (vI (IntKind.wrap .i64 (IntKind.wrap .i64 (n1 + x2) - x1))))]), (D.val (Value.bool true))]))) := by kernel_rfl
def grM (C : Ct) (L : AtLoop) (n0 : Nat) (c0 : Nat) (l0 : List Value) (x1 : Int) (x2 : Int) (x3 : Int) (k : List D → Prop) : Prop := jFn Try.prog (hM C) L [] 17 #[.agg #[.slice (some ⟨500, 0, none⟩) n0 c0, .int .i64 x1], .int .i64 x2, .int .i64 x3] (heapOf [(500, .sym l0 false 1)]) (dataK k)
theorem grM_text (C : Ct) (L : AtLoop) (n0 : Nat) (c0 : Nat) (l0 : List Go.Value) (x1 : Int) (x2 : Int) (x3 : Int) (k : List D → Prop) : grM C L n0 c0 l0 x1 x2 x3 k =
 (bcase (decide (0 < (↑n0 : Int)))
 (∃ n1 : Int,
 ((At (l0) 0 1 [(vI n1)]) ∧
 (bcase (decide (0 ≤ IntKind.wrap .i64 ((↑n0 : Int) - 1)))
 (bcase (decide (IntKind.wrap .i64 ((↑n0 : Int) - 1) < (↑n0 : Int)))
 (∃ n2 : Int,
 ((At (l0) (0 + Int.toNat (IntKind.wrap .i64 ((↑n0 : Int) - 1)) * 1) 1 [(vI n2)]) ∧
 (((∃ n3 : Int,
 ((At (l0) (0 + Int.toNat (IntKind.wrap .i64 ((↑n0 : Int) - 1)) * 1) 1 [(vI n3)]) ∧
 ((vI n3) = (vI n2)))) ∧
 ((bcase (decide (0 ≤ IntKind.wrap .i64 ((↑n0 : Int) - 1)))
 (bcase (decide (IntKind.wrap .i64 ((↑n0 : Int) - 1) < (↑n0 : Int)))
 (Qv (Pt 500 (0 + Int.toNat (IntKind.wrap .i64 ((↑n0 : Int) - 1)) * 1)))
 False)
 False) ∧
 ((Qv (vI (IntKind.wrap .i64 ((↑n0 : Int) - 1)))) ∧
 ((Qv (vI ((↑n0 : Int)))) ∧
 ((Qv (Sl 500 (n0) (c0))) ∧
 ((Qv (Pt 1000 0)) ∧
 ((Qv (Sl 500 (n0) (c0))) ∧
 ((Qv (Pt 1000 0)) ∧
 ((∃ n3 : Int,
 ((At (l0) 0 1 [(vI n3)]) ∧
 ((vI n3) = (vI n1)))) ∧
 ((bcase (decide (0 < (↑n0 : Int)))
 (Qv (Pt 500 0))
 False) ∧
 ((Qv (Sl 500 (n0) (c0))) ∧
 ((Qv (Pt 1000 0)) ∧
 True)))))))))))) ∧
 (((∃ n3 : Int,
 ((At (l0) (0 + Int.toNat (IntKind.wrap .i64 ((↑n0 : Int) - 1)) * 1) 1 [(vI n3)]) ∧
 ((vI n3) = (vI n2)))) ∧
 ((bcase (decide (0 ≤ IntKind.wrap .i64 ((↑n0 : Int) - 1)))
 (bcase (decide (IntKind.wrap .i64 ((↑n0 : Int) - 1) < (↑n0 : Int)))
 (Qv (Pt 500 (0 + Int.toNat (IntKind.wrap .i64 ((↑n0 : Int) - 1)) * 1)))
 False)
 False) ∧
 ((Qv (vI (IntKind.wrap .i64 ((↑n0 : Int) - 1)))) ∧
 ((Qv (vI ((↑n0 : Int)))) ∧
 ((Qv (Sl 500 (n0) (c0))) ∧
 ((Qv (Pt 1000 0)) ∧
 ((Qv (Sl 500 (n0) (c0))) ∧
 ((Qv (Pt 1000 0)) ∧
 True)))))))) ∧
 (True ∧
 (∃ n3 : Int,
 ((Says C 25 [(D.val (vI (IntKind.wrap .i64 (x3 - n1)))), (D.val (vI x2))] [(D.val (vI n3))]) ∧
 (L 0 [(Prod.mk 1 (vI x2)), (Prod.mk 3 (Pt 1000 0)), (Prod.mk 8 (vI n2)), (Prod.mk 9 (Value.slice none 0 0)), (Prod.mk 10 (vI (IntKind.wrap .i64 (n1 + n3))))] [(Prod.mk 1000 (AObj.cells [(Sl 500 (n0) (c0)), (vI x1)] 24 false 1)), (Prod.mk 500 (AObj.sym (l0) false 1))]))))))))
 False)
 False)))
 False) := by kernel_rfl
abbrev zrM1 (x0 : Int) (x1 : Int) (x2 : Int) (n3 : Nat) (c4 : Nat) (x5 : Int) (l6 : List Value) : Slots × Blocks := ([(1, (Value.int .i64 x0)), (3, (Value.pointer (some ⟨1000, 0, none⟩))), (8, (Value.int .i64 x1)), (9, (Value.slice none 0 0)), (10, (Value.int .i64 x2))], [(1000, (AObj.cells [(Value.slice (some ⟨500, 0, none⟩) n3 c4), (Value.int .i64 x5)] 24 false 1)), (500, (AObj.sym l6 false 1))])
def rrM1 (C : Ct) (L : AtLoop) (x0 : Int) (x1 : Int) (x2 : Int) (n3 : Nat) (c4 : Nat) (x5 : Int) (l6 : List Value) (B : Bx) (X : Xx) (k : List D → Prop) : Prop := jRound Try.prog (hM C) L [] 17 0 [(1, (Value.int .i64 x0)), (3, (Value.pointer (some ⟨1000, 0, none⟩))), (8, (Value.int .i64 x1)), (9, (Value.slice none 0 0)), (10, (Value.int .i64 x2))] [(1000, (AObj.cells [(Value.slice (some ⟨500, 0, none⟩) n3 c4), (Value.int .i64 x5)] 24 false 1)), (500, (AObj.sym l6 false 1))] B X (dataK k)
theorem rrM1_text (C : Ct) (L : AtLoop) (x0 : Int) (x1 : Int) (x2 : Int) (n3 : Nat) (c4 : Nat) (x5 : Int) (l6 : List Go.Value) (B : Bx) (X : Xx) (k : List D → Prop) : rrM1 C L x0 x1 x2 n3 c4 x5 l6 B X k =
 (bcase (decide (x2 ≤ x1))
 (L 2 [(Prod.mk 1 (vI x0)), (Prod.mk 3 (Pt 1000 0)), (Prod.mk 8 (vI x1)), (Prod.mk 9 (Value.slice none 0 0)), (Prod.mk 10 (vI x2)), (Prod.mk 11 (Value.bool false)), (Prod.mk 12 (vI 0))] [(Prod.mk 1000 (AObj.cells [(Sl 500 (n3) (c4)), (vI x5)] 24 false 1)), (Prod.mk 500 (AObj.sym (l6) false 1))])
 (X 0 [(Prod.mk 9 (Value.slice none 0 0))] [])) := by kernel_rfl
abbrev zrM2 (x0 : Int) (x1 : Int) (x2 : Int) (b3 : Bool) (x4 : Int) (n5 : Nat) (c6 : Nat) (x7 : Int) (l8 : List Value) : Slots × Blocks := ([(1, (Value.int .i64 x0)), (3, (Value.pointer (some ⟨1000, 0, none⟩))), (8, (Value.int .i64 x1)), (9, (Value.slice none 0 0)), (10, (Value.int .i64 x2)), (11, (Value.bool b3)), (12, (Value.int .i64 x4))], [(1000, (AObj.cells [(Value.slice (some ⟨500, 0, none⟩) n5 c6), (Value.int .i64 x7)] 24 false 1)), (500, (AObj.sym l8 false 1))])
def rrM2 (C : Ct) (L : AtLoop) (x0 : Int) (x1 : Int) (x2 : Int) (b3 : Bool) (x4 : Int) (n5 : Nat) (c6 : Nat) (x7 : Int) (l8 : List Value) (B : Bx) (X : Xx) (k : List D → Prop) : Prop := jRound2 Try.prog (hM C) L [] 17 0 2 [(1, (Value.int .i64 x0)), (3, (Value.pointer (some ⟨1000, 0, none⟩))), (8, (Value.int .i64 x1)), (9, (Value.slice none 0 0)), (10, (Value.int .i64 x2)), (11, (Value.bool b3)), (12, (Value.int .i64 x4))] [(1000, (AObj.cells [(Value.slice (some ⟨500, 0, none⟩) n5 c6), (Value.int .i64 x7)] 24 false 1)), (500, (AObj.sym l8 false 1))] B X (dataK k)
theorem rrM2_text (C : Ct) (L : AtLoop) (x0 : Int) (x1 : Int) (x2 : Int) (b3 : Bool) (x4 : Int) (n5 : Nat) (c6 : Nat) (x7 : Int) (l8 : List Go.Value) (B : Bx) (X : Xx) (k : List D → Prop) : rrM2 C L x0 x1 x2 b3 x4 n5 c6 x7 l8 B X k =
 (bcase (decide (x4 < (↑n5 : Int)))
 (bcase (b3)
 ((Qu ∧
 (Qu ∧
 (Qu ∧
 (Qu ∧
 (Qu ∧
 (Qu ∧
 (Qu ∧
 (Qu ∧
 (Qu ∧
 (Qu ∧
 (Qb ∧
 ((bcase (b3)
 Qb
 Qft) ∧
 True)))))))))))) ∧
 ((Qb ∧
 (Qu ∧
 (Qu ∧
 (Qu ∧
 (Qu ∧
 (Qu ∧
 (Qu ∧
 (Qu ∧
 (Qu ∧
 (Qu ∧
 (Qu ∧
 ((bcase (b3)
 Qb
 Qft) ∧
 True)))))))))))) ∧
 (True ∧
 (B [(Prod.mk 1 (vI x0)), (Prod.mk 3 (Pt 1000 0)), (Prod.mk 8 (vI x1)), (Prod.mk 9 (Value.slice none 0 0)), (Prod.mk 10 (vI x2)), (Prod.mk 11 (Value.bool true)), (Prod.mk 12 (vI (IntKind.wrap .i64 (x4 + 1))))] [(Prod.mk 1000 (AObj.cells [(Sl 500 (n5) (c6)), (vI x7)] 24 false 1)), (Prod.mk 500 (AObj.sym (l8) false 1))]))))
 (bcase (decide (0 ≤ x4))
 (bcase (decide (x4 < (↑n5 : Int)))
 (∃ n1 : Int,
 ((At (l8) (0 + Int.toNat x4 * 1) 1 [(vI n1)]) ∧
 (((Qv (vI (IntKind.wrap .i64 (2 * x7)))) ∧
 ((Qv (vI x7)) ∧
 ((Qv (Pt 1000 1)) ∧
 ((Qv (vI (IntKind.wrap .i64 (n1 - x2)))) ∧
 ((Qv (vI x2)) ∧
 ((∃ n2 : Int,
 ((At (l8) (0 + Int.toNat x4 * 1) 1 [(vI n2)]) ∧
 ((vI n2) = (vI n1)))) ∧
 ((bcase (decide (0 ≤ x4))
 (bcase (decide (x4 < (↑n5 : Int)))
 (Qv (Pt 500 (0 + Int.toNat x4 * 1)))
 False)
 False) ∧
 ((Qv (vI x4)) ∧
 ((Qv (Sl 500 (n5) (c6))) ∧
 ((Qv (Pt 1000 0)) ∧
 (Qf ∧
 ((bcase (b3)
 Qtf
 Qf) ∧
 True)))))))))))) ∧
 (∃ n2 : Int,
 ((Says C 40 [(D.val (vI (IntKind.wrap .i64 (n1 - x2))))] [(D.val (vI n2))]) ∧
 (bcase (decide (n2 ≤ IntKind.wrap .i64 (2 * x7)))
 ((Qb ∧
 ((bcase (decide (n2 ≤ IntKind.wrap .i64 (2 * x7)))
 Qb
 Qft) ∧
 ((Qv (vI (IntKind.wrap .i64 (2 * x7)))) ∧
 ((Qv (vI x7)) ∧
 ((Qv (Pt 1000 1)) ∧
 ((Qv (vI x2)) ∧
 ((∃ n3 : Int,
 ((At (l8) (0 + Int.toNat x4 * 1) 1 [(vI n3)]) ∧
 ((vI n3) = (vI n1)))) ∧
 ((bcase (decide (0 ≤ x4))
 (bcase (decide (x4 < (↑n5 : Int)))
 (Qv (Pt 500 (0 + Int.toNat x4 * 1)))
 False)
 False) ∧
 ((Qv (vI x4)) ∧
 ((Qv (Sl 500 (n5) (c6))) ∧
 ((Qv (Pt 1000 0)) ∧
 ((bcase (b3)
 Qtf
 Qf) ∧
 True)))))))))))) ∧
 (True ∧
 (B [(Prod.mk 1 (vI x0)), (Prod.mk 3 (Pt 1000 0)), (Prod.mk 8 (vI x1)), (Prod.mk 9 (Value.slice none 0 0)), (Prod.mk 10 (vI x2)), (Prod.mk 11 (Value.bool true)), (Prod.mk 12 (vI (IntKind.wrap .i64 (x4 + 1))))] [(Prod.mk 1000 (AObj.cells [(Sl 500 (n5) (c6)), (vI x7)] 24 false 1)), (Prod.mk 500 (AObj.sym (l8) false 1))])))
 ((Qf ∧
 ((bcase (decide (n2 ≤ IntKind.wrap .i64 (2 * x7)))
 Qtf
 Qf) ∧
 ((Qv (vI (IntKind.wrap .i64 (2 * x7)))) ∧
 ((Qv (vI x7)) ∧
 ((Qv (Pt 1000 1)) ∧
 ((Qv (vI x2)) ∧
 ((∃ n3 : Int,
 ((At (l8) (0 + Int.toNat x4 * 1) 1 [(vI n3)]) ∧
 ((vI n3) = (vI n1)))) ∧
 ((bcase (decide (0 ≤ x4))
 (bcase (decide (x4 < (↑n5 : Int)))
 (Qv (Pt 500 (0 + Int.toNat x4 * 1)))
 False)
 False) ∧
 ((Qv (vI x4)) ∧
 ((Qv (Sl 500 (n5) (c6))) ∧
 ((Qv (Pt 1000 0)) ∧
 ((bcase (b3)
 Qtf
 Qf) ∧
 True)))))))))))) ∧
 (True ∧
 (B [(Prod.mk 1 (vI x0)), (Prod.mk 3 (Pt 1000 0)), (Prod.mk 8 (vI x1)), (Prod.mk 9 (Value.slice none 0 0)), (Prod.mk 10 (vI x2)), (Prod.mk 11 (Value.bool false)), (Prod.mk 12 (vI (IntKind.wrap .i64 (x4 + 1))))] [(Prod.mk 1000 (AObj.cells [(Sl 500 (n5) (c6)), (vI x7)] 24 false 1)), (Prod.mk 500 (AObj.sym (l8) false 1))])))))))))
 False)
 False))
 (X 2 [(Prod.mk 1 (vI x0)), (Prod.mk 3 (Pt 1000 0)), (Prod.mk 8 (vI x1)), (Prod.mk 9 (Value.slice none 0 0)), (Prod.mk 10 (vI x2)), (Prod.mk 11 (Value.bool (b3)))] [(Prod.mk 1000 (AObj.cells [(Sl 500 (n5) (c6)), (vI x7)] 24 false 1)), (Prod.mk 500 (AObj.sym (l8) false 1))])) := by kernel_rfl
def nrM3 (C : Ct) (L : AtLoop) (k : List D → Prop) : Prop := jNext Try.prog (hM C) L [] 17 0 .normal [(9, (Value.slice none 0 0))] [] (dataK k)
theorem nrM3_text (C : Ct) (L : AtLoop) (k : List D → Prop) : nrM3 C L k =
 (k [D.nil]) := by kernel_rfl
def irM4 (C : Ct) (L : AtLoop) (x0 : Int) (x1 : Int) (x2 : Int) (b3 : Bool) (n4 : Nat) (c5 : Nat) (x6 : Int) (l7 : List Value) (B : Bx) (X : Xx) (k : List D → Prop) : Prop := jIn Try.prog (hM C) L [] 17 0 2 .normal [(1, (Value.int .i64 x0)), (3, (Value.pointer (some ⟨1000, 0, none⟩))), (8, (Value.int .i64 x1)), (9, (Value.slice none 0 0)), (10, (Value.int .i64 x2)), (11, (Value.bool b3))] [(1000, (AObj.cells [(Value.slice (some ⟨500, 0, none⟩) n4 c5), (Value.int .i64 x6)] 24 false 1)), (500, (AObj.sym l7 false 1))] B X (dataK k)
theorem irM4_text (C : Ct) (L : AtLoop) (x0 : Int) (x1 : Int) (x2 : Int) (b3 : Bool) (n4 : Nat) (c5 : Nat) (x6 : Int) (l7 : List Go.Value) (B : Bx) (X : Xx) (k : List D → Prop) : irM4 C L x0 x1 x2 b3 n4 c5 x6 l7 B X k =
 (bcase (b3)
 (B [(Prod.mk 1 (vI x0)), (Prod.mk 3 (Pt 1000 0)), (Prod.mk 8 (vI x1)), (Prod.mk 9 (Value.slice none 0 0)), (Prod.mk 10 (vI (IntKind.wrap .i64 (x2 + x0))))] [(Prod.mk 1000 (AObj.cells [(Sl 500 (n4) (c5)), (vI x6)] 24 false 1)), (Prod.mk 500 (AObj.sym (l7) false 1))])
 (B [(Prod.mk 1 (vI x0)), (Prod.mk 3 (Pt 1000 0)), (Prod.mk 8 (vI x1)), (Prod.mk 9 (Sl 1001 1 1)), (Prod.mk 10 (vI (IntKind.wrap .i64 (x2 + x0))))] [(Prod.mk 1000 (AObj.cells [(Sl 500 (n4) (c5)), (vI x6)] 24 false 1)), (Prod.mk 1001 (AObj.sym [(vI x2)] true 1)), (Prod.mk 500 (AObj.sym (l7) false 1))])) := by kernel_rfl
abbrev zrM5 (x0 : Int) (x1 : Int) (n2 : Nat) (x3 : Int) (n4 : Nat) (c5 : Nat) (x6 : Int) (l7 : List Value) (l8 : List Value) : Slots × Blocks := ([(1, (Value.int .i64 x0)), (3, (Value.pointer (some ⟨1000, 0, none⟩))), (8, (Value.int .i64 x1)), (9, (Value.slice (some ⟨1001, 0, none⟩) n2 n2)), (10, (Value.int .i64 x3))], [(1000, (AObj.cells [(Value.slice (some ⟨500, 0, none⟩) n4 c5), (Value.int .i64 x6)] 24 false 1)), (1001, (AObj.sym l7 true 1)), (500, (AObj.sym l8 false 1))])
def rrM5 (C : Ct) (L : AtLoop) (x0 : Int) (x1 : Int) (n2 : Nat) (x3 : Int) (n4 : Nat) (c5 : Nat) (x6 : Int) (l7 : List Value) (l8 : List Value) (B : Bx) (X : Xx) (k : List D → Prop) : Prop := jRound Try.prog (hM C) L [] 17 0 [(1, (Value.int .i64 x0)), (3, (Value.pointer (some ⟨1000, 0, none⟩))), (8, (Value.int .i64 x1)), (9, (Value.slice (some ⟨1001, 0, none⟩) n2 n2)), (10, (Value.int .i64 x3))] [(1000, (AObj.cells [(Value.slice (some ⟨500, 0, none⟩) n4 c5), (Value.int .i64 x6)] 24 false 1)), (1001, (AObj.sym l7 true 1)), (500, (AObj.sym l8 false 1))] B X (dataK k)
theorem rrM5_text (C : Ct) (L : AtLoop) (x0 : Int) (x1 : Int) (n2 : Nat) (x3 : Int) (n4 : Nat) (c5 : Nat) (x6 : Int) (l7 : List Go.Value) (l8 : List Go.Value) (B : Bx) (X : Xx) (k : List D → Prop) : rrM5 C L x0 x1 n2 x3 n4 c5 x6 l7 l8 B X k =
 (bcase (decide (x3 ≤ x1))
 (L 2 [(Prod.mk 1 (vI x0)), (Prod.mk 3 (Pt 1000 0)), (Prod.mk 8 (vI x1)), (Prod.mk 9 (Sl 1001 (n2) (n2))), (Prod.mk 10 (vI x3)), (Prod.mk 11 (Value.bool false)), (Prod.mk 12 (vI 0))] [(Prod.mk 1000 (AObj.cells [(Sl 500 (n4) (c5)), (vI x6)] 24 false 1)), (Prod.mk 1001 (AObj.sym (l7) true 1)), (Prod.mk 500 (AObj.sym (l8) false 1))])
 (X 0 [(Prod.mk 9 (Sl 1000 (n2) (n2)))] [(Prod.mk 1000 (AObj.sym (l7) true 1))])) := by kernel_rfl
abbrev zrM6 (x0 : Int) (x1 : Int) (n2 : Nat) (x3 : Int) (b4 : Bool) (x5 : Int) (n6 : Nat) (c7 : Nat) (x8 : Int) (l9 : List Value) (l10 : List Value) : Slots × Blocks := ([(1, (Value.int .i64 x0)), (3, (Value.pointer (some ⟨1000, 0, none⟩))), (8, (Value.int .i64 x1)), (9, (Value.slice (some ⟨1001, 0, none⟩) n2 n2)), (10, (Value.int .i64 x3)), (11, (Value.bool b4)), (12, (Value.int .i64 x5))], [(1000, (AObj.cells [(Value.slice (some ⟨500, 0, none⟩) n6 c7), (Value.int .i64 x8)] 24 false 1)), (1001, (AObj.sym l9 true 1)), (500, (AObj.sym l10 false 1))])
def rrM6 (C : Ct) (L : AtLoop) (x0 : Int) (x1 : Int) (n2 : Nat) (x3 : Int) (b4 : Bool) (x5 : Int) (n6 : Nat) (c7 : Nat) (x8 : Int) (l9 : List Value) (l10 : List Value) (B : Bx) (X : Xx) (k : List D → Prop) : Prop := jRound2 Try.prog (hM C) L [] 17 0 2 [(1, (Value.int .i64 x0)), (3, (Value.pointer (some ⟨1000, 0, none⟩))), (8, (Value.int .i64 x1)), (9, (Value.slice (some ⟨1001, 0, none⟩) n2 n2)), (10, (Value.int .i64 x3)), (11, (Value.bool b4)), (12, (Value.int .i64 x5))] [(1000, (AObj.cells [(Value.slice (some ⟨500, 0, none⟩) n6 c7), (Value.int .i64 x8)] 24 false 1)), (1001, (AObj.sym l9 true 1)), (500, (AObj.sym l10 false 1))] B X (dataK k)
theorem rrM6_text (C : Ct) (L : AtLoop) (x0 : Int) (x1 : Int) (n2 : Nat) (x3 : Int) (b4 : Bool) (x5 : Int) (n6 : Nat) (c7 : Nat) (x8 : Int) (l9 : List Go.Value) (l10 : List Go.Value) (B : Bx) (X : Xx) (k : List D → Prop) : rrM6 C L x0 x1 n2 x3 b4 x5 n6 c7 x8 l9 l10 B X k =
 (bcase (decide (x5 < (↑n6 : Int)))
 (bcase (b4)
 ((Qu ∧
 (Qu ∧
 (Qu ∧
 (Qu ∧
 (Qu ∧
 (Qu ∧
 (Qu ∧
 (Qu ∧
 (Qu ∧
 (Qu ∧
 (Qb ∧
 ((bcase (b4)
 Qb
 Qft) ∧
 True)))))))))))) ∧
 ((Qb ∧
 (Qu ∧
 (Qu ∧
 (Qu ∧
 (Qu ∧
 (Qu ∧
 (Qu ∧
 (Qu ∧
 (Qu ∧
 (Qu ∧
 (Qu ∧
 ((bcase (b4)
 Qb
 Qft) ∧
 True)))))))))))) ∧
 (True ∧
 (B [(Prod.mk 1 (vI x0)), (Prod.mk 3 (Pt 1000 0)), (Prod.mk 8 (vI x1)), (Prod.mk 9 (Sl 1001 (n2) (n2))), (Prod.mk 10 (vI x3)), (Prod.mk 11 (Value.bool true)), (Prod.mk 12 (vI (IntKind.wrap .i64 (x5 + 1))))] [(Prod.mk 1000 (AObj.cells [(Sl 500 (n6) (c7)), (vI x8)] 24 false 1)), (Prod.mk 1001 (AObj.sym (l9) true 1)), (Prod.mk 500 (AObj.sym (l10) false 1))]))))
 (bcase (decide (0 ≤ x5))
 (bcase (decide (x5 < (↑n6 : Int)))
 (∃ n1 : Int,
 ((At (l10) (0 + Int.toNat x5 * 1) 1 [(vI n1)]) ∧
 (((Qv (vI (IntKind.wrap .i64 (2 * x8)))) ∧
 ((Qv (vI x8)) ∧
 ((Qv (Pt 1000 1)) ∧
 ((Qv (vI (IntKind.wrap .i64 (n1 - x3)))) ∧
 ((Qv (vI x3)) ∧
 ((∃ n3 : Int,
 ((At (l10) (0 + Int.toNat x5 * 1) 1 [(vI n3)]) ∧
 ((vI n3) = (vI n1)))) ∧
 ((bcase (decide (0 ≤ x5))
 (bcase (decide (x5 < (↑n6 : Int)))
 (Qv (Pt 500 (0 + Int.toNat x5 * 1)))
 False)
 False) ∧
 ((Qv (vI x5)) ∧
 ((Qv (Sl 500 (n6) (c7))) ∧
 ((Qv (Pt 1000 0)) ∧
 (Qf ∧
 ((bcase (b4)
 Qtf
 Qf) ∧
 True)))))))))))) ∧
 (∃ n3 : Int,
 ((Says C 40 [(D.val (vI (IntKind.wrap .i64 (n1 - x3))))] [(D.val (vI n3))]) ∧
 (bcase (decide (n3 ≤ IntKind.wrap .i64 (2 * x8)))
 ((Qb ∧
 ((bcase (decide (n3 ≤ IntKind.wrap .i64 (2 * x8)))
 Qb
 Qft) ∧
 ((Qv (vI (IntKind.wrap .i64 (2 * x8)))) ∧
 ((Qv (vI x8)) ∧
 ((Qv (Pt 1000 1)) ∧
 ((Qv (vI x3)) ∧
 ((∃ n4 : Int,
 ((At (l10) (0 + Int.toNat x5 * 1) 1 [(vI n4)]) ∧
 ((vI n4) = (vI n1)))) ∧
 ((bcase (decide (0 ≤ x5))
 (bcase (decide (x5 < (↑n6 : Int)))
 (Qv (Pt 500 (0 + Int.toNat x5 * 1)))
 False)
 False) ∧
 ((Qv (vI x5)) ∧
 ((Qv (Sl 500 (n6) (c7))) ∧
 ((Qv (Pt 1000 0)) ∧
 ((bcase (b4)
 Qtf
 Qf) ∧
 True)))))))))))) ∧
 (True ∧
 (B [(Prod.mk 1 (vI x0)), (Prod.mk 3 (Pt 1000 0)), (Prod.mk 8 (vI x1)), (Prod.mk 9 (Sl 1001 (n2) (n2))), (Prod.mk 10 (vI x3)), (Prod.mk 11 (Value.bool true)), (Prod.mk 12 (vI (IntKind.wrap .i64 (x5 + 1))))] [(Prod.mk 1000 (AObj.cells [(Sl 500 (n6) (c7)), (vI x8)] 24 false 1)), (Prod.mk 1001 (AObj.sym (l9) true 1)), (Prod.mk 500 (AObj.sym (l10) false 1))])))
 ((Qf ∧
 ((bcase (decide (n3 ≤ IntKind.wrap .i64 (2 * x8)))
 Qtf
 Qf) ∧
 ((Qv (vI (IntKind.wrap .i64 (2 * x8)))) ∧
 ((Qv (vI x8)) ∧
 ((Qv (Pt 1000 1)) ∧
 ((Qv (vI x3)) ∧
 ((∃ n4 : Int,
 ((At (l10) (0 + Int.toNat x5 * 1) 1 [(vI n4)]) ∧
 ((vI n4) = (vI n1)))) ∧
 ((bcase (decide (0 ≤ x5))
 (bcase (decide (x5 < (↑n6 : Int)))
 (Qv (Pt 500 (0 + Int.toNat x5 * 1)))
 False)
 False) ∧
 ((Qv (vI x5)) ∧
 ((Qv (Sl 500 (n6) (c7))) ∧
 ((Qv (Pt 1000 0)) ∧
 ((bcase (b4)
 Qtf
 Qf) ∧
 True)))))))))))) ∧
 (True ∧
 (B [(Prod.mk 1 (vI x0)), (Prod.mk 3 (Pt 1000 0)), (Prod.mk 8 (vI x1)), (Prod.mk 9 (Sl 1001 (n2) (n2))), (Prod.mk 10 (vI x3)), (Prod.mk 11 (Value.bool false)), (Prod.mk 12 (vI (IntKind.wrap .i64 (x5 + 1))))] [(Prod.mk 1000 (AObj.cells [(Sl 500 (n6) (c7)), (vI x8)] 24 false 1)), (Prod.mk 1001 (AObj.sym (l9) true 1)), (Prod.mk 500 (AObj.sym (l10) false 1))])))))))))
 False)
 False))
 (X 2 [(Prod.mk 1 (vI x0)), (Prod.mk 3 (Pt 1000 0)), (Prod.mk 8 (vI x1)), (Prod.mk 9 (Sl 1001 (n2) (n2))), (Prod.mk 10 (vI x3)), (Prod.mk 11 (Value.bool (b4)))] [(Prod.mk 1000 (AObj.cells [(Sl 500 (n6) (c7)), (vI x8)] 24 false 1)), (Prod.mk 1001 (AObj.sym (l9) true 1)), (Prod.mk 500 (AObj.sym (l10) false 1))])) := by kernel_rfl
def nrM7 (C : Ct) (L : AtLoop) (n0 : Nat) (l1 : List Value) (k : List D → Prop) : Prop := jNext Try.prog (hM C) L [] 17 0 .normal [(9, (Value.slice (some ⟨1000, 0, none⟩) n0 n0))] [(1000, (AObj.sym l1 true 1))] (dataK k)
theorem nrM7_text (C : Ct) (L : AtLoop) (n0 : Nat) (l1 : List Go.Value) (k : List D → Prop) : nrM7 C L n0 l1 k =
 (((Qv (n0)) ∧
 ((List.length l1) = (n0 * 1))) ∧
 (k [(D.sl (n0) 1 (l1))])) := by kernel_rfl
def irM8 (C : Ct) (L : AtLoop) (x0 : Int) (x1 : Int) (n2 : Nat) (x3 : Int) (b4 : Bool) (n5 : Nat) (c6 : Nat) (x7 : Int) (l8 : List Value) (l9 : List Value) (B : Bx) (X : Xx) (k : List D → Prop) : Prop := jIn Try.prog (hM C) L [] 17 0 2 .normal [(1, (Value.int .i64 x0)), (3, (Value.pointer (some ⟨1000, 0, none⟩))), (8, (Value.int .i64 x1)), (9, (Value.slice (some ⟨1001, 0, none⟩) n2 n2)), (10, (Value.int .i64 x3)), (11, (Value.bool b4))] [(1000, (AObj.cells [(Value.slice (some ⟨500, 0, none⟩) n5 c6), (Value.int .i64 x7)] 24 false 1)), (1001, (AObj.sym l8 true 1)), (500, (AObj.sym l9 false 1))] B X (dataK k)
theorem irM8_text (C : Ct) (L : AtLoop) (x0 : Int) (x1 : Int) (n2 : Nat) (x3 : Int) (b4 : Bool) (n5 : Nat) (c6 : Nat) (x7 : Int) (l8 : List Go.Value) (l9 : List Go.Value) (B : Bx) (X : Xx) (k : List D → Prop) : irM8 C L x0 x1 n2 x3 b4 n5 c6 x7 l8 l9 B X k =
 (bcase (b4)
 (B [(Prod.mk 1 (vI x0)), (Prod.mk 3 (Pt 1000 0)), (Prod.mk 8 (vI x1)), (Prod.mk 9 (Sl 1001 (n2) (n2))), (Prod.mk 10 (vI (IntKind.wrap .i64 (x3 + x0))))] [(Prod.mk 1000 (AObj.cells [(Sl 500 (n5) (c6)), (vI x7)] 24 false 1)), (Prod.mk 1001 (AObj.sym (l8) true 1)), (Prod.mk 500 (AObj.sym (l9) false 1))])
 (bcase (decide (n2 < n2 + 1))
 (bcase (decide ((2 * (n2 + 1) + 768) * 8 ≤ 281474976710656))
 (bcase (decide (n2 + 1 ≤ 1099511627776))
 (bcase (decide (0 + n2 * 1 ≤ List.length l8))
 (bcase (decide (0 + n2 * 1 = List.length l8))
 (B [(Prod.mk 1 (vI x0)), (Prod.mk 3 (Pt 1000 0)), (Prod.mk 8 (vI x1)), (Prod.mk 9 (Sl 1001 (n2 + 1) (n2 + 1))), (Prod.mk 10 (vI (IntKind.wrap .i64 (x3 + x0))))] [(Prod.mk 1000 (AObj.cells [(Sl 500 (n5) (c6)), (vI x7)] 24 false 1)), (Prod.mk 1001 (AObj.sym ((List.take (n2 * 1) (List.drop 0 l8)) ++ [(vI x3)]) true 1)), (Prod.mk 500 (AObj.sym (l9) false 1))])
 False)
 False)
 False)
 False)
 False)) := by kernel_rfl
def gcM (C : Ct) (L : AtLoop) (n0 : Nat) (c0 : Nat) (l0 : List Value) (x1 : Int) (k : List D → Prop) : Prop := wpFn Try.prog (hE C) L 0 9 #[.agg #[.slice (some ⟨500, 0, none⟩) n0 c0, .int .i64 x1]] (heapOf [(500, .sym l0 false 1)]) (dataK k)
theorem gcM_text (C : Ct) (L : AtLoop) (n0 : Nat) (c0 : Nat) (l0 : List Go.Value) (x1 : Int) (k : List D → Prop) : gcM C L n0 c0 l0 x1 k =
 (bcase (decide (0 + n0 * 1 ≤ List.length l0))
 (bcase (n0 == 0)
 (((0 = 0) ∧
 (0 = 0)) ∧
 (k [(D.agg [(D.sl 0 1 []), (D.val (vI x1))])]))
 (bcase (decide (0 < 0 + n0))
 (bcase (decide ((2 * (0 + n0) + 768) * 8 ≤ 281474976710656))
 (bcase (decide (0 + n0 ≤ 1099511627776))
 (((Qv (0 + n0)) ∧
 ((List.length (List.take 0 (List.drop 0 []) ++ List.take (n0 * 1) (List.drop 0 l0))) = ((0 + n0) * 1))) ∧
 (k [(D.agg [(D.sl (0 + n0) 1 ([] ++ (List.take (n0 * 1) (List.drop 0 l0)))), (D.val (vI x1))])]))
 False)
 False)
 False))
 False) := by kernel_rfl
def gcMn (C : Ct) (L : AtLoop) (x1 : Int) (k : List D → Prop) : Prop := wpFn Try.prog (hE C) L 0 9 #[.agg #[.slice none 0 0, .int .i64 x1]] (heapOf []) (dataK k)
theorem gcMn_text (C : Ct) (L : AtLoop) (x1 : Int) (k : List D → Prop) : gcMn C L x1 k =
 (((0 = 0) ∧
 (0 = 0)) ∧
 (k [(D.agg [(D.sl 0 1 []), (D.val (vI x1))])])) := by kernel_rfl
def gFE (C : Ct) (L : AtLoop) (n0 : Nat) (c0 : Nat) (l0 : List Value) (k : List D → Prop) : Prop := wpFn Try.prog (hE C) L 0 61 #[.slice (some ⟨500, 0, none⟩) n0 c0] (heapOf [(500, .sym l0 false 1)]) (dataK k)
theorem gFE_text (C : Ct) (L : AtLoop) (n0 : Nat) (c0 : Nat) (l0 : List Go.Value) (k : List D → Prop) : gFE C L n0 c0 l0 k =
 (L 0 [(Prod.mk 5 (Sl 500 (n0) (c0))), (Prod.mk 6 (vI ((↑n0 : Int)))), (Prod.mk 7 (vI 0))] [(Prod.mk 500 (AObj.sym (l0) false 1))]) := by kernel_rfl
abbrev zFE1 (n0 : Nat) (c1 : Nat) (x2 : Int) (x3 : Int) (l4 : List Value) : Slots × Blocks := ([(5, (Value.slice (some ⟨500, 0, none⟩) n0 c1)), (6, (Value.int .i64 x2)), (7, (Value.int .i64 x3))], [(500, (AObj.sym l4 false 1))])
def rFE1 (C : Ct) (L : AtLoop) (n0 : Nat) (c1 : Nat) (x2 : Int) (x3 : Int) (l4 : List Value) (B : Bx) (X : Xx) (k : List D → Prop) : Prop := wpRound Try.prog (hE C) L 61 0 [(5, (Value.slice (some ⟨500, 0, none⟩) n0 c1)), (6, (Value.int .i64 x2)), (7, (Value.int .i64 x3))] [(500, (AObj.sym l4 false 1))] B X (dataK k)
theorem rFE1_text (C : Ct) (L : AtLoop) (n0 : Nat) (c1 : Nat) (x2 : Int) (x3 : Int) (l4 : List Go.Value) (B : Bx) (X : Xx) (k : List D → Prop) : rFE1 C L n0 c1 x2 x3 l4 B X k =
 (bcase (decide (x3 < x2))
 (bcase (decide (0 ≤ x3))
 (bcase (decide (x3 < (↑n0 : Int)))
 (∃ n1 : Int,
 ((At (l4) (0 + Int.toNat x3 * 1) 1 [(vI n1)]) ∧
 (bcase (n1 != 0)
 (k [(D.val (vI n1))])
 (B [(Prod.mk 5 (Sl 500 (n0) (c1))), (Prod.mk 6 (vI x2)), (Prod.mk 7 (vI (IntKind.wrap .i64 (x3 + 1))))] [(Prod.mk 500 (AObj.sym (l4) false 1))]))))
 False)
 False)
 (X 0 [] [])) := by kernel_rfl
def nFE2 (C : Ct) (L : AtLoop) (k : List D → Prop) : Prop := wpNext Try.prog (hE C) L 61 0 .normal [] [] (dataK k)
theorem nFE2_text (C : Ct) (L : AtLoop) (k : List D → Prop) : nFE2 C L k =
 (k [(D.val (vI 0))]) := by kernel_rfl
end Go.Proofs.G5r

/- The evaluator with a table: calls whose outcome on some data is known are not entered. -/
namespace Go.Abs
open Go.RowKit
variable {P : Program} {ρ : Ren} {w0 : Start P} {w : World} {H : Heap}

/-! ### Data of values, computed -/
def readCO (H : Heap) : List Value → Option (List D)
  | [] => some []
  | v :: r =>
    match v with
    | .slice none 0 0 => (readCO H r).map (.nil :: ·)
    | .slice (some ⟨i, o, none⟩) len _ =>
      match H.get i with
      | some (.sym cs _ es) => if o + len * es ≤ cs.length then (readCO H r).map (.sl len es ((cs.drop o).take (len * es)) :: ·) else none
      | some (.cells cs _ _ es) => if o + len * es ≤ cs.length then (if ((cs.drop o).take (len * es)).all cellP then (readCO H r).map (.sl len es ((cs.drop o).take (len * es)) :: ·) else none) else none
      | _ => none
    | v => if plain 8 v then (readCO H r).map (.val v :: ·) else none
def readVO (H : Heap) : List Value → Option (List D)
  | [] => some []
  | .agg cs :: r => (readCO H cs.toList).bind fun ds => (readVO H r).map (.agg ds :: ·)
  | v :: r => (readCO H [v]).bind fun ds => (readVO H r).map (ds ++ ·)
theorem readCO_ok : ∀ {l : List Value} {ds : List D}, readCO H l = some ds → ∀ k : List D → Prop, k ds → readCells H l k
  | [], ds, h, k, hk => by
    simp only [readCO, Option.some.injEq] at h; subst h; exact hk
  | v :: r, ds, h, k, hk => by
    unfold readCO at h
    unfold readCells
    split at h
    · obtain ⟨x, hx, rfl⟩ := Option.map_eq_some_iff.1 h
      exact readCO_ok hx _ hk
    · simp only
      split at h
      · rename_i hg
        simp only [hg]
        split at h
        · rename_i hle
          obtain ⟨x, hx, rfl⟩ := Option.map_eq_some_iff.1 h
          exact bcase_intro (fun _ => readCO_ok hx _ hk) (fun hf => absurd hle (of_decide_eq_false hf))
        · cases h
      · rename_i hg
        simp only [hg]
        split at h
        · rename_i hle
          split at h
          · rename_i hall
            obtain ⟨x, hx, rfl⟩ := Option.map_eq_some_iff.1 h
            exact bcase_intro (fun _ => bcase_intro (fun _ => readCO_ok hx _ hk) (fun hf => by rw [hall] at hf; cases hf)) (fun hf => absurd hle (of_decide_eq_false hf))
          · cases h
        · cases h
      · cases h
    · rename_i h1 h2
      split
      · exact absurd rfl h1
      · exact absurd rfl (h2 _ _ _ _)
      · split at h
        · rename_i hp
          obtain ⟨x, hx, rfl⟩ := Option.map_eq_some_iff.1 h
          rw [if_pos hp]
          exact readCO_ok hx _ hk
        · cases h
theorem readVO_ok : ∀ {l : List Value} {ds : List D}, readVO H l = some ds → ∀ k : List D → Prop, k ds → readVals H l k
  | [], ds, h, k, hk => by
    simp only [readVO, Option.some.injEq] at h; subst h; exact hk
  | v :: r, ds, h, k, hk => by
    unfold readVO at h
    unfold readVals
    split at h
    · rename_i e; cases e
    · rename_i e; cases e
      obtain ⟨x, hx, h⟩ := Option.bind_eq_some_iff.1 h
      obtain ⟨y, hy, rfl⟩ := Option.map_eq_some_iff.1 h
      exact readCO_ok hx _ (readVO_ok hy _ hk)
    · rename_i h1 e; cases e
      obtain ⟨x, hx, h⟩ := Option.bind_eq_some_iff.1 h
      obtain ⟨y, hy, rfl⟩ := Option.map_eq_some_iff.1 h
      split
      · rename_i e; cases e
      · rename_i e; cases e; exact absurd rfl (h1 _)
      · rename_i e; cases e
        exact readCO_ok hx _ (readVO_ok hy _ hk)

/-! ### Data laid, computed -/
def layCO : List D → Heap → Option (List Value × Heap)
  | [], H => some ([], H)
  | .nil :: r, H => (layCO r H).map fun x => (.slice none 0 0 :: x.1, x.2)
  | .sl n es cs :: r, H => (layCO r (H.new (.sym cs true es))).map fun x => (.slice (some ⟨H.next, 0, none⟩) n n :: x.1, x.2)
  | .val v :: r, H => match v with
    | .agg _ => none
    | v => (layCO r H).map fun x => (v :: x.1, x.2)
  | .agg _ :: _, _ => none
def layVO : List D → Heap → Option (List Value × Heap)
  | [], H => some ([], H)
  | .agg ds :: r, H => (layCO ds H).bind fun x => (layVO r x.2).map fun y => (.agg x.1.toArray :: y.1, y.2)
  | d :: r, H => (layCO [d] H).bind fun x => match x.1 with
    | [v] => (layVO r x.2).map fun y => (v :: y.1, y.2)
    | _ => none
theorem layCO_ok : ∀ {ds : List D} {H : Heap} {x : List Value × Heap}, layCO ds H = some x → ∀ k : List Value → Heap → Prop, k x.1 x.2 → layC ds H k
  | [], H, x, h, k, hk => by
    simp only [layCO, Option.some.injEq] at h; subst h; exact hk
  | .nil :: r, H, x, h, k, hk => by
    obtain ⟨y, hy, rfl⟩ := Option.map_eq_some_iff.1 h
    exact layCO_ok hy _ hk
  | .sl n es cs :: r, H, x, h, k, hk => by
    obtain ⟨y, hy, rfl⟩ := Option.map_eq_some_iff.1 h
    exact layCO_ok hy _ hk
  | .val v :: r, H, x, h, k, hk => by
    unfold layCO at h
    unfold layC
    split at h
    · cases h
    · rename_i hv
      obtain ⟨y, hy, rfl⟩ := Option.map_eq_some_iff.1 h
      first
        | exact layCO_ok hy _ hk
        | (split
           · exact absurd rfl (hv _)
           · exact layCO_ok hy _ hk)
  | .agg _ :: _, H, x, h, k, hk => by cases h
theorem layVO_ok : ∀ {ds : List D} {H : Heap} {x : List Value × Heap}, layVO ds H = some x → ∀ k : List Value → Heap → Prop, k x.1 x.2 → layV ds H k
  | [], H, x, h, k, hk => by
    simp only [layVO, Option.some.injEq] at h; subst h; exact hk
  | d :: r, H, x, h, k, hk => by
    unfold layVO at h
    unfold layV
    split at h
    · rename_i e; cases e
    · rename_i e; cases e
      obtain ⟨y, hy, h⟩ := Option.bind_eq_some_iff.1 h
      obtain ⟨z, hz, rfl⟩ := Option.map_eq_some_iff.1 h
      exact layCO_ok hy _ (layVO_ok hz _ hk)
    · rename_i h1 e; cases e
      obtain ⟨y, hy, h⟩ := Option.bind_eq_some_iff.1 h
      split at h
      · rename_i he
        obtain ⟨z, hz, rfl⟩ := Option.map_eq_some_iff.1 h
        split
        · rename_i e; cases e
        · rename_i e; cases e; exact absurd rfl (h1 _)
        · rename_i e; cases e
          refine layCO_ok hy _ ?_
          simp only [he]
          exact layVO_ok hz _ hk
      · cases h

/-! ### Data given, computed -/
def giveCO (H : Heap) : List Nat → List Value → Option (List Nat × List D)
  | used, [] => some (used, [])
  | used, v :: r =>
    match v with
    | .slice none 0 0 => (giveCO H used r).map fun x => (x.1, .nil :: x.2)
    | .slice (some ⟨i, 0, none⟩) len cap =>
      if gbase ≤ i ∧ used.contains i = false then
        match H.get i with
        | some (.sym cs true es) => if len = cap ∧ cs.length = len * es then (giveCO H (i :: used) r).map fun x => (x.1, .sl len es cs :: x.2) else none
        | some (.cells cs _ _ es) => if len = cap ∧ cs.length = len * es then (if cs.all cellP then (giveCO H (i :: used) r).map fun x => (x.1, .sl len es cs :: x.2) else none) else none
        | _ => none
      else none
    | v => if plain 8 v then (giveCO H used r).map fun x => (x.1, .val v :: x.2) else none
def giveVO (H : Heap) : List Nat → List Value → Option (List D)
  | _, [] => some []
  | used, .agg cs :: r => (giveCO H used cs.toList).bind fun x => (giveVO H x.1 r).map (.agg x.2 :: ·)
  | used, v :: r => (giveCO H used [v]).bind fun x => (giveVO H x.1 r).map (x.2 ++ ·)
def giveO (v : Value) (H : Heap) : Option (List D) :=
  match v with
  | .tuple vs => if vs.size = 1 then none else giveVO H [] vs.toList
  | v => giveVO H [] [v]
theorem giveCO_ok : ∀ {l : List Value} {used : List Nat} {x : List Nat × List D}, giveCO H used l = some x → ∀ k : List Nat → List D → Prop, k x.1 x.2 → giveCells H used l k
  | [], used, x, h, k, hk => by
    simp only [giveCO, Option.some.injEq] at h; subst h; exact hk
  | v :: r, used, x, h, k, hk => by
    unfold giveCO at h
    unfold giveCells
    split at h
    · obtain ⟨y, hy, rfl⟩ := Option.map_eq_some_iff.1 h
      exact giveCO_ok hy _ hk
    · simp only
      split at h
      · rename_i hc
        rw [if_pos hc]
        split at h
        · rename_i hg
          simp only [hg]
          split at h
          · rename_i hl
            obtain ⟨y, hy, rfl⟩ := Option.map_eq_some_iff.1 h
            exact ⟨hl, giveCO_ok hy _ hk⟩
          · cases h
        · rename_i hg
          simp only [hg]
          split at h
          · rename_i hl
            split at h
            · rename_i hall
              obtain ⟨y, hy, rfl⟩ := Option.map_eq_some_iff.1 h
              exact ⟨hl, bcase_intro (fun _ => giveCO_ok hy _ hk) (fun hf => by rw [hall] at hf; cases hf)⟩
            · cases h
          · cases h
        · cases h
      · cases h
    · rename_i h1 h2
      split
      · exact absurd rfl h1
      · exact absurd rfl (h2 _ _ _)
      · split at h
        · rename_i hp
          obtain ⟨y, hy, rfl⟩ := Option.map_eq_some_iff.1 h
          rw [if_pos hp]
          exact giveCO_ok hy _ hk
        · cases h
theorem giveVO_ok : ∀ {l : List Value} {used : List Nat} {ds : List D}, giveVO H used l = some ds → ∀ k : List D → Prop, k ds → giveVals H used l k
  | [], used, ds, h, k, hk => by
    simp only [giveVO, Option.some.injEq] at h; subst h; exact hk
  | v :: r, used, ds, h, k, hk => by
    unfold giveVO at h
    unfold giveVals
    split at h
    · rename_i e; cases e
    · rename_i e; cases e
      obtain ⟨x, hx, h⟩ := Option.bind_eq_some_iff.1 h
      obtain ⟨y, hy, rfl⟩ := Option.map_eq_some_iff.1 h
      exact giveCO_ok hx _ (giveVO_ok hy _ hk)
    · rename_i h1 e; cases e
      obtain ⟨x, hx, h⟩ := Option.bind_eq_some_iff.1 h
      obtain ⟨y, hy, rfl⟩ := Option.map_eq_some_iff.1 h
      split
      · rename_i e; cases e
      · rename_i e; cases e; exact absurd rfl (h1 _)
      · rename_i e; cases e
        exact giveCO_ok hx _ (giveVO_ok hy _ hk)
theorem giveO_ok {v : Value} {ds : List D} (h : giveO v H = some ds) : dataK (· = ds) v H := by
  unfold giveO at h
  unfold dataK
  split at h
  · split at h
    · cases h
    · rename_i hs
      simp only [if_neg hs]
      exact giveVO_ok h _ rfl
  · rename_i hn
    split
    · exact absurd rfl (hn _)
    · exact giveVO_ok h _ rfl

/-! ### Data compared -/
def cEq : Value → Value → Bool
  | .int j a, .int k b => j == k && a == b
  | .bool a, .bool b => a == b
  | .string a, .string b => a.data.toList == b.data.toList
  | _, _ => false
def csEq : List Value → List Value → Bool
  | [], [] => true
  | a :: xs, b :: bs => cEq a b && csEq xs bs
  | _, _ => false
def d1Eq : D → D → Bool
  | .nil, .nil => true
  | .val a, .val b => cEq a b
  | .sl n es cs, .sl m fs bs => n == m && es == fs && csEq cs bs
  | _, _ => false
def d2Eq : List D → List D → Bool
  | [], [] => true
  | a :: xs, b :: bs => d1Eq a b && d2Eq xs bs
  | _, _ => false
def dEq : D → D → Bool
  | .agg a, .agg b => d2Eq a b
  | a, b => d1Eq a b
def dsEq : List D → List D → Bool
  | [], [] => true
  | a :: xs, b :: bs => dEq a b && dsEq xs bs
  | _, _ => false
theorem cEq_ok : ∀ {a b : Value}, cEq a b = true → a = b := by
  intro a b h
  unfold cEq at h
  split at h
  · simp only [Bool.and_eq_true, beq_iff_eq] at h; rw [h.1, h.2]
  · rw [eq_of_beq h]
  · rename_i x y
    have e := eq_of_beq h
    obtain ⟨x⟩ := x
    obtain ⟨y⟩ := y
    have : x = y := Array.ext' e
    rw [this]
  · cases h
theorem csEq_ok : ∀ {a b : List Value}, csEq a b = true → a = b
  | [], [], _ => rfl
  | a :: xs, b :: bs, h => by
    simp only [csEq, Bool.and_eq_true] at h
    rw [cEq_ok h.1, csEq_ok h.2]
  | [], _ :: _, h => by cases h
  | _ :: _, [], h => by cases h
theorem d1Eq_ok {a b : D} (h : d1Eq a b = true) : a = b := by
  unfold d1Eq at h
  split at h
  · rfl
  · rw [cEq_ok h]
  · simp only [Bool.and_eq_true, beq_iff_eq] at h
    rw [h.1.1, h.1.2, csEq_ok h.2]
  · cases h
theorem d2Eq_ok : ∀ {a b : List D}, d2Eq a b = true → a = b
  | [], [], _ => rfl
  | a :: xs, b :: bs, h => by
    simp only [d2Eq, Bool.and_eq_true] at h
    rw [d1Eq_ok h.1, d2Eq_ok h.2]
  | [], _ :: _, h => by cases h
  | _ :: _, [], h => by cases h
theorem dEq_ok {a b : D} (h : dEq a b = true) : a = b := by
  unfold dEq at h
  split at h
  · rw [d2Eq_ok h]
  · exact d1Eq_ok h
theorem dsEq_ok : ∀ {a b : List D}, dsEq a b = true → a = b
  | [], [], _ => rfl
  | a :: xs, b :: bs, h => by
    simp only [dsEq, Bool.and_eq_true] at h
    rw [dEq_ok h.1, dsEq_ok h.2]
  | [], _ :: _, h => by cases h
  | _ :: _, [], h => by cases h

/-! ### The evaluator with a table -/
abbrev Tab := FuncId → Option (List D → Option (List D))
/-- (a list of what is known) -/
def tabLook : List (List D × List D) → List D → Option (List D)
  | [], _ => none
  | p :: r, ds => if dsEq p.1 ds then some p.2 else tabLook r ds
theorem tabLook_ok : ∀ {t : List (List D × List D)} {ds rs : List D}, tabLook t ds = some rs → (ds, rs) ∈ t
  | [], _, _, h => by cases h
  | p :: r, ds, rs, h => by
    unfold tabLook at h
    split at h
    · rename_i he
      simp only [Option.some.injEq] at h
      rw [← dsEq_ok he, ← h]
      exact List.mem_cons_self ..
    · exact List.mem_cons_of_mem _ (tabLook_ok h)
def tabCall (t : List D → Option (List D)) (args : Array Value) (H : Heap) : Option (Value × Heap) :=
  (readVO H args.toList).bind fun ds => (t ds).bind fun rs => (layVO rs H).map fun x => (tupleOf x.1, x.2)
def evalT (P : Program) (tab : Tab) : Nat → Self
  | 0 => ⟨fun _ _ _ => none, fun _ _ _ _ => none⟩
  | n + 1 => ⟨fun f args H => match tab f with | none => callBody P (evalT P tab n) f args H | some t => tabCall t args H, fun round c A H => codeA P (evalT P tab n) round c A H⟩
def TabOK (P : Program) (tab : Tab) : Prop := ∀ f t, tab f = some t → ∀ ds rs, t ds = some rs → Con P f ds rs
theorem tabCall_sound {f : FuncId} {t : List D → Option (List D)} (ht : ∀ ds rs, t ds = some rs → Con P f ds rs) {args : Array Value} {v : Value} {H' : Heap} (h : tabCall t args H = some (v, H')) : CallH P f args H (fun u K => u = v ∧ K = H') := by
  obtain ⟨ds, h1, h⟩ := Option.bind_eq_some_iff.1 h
  obtain ⟨rs, h2, h⟩ := Option.bind_eq_some_iff.1 h
  obtain ⟨x, h3, h⟩ := Option.map_eq_some_iff.1 h
  simp only [Prod.mk.injEq] at h
  obtain ⟨rfl, rfl⟩ := h
  refine wpFix_call (C := fun g ds rs => g = f ∧ t ds = some rs ∨ Con P g ds rs) (fun g ds rs hc => ?_) (fix := t) ?_
  · rcases hc with ⟨rfl, hm⟩ | hc
    · exact ht _ _ hm
    · exact hc
  · unfold wpFix
    refine readVO_ok h1 _ ?_
    simp only [h2]
    exact ⟨⟨.inl ⟨rfl, h2⟩⟩, layVO_ok h3 _ ⟨rfl, rfl⟩⟩
theorem evalT_sound {tab : Tab} (htab : TabOK P tab) (hmix : P.follows .mixedOrders = true) : ∀ n, SelfS P w0 (evalT P tab n)
  | 0 => ⟨fun n _ _ h => by simp [evalT] at h, fun n _ _ _ h => by simp [evalT] at h, fun n _ _ _ h => by simp [evalT] at h⟩
  | k + 1 => ⟨fun {ρ H w f args args' v H'} n g ha h => by
      simp only [evalT] at h
      split at h
      · exact callBody_sound (evalT_sound htab hmix k) g n ha h
      · rename_i t ht
        refine (tabCall_sound (htab f t ht) h w0 ρ w args' n g ha).mono ?_
        rintro e w' ⟨u, K, ρ', v', ⟨rfl, rfl⟩, h1, h2, h3, h4⟩
        exact ⟨ρ', v', h1, h2, h3, h4⟩, fun n g rr ra h => codeA_sound (evalT_sound htab hmix k) hmix n _ g rr ra h,
      fun n g rr ra h => loopIn_once (loop_body (evalT_sound htab hmix k) n _ (fun g rr ra h => codeA_sound (evalT_sound htab hmix k) hmix n _ g rr ra h) g rr ra h)⟩
/-- A call of known data is run. -/
def runOK (P : Program) (tab : Tab) (n : Nat) (f : FuncId) (ds rs : List D) (caps : Nat → Nat) : Bool :=
  match (evalT P tab n).call f (layVals caps 500 ds).1.toArray (heapOf (layVals caps 500 ds).2) with
  | some (v, H) => (match giveO v H with | some rs' => dsEq rs' rs | none => false)
  | none => false
theorem con_run {tab : Tab} (htab : TabOK P tab) (hmix : P.follows .mixedOrders = true) {n : Nat} {f : FuncId} {ds rs : List D} (hcount : countV ds ≤ 400) (h : ∀ caps, runOK P tab n f ds rs caps = true) : Con P f ds rs := by
  intro w args hgood hr
  obtain ⟨caps, ρ, hst, g, ha⟩ := lay_gam hgood hr hcount
  have h := h caps
  unfold runOK at h
  split at h
  · rename_i v H hc
    split at h
    · rename_i rs' hg
      have e := dsEq_ok h
      subst e
      refine callsIn_wide.1 (((evalT_sound htab hmix n).call 0 g (by simpa using ha) hc).mono ?_)
      rintro e w' ⟨ρ', v', rfl, hv, g', ext'⟩
      obtain ⟨vs, ds', u, rfl, h1, rfl⟩ := dataK_out g' hst hv (giveO_ok hg)
      exact ⟨⟨vs, u, rfl, h1⟩, g'.below.below hst⟩
    · cases h
  · cases h
end Go.Abs

/- Numbers: greatest divisors, quotients rounded down, fractions in lowest terms. -/
namespace Go.Abs
theorem natAbs_tmod (a b : Int) : (a.tmod b).natAbs = a.natAbs % b.natAbs := Int.natAbs_tmod a b
end Go.Abs

/- Fractions in lowest terms: their parts, and how they compare. -/
namespace Go.Abs
/-- a fraction in lowest terms -/
def low (n d : Int) : Int × Int := if d < 0 then ((0 - n).tdiv (Int.gcd n d), (0 - d).tdiv (Int.gcd n d)) else (n.tdiv (Int.gcd n d), d.tdiv (Int.gcd n d))
end Go.Abs

/- Chapter 6, marks: small functions, in data. -/
namespace Go.Proofs.G5r
open Go Go.Abs Go.Proofs
set_option maxRecDepth 100000
theorem mixed : Try.prog.follows .mixedOrders = true := by kernel_rfl
abbrev C5 : FuncId → List D → List D → Prop := Con Try.prog
abbrev dI (a : Int) : D := .val (.int .i64 a)
abbrev dB (b : Bool) : D := .val (.bool b)
theorem hokE : HandlerOK Try.prog (hE C5) := handlerX_ok mixed (fun g h he => by cases he) (by decide) 6
theorem ite_so {c : Prop} [Decidable c] {α : Type} {x h : α} {r : Option α} (e : (if c then some x else r) = some h) : (c ∧ x = h) ∨ r = some h := by
  by_cases hc : c
  · rw [if_pos hc] at e; exact .inl ⟨hc, Option.some.inj e⟩
  · rw [if_neg hc] at e; exact .inr e
theorem preMOK : PreOK Try.prog (preM C5) := by
  intro g h he args ats H k hk
  unfold preM at he
  rcases ite_so he with ⟨_, rfl⟩ | he
  · exact freshNH_ok hk
  rcases ite_so he with ⟨_, rfl⟩ | he
  · exact fixH_ok (fun _ _ _ h => h) _ _ _ _ _ hk
  rcases ite_so he with ⟨_, rfl⟩ | he
  · exact fixH_ok (fun _ _ _ h => h) _ _ _ _ _ hk
  rcases ite_so he with ⟨_, rfl⟩ | he
  · exact saidH_ok (fun _ _ _ h => h) _ _ _ _ _ hk
  · cases he
theorem hokM : HandlerOK Try.prog (hM C5) := handlerX_ok mixed preMOK (by decide) 6
def fst0 : List Int → Int
  | [] => 0
  | a :: r => if a = 0 then fst0 r else a
theorem v1le (l : List Int) : 0 + l.length * 1 ≤ (vi l).length := by simp
theorem bc_nf {a : Int} {x y : Prop} : bcase (a != a) x y = y := by rw [show (a != a) = false by simp]; rfl
theorem bc_qt {a : Int} {x y : Prop} : bcase (a == a) x y = x := by rw [show (a == a) = true by simp]; rfl
theorem bc_q {a b : Int} {x y : Prop} (h : a ≠ b) : bcase (a == b) x y = y := by rw [show (a == b) = false by simpa using h]; rfl
theorem conFE (l : List Int) (hlen : l.length < 1000000000) : C5 61 [.sl l.length 1 (vi l)] [dI (fst0 l)] := by
  let inv : Nat × Nat → Prop := fun x => x.1 ≤ l.length ∧ fst0 l = fst0 (l.drop x.1)
  let st : Nat × Nat → Slots × Blocks := fun x => zFE1 l.length x.2 l.length x.1 (vi l)
  refine con_of (L := fun _ s b => ∃ x, inv x ∧ st x = (s, b)) hokE mixed Try.func61 rfl (by show 1 ≤ 400; omega) rfl (ids := [0]) (by kernel_rfl) rfl (fun caps => ?_) (fun id hid => ?_)
  · show gFE _ _ l.length (caps 500) (vi l) _
    rw [gFE_text]
    exact ⟨(0, caps 500), ⟨by simp, rfl⟩, rfl⟩
  · obtain rfl := List.mem_singleton.1 hid
    refine ⟨Nat × Nat, st, inv, fun x => l.length - x.1, ⟨fun s b h => h, by kernel_rfl, ?_⟩⟩
    rintro ⟨i, cap⟩ ⟨hi, hr⟩
    simp only at hi hr
    show rFE1 _ _ l.length cap l.length i (vi l) _ _ _
    rw [rFE1_text]
    refine bc_dec (fun h => ?_) (fun h => ?_)
    · have hi' : i < l.length := by omega
      rw [List.drop_eq_getElem_cons hi', fst0] at hr
      simp only [bc_t h, bc_t (show (0 : Int) ≤ (i : Int) by omega), Int.toNat_natCast, at1 (vi_at l i hi')]
      refine bc_bne (fun hc => ?_) (fun hc => ?_)
      · rw [if_neg hc] at hr
        show [dI l[i]] = [dI (fst0 l)]
        rw [hr]
      · rw [if_pos hc] at hr
        refine ⟨(i + 1, cap), ⟨by show i + 1 ≤ l.length; omega, hr⟩, by show l.length - (i + 1) < l.length - i; omega, ?_⟩
        rw [w64 (by omega) (by omega)]; rfl
    · show (if 0 = 0 then _ else _)
      rw [if_pos rfl]
      show nFE2 _ _ _
      rw [nFE2_text]
      have : i = l.length := by omega
      rw [this, List.drop_length] at hr
      show [dI 0] = [dI (fst0 l)]
      rw [hr]; rfl
theorem conWj (a b c : Int) : C5 24 [dI a, dI b, dI c] [.val (.bool (decide (b ≤ a ∧ a ≤ c)))] := by
  refine con_flat hokE mixed Try.func24 rfl (by show 0 ≤ 400; omega) rfl (by kernel_rfl) (fun caps => ?_)
  show gWi _ _ a b c _
  rw [gWi_text]
  refine bc_dec (fun h => bc_dec (fun h2 => ?_) (fun h2 => ?_)) (fun h => ?_)
  · show _ = _; rw [decide_eq_true (show b ≤ a ∧ a ≤ c from ⟨h, h2⟩)]
  · show _ = _; rw [decide_eq_false (show ¬ (b ≤ a ∧ a ≤ c) by omega)]
  · show _ = _; rw [decide_eq_false (show ¬ (b ≤ a ∧ a ≤ c) by omega)]
theorem sayWt {a b c : Int} (h : b ≤ a ∧ a ≤ c) : Says C5 24 [dI a, dI b, dI c] [.val (.bool true)] := by
  have := conWj a b c
  rw [decide_eq_true h] at this
  exact ⟨this⟩
theorem sayWf {a b c : Int} (h : ¬ (b ≤ a ∧ a ≤ c)) : Says C5 24 [dI a, dI b, dI c] [.val (.bool false)] := by
  have := conWj a b c
  rw [decide_eq_false h] at this
  exact ⟨this⟩
def szI (a : Int) : Int := if -a > a then -a else a
theorem conSi (a : Int) (h : -9223372036854775807 ≤ a ∧ a ≤ 9223372036854775807) : C5 40 [dI a] [dI (szI a)] := by
  refine con_flat hokE mixed Try.func40 rfl (by show 0 ≤ 400; omega) rfl (by kernel_rfl) (fun caps => ?_)
  show gSz _ _ a _
  rw [gSz_text, w64 (by omega) (by omega)]
  show [dI _] = [dI _]
  rw [show (0 : Int) - a = -a by omega]; rfl
theorem tmod_pos {a n : Int} (hn : 0 < n) : (if a.tmod n < 0 then a.tmod n + n else a.tmod n) = a % n := by
  rw [Int.tmod_eq_emod]
  have h0 := Int.emod_nonneg a (show n ≠ 0 by omega)
  have h1 := Int.emod_lt_of_pos a hn
  have hn2 : (n.natAbs : Int) = n := by omega
  split
  · split <;> omega
  · rename_i h
    have hne : a % n ≠ 0 := fun e => h (.inr (Int.dvd_of_emod_eq_zero e))
    rw [if_pos (by omega)]; omega
theorem conMo (a n : Int) (hn : 0 < n ∧ n ≤ 4611686018427387904) : C5 25 [dI a, dI n] [dI (a % n)] := by
  refine con_flat hokE mixed Try.func25 rfl (by show 0 ≤ 400; omega) rfl (by kernel_rfl) (fun caps => ?_)
  show gMd _ _ a n _
  have h0 := Int.natAbs_tmod a n
  have h1 : a.natAbs % n.natAbs < n.natAbs := Nat.mod_lt _ (by omega)
  rw [gMd_text, bc_n (show n ≠ 0 by omega), w64 (by omega) (by omega), ← tmod_pos hn.1]
  refine bc_dec (fun h => ?_) (fun h => ?_)
  · rw [if_pos h] <;> trivial
  · rw [if_neg h] <;> trivial
theorem conIn (l m : List Int) (hl : l.length < 1000000000) : C5 16 [.sl l.length 1 (vi l), .sl m.length 1 (vi m)] [.val (.bool (decide (l = m)))] := by
  let inv : Nat × Nat × Nat → Prop := fun x => x.1 ≤ l.length ∧ l.length = m.length ∧ (l = m ↔ l.drop x.1 = m.drop x.1)
  let st : Nat × Nat × Nat → Slots × Blocks := fun x => zIn1 l.length x.2.1 m.length x.2.2 x.1 (vi l) (vi m)
  refine con_of (L := fun _ s b => ∃ x, inv x ∧ st x = (s, b)) hokE mixed Try.func16 rfl (by show 2 ≤ 400; omega) rfl (ids := [0]) (by kernel_rfl) rfl (fun caps => ?_) (fun id hid => ?_)
  · show gIn _ _ l.length (caps 500) (vi l) m.length (caps 501) (vi m) _
    rw [gIn_text]
    refine bc_bne (fun h => ?_) (fun h => ?_)
    · show _ = _
      rw [decide_eq_false (fun e => h (by rw [e]))]
    · exact ⟨(0, caps 500, caps 501), ⟨Nat.zero_le _, by show l.length = m.length; omega, Iff.rfl⟩, rfl⟩
  · obtain rfl := List.mem_singleton.1 hid
    refine ⟨Nat × Nat × Nat, st, inv, fun x => l.length - x.1, ⟨fun s b h => h, by kernel_rfl, ?_⟩⟩
    rintro ⟨i, c1, c2⟩ ⟨hi, hlm, hr⟩
    simp only at hi hr
    show rIn1 _ _ l.length c1 m.length c2 (i : Int) (vi l) (vi m) _ _ _
    rw [rIn1_text]
    refine bc_dec (fun h => ?_) (fun h => ?_)
    · have h1 : i < l.length := by omega
      have h2 : i < m.length := by omega
      rw [List.drop_eq_getElem_cons h1, List.drop_eq_getElem_cons h2] at hr
      simp only [bc_t h, bc_t (show (i : Int) < (m.length : Int) by omega), bc_t (show (0 : Int) ≤ (i : Int) by omega), Int.toNat_natCast, at1 (vi_at l i h1), at1 (vi_at m i h2), eq_self, true_and, and_true]
      refine bc_bne (fun hc => ?_) (fun hc => ?_)
      · rw [bc_n hc]
        refine ⟨trivial, ?_⟩
        show _ = _
        rw [decide_eq_false (fun e => hc (List.cons.inj (hr.1 e)).1)]
      · refine ⟨bc_bne (fun h' => absurd hc h') (fun _ => trivial), ⟨i + 1, c1, c2⟩, ⟨by show i + 1 ≤ l.length; omega, hlm, ?_⟩, by show l.length - (i + 1) < l.length - i; omega, ?_⟩
        · show l = m ↔ l.drop (i + 1) = m.drop (i + 1)
          refine hr.trans ?_
          rw [hc]
          exact ⟨fun e => (List.cons.inj e).2, fun e => by rw [e]⟩
        · rw [w64 (by omega) (by omega)]; rfl
    · show (if 0 = 0 then _ else _)
      rw [if_pos rfl]
      show nIn2 _ _ _
      rw [nIn2_text]
      show _ = _
      have e1 : l.drop i = [] := List.drop_eq_nil_of_le (by omega)
      have e2 : m.drop i = [] := List.drop_eq_nil_of_le (by omega)
      rw [decide_eq_true (hr.2 (by rw [e1, e2]))]
theorem conInn : C5 16 [.nil, .nil] [.val (.bool true)] := by
  refine con_of (L := fun _ s b => ∃ x : Unit, True ∧ zInn1 0 = (s, b)) hokE mixed Try.func16 rfl (by show 0 ≤ 400; omega) rfl (ids := [0]) (by kernel_rfl) rfl (fun caps => ?_) (fun id hid => ?_)
  · show gInn _ _ _
    rw [gInn_text]
    exact ⟨(), trivial, rfl⟩
  · obtain rfl := List.mem_singleton.1 hid
    refine ⟨Unit, fun _ => zInn1 0, fun _ => True, fun _ => 0, ⟨fun s b h => h, by kernel_rfl, ?_⟩⟩
    rintro _ _
    show rInn1 _ _ 0 _ _ _
    rw [rInn1_text]
    refine bc_no (by omega) ?_
    show (if 0 = 0 then _ else _)
    rw [if_pos rfl]
    show nInn2 _ _ _
    rw [nInn2_text]
/-! ### marks and circumferences -/
def posG (i p : Int) : List Int → Int × Int
  | [] => (0, 0)
  | x :: r => if 0 ≤ x ∧ x ≤ 1000000 then if 0 < i ∧ x ≤ p then (i, 9) else posG (i + 1) x r else (i, 2)
def ckM (l : List Int) (t : Int) : Int × Int := if l.length < 2 then (0, 10) else if 30 < l.length then (0, 8) else if 0 ≤ t ∧ t ≤ 10000 then posG 0 0 l else (0, 2)
abbrev mD (l : List Int) (t : Int) : D := .agg [.sl l.length 1 (vi l), dI t]
abbrev mN (t : Int) : D := .agg [.nil, dI t]
abbrev mR (l : List Int) (t r : Int) : D := .agg [.sl l.length 1 (vi l), dI t, dI r]
def rdE (t r : Int) : Int := if 1 ≤ r ∧ r ≤ 10000 then if r ≤ IntKind.wrap .i64 (4 * t) then 22 else 0 else 2
theorem conmo (n d : Int) (hd : 1 ≤ d ∧ d ≤ 1000000) : C5 64 [dI n, dI d] [dI (n % d)] := by
  refine con_flat hokE mixed Try.func64 rfl (by show 0 ≤ 400; omega) rfl (by kernel_rfl) (fun caps => ?_)
  show gmo _ _ n d _
  have h0 := Int.natAbs_tmod n d
  have h1 : n.natAbs % d.natAbs < d.natAbs := Nat.mod_lt _ (by omega)
  rw [gmo_text, bc_n (show d ≠ 0 by omega), bc_n (show d ≠ 0 by omega), w64 (by omega) (by omega)]
  show [dI _] = [dI _]
  have hp := tmod_pos (a := n) (n := d) (by omega)
  rw [Int.tmod_eq_emod_of_nonneg (by omega), Int.add_emod_right]
  have : n.tmod d % d = n % d := by
    split at hp
    · have e : n.tmod d % d = (n.tmod d + d) % d := by rw [Int.add_emod_right]
      rw [e, hp, Int.emod_emod]
    · rw [hp, Int.emod_emod]
  rw [this]
theorem concr (l : List Int) (t r : Int) : C5 62 [mD l t, dI r] [dI (rdE t r)] := by
  refine con_flat hokE mixed Try.func62 rfl (by show 1 ≤ 400; omega) rfl (by kernel_rfl) (fun caps => ?_)
  show gcr _ _ l.length (caps 500) (vi l) t r _
  rw [gcr_text]
  refine bc_dec (fun h => ?_) (fun h => bc_dec (fun h2 => ?_) (fun h2 => bc_dec (fun h3 => ?_) (fun h3 => ?_)))
  · show [dI _] = [dI _]; unfold rdE; rw [if_neg (by omega)]
  · show [dI _] = [dI _]; unfold rdE; rw [if_neg (by omega)]
  · show [dI _] = [dI _]; unfold rdE; rw [if_pos (by omega), if_pos h3]
  · show [dI _] = [dI _]; unfold rdE; rw [if_pos (by omega), if_neg h3]
theorem conrR (l : List Int) (t r : Int) : C5 13 [mD l t, dI r] [dI (rdE t r)] := by
  refine con_flat hokM mixed Try.func13 rfl (by show 1 ≤ 400; omega) rfl (by kernel_rfl) (fun caps => ?_)
  show grR _ _ l.length (caps 500) (vi l) t r _
  rw [grR_text]
  by_cases h : 1 ≤ r ∧ r ≤ 10000
  · refine .inl ⟨sayWt h, bc_dec (fun h3 => ?_) (fun h3 => ?_)⟩
    · show [dI _] = [dI _]; unfold rdE; rw [if_pos h, if_pos h3]
    · show [dI _] = [dI _]; unfold rdE; rw [if_pos h, if_neg h3]
  · refine .inr ⟨sayWf h, ?_⟩
    show [dI _] = [dI _]; unfold rdE; rw [if_neg h]
/-- by how much a mark lies behind or before the nearest place -/
def bes (r f x : Int) : Int := if 2 * ((x - f) % r) > r then (x - f) % r - r else (x - f) % r
theorem conbe (l : List Int) (t r f x : Int) (hr : 1 ≤ r ∧ r ≤ 10000) (hf : -100000000 ≤ f ∧ f ≤ 100000000) (hx : -100000000 ≤ x ∧ x ≤ 100000000) : C5 63 [mR l t r, dI f, dI x] [dI (bes r f x)] := by
  refine con_flat hokM mixed Try.func63 rfl (by show 1 ≤ 400; omega) rfl (by kernel_rfl) (fun caps => ?_)
  show gbe _ _ l.length (caps 500) (vi l) t r f x _
  rw [gbe_text, w64 (z := x - f) (by omega) (by omega)]
  refine ⟨_, ⟨conmo (x - f) r (by omega)⟩, ?_⟩
  have h0 := Int.emod_nonneg (x - f) (show r ≠ 0 by omega)
  have h1 := Int.emod_lt_of_pos (x - f) (show 0 < r by omega)
  rw [w64 (z := 2 * _) (by omega) (by omega), w64 (z := _ - r) (by omega) (by omega)]
  refine bc_dec (fun h => ?_) (fun h => ?_)
  · show [dI _] = [dI _]; unfold bes; rw [if_pos h]
  · show [dI _] = [dI _]; unfold bes; rw [if_neg h]
end Go.Proofs.G5r

/- What a good world's variables hold, as the library's contracts ask it. -/
namespace Go.Abs
variable {P : Program} {w : World}
end Go.Abs

/- Chapter 2, heating: what the frames of the laws share. -/
namespace Go.Proofs.Ytchgncpfaclccaa.K
open Go Go.Abs Go.RowKit Go.ChangeShapes Go.WideShapes Go.ChangeAt Go.Proofs Go.Flat
set_option maxRecDepth 100000
theorem own : ownKnob Try.prog.godebug = none := by kernel_rfl
theorem laidP : laidOutB Try.prog = true := by kernel_rfl
theorem mapsP : mapsRowed Try.prog = true := by kernel_rfl
theorem slicesP : ∀ t e, t < Try.prog.types.size → Try.prog.underlying t = some (.slice e) → 0 < Try.prog.cellsOf e := slices_full_of Try.prog (by kernel_rfl)
theorem tsP {l : List TypeId} (h : l.all (fun t => decide (t < Try.prog.types.size)) = true) : ∀ t ∈ l, t < Try.prog.types.size := fun t ht => of_decide_eq_true (List.all_eq_true.1 h t ht)
theorem flat_vi : ∀ l : List Int, (l.flatMap fun a => [Value.int .i64 a]) = vi l
  | [] => rfl
  | a :: r => by rw [List.flatMap_cons, flat_vi r]; rfl
/-- lists of whole numbers -/
theorem leaf_ints {t e : TypeId} {d : D} (ht : Try.prog.underlying t = some (.slice e)) (he : leaves Try.prog 10 e = some [.int .i64]) (h : LeafD Try.prog t d) : d = .nil ∨ ∃ l : List Int, d = .sl l.length 1 (vi l) := by
  unfold LeafD at h
  rw [ht] at h
  simp only at h
  rcases h with h | ⟨n, cs, L, rfl, hL, hn, hl, hc⟩
  · exact .inl h
  · rw [he] at hL
    obtain rfl := Option.some.inj hL
    simp only [List.length_cons, List.length_nil, Nat.zero_add] at hl hc ⊢
    obtain ⟨ps, hp, rfl⟩ := chunks_of (f := fun a : Int => [Value.int .i64 a]) (k := 1) (fun _ => rfl) n cs hl (fun i hi => by
      have := hc i hi
      generalize (cs.drop (i * 1)).take 1 = x at this ⊢
      cases this with
      | cons h t => cases t; obtain ⟨a, rfl, _⟩ := h; exact ⟨a, rfl⟩)
    refine .inr ⟨ps, ?_⟩
    rw [hp]
    rw [flat_vi]
theorem leaf_int {t : TypeId} {d : D} (ht : Try.prog.underlying t = some (.int .i64)) (h : LeafD Try.prog t d) : ∃ n : Int, d = dI n ∧ (-9223372036854775808 ≤ n ∧ n ≤ 9223372036854775807) := by
  unfold LeafD at h
  rw [ht] at h
  obtain ⟨n, rfl, hw⟩ := h
  exact ⟨n, rfl, wf64 hw⟩
end Go.Proofs.Ytchgncpfaclccaa.K
namespace Go.Proofs.Ytchgncpfaclccaa.K
open Go Go.Abs Go.RowKit Go.ChangeShapes Go.WideShapes Go.ChangeAt Go.Proofs Go.Flat
set_option maxRecDepth 100000
theorem good0 (W : World) : GoodW Try.prog W := fun p hp => by
  rw [show varsOf Try.prog = [] by kernel_rfl] at hp
  cases hp
end Go.Proofs.Ytchgncpfaclccaa.K

/- Chapter 6, marks: which are valid; the search; the phases by the program, in data. -/
namespace Go.Proofs.G5r
open Go Go.Abs Go.Proofs
set_option maxRecDepth 100000
theorem vgd {l : List Int} {i : Nat} (h : i < l.length) : l.getD i 0 = l[i] := by rw [List.getD_eq_getElem?_getD, List.getElem?_eq_getElem h]; rfl
theorem posG_step {l : List Int} {i : Nat} (h : i < l.length) : posG i (l.getD (i - 1) 0) (l.drop i) = if 0 ≤ l[i] ∧ l[i] ≤ 1000000 then if 0 < (i : Int) ∧ l[i] ≤ l.getD (i - 1) 0 then ((i : Int), 9) else posG (i + 1) l[i] (l.drop (i + 1)) else ((i : Int), 2) := by
  rw [List.drop_eq_getElem_cons h, posG]
theorem conCM (l : List Int) (t : Int) (hl : l.length < 1000000000) : C5 8 [mD l t] [dI (ckM l t).1, dI (ckM l t).2] := by
  let inv : Nat × Nat → Prop := fun x => x.1 ≤ l.length ∧ ckM l t = posG x.1 (l.getD (x.1 - 1) 0) (l.drop x.1)
  let st : Nat × Nat → Slots × Blocks := fun x => zCM1 l.length x.2 l.length x.1 l.length x.2 t (vi l)
  refine con_of (L := fun _ s b => ∃ x, inv x ∧ st x = (s, b)) hokE mixed Try.func8 rfl (by show 1 ≤ 400; omega) rfl (ids := [1]) (by kernel_rfl) rfl (fun caps => ?_) (fun id hid => ?_)
  · show gCM _ _ l.length (caps 500) (vi l) t _
    rw [gCM_text]
    simp only [Qv, eq_self, true_and, and_true]
    refine bc_dec (fun h => ?_) (fun h => bc_dec (fun h2 => ?_) (fun h2 => bc_dec (fun h3 => ?_) (fun h3 => bc_dec (fun h4 => ?_) (fun h4 => ?_))))
    · show [dI _, dI _] = [dI _, dI _]; unfold ckM; rw [if_pos (by omega)]
    · show [dI _, dI _] = [dI _, dI _]; unfold ckM; rw [if_neg (by omega), if_pos (by omega)]
    · show [dI _, dI _] = [dI _, dI _]; unfold ckM; rw [if_neg (by omega), if_neg (by omega), if_neg (by omega)]
    · show [dI _, dI _] = [dI _, dI _]; unfold ckM; rw [if_neg (by omega), if_neg (by omega), if_neg (by omega)]
    · refine ⟨(0, caps 500), ⟨Nat.zero_le _, ?_⟩, rfl⟩
      show ckM l t = posG 0 (l.getD 0 0) l
      unfold ckM; rw [if_neg (by omega), if_neg (by omega), if_pos (by omega)]
      cases l with
      | nil => rfl
      | cons a r => simp only [posG]; rw [if_neg (show ¬ (0 < (0 : Int) ∧ a ≤ 0) by omega), if_neg (show ¬ (0 < (0 : Int) ∧ a ≤ (a :: r).getD 0 0) by omega)]
  · obtain rfl := List.mem_singleton.1 hid
    refine ⟨Nat × Nat, st, inv, fun x => l.length - x.1, ⟨fun s b h => h, by kernel_rfl, ?_⟩⟩
    rintro ⟨i, cap⟩ ⟨hi, hr⟩
    simp only at hi hr
    show rCM1 _ _ l.length cap l.length i l.length cap t (vi l) _ _ _
    rw [rCM1_text]
    refine bc_dec (fun h => ?_) (fun h => ?_)
    · have hi' : i < l.length := by omega
      rw [posG_step hi'] at hr
      simp only [bc_t h, bc_t (show (0 : Int) ≤ (i : Int) by omega), Int.toNat_natCast, at1 (vi_at l i hi')]
      refine bc_dec (fun q => ?_) (fun q => bc_dec (fun q2 => ?_) (fun q2 => ?_))
      · rw [if_neg (by omega)] at hr; show [dI _, dI _] = [dI _, dI _]; rw [hr]
      · rw [if_neg (by omega)] at hr; show [dI _, dI _] = [dI _, dI _]; rw [hr]
      · rw [if_pos (by omega)] at hr
        have step : 0 < i → l[i - 1]'(by omega) < l[i] → ckM l t = posG (i + 1) l[i] (l.drop (i + 1)) := fun h0 hlt => by
          rw [hr, if_neg]; rw [vgd (show i - 1 < l.length by omega)]; omega
        refine bc_dec (fun q3 => ?_) (fun q3 => ?_)
        · have e1 : (IntKind.wrap .i64 ((i : Int) - 1)) = ((i - 1 : Nat) : Int) := by rw [w64 (by omega) (by omega)]; omega
          simp only [e1, bc_t (show (0 : Int) ≤ ((i - 1 : Nat) : Int) by omega), bc_t (show ((i - 1 : Nat) : Int) < (l.length : Int) by omega), Int.toNat_natCast, at1 (vi_at l (i - 1) (by omega))]
          refine bc_dec (fun q4 => ?_) (fun q4 => ?_)
          · rw [if_pos (by rw [vgd (show i - 1 < l.length by omega)]; omega)] at hr
            show [dI _, dI _] = [dI _, dI _]; rw [hr]
          · refine ⟨(i + 1, cap), ⟨by show i + 1 ≤ l.length; omega, ?_⟩, by show l.length - (i + 1) < l.length - i; omega, ?_⟩
            · show ckM l t = posG ((i + 1 : Nat) : Int) (l.getD (i + 1 - 1) 0) (l.drop (i + 1))
              rw [step (by omega) (by omega), Nat.add_sub_cancel, vgd hi']; rfl
            · rw [w64 (by omega) (by omega)]; rfl
        · refine ⟨(i + 1, cap), ⟨by show i + 1 ≤ l.length; omega, ?_⟩, by show l.length - (i + 1) < l.length - i; omega, ?_⟩
          · show ckM l t = posG ((i + 1 : Nat) : Int) (l.getD (i + 1 - 1) 0) (l.drop (i + 1))
            rw [hr, if_neg (by omega), Nat.add_sub_cancel, vgd hi']; rfl
          · rw [w64 (by omega) (by omega)]; rfl
    · show (if 1 = 1 then _ else _)
      rw [if_pos rfl]
      show nCM2 _ _ _
      rw [nCM2_text]
      have : i = l.length := by omega
      rw [this, List.drop_length] at hr
      show [dI 0, dI 0] = [dI _, dI _]
      rw [hr]
      try rfl
theorem conrC (l : List Int) (t : Int) (hl : l.length < 1000000000) : C5 12 [mD l t] [dI (ckM l t).1, dI (ckM l t).2] := by
  let inv : Nat × Nat → Prop := fun x => x.1 ≤ l.length ∧ ckM l t = posG x.1 (l.getD (x.1 - 1) 0) (l.drop x.1)
  let st : Nat × Nat → Slots × Blocks := fun x => zrC1 x.1 l.length x.2 t (vi l)
  refine con_of (L := fun _ s b => ∃ x, inv x ∧ st x = (s, b)) hokM mixed Try.func12 rfl (by show 1 ≤ 400; omega) rfl (ids := [0]) (by kernel_rfl) rfl (fun caps => ?_) (fun id hid => ?_)
  · show grC _ _ l.length (caps 500) (vi l) t _
    rw [grC_text]
    refine bc_dec (fun h => ?_) (fun h => bc_dec (fun h2 => ?_) (fun h2 => ?_))
    · show [dI _, dI _] = [dI _, dI _]; unfold ckM; rw [if_pos (by omega)]
    · show [dI _, dI _] = [dI _, dI _]; unfold ckM; rw [if_neg (by omega), if_pos (by omega)]
    · by_cases h3 : 0 ≤ t ∧ t ≤ 10000
      · refine .inl ⟨sayWt h3, (0, caps 500), ⟨Nat.zero_le _, ?_⟩, rfl⟩
        show ckM l t = posG 0 (l.getD 0 0) l
        unfold ckM; rw [if_neg (by omega), if_neg (by omega), if_pos h3]
        cases l with
        | nil => rfl
        | cons a r => simp only [posG]; rw [if_neg (show ¬ (0 < (0 : Int) ∧ a ≤ 0) by omega), if_neg (show ¬ (0 < (0 : Int) ∧ a ≤ (a :: r).getD 0 0) by omega)]
      · refine .inr ⟨sayWf h3, ?_⟩
        show [dI _, dI _] = [dI _, dI _]; unfold ckM; rw [if_neg (by omega), if_neg (by omega), if_neg h3]
  · obtain rfl := List.mem_singleton.1 hid
    refine ⟨Nat × Nat, st, inv, fun x => l.length - x.1, ⟨fun s b h => h, by kernel_rfl, ?_⟩⟩
    rintro ⟨i, cap⟩ ⟨hi, hr⟩
    simp only at hi hr
    show rrC1 _ _ i l.length cap t (vi l) _ _ _
    rw [rrC1_text]
    refine bc_dec (fun h => ?_) (fun h => ?_)
    · have hi' : i < l.length := by omega
      rw [posG_step hi'] at hr
      simp only [bc_t h, bc_t (show (0 : Int) ≤ (i : Int) by omega), Int.toNat_natCast, at1 (vi_at l i hi'), Qv, Qu, Qb, Qf, eq_self, true_and, and_true]
      by_cases q : 0 ≤ l[i] ∧ l[i] ≤ 1000000
      · rw [if_pos q] at hr
        refine .inl ⟨sayWt q, ?_⟩
        refine bc_dec (fun q3 => ?_) (fun q3 => ?_)
        · have e1 : (IntKind.wrap .i64 ((i : Int) - 1)) = ((i - 1 : Nat) : Int) := by rw [w64 (by omega) (by omega)]; omega
          simp only [e1, bc_t (show (0 : Int) ≤ ((i - 1 : Nat) : Int) by omega), bc_t (show ((i - 1 : Nat) : Int) < (l.length : Int) by omega), Int.toNat_natCast, at1 (vi_at l (i - 1) (by omega)), bc_t q3]
          refine bc_dec (fun q4 => ?_) (fun q4 => ?_)
          · rw [if_pos (by rw [vgd (show i - 1 < l.length by omega)]; omega)] at hr
            simp only [bc_t q4, Qb, eq_self, true_and, and_true]
            show [dI _, dI _] = [dI _, dI _]; rw [hr]
          · simp only [bc_f q4, Qf, eq_self, true_and, and_true]
            refine ⟨(i + 1, cap), ⟨by show i + 1 ≤ l.length; omega, ?_⟩, by show l.length - (i + 1) < l.length - i; omega, ?_⟩
            · show ckM l t = posG ((i + 1 : Nat) : Int) (l.getD (i + 1 - 1) 0) (l.drop (i + 1))
              rw [hr, if_neg (by rw [vgd (show i - 1 < l.length by omega)]; omega), Nat.add_sub_cancel, vgd hi']; rfl
            · rw [w64 (by omega) (by omega)]; rfl
        · simp only [bc_f q3, Qf, eq_self, true_and, and_true]
          refine ⟨(i + 1, cap), ⟨by show i + 1 ≤ l.length; omega, ?_⟩, by show l.length - (i + 1) < l.length - i; omega, ?_⟩
          · show ckM l t = posG ((i + 1 : Nat) : Int) (l.getD (i + 1 - 1) 0) (l.drop (i + 1))
            rw [hr, if_neg (by omega), Nat.add_sub_cancel, vgd hi']; rfl
          · rw [w64 (by omega) (by omega)]; rfl
      · rw [if_neg q] at hr
        refine .inr ⟨sayWf q, ?_⟩
        show [dI _, dI _] = [dI _, dI _]; rw [hr]
    · show (if 0 = 0 then _ else _)
      rw [if_pos rfl]
      show nrC2 _ _ _
      rw [nrC2_text]
      have : i = l.length := by omega
      rw [this, List.drop_length] at hr
      show [dI 0, dI 0] = [dI _, dI _]
      rw [hr]
      try rfl
theorem conrCn (t : Int) : C5 12 [mN t] [dI 0, dI 10] := by
  refine con_of (L := fun _ s b => False) hokM mixed Try.func12 rfl (by show 0 ≤ 400; omega) rfl (ids := [0]) (by kernel_rfl) rfl (fun caps => ?_) (fun id hid => ?_)
  · show grCn _ _ t _
    rw [grCn_text]
  · exact ⟨Empty, fun e => e.elim, fun _ => False, fun _ => 0, ⟨fun s b h => h.elim, by obtain rfl := List.mem_singleton.1 hid; kernel_rfl, fun e => e.elim⟩⟩
end Go.Proofs.G5r

/- Chapter 6, marks: the search; is a mark near, in data. -/
namespace Go.Proofs.G5r
open Go Go.Abs Go.Proofs
set_option maxRecDepth 100000
def Inc (l : List Int) : Prop := ∀ i j (_ : i < j) (hj : j < l.length), l[i]'(by omega) < l[j]
def lbN (x : Int) : List Int → Nat
  | [] => 0
  | a :: r => if a < x then lbN x r + 1 else 0
theorem lbN_le (x : Int) : ∀ l : List Int, lbN x l ≤ l.length
  | [] => Nat.le_refl _
  | a :: r => by rw [lbN]; split; { have := lbN_le x r; simp; omega }; { omega }
theorem lbN_lt (x : Int) : ∀ (l : List Int) (j : Nat) (h : j < lbN x l), l[j]'(Nat.lt_of_lt_of_le h (lbN_le x l)) < x
  | [], j, h => by simp [lbN] at h
  | a :: r, j, h => by
    have h' := h
    rw [lbN] at h'
    split at h'
    · rename_i ha
      cases j with
      | zero => exact ha
      | succ j => exact lbN_lt x r j (by omega)
    · omega
theorem lbN_ge (x : Int) : ∀ (l : List Int) (h : lbN x l < l.length), ¬ l[lbN x l] < x
  | [], h => by simp at h
  | a :: r, h => by
    by_cases ha : a < x
    · have e : lbN x (a :: r) = lbN x r + 1 := by rw [lbN, if_pos ha]
      have h2 : lbN x r < r.length := by rw [e] at h; simpa using h
      have := lbN_ge x r h2
      simpa only [e, List.getElem_cons_succ] using this
    · have e : lbN x (a :: r) = 0 := by rw [lbN, if_neg ha]
      simpa only [e, List.getElem_cons_zero] using ha
theorem inc_le {l : List Int} (hs : Inc l) {i j : Nat} (h : i ≤ j) (hj : j < l.length) : l[i]'(by omega) ≤ l[j] := by
  rcases Nat.lt_or_ge i j with h1 | h1
  · exact Int.le_of_lt (hs i j h1 hj)
  · obtain rfl : i = j := by omega
    exact Int.le_refl _
theorem lb_up {l : List Int} (hs : Inc l) {x : Int} {h : Nat} (hh : h < l.length) (hx : l[h] < x) : h + 1 ≤ lbN x l := Decidable.byContradiction fun hc => by
  have h1 : lbN x l ≤ h := by omega
  have := lbN_ge x l (by omega)
  have := inc_le hs h1 hh
  omega
theorem lb_dn {l : List Int} {x : Int} {h : Nat} (hh : h < l.length) (hx : ¬ l[h] < x) : lbN x l ≤ h := Decidable.byContradiction fun hc => hx (lbN_lt x l h (by omega))
theorem mid_e {i j : Nat} (h : i + j < 2000000000) : IntKind.wrap .i64 (Int.fdiv (IntKind.wrap IntKind.u64 (IntKind.wrap .i64 ((i : Int) + (j : Int)))) (2 ^ 1)) = (((i + j) / 2 : Nat) : Int) := by
  rw [w64 (z := (i : Int) + j) (by omega) (by omega), show IntKind.wrap IntKind.u64 ((i : Int) + j) = (i : Int) + j by simp only [IntKind.wrap, IntKind.bits, IntKind.signed]; simp; omega, Int.fdiv_eq_ediv_of_nonneg _ (by decide)]
  rw [w64 (by omega) (by omega)]
  omega
def fndB (l : List Int) (x : Int) : Bool := if h : lbN x l < l.length then decide (l[lbN x l] = x) else false
theorem conBS (l : List Int) (x : Int) (hs : Inc l) (hl : l.length < 1000000000) : C5 84 [.sl l.length 1 (vi l), dI x] [dI (lbN x l), dB (fndB l x)] := by
  let inv : Nat × Nat × Nat → Prop := fun y => y.1 ≤ lbN x l ∧ lbN x l ≤ y.2.1 ∧ y.2.1 ≤ l.length
  let st : Nat × Nat × Nat → Slots × Blocks := fun y => zBS1 l.length y.2.2 x l.length y.1 y.2.1 (vi l)
  refine con_of (L := fun _ s b => ∃ y, inv y ∧ st y = (s, b)) hokE mixed Try.func84 rfl (by show 1 ≤ 400; omega) rfl (ids := [0]) (by kernel_rfl) rfl (fun caps => ?_) (fun id hid => ?_)
  · show gBS _ _ l.length (caps 500) (vi l) x _
    rw [gBS_text]
    exact ⟨(0, l.length, caps 500), ⟨Nat.zero_le _, lbN_le x l, Nat.le_refl _⟩, rfl⟩
  · obtain rfl := List.mem_singleton.1 hid
    refine ⟨Nat × Nat × Nat, st, inv, fun y => y.2.1 - y.1, ⟨fun s b h => h, by kernel_rfl, ?_⟩⟩
    rintro ⟨i, j, c⟩ ⟨h1, h2, h3⟩
    simp only at h1 h2 h3
    show rBS1 _ _ l.length c x l.length i j (vi l) _ _ _
    rw [rBS1_text, mid_e (by omega)]
    refine bc_dec (fun h => ?_) (fun h => ?_)
    · have hm : (i + j) / 2 < l.length := by omega
      simp only [bc_t (show (0 : Int) ≤ (((i + j) / 2 : Nat) : Int) by omega), bc_t (show (((i + j) / 2 : Nat) : Int) < (l.length : Int) by omega), Int.toNat_natCast, at1 (vi_at l _ hm), bc_nf]
      refine bc_dec (fun q => ?_) (fun q => ?_)
      · refine ⟨((i + j) / 2 + 1, j, c), ⟨lb_up hs hm q, h2, h3⟩, by show j - ((i + j) / 2 + 1) < j - i; omega, ?_⟩
        rw [w64 (by omega) (by omega)]; rfl
      · exact ⟨(i, (i + j) / 2, c), ⟨h1, lb_dn hm q, by show (i + j) / 2 ≤ l.length; omega⟩, by show (i + j) / 2 - i < j - i; omega, rfl⟩
    · show (if 0 = 0 then _ else _)
      rw [if_pos rfl]
      show nBS2 _ _ l.length c x l.length i (vi l) _
      rw [nBS2_text]
      have e : i = lbN x l := by omega
      subst e
      refine bc_dec (fun h => ?_) (fun h => ?_)
      · have hm : lbN x l < l.length := by omega
        simp only [bc_t (show (0 : Int) ≤ ((lbN x l : Nat) : Int) by omega), bc_t h, Int.toNat_natCast, at1 (vi_at l _ hm), bc_nf]
        refine bc_beq (fun q => ?_) (fun q => ?_)
        · show [dI _, dB _] = [dI _, dB _]; unfold fndB; rw [dif_pos hm, decide_eq_true q]
        · show [dI _, dB _] = [dI _, dB _]; unfold fndB; rw [dif_pos hm, decide_eq_false q]
      · show [dI _, dB _] = [dI _, dB _]; unfold fndB; rw [dif_neg (by omega)]
def nearB (l : List Int) (t p : Int) : Bool := l.any fun x => decide (szI (x - p) ≤ 2 * t)
theorem szI_le {a n : Int} : szI a ≤ n ↔ -n ≤ a ∧ a ≤ n := by unfold szI; split <;> omega
theorem nearB_lb {l : List Int} (hs : Inc l) {t p : Int} : nearB l t p = true ↔ ∃ h : lbN (p - 2 * t) l < l.length, l[lbN (p - 2 * t) l] ≤ p + 2 * t := by
  unfold nearB
  rw [List.any_eq_true]
  constructor
  · rintro ⟨x, hx, hq⟩
    have hq := szI_le.1 (of_decide_eq_true hq)
    obtain ⟨i, hi, rfl⟩ := List.mem_iff_getElem.1 hx
    have h1 := lb_dn (x := p - 2 * t) hi (by omega)
    refine ⟨by omega, ?_⟩
    have := inc_le hs h1 hi
    omega
  · rintro ⟨h, hq⟩
    have := lbN_ge (p - 2 * t) l h
    exact ⟨_, List.getElem_mem h, decide_eq_true (szI_le.2 (by omega))⟩
theorem conhn (l : List Int) (t r p : Int) (hs : Inc l) (hl : l.length < 1000000) (ht : 0 ≤ t ∧ t ≤ 10000) (hp : -100000000 ≤ p ∧ p ≤ 100000000) : C5 67 [mR l t r, dI p] [dB (nearB l t p)] := by
  refine con_flat hokM mixed Try.func67 rfl (by show 1 ≤ 400; omega) rfl (by kernel_rfl) (fun caps => ?_)
  show ghn _ _ l.length (caps 500) (vi l) t r p _
  rw [ghn_text, bc_t (v1le l), vi_whole, w64 (z := 2 * t) (by omega) (by omega), w64 (z := p - _) (by omega) (by omega), w64 (z := p + _) (by omega) (by omega)]
  have go : ∀ b, fndB l (p - 2 * t) = b → ∃ n1 : Int, Says C5 84 [.sl l.length 1 (vi l), dI (p - 2 * t)] [dI n1, dB b] ∧ n1 = (lbN (p - 2 * t) l : Nat) := fun b hb => by
    have := conBS l (p - 2 * t) hs (by omega)
    rw [hb] at this
    exact ⟨_, ⟨this⟩, rfl⟩
  have fin : bcase (decide (((lbN (p - 2 * t) l : Nat) : Int) < (l.length : Int))) (bcase (decide (0 ≤ ((lbN (p - 2 * t) l : Nat) : Int))) (bcase (decide (((lbN (p - 2 * t) l : Nat) : Int) < (l.length : Int))) (∃ n2 : Int, At (vi l) (0 + Int.toNat ((lbN (p - 2 * t) l : Nat) : Int) * 1) 1 [vI n2] ∧ bcase (decide (n2 ≤ p + 2 * t)) ([dB true] = [dB (nearB l t p)]) ([dB false] = [dB (nearB l t p)])) False) False) ([dB false] = [dB (nearB l t p)]) := by
    refine bc_dec (fun h => ?_) (fun h => ?_)
    · have hm : lbN (p - 2 * t) l < l.length := by omega
      simp only [bc_t (show (0 : Int) ≤ ((lbN (p - 2 * t) l : Nat) : Int) by omega), bc_t h, Int.toNat_natCast, at1 (vi_at l _ hm)]
      refine bc_dec (fun q => ?_) (fun q => ?_)
      · rw [(nearB_lb hs).2 ⟨hm, q⟩]
      · rw [show nearB l t p = false from Bool.eq_false_iff.2 fun hb => q ((nearB_lb hs).1 hb).2]
    · rw [show nearB l t p = false from Bool.eq_false_iff.2 fun hb => by obtain ⟨h', _⟩ := (nearB_lb hs).1 hb; omega]
  cases hb : fndB l (p - 2 * t) with
  | true => obtain ⟨n1, h1, rfl⟩ := go _ hb; exact ⟨_, .inl ⟨h1, fin⟩⟩
  | false => obtain ⟨n1, h1, rfl⟩ := go _ hb; exact ⟨_, .inr ⟨h1, fin⟩⟩
end Go.Proofs.G5r

/- Chapter 6, marks: which phases explain marks: the program's ranges, in data. -/
namespace Go.Proofs.G5r
open Go Go.Abs Go.Proofs
set_option maxRecDepth 100000
theorem posG_ok : ∀ (l : List Int) (i p : Int), 0 ≤ i → (posG i p l).2 = 0 → (∀ x ∈ l, 0 ≤ x ∧ x ≤ 1000000) ∧ l.Pairwise (· < ·) ∧ (0 < i → ∀ x ∈ l, p < x)
  | [], i, p, _, _ => ⟨by simp, .nil, by simp⟩
  | x :: r, i, p, h0, h => by
    rw [posG] at h
    split at h
    · rename_i h1
      split at h
      · exact absurd h (by show ¬ (9 : Int) = 0; decide)
      · rename_i h2
        obtain ⟨a, b, c⟩ := posG_ok r (i + 1) x (by omega) h
        have c := c (by omega)
        refine ⟨fun y hy => ?_, List.pairwise_cons.2 ⟨c, b⟩, fun hi y hy => ?_⟩
        · rcases List.mem_cons.1 hy with rfl | hy
          · exact h1
          · exact a y hy
        · have : p < x := by omega
          rcases List.mem_cons.1 hy with rfl | hy
          · exact this
          · exact Int.lt_trans this (c y hy)
    · exact absurd h (by show ¬ (2 : Int) = 0; decide)
structure VM (l : List Int) (t r : Int) : Prop where
  n2 : 2 ≤ l.length
  n30 : l.length ≤ 30
  tol : 0 ≤ t ∧ t ≤ 10000
  rng : ∀ x ∈ l, 0 ≤ x ∧ x ≤ 1000000
  inc : Inc l
  rd : 1 ≤ r ∧ r ≤ 10000
  brk : 4 * t < r
theorem vm_of {l : List Int} {t r : Int} (h : (ckM l t).2 = 0) (h2 : rdE t r = 0) : VM l t r := by
  unfold ckM at h
  split at h
  · exact absurd h (by show ¬ (10 : Int) = 0; decide)
  · split at h
    · exact absurd h (by show ¬ (8 : Int) = 0; decide)
    · split at h
      · rename_i a b c
        obtain ⟨p, q, _⟩ := posG_ok l 0 0 (by omega) h
        unfold rdE at h2
        split at h2
        · split at h2
          · cases h2
          · rename_i d e
            rw [w64 (by omega) (by omega)] at e
            exact ⟨by omega, by omega, c, p, fun i j hij hj => (List.pairwise_iff_getElem.1 q) i j _ hj hij, d, by omega⟩
        · cases h2
      · exact absurd h (by show ¬ (2 : Int) = 0; decide)
def lohi (t r f : Int) : List Int → Int → Int → Int × Int
  | [], lo, hi => (lo, hi)
  | x :: ps, lo, hi => lohi t r f ps (if f + bes r f x - t > lo then f + bes r f x - t else lo) (if f + bes r f x + t < hi then f + bes r f x + t else hi)
theorem lohi_in (t r f p : Int) : ∀ (ps : List Int) (lo hi : Int), ((lohi t r f ps lo hi).1 ≤ p ∧ p ≤ (lohi t r f ps lo hi).2) ↔ (lo ≤ p ∧ p ≤ hi) ∧ ∀ x ∈ ps, f + bes r f x - t ≤ p ∧ p ≤ f + bes r f x + t
  | [], lo, hi => by simp [lohi]
  | x :: ps, lo, hi => by
    rw [lohi, lohi_in t r f p ps]
    simp only [List.mem_cons, forall_eq_or_imp]
    constructor
    · rintro ⟨⟨a, b⟩, c⟩
      refine ⟨?_, ?_, c⟩
      · constructor
        · revert a; split <;> omega
        · revert b; split <;> omega
      · constructor
        · revert a; split <;> omega
        · revert b; split <;> omega
    · rintro ⟨⟨a, b⟩, ⟨c, d⟩, e⟩
      refine ⟨⟨?_, ?_⟩, e⟩
      · split <;> omega
      · split <;> omega
theorem lohi_bd (t r f : Int) : ∀ (ps : List Int) (lo hi : Int), lo ≤ (lohi t r f ps lo hi).1 ∧ (lohi t r f ps lo hi).2 ≤ hi
  | [], lo, hi => ⟨Int.le_refl _, Int.le_refl _⟩
  | x :: ps, lo, hi => by
    rw [lohi]
    have := lohi_bd t r f ps (if f + bes r f x - t > lo then f + bes r f x - t else lo) (if f + bes r f x + t < hi then f + bes r f x + t else hi)
    revert this
    split <;> split <;> omega
def explB (t r x p : Int) : Bool := decide ((x - p) % r ≤ t) || decide (r - (x - p) % r ≤ t)
theorem bes_bd {r f x : Int} (hr : 1 ≤ r) : -r ≤ 2 * bes r f x ∧ 2 * bes r f x ≤ r := by
  have h0 := Int.emod_nonneg (x - f) (show r ≠ 0 by omega)
  have h1 := Int.emod_lt_of_pos (x - f) (show 0 < r by omega)
  unfold bes; split <;> omega
theorem bes_mod {r f x : Int} (p : Int) : (x - p) % r = (f + bes r f x - p) % r := by
  have e := Int.emod_def (x - f) r
  unfold bes
  split
  · have : x - p = (f + ((x - f) % r - r) - p) + r * ((x - f) / r + 1) := by rw [Int.mul_add]; omega
    rw [this, Int.add_mul_emod_self_left]
  · have : x - p = (f + (x - f) % r - p) + r * ((x - f) / r) := by omega
    rw [this, Int.add_mul_emod_self_left]
theorem expl_iff {t r f x p : Int} (hr : 1 ≤ r) (ht : 0 ≤ t) (hb : 4 * t < r) (h : f - t ≤ p ∧ p ≤ f + t) : explB t r x p = true ↔ f + bes r f x - t ≤ p ∧ p ≤ f + bes r f x + t := by
  unfold explB
  rw [bes_mod (f := f) p, Bool.or_eq_true, decide_eq_true_eq, decide_eq_true_eq]
  have hB := bes_bd (f := f) (x := x) hr
  generalize bes r f x = b at hB ⊢
  by_cases h0 : 0 ≤ f + b - p
  · rw [Int.emod_eq_of_lt h0 (by omega)]; omega
  · have : (f + b - p) % r = f + b - p + r := by
      rw [← Int.add_emod_right, Int.emod_eq_of_lt (by omega) (by omega)]
    rw [this]; omega
/-- the phases of all marks: the ends of the range around the first mark -/
def ends (l : List Int) (t r : Int) : Int × Int := lohi t r (l.getD 0 0) l (l.getD 0 0 - t) (l.getD 0 0 + t)
def phV (l : List Int) (t r : Int) : Int × Int × Int := if (ends l t r).1 > (ends l t r).2 then (0, 0, 12) else ((ends l t r).1 % r, (ends l t r).1 % r + (ends l t r).2 - (ends l t r).1, 0)
theorem ends_iff {l : List Int} {t r : Int} (v : VM l t r) {p : Int} (h : l.getD 0 0 - t ≤ p ∧ p ≤ l.getD 0 0 + t) : ((ends l t r).1 ≤ p ∧ p ≤ (ends l t r).2) ↔ (l.all fun x => explB t r x p) = true := by
  unfold ends
  rw [lohi_in, List.all_eq_true]
  constructor
  · rintro ⟨_, e⟩ x hx; exact (expl_iff v.rd.1 v.tol.1 v.brk h).2 (e x hx)
  · intro e; exact ⟨h, fun x hx => (expl_iff v.rd.1 v.tol.1 v.brk h).1 (e x hx)⟩
theorem head_rng {l : List Int} {t r : Int} (v : VM l t r) : 0 ≤ l.getD 0 0 ∧ l.getD 0 0 ≤ 1000000 := by
  rw [vgd (show 0 < l.length by have := v.n2; omega)]; exact v.rng _ (List.getElem_mem _)
theorem conph (l : List Int) (t r : Int) (v : VM l t r) : C5 36 [mR l t r, .sl l.length 1 (vi l)] [.agg [dI (phV l t r).1, dI (phV l t r).2.1], dI (phV l t r).2.2] := by
  have hl := v.n30
  have h2 := v.n2
  have hF := head_rng v
  have hT := v.tol
  have hR := v.rd
  let f : Int := l.getD 0 0
  have hf : 0 ≤ f ∧ f ≤ 1000000 := hF
  let inv : Nat × Int × Int × Nat × Nat → Prop := fun x => x.1 ≤ l.length ∧ (f - t ≤ x.2.1 ∧ x.2.2.1 ≤ f + t ∧ -10000000 ≤ x.2.2.1 ∧ x.2.1 ≤ 10000000) ∧ ends l t r = lohi t r f (l.drop x.1) x.2.1 x.2.2.1
  let st : Nat × Int × Int × Nat × Nat → Slots × Blocks := fun x => zph1 f x.2.1 x.2.2.1 l.length x.2.2.2.1 l.length x.1 l.length x.2.2.2.2 t r 0 0 (vi l) (vi l)
  refine con_of (L := fun _ s b => ∃ x, inv x ∧ st x = (s, b)) hokM mixed Try.func36 rfl (by show 2 ≤ 400; omega) rfl (ids := [0]) (by kernel_rfl) rfl (fun caps => ?_) (fun id hid => ?_)
  · show gph _ _ l.length (caps 500) (vi l) t r l.length (caps 501) (vi l) _
    rw [gph_text]
    refine bc_yes (by omega) ⟨f, ?_, ?_⟩
    · show At (vi l) 0 1 [vI f]
      have := vi_at l 0 (by omega)
      rw [Nat.zero_mul, Nat.add_zero] at this
      show At (vi l) 0 1 [.int .i64 (l.getD 0 0)]
      rw [vgd (show 0 < l.length by omega)]; exact this
    · simp only [Qv, eq_self, true_and, and_true]
      refine ⟨(0, f - t, f + t, caps 501, caps 500), ⟨Nat.zero_le _, ⟨Int.le_refl _, Int.le_refl _, by show -10000000 ≤ f + t; omega, by show f - t ≤ 10000000; omega⟩, rfl⟩, ?_⟩
      rw [w64 (by omega) (by omega), w64 (by omega) (by omega)]; rfl
  · obtain rfl := List.mem_singleton.1 hid
    refine ⟨_, st, inv, fun x => l.length - x.1, ⟨fun s b h => h, by kernel_rfl, ?_⟩⟩
    rintro ⟨i, lo, hi, c1, c2⟩ ⟨hi', hb, he⟩
    have hi' : i ≤ l.length := hi'
    obtain ⟨b1, b2, b3, b4⟩ : f - t ≤ lo ∧ hi ≤ f + t ∧ -10000000 ≤ hi ∧ lo ≤ 10000000 := hb
    have he : ends l t r = lohi t r f (l.drop i) lo hi := he
    show rph1 _ _ f lo hi l.length c1 l.length i l.length c2 t r 0 0 (vi l) (vi l) _ _ _
    rw [rph1_text]
    refine bc_dec (fun h => ?_) (fun h => ?_)
    · have h1 : i < l.length := by omega
      rw [List.drop_eq_getElem_cons h1, lohi] at he
      have hx := v.rng l[i] (List.getElem_mem h1)
      have hB := bes_bd (f := f) (x := l[i]) hR.1
      simp only [bc_t h, bc_t (show (0 : Int) ≤ (i : Int) by omega), Int.toNat_natCast, at1 (vi_at l i h1), vi_whole, bc_t (v1le l)]
      refine ⟨_, ⟨conbe l t r f l[i] hR (by omega) (by omega)⟩, ?_⟩
      simp only [Qv, eq_self, true_and, and_true]
      rw [w64 (z := f + _) (by omega) (by omega), w64 (z := f + _ - t) (by omega) (by omega), w64 (z := f + _ + t) (by omega) (by omega)]
      refine ⟨(i + 1, (if f + bes r f l[i] - t > lo then f + bes r f l[i] - t else lo), (if f + bes r f l[i] + t < hi then f + bes r f l[i] + t else hi), c1, c2), ⟨h1, ?_, he⟩, by show l.length - (i + 1) < l.length - i; omega, ?_⟩
      · refine ⟨?_, ?_, ?_, ?_⟩ <;> simp only <;> split <;> omega
      · rw [w64 (by omega) (by omega)]; rfl
    · show (if 0 = 0 then _ else _)
      rw [if_pos rfl]
      show nph2 _ _ lo hi l.length c2 t r 0 0 (vi l) _
      rw [nph2_text]
      have : i = l.length := by omega
      rw [this, List.drop_length] at he
      have e1 : (ends l t r).1 = lo := by rw [he]; rfl
      have e2 : (ends l t r).2 = hi := by rw [he]; rfl
      unfold phV
      rw [e1, e2]
      have h0 := Int.emod_nonneg lo (show r ≠ 0 by omega)
      have h1 := Int.emod_lt_of_pos lo (show 0 < r by omega)
      refine bc_dec (fun h => ?_) (fun h => ?_)
      · rw [if_pos h]
      · rw [if_neg h]
        refine ⟨_, ⟨conmo lo r (by omega)⟩, ?_⟩
        rw [w64 (z := lo % r + hi) (by omega) (by omega), w64 (by omega) (by omega)]
def phE (l : List Int) (t r : Int) : Int × Int × Int := if (ckM l t).2 ≠ 0 then (0, 0, (ckM l t).2) else if rdE t r ≠ 0 then (0, 0, rdE t r) else phV l t r
theorem conPO (l : List Int) (t r : Int) (hl : l.length < 1000000) : C5 10 [mD l t, dI r] [.agg [dI (phE l t r).1, dI (phE l t r).2.1], dI (phE l t r).2.2] := by
  refine con_flat hokM mixed Try.func10 rfl (by show 1 ≤ 400; omega) rfl (by kernel_rfl) (fun caps => ?_)
  show gPO _ _ l.length (caps 500) (vi l) t r _
  rw [gPO_text]
  simp only [vi_whole, bc_t (v1le l)]
  refine ⟨_, _, ⟨conCM l t (by omega)⟩, _, ⟨concr l t r⟩, fst0 [(ckM l t).2, rdE t r], ⟨conFE [(ckM l t).2, rdE t r] (by simp)⟩, ?_⟩
  unfold phE
  by_cases h1 : (ckM l t).2 = 0
  · by_cases h2 : rdE t r = 0
    · have e : fst0 [(ckM l t).2, rdE t r] = 0 := by simp [fst0, h1, h2]
      rw [e, if_neg (by simp [h1]), if_neg (by simp [h2])]
      refine bc_bne (fun h => absurd rfl h) (fun _ => ?_)
      exact ⟨_, _, _, ⟨conph l t r (vm_of h1 h2)⟩, rfl⟩
    · have e : fst0 [(ckM l t).2, rdE t r] = rdE t r := by simp [fst0, h1, h2]
      rw [e, if_neg (by simp [h1]), if_pos h2, bc_n h2, bc_n h2]
  · have e : fst0 [(ckM l t).2, rdE t r] = (ckM l t).2 := by simp [fst0, h1]
    rw [e, if_pos h1, bc_n h1, bc_n h1]
end Go.Proofs.G5r

/- Chapter 6, marks: which phases explain marks: the reference's search, in data. -/
namespace Go.Proofs.G5r
open Go Go.Abs Go.Proofs
set_option maxRecDepth 100000
def ix (n : Nat) : List Int := (List.range n).map fun i : Nat => (i : Int)
@[simp] theorem ix_len (n : Nat) : (ix n).length = n := by simp [ix]
theorem ix_at {n i : Nat} (h : i < (ix n).length) : (ix n)[i] = (i : Int) := by simp [ix]
theorem ix_snoc (n : Nat) : vi (ix n) ++ [vI (n : Int)] = vi (ix (n + 1)) := by simp [ix, vi, List.range_succ]
theorem conrX (l : List Int) (t r p : Int) (i : Nat) (hi : i < l.length) (ht : 0 ≤ t ∧ t ≤ 10000) (hr : 1 ≤ r ∧ r ≤ 10000) (hp : -10000000 ≤ p ∧ p ≤ 10000000) (hx : 0 ≤ l[i] ∧ l[i] ≤ 1000000) (hl : l.length < 1000000) :
    C5 68 [mD l t, dI r, dI p, dI i] [dB (explB t r l[i] p)] := by
  refine con_flat hokM mixed Try.func68 rfl (by show 1 ≤ 400; omega) rfl (by kernel_rfl) (fun caps => ?_)
  show grX _ _ l.length (caps 500) (vi l) t r p i _
  rw [grX_text]
  simp only [bc_t (show (0 : Int) ≤ (i : Int) by omega), bc_t (show (i : Int) < (l.length : Int) by omega), Int.toNat_natCast, at1 (vi_at l i hi)]
  rw [w64 (z := l[i] - p) (by omega) (by omega)]
  have h0 := Int.emod_nonneg (l[i] - p) (show r ≠ 0 by omega)
  have h1 := Int.emod_lt_of_pos (l[i] - p) (show 0 < r by omega)
  refine ⟨_, ⟨conMo (l[i] - p) r (by omega)⟩, ?_⟩
  rw [w64 (z := r - _) (by omega) (by omega)]
  unfold explB
  refine bc_dec (fun h => ?_) (fun h => bc_dec (fun h2 => ?_) (fun h2 => ?_))
  · show [dB _] = [dB _]; rw [decide_eq_true h]; rfl
  · show [dB _] = [dB _]; rw [decide_eq_true h2, Bool.or_true]
  · show [dB _] = [dB _]; rw [decide_eq_false h, decide_eq_false h2]; rfl
theorem conrA (l : List Int) (t r p : Int) (v : VM l t r) (hp : -10000000 ≤ p ∧ p ≤ 10000000) :
    C5 39 [mD l t, dI r, dI p, .sl l.length 1 (vi (ix l.length))] [dB (l.all fun x => explB t r x p)] := by
  have hl := v.n30
  let inv : Nat × Nat × Nat → Prop := fun x => x.1 ≤ l.length ∧ (l.all fun x => explB t r x p) = ((l.drop x.1).all fun x => explB t r x p)
  let st : Nat × Nat × Nat → Slots × Blocks := fun x => zrA1 r p l.length x.2.1 x.1 (vi (ix l.length)) l.length x.2.2 t (vi l)
  refine con_of (L := fun _ s b => ∃ x, inv x ∧ st x = (s, b)) hokM mixed Try.func39 rfl (by show 2 ≤ 400; omega) rfl (ids := [0]) (by kernel_rfl) rfl (fun caps => ?_) (fun id hid => ?_)
  · show grA _ _ l.length (caps 500) (vi l) t r p l.length (caps 501) (vi (ix l.length)) _
    rw [grA_text]
    exact ⟨(0, caps 501, caps 500), ⟨Nat.zero_le _, rfl⟩, rfl⟩
  · obtain rfl := List.mem_singleton.1 hid
    refine ⟨_, st, inv, fun x => l.length - x.1, ⟨fun s b h => h, by kernel_rfl, ?_⟩⟩
    rintro ⟨i, c1, c2⟩ ⟨hi, he⟩
    have hi : i ≤ l.length := hi
    have he : (l.all fun x => explB t r x p) = ((l.drop i).all fun x => explB t r x p) := he
    show rrA1 _ _ r p l.length c1 i (vi (ix l.length)) l.length c2 t (vi l) _ _ _
    rw [rrA1_text]
    refine bc_dec (fun h => ?_) (fun h => ?_)
    · have h1 : i < l.length := by omega
      have h2 : i < (ix l.length).length := by rw [ix_len]; exact h1
      have ha := vi_at (ix l.length) i h2
      rw [ix_at h2] at ha
      rw [List.drop_eq_getElem_cons h1, List.all_cons] at he
      simp only [bc_t h, bc_t (show (0 : Int) ≤ (i : Int) by omega), Int.toNat_natCast, at1 ha, vi_whole, bc_t (v1le l), Qv, Qb, Qf, eq_self, true_and, and_true]
      have c := conrX l t r p i h1 v.tol v.rd hp (v.rng _ (List.getElem_mem h1)) (by omega)
      cases hq : explB t r l[i] p with
      | true =>
        rw [hq] at c he
        refine .inl ⟨⟨c⟩, (i + 1, c1, c2), ⟨h1, by simpa using he⟩, by show l.length - (i + 1) < l.length - i; omega, ?_⟩
        rw [w64 (by omega) (by omega)]; rfl
      | false =>
        rw [hq] at c he
        refine .inr ⟨⟨c⟩, ?_⟩
        show [dB false] = [dB _]
        rw [he]; rfl
    · show (if 0 = 0 then _ else _)
      rw [if_pos rfl]
      show nrA2 _ _ _
      rw [nrA2_text]
      show [dB true] = [dB _]
      rw [he, List.drop_eq_nil_of_le (by omega)]; rfl
theorem conrL (l : List Int) (t : Int) (h0 : 0 < l.length) (hl : l.length < 1000000) : C5 15 [mD l t] [.sl l.length 1 (vi (ix l.length))] := by
  let inv : Nat × Nat → Prop := fun x => x.1 ≤ l.length
  let st : Nat × Nat → Slots × Blocks := fun x => match x with
    | (0, c) => zrL1 0 l.length c t (vi l)
    | (i + 1, c) => zrL2 (i + 1) ((i + 1 : Nat) : Int) l.length c t (vi (ix (i + 1))) (vi l)
  refine con_of (L := fun _ s b => ∃ x, inv x ∧ st x = (s, b)) hokM mixed Try.func15 rfl (by show 1 ≤ 400; omega) rfl (ids := [0]) (by kernel_rfl) rfl (fun caps => ?_) (fun id hid => ?_)
  · show grL _ _ l.length (caps 500) (vi l) t _
    rw [grL_text]
    exact ⟨(0, caps 500), Nat.zero_le _, rfl⟩
  · obtain rfl := List.mem_singleton.1 hid
    refine ⟨_, st, inv, fun x => l.length - x.1, ⟨fun s b h => h, by kernel_rfl, ?_⟩⟩
    rintro ⟨i, c⟩ hi
    have hi : i ≤ l.length := hi
    cases i with
    | zero =>
      show rrL1 _ _ ((0 : Nat) : Int) l.length c t (vi l) _ _ _
      rw [rrL1_text, bc_t (show ((0 : Nat) : Int) < (l.length : Int) by omega)]
      refine ⟨(1, c), h0, by show l.length - 1 < l.length - 0; omega, ?_⟩
      rw [w64 (by omega) (by omega)]; rfl
    | succ i =>
      show rrL2 _ _ (i + 1) ((i + 1 : Nat) : Int) l.length c t (vi (ix (i + 1))) (vi l) _ _ _
      rw [rrL2_text]
      have ew : List.take ((i + 1) * 1) (List.drop 0 (vi (ix (i + 1)))) = vi (ix (i + 1)) := by have := vi_whole (ix (i + 1)); rwa [ix_len] at this
      have el : (vi (ix (i + 1))).length = (i + 1) * 1 := by simp
      refine bc_dec (fun h => ?_) (fun h => ?_)
      · refine bc_yes (by omega) (bc_yes (by omega) (bc_yes (by omega) (bc_yes (by omega) (bc_yes (by omega) ?_))))
        refine ⟨(i + 2, c), by show i + 2 ≤ l.length; omega, by show l.length - (i + 2) < l.length - (i + 1); omega, ?_⟩
        rw [w64 (by omega) (by omega), ew, ix_snoc]; rfl
      · show (if 0 = 0 then _ else _)
        rw [if_pos rfl]
        show nrL4 _ _ (i + 1) (vi (ix (i + 1))) _
        rw [nrL4_text]
        have e : i + 1 = l.length := by omega
        rw [e]
        exact ⟨⟨rfl, by simp⟩, rfl⟩
theorem mod_sz {n r : Int} (hr : 1 ≤ r) : 0 ≤ n % r ∧ n % r < r := ⟨Int.emod_nonneg n (by omega), Int.emod_lt_of_pos n (by omega)⟩
theorem conrP (l : List Int) (t r : Int) (v : VM l t r) : C5 14 [mD l t, dI r, .sl l.length 1 (vi (ix l.length))] [.agg [dI (phV l t r).1, dI (phV l t r).2.1], dB (decide ((phV l t r).2.2 = 0))] := by
  have hl := v.n30
  have h2 := v.n2
  have hF := head_rng v
  have hT := v.tol
  have hR := v.rd
  let f : Int := l.getD 0 0
  have hf : 0 ≤ f ∧ f ≤ 1000000 := hF
  let E : Int → Bool := fun p => l.all fun x => explB t r x p
  have hE : ∀ p, f - t ≤ p → p ≤ f + t → (((ends l t r).1 ≤ p ∧ p ≤ (ends l t r).2) ↔ E p = true) := fun p h1 h2 => ends_iff v ⟨h1, h2⟩
  have hBd : f - t ≤ (ends l t r).1 ∧ (ends l t r).2 ≤ f + t := lohi_bd t r f l (f - t) (f + t)
  let inv : Int × Nat × Nat → Prop := fun x => (f - t ≤ x.1 ∧ x.1 ≤ f + t + 1) ∧ ∀ p, f - t ≤ p → p < x.1 → E p = false
  let st : Int × Nat × Nat → Slots × Blocks := fun x => zrP1 r l.length x.2.1 f x.1 (vi (ix l.length)) l.length x.2.2 t 0 0 (vi l)
  refine con_J hokM mixed [] (L := fun _ s' bl => ∃ y, inv y ∧ st y = (s', bl)) Try.func14 rfl (by show 2 ≤ 400; omega) rfl (pts := [0]) (loops := [0]) (by kernel_rfl) (by kernel_rfl) (fun caps _ => ?_) (fun id q1 q2 => absurd q1 q2) (fun id hid => ?_)
  · show grP _ _ l.length (caps 500) (vi l) t r l.length (caps 501) (vi (ix l.length)) _
    rw [grP_text]
    have h3 : 0 < (ix l.length).length := by rw [ix_len]; omega
    have ha := vi_at (ix l.length) 0 h3
    rw [ix_at h3, Nat.zero_mul, Nat.add_zero] at ha
    have hb := vi_at l 0 (by omega)
    have ef : l[0] = f := (vgd (show 0 < l.length by omega)).symm
    rw [ef] at hb
    simp only [bc_t (show (0 : Int) < (l.length : Int) by omega), at1 ha, bc_t (show (0 : Int) ≤ ((0 : Nat) : Int) by omega), bc_t (show ((0 : Nat) : Int) < (l.length : Int) by omega), Int.toNat_natCast, at1 hb, Qv, eq_self, true_and, and_true]
    refine ⟨(f - t, caps 501, caps 500), ⟨⟨Int.le_refl _, by show f - t ≤ f + t + 1; omega⟩, fun p h1 h2 => absurd h1 (by show ¬ f - t ≤ p; have h2 : p < f - t := h2; omega)⟩, ?_⟩
    rw [w64 (by omega) (by omega)]
  · obtain rfl := List.mem_singleton.1 hid
    refine ⟨⟨_, st, inv, fun y => (f + t + 1 - y.1).toNat, fun s' bl h => h, [2], [2], by kernel_rfl, by kernel_rfl, ?_⟩⟩
    rintro ⟨lo, c1, c2⟩ ⟨⟨g1, g2⟩, hn⟩
    have g1 : f - t ≤ lo := g1
    have g2 : lo ≤ f + t + 1 := g2
    have hn : ∀ p, f - t ≤ p → p < lo → E p = false := hn
    let inv2 : Int → Prop := fun hi => (lo ≤ hi ∧ hi ≤ f + t) ∧ ∀ p, lo ≤ p → p ≤ hi → E p = true
    let st2 : Int → Slots × Blocks := fun hi => zrP2 r l.length c1 f lo hi (vi (ix l.length)) l.length c2 t 0 0 (vi l)
    have lo_e : E lo = true → lo ≤ f + t → (ends l t r).1 = lo := fun h1 h2 => by
      have a := (hE lo g1 h2).2 h1
      by_cases h : (ends l t r).1 = lo
      · exact h
      · have := (hE (ends l t r).1 hBd.1 (by omega)).1 ⟨Int.le_refl _, by omega⟩
        rw [hn _ hBd.1 (by omega)] at this; cases this
    refine ⟨fun _ s' bl => ∃ j, inv2 j ∧ st2 j = (s', bl), ?_, fun id2 q1 q2 => absurd q1 q2, fun id2 hid2 => ?_⟩
    · show rrP1 _ _ r l.length c1 f lo (vi (ix l.length)) l.length c2 t 0 0 (vi l) _ _ _
      rw [rrP1_text, w64 (z := f + t) (by omega) (by omega)]
      have ew : List.take (l.length * 1) (List.drop 0 (vi (ix l.length))) = vi (ix l.length) := by have := vi_whole (ix l.length); rwa [ix_len] at this
      have el : 0 + l.length * 1 ≤ (vi (ix l.length)).length := by simp
      refine bc_dec (fun h => ?_) (fun h => ?_)
      · simp only [vi_whole, bc_t (v1le l), ew, bc_t el]
        have c := conrA l t r lo v (by omega)
        cases hq : E lo with
        | true =>
          have hq' : (l.all fun x => explB t r x lo) = true := hq
          rw [hq'] at c
          refine .inl ⟨⟨c⟩, lo, ⟨⟨Int.le_refl _, h⟩, fun p a b => ?_⟩, rfl⟩
          obtain rfl : p = lo := by omega
          exact hq
        | false =>
          have hq' : (l.all fun x => explB t r x lo) = false := hq
          rw [hq'] at c
          refine .inr ⟨⟨c⟩, (lo + 1, c1, c2), ⟨⟨by show f - t ≤ lo + 1; omega, by show lo + 1 ≤ f + t + 1; omega⟩, fun p a b => ?_⟩, by show (f + t + 1 - (lo + 1)).toNat < (f + t + 1 - lo).toNat; omega, ?_⟩
          · have b : p < lo + 1 := b
            by_cases e : p = lo
            · rw [e]; exact hq
            · exact hn p a (by omega)
          · rw [w64 (by omega) (by omega)]
      · show (if 0 = 0 then _ else _)
        rw [if_pos rfl]
        show nrP3 _ _ 0 0 _
        rw [nrP3_text]
        have hne : (ends l t r).1 > (ends l t r).2 := Decidable.byContradiction fun hc => by
          have a := (hE (ends l t r).1 hBd.1 (by omega)).1 ⟨Int.le_refl _, by omega⟩
          rw [hn _ hBd.1 (by omega)] at a; cases a
        have e : phV l t r = (0, 0, 12) := if_pos hne
        rw [e]; rfl
    · obtain rfl := List.mem_singleton.1 hid2
      refine ⟨⟨Int, st2, inv2, fun hi => (f + t - hi).toNat, fun s' bl h => h, [], by kernel_rfl, by kernel_rfl, fun hi hj => ⟨fun _ _ _ => False, ?_, fun id3 h3 => by cases h3⟩⟩⟩
      obtain ⟨⟨k1, k2⟩, k3⟩ := hj
      show rrP2 _ _ r l.length c1 f lo hi (vi (ix l.length)) l.length c2 t 0 0 (vi l) _ _ _
      rw [rrP2_text, w64 (z := f + t) (by omega) (by omega)]
      have ew : List.take (l.length * 1) (List.drop 0 (vi (ix l.length))) = vi (ix l.length) := by have := vi_whole (ix l.length); rwa [ix_len] at this
      have el : 0 + l.length * 1 ≤ (vi (ix l.length)).length := by simp
      have fin : (hi < f + t → E (hi + 1) = false) → ∀ L B X, irP4 C5 L r lo hi 0 0 B X (fun rs => rs = [.agg [dI (phV l t r).1, dI (phV l t r).2.1], dB (decide ((phV l t r).2.2 = 0))]) := fun hstop L B X => by
        rw [irP4_text]
        have e1 := lo_e (k3 lo (Int.le_refl _) k1) (by omega)
        have a := (hE hi (by omega) k2).2 (k3 hi k1 (Int.le_refl _))
        have e2 : (ends l t r).2 = hi := Decidable.byContradiction fun hc => by
          have := (hE (hi + 1) (by omega) (by omega)).1 ⟨by omega, by omega⟩
          rw [hstop (by omega)] at this; cases this
        have e : phV l t r = (lo % r, lo % r + hi - lo, 0) := by
          unfold phV; rw [e1, e2, if_neg (by omega)]
        have hm := mod_sz (n := lo) hR.1
        refine ⟨_, ⟨conMo lo r (by omega)⟩, ?_⟩
        rw [w64 (z := lo % r + hi) (by omega) (by omega), w64 (by omega) (by omega), e]
        try rfl
      refine bc_dec (fun h => ?_) (fun h => ?_)
      · simp only [vi_whole, bc_t (v1le l), ew, bc_t el]
        rw [w64 (z := hi + 1) (by omega) (by omega)]
        have c := conrA l t r (hi + 1) v (by omega)
        cases hq : E (hi + 1) with
        | true =>
          have hq' : (l.all fun x => explB t r x (hi + 1)) = true := hq
          rw [hq'] at c
          refine .inl ⟨⟨c⟩, hi + 1, ⟨⟨by omega, by omega⟩, fun p a b => ?_⟩, by omega, rfl⟩
          by_cases e : p = hi + 1
          · rw [e]; exact hq
          · exact k3 p a (by omega)
        | false =>
          have hq' : (l.all fun x => explB t r x (hi + 1)) = false := hq
          rw [hq'] at c
          refine .inr ⟨⟨c⟩, ?_⟩
          simp only [if_true]
          exact fin (fun _ => hq) _ _ _
      · simp only [if_true]
        exact fin (fun h' => absurd h' h) _ _ _
end Go.Proofs.G5r

/- What is left to show of each function, written out; the kernel reckons it. -/
namespace Go.Proofs.G5r
open Go Go.Abs Go.Proofs
set_option maxRecDepth 100000
set_option linter.unusedVariables false
def git (C : Ct) (L : AtLoop) (rs : List (List D)) (n0 : Nat) (c0 : Nat) (l0 : List Value) (t : Int) (rd : Int) (ph : Int) (K : Value → Blocks → Prop) : Prop := jFn Try.prog (hM C) L [] 66 #[.func (.yield 915) #[] #[], .pointer (some ⟨500, 0, none⟩), .pointer (some ⟨501, 0, none⟩)] (heapOf [(915, .yld false (some rs)), (500, .cells [.slice (some ⟨502, 0, none⟩) n0 c0, .int .i64 t, .int .i64 rd] 78 false 1), (501, .cells [.int .i64 ph] 3 false 1), (502, .sym l0 false 1)]) (stateK K)
theorem git_text (C : Ct) (L : AtLoop) (rs : List (List D)) (n0 : Nat) (c0 : Nat) (l0 : List Go.Value) (t : Int) (rd : Int) (ph : Int) (K : Go.Value → Blocks → Prop) : git C L rs n0 c0 l0 t rd ph K =
 (bcase (decide (0 < (↑n0 : Int)))
 (∃ n1 : Int,
 ((At (l0) 0 1 [(vI n1)]) ∧
 (bcase (decide (0 ≤ IntKind.wrap .i64 ((↑n0 : Int) - 1)))
 (bcase (decide (IntKind.wrap .i64 ((↑n0 : Int) - 1) < (↑n0 : Int)))
 (∃ n2 : Int,
 ((At (l0) (0 + Int.toNat (IntKind.wrap .i64 ((↑n0 : Int) - 1)) * 1) 1 [(vI n2)]) ∧
 (((∃ n3 : Int,
 ((At (l0) (0 + Int.toNat (IntKind.wrap .i64 ((↑n0 : Int) - 1)) * 1) 1 [(vI n3)]) ∧
 ((vI n3) = (vI n2)))) ∧
 ((bcase (decide (0 ≤ IntKind.wrap .i64 ((↑n0 : Int) - 1)))
 (bcase (decide (IntKind.wrap .i64 ((↑n0 : Int) - 1) < (↑n0 : Int)))
 (Qv (Pt 502 (0 + Int.toNat (IntKind.wrap .i64 ((↑n0 : Int) - 1)) * 1)))
 False)
 False) ∧
 ((Qv (vI (IntKind.wrap .i64 ((↑n0 : Int) - 1)))) ∧
 ((Qv (vI ((↑n0 : Int)))) ∧
 ((Qv (Sl 502 (n0) (c0))) ∧
 ((Qv (Pt 500 0)) ∧
 ((Qv (Pt 500 0)) ∧
 ((Qv (Sl 502 (n0) (c0))) ∧
 ((Qv (Pt 500 0)) ∧
 ((Qv (Pt 500 0)) ∧
 ((∃ n3 : Int,
 ((At (l0) 0 1 [(vI n3)]) ∧
 ((vI n3) = (vI n1)))) ∧
 ((bcase (decide (0 < (↑n0 : Int)))
 (Qv (Pt 502 0))
 False) ∧
 ((Qv (Sl 502 (n0) (c0))) ∧
 ((Qv (Pt 500 0)) ∧
 ((Qv (Pt 500 0)) ∧
 True))))))))))))))) ∧
 (((∃ n3 : Int,
 ((At (l0) (0 + Int.toNat (IntKind.wrap .i64 ((↑n0 : Int) - 1)) * 1) 1 [(vI n3)]) ∧
 ((vI n3) = (vI n2)))) ∧
 ((bcase (decide (0 ≤ IntKind.wrap .i64 ((↑n0 : Int) - 1)))
 (bcase (decide (IntKind.wrap .i64 ((↑n0 : Int) - 1) < (↑n0 : Int)))
 (Qv (Pt 502 (0 + Int.toNat (IntKind.wrap .i64 ((↑n0 : Int) - 1)) * 1)))
 False)
 False) ∧
 ((Qv (vI (IntKind.wrap .i64 ((↑n0 : Int) - 1)))) ∧
 ((Qv (vI ((↑n0 : Int)))) ∧
 ((Qv (Sl 502 (n0) (c0))) ∧
 ((Qv (Pt 500 0)) ∧
 ((Qv (Pt 500 0)) ∧
 ((Qv (Sl 502 (n0) (c0))) ∧
 ((Qv (Pt 500 0)) ∧
 ((Qv (Pt 500 0)) ∧
 True)))))))))) ∧
 (True ∧
 (∃ n3 : Int,
 ((Says C 64 [(D.val (vI (IntKind.wrap .i64 (ph - n1)))), (D.val (vI rd))] [(D.val (vI n3))]) ∧
 (L 0 [(Prod.mk 0 (Value.func (Go.Fn.yield 915) [].toArray [].toArray)), (Prod.mk 1 (Pt 500 0)), (Prod.mk 5 (vI n2)), (Prod.mk 6 (vI (IntKind.wrap .i64 (n1 + n3))))] [(Prod.mk 915 (AObj.yld false (some (rs)))), (Prod.mk 500 (AObj.cells [(Sl 502 (n0) (c0)), (vI t), (vI rd)] 78 false 1)), (Prod.mk 502 (AObj.sym (l0) false 1))]))))))))
 False)
 False)))
 False) := by kernel_rfl
abbrev zit1 (x0 : Int) (x1 : Int) (rs2 : List (List D)) (n3 : Nat) (c4 : Nat) (x5 : Int) (x6 : Int) (l7 : List Value) : Slots × Blocks := ([(0, (Value.func (.yield 915) #[] #[])), (1, (Value.pointer (some ⟨500, 0, none⟩))), (5, (Value.int .i64 x0)), (6, (Value.int .i64 x1))], [(915, (AObj.yld false (some rs2))), (500, (AObj.cells [(Value.slice (some ⟨502, 0, none⟩) n3 c4), (Value.int .i64 x5), (Value.int .i64 x6)] 78 false 1)), (502, (AObj.sym l7 false 1))])
def rit1 (C : Ct) (L : AtLoop) (x0 : Int) (x1 : Int) (rs2 : List (List D)) (n3 : Nat) (c4 : Nat) (x5 : Int) (x6 : Int) (l7 : List Value) (B : Bx) (X : Xx) (K : Value → Blocks → Prop) : Prop := jRound Try.prog (hM C) L [] 66 0 [(0, (Value.func (.yield 915) #[] #[])), (1, (Value.pointer (some ⟨500, 0, none⟩))), (5, (Value.int .i64 x0)), (6, (Value.int .i64 x1))] [(915, (AObj.yld false (some rs2))), (500, (AObj.cells [(Value.slice (some ⟨502, 0, none⟩) n3 c4), (Value.int .i64 x5), (Value.int .i64 x6)] 78 false 1)), (502, (AObj.sym l7 false 1))] B X (stateK K)
theorem rit1_text (C : Ct) (L : AtLoop) (x0 : Int) (x1 : Int) (rs2 : List (List D)) (n3 : Nat) (c4 : Nat) (x5 : Int) (x6 : Int) (l7 : List Go.Value) (B : Bx) (X : Xx) (K : Go.Value → Blocks → Prop) : rit1 C L x0 x1 rs2 n3 c4 x5 x6 l7 B X K =
 (bcase (decide (x1 ≤ x0))
 (bcase (decide (0 + n3 * 1 ≤ List.length l7))
 (((Says C 67 [(D.agg [(D.sl (n3) 1 (List.take (n3 * 1) (List.drop 0 l7))), (D.val (vI x5)), (D.val (vI x6))]), (D.val (vI x1))] [(D.val (Value.bool true))]) ∧
 (B [(Prod.mk 0 (Value.func (Go.Fn.yield 915) [].toArray [].toArray)), (Prod.mk 1 (Pt 500 0)), (Prod.mk 5 (vI x0)), (Prod.mk 6 (vI (IntKind.wrap .i64 (x1 + x6))))] [(Prod.mk 915 (AObj.yld false (some (rs2)))), (Prod.mk 500 (AObj.cells [(Sl 502 (n3) (c4)), (vI x5), (vI x6)] 78 false 1)), (Prod.mk 502 (AObj.sym (l7) false 1))])) ∨
 ((Says C 67 [(D.agg [(D.sl (n3) 1 (List.take (n3 * 1) (List.drop 0 l7))), (D.val (vI x5)), (D.val (vI x6))]), (D.val (vI x1))] [(D.val (Value.bool false))]) ∧
 (∃ rest'1 : List (List D),
 ((NextIs (rs2) [(D.val (vI x1))] (rest'1)) ∧
 ((B [(Prod.mk 0 (Value.func (Go.Fn.yield 915) [].toArray [].toArray)), (Prod.mk 1 (Pt 500 0)), (Prod.mk 5 (vI x0)), (Prod.mk 6 (vI (IntKind.wrap .i64 (x1 + x6))))] [(Prod.mk 915 (AObj.yld false (some (rest'1)))), (Prod.mk 500 (AObj.cells [(Sl 502 (n3) (c4)), (vI x5), (vI x6)] 78 false 1)), (Prod.mk 502 (AObj.sym (l7) false 1))]) ∧
 (K (Value.tuple [].toArray) [(Prod.mk 915 (AObj.yld false none))]))))))
 False)
 (X 0 [] [(Prod.mk 915 (AObj.yld false (some (rs2))))])) := by kernel_rfl
def nit2 (C : Ct) (L : AtLoop) (rs0 : List (List D)) (K : Value → Blocks → Prop) : Prop := jNext Try.prog (hM C) L [] 66 0 .normal [] [(915, (AObj.yld false (some rs0)))] (stateK K)
theorem nit2_text (C : Ct) (L : AtLoop) (rs0 : List (List D)) (K : Go.Value → Blocks → Prop) : nit2 C L rs0 K =
 (K (Value.tuple [].toArray) [(Prod.mk 915 (AObj.yld false (some (rs0))))]) := by kernel_rfl
def gAS (C : Ct) (L : AtLoop) (n0 : Nat) (c0 : Nat) (l0 : List Value) (t : Int) (rd : Int) (ph : Int) (K : Value → Blocks → Prop) : Prop := jFn Try.prog (hM C) L [] 65 #[.slice none 0 0, .func (.func 66) #[] #[.pointer (some ⟨500, 0, none⟩), .pointer (some ⟨501, 0, none⟩)]] (heapOf [(500, .cells [.slice (some ⟨502, 0, none⟩) n0 c0, .int .i64 t, .int .i64 rd] 78 false 1), (501, .cells [.int .i64 ph] 3 false 1), (502, .sym l0 false 1)]) (stateK K)
theorem gAS_text (C : Ct) (L : AtLoop) (n0 : Nat) (c0 : Nat) (l0 : List Go.Value) (t : Int) (rd : Int) (ph : Int) (K : Go.Value → Blocks → Prop) : gAS C L n0 c0 l0 t rd ph K =
 (L 50002 [(Prod.mk 2 (Pt 1000 0)), (Prod.mk 4 (Value.slice none 0 0)), (Prod.mk 6 (Value.func (Go.Fn.func 66) [].toArray [(Pt 500 0), (Pt 501 0)].toArray))] [(Prod.mk 1000 (AObj.cells [(Value.slice none 0 0)] 22 false 1)), (Prod.mk 500 (AObj.cells [(Sl 502 (n0) (c0)), (vI t), (vI rd)] 78 false 1)), (Prod.mk 501 (AObj.cells [(vI ph)] 3 false 1)), (Prod.mk 502 (AObj.sym (l0) false 1))]) := by kernel_rfl
abbrev zAS1 (n0 : Nat) (c1 : Nat) (x2 : Int) (x3 : Int) (x4 : Int) (l5 : List Value) : Slots × Blocks := ([(2, (Value.pointer (some ⟨1000, 0, none⟩))), (4, (Value.slice none 0 0)), (6, (Value.func (.func 66) #[] #[(Value.pointer (some ⟨500, 0, none⟩)), (Value.pointer (some ⟨501, 0, none⟩))]))], [(1000, (AObj.cells [(Value.slice none 0 0)] 22 false 1)), (500, (AObj.cells [(Value.slice (some ⟨502, 0, none⟩) n0 c1), (Value.int .i64 x2), (Value.int .i64 x3)] 78 false 1)), (501, (AObj.cells [(Value.int .i64 x4)] 3 false 1)), (502, (AObj.sym l5 false 1))])
def hAS1 (n0 : Nat) (c1 : Nat) (x2 : Int) (x3 : Int) (x4 : Int) (l5 : List Value) (Kr : Kh) : Prop := rHead Try.prog 65 50002 [(2, (Value.pointer (some ⟨1000, 0, none⟩))), (4, (Value.slice none 0 0)), (6, (Value.func (.func 66) #[] #[(Value.pointer (some ⟨500, 0, none⟩)), (Value.pointer (some ⟨501, 0, none⟩))]))] [(1000, (AObj.cells [(Value.slice none 0 0)] 22 false 1)), (500, (AObj.cells [(Value.slice (some ⟨502, 0, none⟩) n0 c1), (Value.int .i64 x2), (Value.int .i64 x3)] 78 false 1)), (501, (AObj.cells [(Value.int .i64 x4)] 3 false 1)), (502, (AObj.sym l5 false 1))] Kr
theorem hAS1_text (n0 : Nat) (c1 : Nat) (x2 : Int) (x3 : Int) (x4 : Int) (l5 : List Go.Value) (Kr : Kh) : hAS1 n0 c1 x2 x3 x4 l5 Kr =
 (Kr 66 [(Value.func (Go.Fn.yield 915) [].toArray [].toArray), (Pt 500 0), (Pt 501 0)] [(Prod.mk 500 (AObj.cells [(Sl 502 (n0) (c1)), (vI x2), (vI x3)] 78 false 1)), (Prod.mk 501 (AObj.cells [(vI x4)] 3 false 1)), (Prod.mk 502 (AObj.sym (l5) false 1))] [(Prod.mk 2 (Pt 1000 0)), (Prod.mk 4 (Value.slice none 0 0)), (Prod.mk 1000000 (Value.map (some 1001)))] [(Prod.mk 1000 (AObj.cells [(Value.slice none 0 0)] 22 false 1)), (Prod.mk 1001 AObj.deferred)]) := by kernel_rfl
abbrev zAS2 : Slots × Blocks := ([(2, (Value.pointer (some ⟨1000, 0, none⟩))), (4, (Value.slice none 0 0)), (1000000, (Go.Value.map (Option.some 1001)))], [(1000, (AObj.cells [(Value.slice none 0 0)] 22 false 1)), (1001, AObj.deferred)])
def wAS2 (C : Ct) (y0 : Int) (B : Bx) (X : Ex) : Prop := rRound Try.prog (hM C) 65 50002 [(2, (Value.pointer (some ⟨1000, 0, none⟩))), (4, (Value.slice none 0 0)), (1000000, (Go.Value.map (Option.some 1001)))] [(1000, (AObj.cells [(Value.slice none 0 0)] 22 false 1)), (1001, AObj.deferred)] [(.val (.int .i64 y0))] B X
theorem wAS2_text (C : Ct) (y0 : Int) (B : Bx) (X : Ex) : wAS2 C y0 B X =
 (∀ caps : Nat → Nat,
 (B [(Prod.mk 2 (Pt 1000 0)), (Prod.mk 4 (Value.slice none 0 0)), (Prod.mk 1000000 (Value.map (some 1001)))] [(Prod.mk 1000 (AObj.cells [(Sl 1002 1 1)] 22 false 1)), (Prod.mk 1001 AObj.deferred), (Prod.mk 1002 (AObj.sym [(vI y0)] true 1))])) := by kernel_rfl
def nAS3 (C : Ct) (L : AtLoop) (K : Value → Blocks → Prop) : Prop := jNext Try.prog (hM C) L [] 65 50002 .normal [(2, (Value.pointer (some ⟨1000, 0, none⟩))), (4, (Value.slice none 0 0)), (1000000, (Go.Value.map (Option.some 1001)))] [(1000, (AObj.cells [(Value.slice none 0 0)] 22 false 1)), (1001, AObj.deferred)] (stateK K)
theorem nAS3_text (C : Ct) (L : AtLoop) (K : Go.Value → Blocks → Prop) : nAS3 C L K =
 (K (Value.slice none 0 0) []) := by kernel_rfl
abbrev zAS4 (n0 : Nat) (l1 : List Value) : Slots × Blocks := ([(2, (Value.pointer (some ⟨1000, 0, none⟩))), (4, (Value.slice none 0 0)), (1000000, (Go.Value.map (Option.some 1001)))], [(1000, (AObj.cells [(Value.slice (some ⟨1002, 0, none⟩) n0 n0)] 22 false 1)), (1001, AObj.deferred), (1002, (AObj.sym l1 true 1))])
def wAS4 (C : Ct) (n0 : Nat) (l1 : List Value) (y0 : Int) (B : Bx) (X : Ex) : Prop := rRound Try.prog (hM C) 65 50002 [(2, (Value.pointer (some ⟨1000, 0, none⟩))), (4, (Value.slice none 0 0)), (1000000, (Go.Value.map (Option.some 1001)))] [(1000, (AObj.cells [(Value.slice (some ⟨1002, 0, none⟩) n0 n0)] 22 false 1)), (1001, AObj.deferred), (1002, (AObj.sym l1 true 1))] [(.val (.int .i64 y0))] B X
theorem wAS4_text (C : Ct) (n0 : Nat) (l1 : List Go.Value) (y0 : Int) (B : Bx) (X : Ex) : wAS4 C n0 l1 y0 B X =
 (∀ caps : Nat → Nat,
 (bcase (decide (n0 < n0 + 1))
 (bcase (decide ((2 * (n0 + 1) + 768) * 8 ≤ 281474976710656))
 (bcase (decide (n0 + 1 ≤ 1099511627776))
 (bcase (decide (0 + n0 * 1 ≤ List.length l1))
 (bcase (decide (0 + n0 * 1 = List.length l1))
 (B [(Prod.mk 2 (Pt 1000 0)), (Prod.mk 4 (Value.slice none 0 0)), (Prod.mk 1000000 (Value.map (some 1001)))] [(Prod.mk 1000 (AObj.cells [(Sl 1002 (n0 + 1) (n0 + 1))] 22 false 1)), (Prod.mk 1001 AObj.deferred), (Prod.mk 1002 (AObj.sym ((List.take (n0 * 1) (List.drop 0 l1)) ++ [(vI y0)]) true 1))])
 False)
 False)
 False)
 False)
 False)) := by kernel_rfl
def nAS5 (C : Ct) (L : AtLoop) (n0 : Nat) (l1 : List Value) (K : Value → Blocks → Prop) : Prop := jNext Try.prog (hM C) L [] 65 50002 .normal [(2, (Value.pointer (some ⟨1000, 0, none⟩))), (4, (Value.slice none 0 0)), (1000000, (Go.Value.map (Option.some 1001)))] [(1000, (AObj.cells [(Value.slice (some ⟨1002, 0, none⟩) n0 n0)] 22 false 1)), (1001, AObj.deferred), (1002, (AObj.sym l1 true 1))] (stateK K)
theorem nAS5_text (C : Ct) (L : AtLoop) (n0 : Nat) (l1 : List Go.Value) (K : Go.Value → Blocks → Prop) : nAS5 C L n0 l1 K =
 (K (Sl 1000 (n0) (n0)) [(Prod.mk 1000 (AObj.sym (l1) true 1))]) := by kernel_rfl
end Go.Proofs.G5r

/- Chapter 6, marks: where marks are missing, in data. -/
namespace Go.Proofs.G5r
open Go Go.Abs Go.Proofs
set_option maxRecDepth 100000
def misF (near : Int → Bool) (r last : Int) : Nat → Int → List Int
  | 0, _ => []
  | n + 1, at' => if at' ≤ last then if near at' = true then misF near r last n (at' + r) else at' :: misF near r last n (at' + r) else []
theorem misF_eq {near : Int → Bool} {r last : Int} (hr : 1 ≤ r) : ∀ (n m : Nat) (a : Int), last + 1 - a ≤ n → last + 1 - a ≤ m → misF near r last n a = misF near r last m a
  | 0, 0, _, _, _ => rfl
  | 0, m + 1, a, h, _ => by rw [misF, misF, if_neg (by omega)]
  | n + 1, 0, a, _, h => by rw [misF, misF, if_neg (by omega)]
  | n + 1, m + 1, a, h1, h2 => by
    rw [misF, misF]
    split
    · rw [misF_eq hr n m (a + r) (by omega) (by omega)]
    · rfl
def misA (near : Int → Bool) (r last a : Int) : List Int := misF near r last (last + 1 - a).toNat a
theorem misA_step {near : Int → Bool} {r last a : Int} (hr : 1 ≤ r) (h : a ≤ last) : misA near r last a = if near a = true then misA near r last (a + r) else a :: misA near r last (a + r) := by
  unfold misA
  have e : (last + 1 - a).toNat = (last - a).toNat + 1 := by omega
  rw [e, misF, if_pos h, misF_eq hr (last - a).toNat (last + 1 - (a + r)).toNat (a + r) (by omega) (by omega)]
theorem misA_end {near : Int → Bool} {r last a : Int} (h : ¬ a ≤ last) : misA near r last a = [] := by
  unfold misA
  have e : (last + 1 - a).toNat = 0 := by omega
  rw [e]; rfl
def lastI (l : List Int) : Int := l.getD (l.length - 1) 0
def strt (l : List Int) (r ph : Int) : Int := l.getD 0 0 + (ph - l.getD 0 0) % r
def misM (l : List Int) (t r ph : Int) : List Int := misA (nearB l t) r (lastI l) (strt l r ph)
def lsD (l : List Int) : D := if l.length = 0 then .nil else .sl l.length 1 (vi l)
theorem last_rng {l : List Int} {t r : Int} (v : VM l t r) : 0 ≤ lastI l ∧ lastI l ≤ 1000000 := by
  unfold lastI
  rw [vgd (show l.length - 1 < l.length by have := v.n2; omega)]; exact v.rng _ (List.getElem_mem _)
theorem strt_rng {l : List Int} {t r ph : Int} (v : VM l t r) : 0 ≤ strt l r ph ∧ strt l r ph ≤ 1010000 := by
  have := head_rng v
  have := v.rd
  have := mod_sz (n := ph - l.getD 0 0) v.rd.1
  unfold strt; omega
def rowsM (x : List Int) : List (List D) := x.map fun z => [dI z]
theorem runMi (l : List Int) (t r ph : Int) (c : Nat) (v : VM l t r) (hp : 0 ≤ ph ∧ ph ≤ 10000) :
    CallS Try.prog 66 [.func (.yield 915) #[] #[], .pointer (some ⟨500, 0, none⟩), .pointer (some ⟨501, 0, none⟩)] [(915, .yld false (some (rowsM (misM l t r ph)))), (500, .cells [.slice (some ⟨502, 0, none⟩) l.length c, .int .i64 t, .int .i64 r] 78 false 1), (501, .cells [.int .i64 ph] 3 false 1), (502, .sym (vi l) false 1)] EndY := by
  have hl := v.n30
  have h2 := v.n2
  have hF := head_rng v
  have hL := last_rng v
  have hS := strt_rng (ph := ph) v
  have hT := v.tol
  have hR := v.rd
  have ht : 0 ≤ t ∧ t ≤ 10000 := hT
  let inv : Int → Prop := fun a => 0 ≤ a ∧ a ≤ 1010000
  let st : Int → Slots × Blocks := fun a => zit1 (lastI l) a (rowsM (misA (nearB l t) r (lastI l) a)) l.length c t r (vi l)
  refine callS_JR hokM mixed [] (L := fun _ x bl => ∃ a, inv a ∧ st a = (x, bl)) Try.func66 rfl (.inr rfl) (pts := [0]) (loops := [0]) (by kernel_rfl) (by kernel_rfl) ?_ (fun id q1 q2 => absurd q1 q2) (fun id hid hlt => ?_) (fun id hid hlt => absurd (by obtain rfl := List.mem_singleton.1 hid; decide) hlt)
  · show git C5 _ (rowsM (misM l t r ph)) l.length c (vi l) t r ph _
    rw [git_text]
    have hb := vi_at l 0 (by omega)
    rw [Nat.zero_mul, Nat.add_zero, show l[0] = l.getD 0 0 from (vgd (show 0 < l.length by omega)).symm] at hb
    have e1 : IntKind.wrap .i64 ((l.length : Int) - 1) = ((l.length - 1 : Nat) : Int) := by rw [w64 (by omega) (by omega)]; omega
    have hc := vi_at l (l.length - 1) (by omega)
    rw [show l[l.length - 1] = lastI l from (vgd (show l.length - 1 < l.length by omega)).symm] at hc
    simp only [e1, bc_t (show (0 : Int) < (l.length : Int) by omega), at1 hb, bc_t (show (0 : Int) ≤ ((l.length - 1 : Nat) : Int) by omega), bc_t (show ((l.length - 1 : Nat) : Int) < (l.length : Int) by omega), Int.toNat_natCast, at1 hc, Qv, eq_self, true_and, and_true]
    rw [w64 (z := ph - _) (by omega) (by omega)]
    refine ⟨_, ⟨conmo (ph - l.getD 0 0) r (by omega)⟩, strt l r ph, by show 0 ≤ strt l r ph ∧ strt l r ph ≤ 1010000; exact hS, ?_⟩
    have hm := mod_sz (n := ph - l.getD 0 0) hR.1
    rw [w64 (z := l.getD 0 0 + _) (by omega) (by omega)]
    try rfl
  · obtain rfl := List.mem_singleton.1 hid
    refine ⟨⟨Int, st, inv, fun a => (lastI l + 1 - a).toNat, fun s bl h => h, [], [], by kernel_rfl, by kernel_rfl, by decide, ?_⟩⟩
    intro a ha
    have ha : 0 ≤ a ∧ a ≤ 1010000 := ha
    refine ⟨fun _ _ _ => False, ?_, (fun id2 q1 _ => by cases q1), (fun id2 q1 => by cases q1), (fun id2 q1 => by cases q1)⟩
    show rit1 C5 _ (lastI l) a (rowsM (misA (nearB l t) r (lastI l) a)) l.length c t r (vi l) _ _ _
    rw [rit1_text]
    refine bc_dec (fun h => ?_) (fun h => ?_)
    · have cn := conhn l t r a v.inc (by omega) ht (by omega)
      simp only [vi_whole, bc_t (v1le l)]
      rw [misA_step hR.1 h]
      cases hq : nearB l t a with
      | true =>
        rw [hq] at cn
        refine .inl ⟨⟨cn⟩, a + r, by show 0 ≤ a + r ∧ a + r ≤ 1010000; omega, by show (lastI l + 1 - (a + r)).toNat < (lastI l + 1 - a).toNat; omega, ?_⟩
        rw [w64 (by omega) (by omega)]
        try rfl
      | false =>
        rw [hq] at cn
        refine .inr ⟨⟨cn⟩, rowsM (misA (nearB l t) r (lastI l) (a + r)), ⟨rfl⟩, ⟨a + r, by show 0 ≤ a + r ∧ a + r ≤ 1010000; omega, by show (lastI l + 1 - (a + r)).toNat < (lastI l + 1 - a).toNat; omega, ?_⟩, ⟨none, rfl, .inr rfl⟩⟩
        rw [w64 (by omega) (by omega)]
        try rfl
    · show (if 0 = 0 then _ else _)
      rw [if_pos rfl]
      show nit2 C5 _ (rowsM (misA (nearB l t) r (lastI l) a)) _
      rw [nit2_text, misA_end h]
      exact ⟨some [], rfl, .inl rfl⟩
end Go.Proofs.G5r
