/- Texts of the proof, put together: GbTC, GbB6, GbB7, GbB8, G5Y, GbB9, GbBA. -/
import Derived.Test.YtekodcjnlkfipaaP8
import Derived.Test.YtekodcjnlkfipaaP7
/- What is left to show of each function, written out; the kernel reckons it. -/
namespace Go.Proofs.G5b
open Go Go.Abs Go.Proofs
set_option maxRecDepth 100000
set_option linter.unusedVariables false
def gEq (C : Ct) (L : AtLoop) (n cap : Nat) (l : List Value) (m cap2 : Nat) (l2 : List Value) (k : List D → Prop) : Prop := wpFn Try.prog (hK C) L 0 48 #[S500 n cap, S501 m cap2] (heapOf [T500 l, T501 l2]) (dataK k)
theorem gEq_text (C : Ct) (L : AtLoop) (n : Nat) (cap : Nat) (l : List Go.Value) (m : Nat) (cap2 : Nat) (l2 : List Go.Value) (k : List D → Prop) : gEq C L n cap l m cap2 l2 k =
 (bcase ((↑n : Int) != (↑m : Int))
 (k [(D.val (Value.bool false))])
 (L 0 [(Prod.mk 0 (Go.Value.slice (Option.some (Go.Addr.mk 500 0 Option.none)) (n) (cap))), (Prod.mk 1 (Go.Value.slice (Option.some (Go.Addr.mk 501 0 Option.none)) (m) (cap2))), (Prod.mk 12 (vI ((↑n : Int)))), (Prod.mk 13 (vI (0 : Int)))] [(Prod.mk 500 (AObj.sym (l) false 2)), (Prod.mk 501 (AObj.sym (l2) false 2))])) := by kernel_rfl
def gIL (C : Ct) (L : AtLoop) (n cap : Nat) (l : List Value) (m cap2 : Nat) (l2 : List Value) (k : List D → Prop) : Prop := wpFn Try.prog (hK C) L 0 49 #[S500 n cap, S501 m cap2] (heapOf [L500 l, T501 l2]) (dataK k)
theorem gIL_text (C : Ct) (L : AtLoop) (n : Nat) (cap : Nat) (l : List Go.Value) (m : Nat) (cap2 : Nat) (l2 : List Go.Value) (k : List D → Prop) : gIL C L n cap l m cap2 l2 k =
 (L 0 [(Prod.mk 0 (Go.Value.slice (Option.some (Go.Addr.mk 500 0 Option.none)) (n) (cap))), (Prod.mk 7 (Go.Value.slice (Option.some (Go.Addr.mk 501 0 Option.none)) (m) (cap2))), (Prod.mk 8 (vI ((↑m : Int)))), (Prod.mk 9 (vI (0 : Int)))] [(Prod.mk 500 (AObj.sym (l) false 7)), (Prod.mk 501 (AObj.sym (l2) false 2))]) := by kernel_rfl
def gCB (C : Ct) (L : AtLoop) (n cap : Nat) (l : List Value) (m cap2 : Nat) (l2 : List Value) (k : List D → Prop) : Prop := wpFn Try.prog (hK C) L 0 17 #[.agg #[S500 n cap], S501 m cap2] (heapOf [L500 l, T501 l2]) (dataK k)
theorem gCB_text (C : Ct) (L : AtLoop) (n : Nat) (cap : Nat) (l : List Go.Value) (m : Nat) (cap2 : Nat) (l2 : List Go.Value) (k : List D → Prop) : gCB C L n cap l m cap2 l2 k =
 (bcase (decide (0 + n * 7 ≤ List.length l))
 (∃ n1 : Int,
 (∃ n2 : Int,
 ((Says C 9 [(D.agg [(D.sl (n) 7 (List.take (n * 7) (List.drop 0 l)))])] [(D.val (vI n1)), (D.val (vI n2))]) ∧
 (bcase (n2 != 0)
 (∃ n3 : Int,
 ((Says C 38 [(D.val (vI (0 : Int))), (D.sl 1 1 [(vI ((↑m : Int)))])] [(D.val (vI n3))]) ∧
 (∃ n4 : Int,
 ((Says C 37 [(D.sl 2 1 [(vI n2), (vI n3)])] [(D.val (vI n4))]) ∧
 (bcase (n4 != 0)
 (k [(D.val (vI (0 : Int))), (D.val (vI n4))])
 (L 0 [(Prod.mk 1 (Go.Value.slice (Option.some (Go.Addr.mk 501 0 Option.none)) (m) (cap2))), (Prod.mk 6 (Go.Value.slice Option.none 0 0)), (Prod.mk 32 (Go.Value.slice (Option.some (Go.Addr.mk 501 0 Option.none)) (m) (cap2))), (Prod.mk 33 (vI ((↑m : Int)))), (Prod.mk 34 (vI (0 : Int)))] [(Prod.mk 501 (AObj.sym (l2) false 2))]))))))
 (∃ n3 : Int,
 ((Says C 38 [(D.val (vI ((↑n : Int)))), (D.sl 1 1 [(vI ((↑m : Int)))])] [(D.val (vI n3))]) ∧
 (∃ n4 : Int,
 ((Says C 37 [(D.sl 2 1 [(vI (0 : Int)), (vI n3)])] [(D.val (vI n4))]) ∧
 (bcase (n4 != 0)
 (k [(D.val (vI (0 : Int))), (D.val (vI n4))])
 (L 0 [(Prod.mk 1 (Go.Value.slice (Option.some (Go.Addr.mk 501 0 Option.none)) (m) (cap2))), (Prod.mk 6 (Go.Value.slice (Option.some (Go.Addr.mk 500 0 Option.none)) (n) (cap))), (Prod.mk 32 (Go.Value.slice (Option.some (Go.Addr.mk 501 0 Option.none)) (m) (cap2))), (Prod.mk 33 (vI ((↑m : Int)))), (Prod.mk 34 (vI (0 : Int)))] [(Prod.mk 501 (AObj.sym (l2) false 2)), (Prod.mk 500 (AObj.sym (l) false 7))]))))))))))
 False) := by kernel_rfl
def gBF (C : Ct) (L : AtLoop) (n cap : Nat) (l : List Value) (m cap2 : Nat) (l2 : List Value) (k : List D → Prop) : Prop := wpFn Try.prog (hK C) L 0 19 #[.agg #[S500 n cap], S501 m cap2] (heapOf [L500 l, Q501 l2]) (dataK k)
theorem gBF_text (C : Ct) (L : AtLoop) (n : Nat) (cap : Nat) (l : List Go.Value) (m : Nat) (cap2 : Nat) (l2 : List Go.Value) (k : List D → Prop) : gBF C L n cap l m cap2 l2 k =
 (bcase (decide (0 + n * 7 ≤ List.length l))
 (∃ n1 : Int,
 (∃ n2 : Int,
 ((Says C 9 [(D.agg [(D.sl (n) 7 (List.take (n * 7) (List.drop 0 l)))])] [(D.val (vI n1)), (D.val (vI n2))]) ∧
 (bcase (n2 != 0)
 (∃ n3 : Int,
 ((Says C 38 [(D.val (vI (0 : Int))), (D.sl 1 1 [(vI ((↑m : Int)))])] [(D.val (vI n3))]) ∧
 (∃ n4 : Int,
 ((Says C 37 [(D.sl 2 1 [(vI n2), (vI n3)])] [(D.val (vI n4))]) ∧
 (bcase (n4 != 0)
 (k [D.nil, (D.val (vI n4))])
 (L 0 [(Prod.mk 1 (Go.Value.slice (Option.some (Go.Addr.mk 501 0 Option.none)) (m) (cap2))), (Prod.mk 6 (Go.Value.slice Option.none 0 0)), (Prod.mk 31 (Go.Value.slice (Option.some (Go.Addr.mk 501 0 Option.none)) (m) (cap2))), (Prod.mk 32 (vI ((↑m : Int)))), (Prod.mk 33 (vI (0 : Int)))] [(Prod.mk 501 (AObj.sym (l2) false 1))]))))))
 (∃ n3 : Int,
 ((Says C 38 [(D.val (vI ((↑n : Int)))), (D.sl 1 1 [(vI ((↑m : Int)))])] [(D.val (vI n3))]) ∧
 (∃ n4 : Int,
 ((Says C 37 [(D.sl 2 1 [(vI (0 : Int)), (vI n3)])] [(D.val (vI n4))]) ∧
 (bcase (n4 != 0)
 (k [D.nil, (D.val (vI n4))])
 (L 0 [(Prod.mk 1 (Go.Value.slice (Option.some (Go.Addr.mk 501 0 Option.none)) (m) (cap2))), (Prod.mk 6 (Go.Value.slice (Option.some (Go.Addr.mk 500 0 Option.none)) (n) (cap))), (Prod.mk 31 (Go.Value.slice (Option.some (Go.Addr.mk 501 0 Option.none)) (m) (cap2))), (Prod.mk 32 (vI ((↑m : Int)))), (Prod.mk 33 (vI (0 : Int)))] [(Prod.mk 501 (AObj.sym (l2) false 1)), (Prod.mk 500 (AObj.sym (l) false 7))]))))))))))
 False) := by kernel_rfl
def gRC (C : Ct) (L : AtLoop) (n cap : Nat) (l : List Value) (m cap2 : Nat) (l2 : List Value) (k : List D → Prop) : Prop := wpFn Try.prog (hK C) L 0 22 #[.agg #[S500 n cap], S501 m cap2] (heapOf [L500 l, T501 l2]) (dataK k)
theorem gRC_text (C : Ct) (L : AtLoop) (n : Nat) (cap : Nat) (l : List Go.Value) (m : Nat) (cap2 : Nat) (l2 : List Go.Value) (k : List D → Prop) : gRC C L n cap l m cap2 l2 k =
 (bcase ((↑m : Int) != (↑n : Int))
 (k [(D.val (vI (0 : Int))), (D.val (vI (10 : Int)))])
 (L 0 [(Prod.mk 1 (Go.Value.slice (Option.some (Go.Addr.mk 501 0 Option.none)) (m) (cap2))), (Prod.mk 2 (Go.Value.pointer (Option.some (Go.Addr.mk 1000 0 Option.none)))), (Prod.mk 6 (vI (0 : Int)))] [(Prod.mk 501 (AObj.sym (l2) false 2)), (Prod.mk 1000 (AObj.cells [(Go.Value.slice (Option.some (Go.Addr.mk 500 0 Option.none)) (n) (cap))] 24 false 1)), (Prod.mk 500 (AObj.sym (l) false 7))])) := by kernel_rfl
def gRg (C : Ct) (L : AtLoop) (n cap : Nat) (l : List Value) (m cap2 : Nat) (l2 : List Value) (k : List D → Prop) : Prop := wpFn Try.prog (hK C) L 0 24 #[S500 n cap, S501 m cap2] (heapOf [T500 l, T501 l2]) (dataK k)
theorem gRg_text (C : Ct) (L : AtLoop) (n : Nat) (cap : Nat) (l : List Go.Value) (m : Nat) (cap2 : Nat) (l2 : List Go.Value) (k : List D → Prop) : gRg C L n cap l m cap2 l2 k =
 (bcase ((↑n : Int) != (↑m : Int))
 (k [(D.val (Value.bool false))])
 (L 0 [(Prod.mk 0 (Go.Value.slice (Option.some (Go.Addr.mk 500 0 Option.none)) (n) (cap))), (Prod.mk 1 (Go.Value.slice (Option.some (Go.Addr.mk 501 0 Option.none)) (m) (cap2))), (Prod.mk 5 (vI (0 : Int)))] [(Prod.mk 500 (AObj.sym (l) false 2)), (Prod.mk 501 (AObj.sym (l2) false 2))])) := by kernel_rfl
def gCR (C : Ct) (L : AtLoop) (n cap : Nat) (l : List Value) (k : List D → Prop) : Prop := wpFn Try.prog (hE C) L 0 18 #[S500 n cap] (heapOf [T500 l]) (dataK k)
theorem gCR_text (C : Ct) (L : AtLoop) (n : Nat) (cap : Nat) (l : List Go.Value) (k : List D → Prop) : gCR C L n cap l k =
 (bcase (decide (0 + n * 2 ≤ List.length l))
 (bcase (n == 0)
 (((0 = 0) ∧
 (0 = 0)) ∧
 (k [(D.sl 0 2 [])]))
 (bcase (decide (0 < 0 + n))
 (bcase (decide ((2 * (0 + n) + 768) * 16 ≤ 281474976710656))
 (bcase (decide (0 + n ≤ 1099511627776))
 ((((0 + n) = (0 + n)) ∧
 ((List.length (List.take 0 (List.drop 0 []) ++ List.take (n * 2) (List.drop 0 l))) = ((0 + n) * 2))) ∧
 (k [(D.sl (0 + n) 2 ([] ++ (List.take (n * 2) (List.drop 0 l))))]))
 False)
 False)
 False))
 False) := by kernel_rfl
def gCRn (C : Ct) (L : AtLoop) (k : List D → Prop) : Prop := wpFn Try.prog (hE C) L 0 18 #[nilS] (heapOf []) (dataK k)
theorem gCRn_text (C : Ct) (L : AtLoop) (k : List D → Prop) : gCRn C L k =
 (((0 = 0) ∧
 (0 = 0)) ∧
 (k [(D.sl 0 2 [])])) := by kernel_rfl
def gCE (C : Ct) (L : AtLoop) (n cap : Nat) (l : List Value) (k : List D → Prop) : Prop := wpFn Try.prog (hB C) L 0 21 #[.agg #[S500 n cap]] (heapOf [L500 l]) (dataK k)
theorem gCE_text (C : Ct) (L : AtLoop) (n : Nat) (cap : Nat) (l : List Go.Value) (k : List D → Prop) : gCE C L n cap l k =
 (bcase (decide (0 + n * 7 ≤ List.length l))
 (∃ n1 : Int,
 (∃ n2 : Int,
 ((Says C 13 [(D.agg [(D.sl (n) 7 (List.take (n * 7) (List.drop 0 l)))])] [(D.val (vI n1)), (D.val (vI n2))]) ∧
 (k [(D.val (vI n2))]))))
 False) := by kernel_rfl
def gCEn (C : Ct) (L : AtLoop) (k : List D → Prop) : Prop := wpFn Try.prog (hB C) L 0 21 #[.agg #[nilS]] (heapOf []) (dataK k)
theorem gCEn_text (C : Ct) (L : AtLoop) (k : List D → Prop) : gCEn C L k =
 (∃ n1 : Int,
 (∃ n2 : Int,
 ((Says C 13 [(D.agg [D.nil])] [(D.val (vI n1)), (D.val (vI n2))]) ∧
 (k [(D.val (vI n2))])))) := by kernel_rfl
def sEq (n cap m cap2 : Nat) (i : Int) : Slots := [(0, S500 n cap), (1, S501 m cap2), (12, vI n), (13, vI i)]
def rEq (C : Ct) (L : AtLoop) (n cap : Nat) (l : List Value) (m cap2 : Nat) (l2 : List Value) (i : Int) (B : Bx) (X : Xx) (k : List D → Prop) : Prop := wpRound Try.prog (hK C) L 48 0 (sEq n cap m cap2 i) [T500 l, T501 l2] B X (dataK k)
theorem rEq_text (C : Ct) (L : AtLoop) (n : Nat) (cap : Nat) (l : List Go.Value) (m : Nat) (cap2 : Nat) (l2 : List Go.Value) (i : Int) (B : Bx) (X : Xx) (k : List D → Prop) : rEq C L n cap l m cap2 l2 i B X k =
 (bcase (decide (i < (↑n : Int)))
 (bcase (decide (0 ≤ i))
 (bcase (decide (i < (↑n : Int)))
 (∃ n1 : Int,
 (∃ n2 : Int,
 ((At (l) (0 + Int.toNat i * 2) 2 [(vI n1), (vI n2)]) ∧
 (bcase (decide (0 ≤ i))
 (bcase (decide (i < (↑m : Int)))
 (∃ n3 : Int,
 (∃ n4 : Int,
 ((At (l2) (0 + Int.toNat i * 2) 2 [(vI n3), (vI n4)]) ∧
 (bcase (if Bool.true = Bool.true then !(n1 == n3 && (n2 == n4 && Bool.true)) else n1 == n3 && (n2 == n4 && Bool.true))
 (((bcase (if Bool.true = Bool.true then !(n1 == n3 && (n2 == n4 && Bool.true)) else n1 == n3 && (n2 == n4 && Bool.true))
 ((Value.bool true) = (Value.bool true))
 ((Value.bool false) = (Value.bool true))) ∧
 ((∃ n5 : Int,
 (∃ n6 : Int,
 ((At (l2) (0 + Int.toNat i * 2) 2 [(vI n5), (vI n6)]) ∧
 ((Go.Value.agg [(vI n5), (vI n6)].toArray) = (Go.Value.agg [(vI n3), (vI n4)].toArray))))) ∧
 ((bcase (decide (0 ≤ i))
 (bcase (decide (i < (↑m : Int)))
 ((Go.Value.pointer (Option.some (Go.Addr.mk 501 (0 + Int.toNat i * 2) Option.none))) = (Go.Value.pointer (Option.some (Go.Addr.mk 501 (0 + Int.toNat i * 2) Option.none))))
 False)
 False) ∧
 (((vI i) = (vI i)) ∧
 (((Go.Value.slice (Option.some (Go.Addr.mk 501 0 Option.none)) (m) (cap2)) = (Go.Value.slice (Option.some (Go.Addr.mk 501 0 Option.none)) (m) (cap2))) ∧
 ((∃ n5 : Int,
 (∃ n6 : Int,
 ((At (l) (0 + Int.toNat i * 2) 2 [(vI n5), (vI n6)]) ∧
 ((Go.Value.agg [(vI n5), (vI n6)].toArray) = (Go.Value.agg [(vI n1), (vI n2)].toArray))))) ∧
 ((bcase (decide (0 ≤ i))
 (bcase (decide (i < (↑n : Int)))
 ((Go.Value.pointer (Option.some (Go.Addr.mk 500 (0 + Int.toNat i * 2) Option.none))) = (Go.Value.pointer (Option.some (Go.Addr.mk 500 (0 + Int.toNat i * 2) Option.none))))
 False)
 False) ∧
 (((vI i) = (vI i)) ∧
 (((Go.Value.slice (Option.some (Go.Addr.mk 500 0 Option.none)) (n) (cap)) = (Go.Value.slice (Option.some (Go.Addr.mk 500 0 Option.none)) (n) (cap))) ∧
 True))))))))) ∧
 (k [(D.val (Value.bool false))]))
 (((bcase (if Bool.true = Bool.true then !(n1 == n3 && (n2 == n4 && Bool.true)) else n1 == n3 && (n2 == n4 && Bool.true))
 ((Value.bool true) = (Value.bool false))
 ((Value.bool false) = (Value.bool false))) ∧
 ((∃ n5 : Int,
 (∃ n6 : Int,
 ((At (l2) (0 + Int.toNat i * 2) 2 [(vI n5), (vI n6)]) ∧
 ((Go.Value.agg [(vI n5), (vI n6)].toArray) = (Go.Value.agg [(vI n3), (vI n4)].toArray))))) ∧
 ((bcase (decide (0 ≤ i))
 (bcase (decide (i < (↑m : Int)))
 ((Go.Value.pointer (Option.some (Go.Addr.mk 501 (0 + Int.toNat i * 2) Option.none))) = (Go.Value.pointer (Option.some (Go.Addr.mk 501 (0 + Int.toNat i * 2) Option.none))))
 False)
 False) ∧
 (((vI i) = (vI i)) ∧
 (((Go.Value.slice (Option.some (Go.Addr.mk 501 0 Option.none)) (m) (cap2)) = (Go.Value.slice (Option.some (Go.Addr.mk 501 0 Option.none)) (m) (cap2))) ∧
 ((∃ n5 : Int,
 (∃ n6 : Int,
 ((At (l) (0 + Int.toNat i * 2) 2 [(vI n5), (vI n6)]) ∧
 ((Go.Value.agg [(vI n5), (vI n6)].toArray) = (Go.Value.agg [(vI n1), (vI n2)].toArray))))) ∧
 ((bcase (decide (0 ≤ i))
 (bcase (decide (i < (↑n : Int)))
 ((Go.Value.pointer (Option.some (Go.Addr.mk 500 (0 + Int.toNat i * 2) Option.none))) = (Go.Value.pointer (Option.some (Go.Addr.mk 500 (0 + Int.toNat i * 2) Option.none))))
 False)
 False) ∧
 (((vI i) = (vI i)) ∧
 (((Go.Value.slice (Option.some (Go.Addr.mk 500 0 Option.none)) (n) (cap)) = (Go.Value.slice (Option.some (Go.Addr.mk 500 0 Option.none)) (n) (cap))) ∧
 True))))))))) ∧
 (B [(Prod.mk 0 (Go.Value.slice (Option.some (Go.Addr.mk 500 0 Option.none)) (n) (cap))), (Prod.mk 1 (Go.Value.slice (Option.some (Go.Addr.mk 501 0 Option.none)) (m) (cap2))), (Prod.mk 12 (vI ((↑n : Int)))), (Prod.mk 13 (vI (IntKind.wrap .i64 (i + 1))))] [(Prod.mk 500 (AObj.sym (l) false 2)), (Prod.mk 501 (AObj.sym (l2) false 2))]))))))
 False)
 False))))
 False)
 False)
 (X 0 [] [])) := by kernel_rfl
def nEq (C : Ct) (L : AtLoop) (k : List D → Prop) : Prop := wpNext Try.prog (hK C) L 48 0 .normal [] [] (dataK k)
theorem nEq_text (C : Ct) (L : AtLoop) (k : List D → Prop) : nEq C L k =
 (k [(D.val (Value.bool true))]) := by kernel_rfl
def sIL (n cap m cap2 : Nat) (i : Int) : Slots := [(0, S500 n cap), (7, S501 m cap2), (8, vI m), (9, vI i)]
def rIL (C : Ct) (L : AtLoop) (n cap : Nat) (l : List Value) (m cap2 : Nat) (l2 : List Value) (i : Int) (B : Bx) (X : Xx) (k : List D → Prop) : Prop := wpRound Try.prog (hK C) L 49 0 (sIL n cap m cap2 i) [L500 l, T501 l2] B X (dataK k)
theorem rIL_text (C : Ct) (L : AtLoop) (n : Nat) (cap : Nat) (l : List Go.Value) (m : Nat) (cap2 : Nat) (l2 : List Go.Value) (i : Int) (B : Bx) (X : Xx) (k : List D → Prop) : rIL C L n cap l m cap2 l2 i B X k =
 (bcase (decide (i < (↑m : Int)))
 (bcase (decide (0 ≤ i))
 (bcase (decide (i < (↑m : Int)))
 (∃ n1 : Int,
 (∃ n2 : Int,
 ((At (l2) (0 + Int.toNat i * 2) 2 [(vI n1), (vI n2)]) ∧
 (bcase (decide (0 ≤ i))
 (bcase (decide (i < (↑n : Int)))
 (∃ n3 : Int,
 (∃ n4 : Int,
 (∃ n5 : Int,
 (∃ n6 : Int,
 (∃ n7 : Int,
 (∃ n8 : Int,
 (∃ n9 : Int,
 ((At (l) (0 + Int.toNat i * 7) 7 [(vI n3), (vI n4), (vI n5), (vI n6), (vI n7), (vI n8), (vI n9)]) ∧
 (((((Go.Value.slice (Option.some (Go.Addr.mk 1001 0 Option.none)) 2 2) = (Go.Value.slice (Option.some (Go.Addr.mk 1001 0 Option.none)) 2 2)) ∧
 ((Option.some (AObj.cells [(vI n1), (vI n2)] 3 false 1)) = (Option.some (AObj.cells [(vI n1), (vI n2)] 3 false 1)))) ∧
 (((vI n2) = (vI n2)) ∧
 (((Go.Value.pointer (Option.some (Go.Addr.mk 1000 1 Option.none))) = (Go.Value.pointer (Option.some (Go.Addr.mk 1000 1 Option.none)))) ∧
 (((vI n1) = (vI n1)) ∧
 (((Go.Value.pointer (Option.some (Go.Addr.mk 1000 0 Option.none))) = (Go.Value.pointer (Option.some (Go.Addr.mk 1000 0 Option.none)))) ∧
 ((∃ n10 : Int,
 (∃ n11 : Int,
 (∃ n12 : Int,
 (∃ n13 : Int,
 (∃ n14 : Int,
 (∃ n15 : Int,
 (∃ n16 : Int,
 ((At (l) (0 + Int.toNat i * 7) 7 [(vI n10), (vI n11), (vI n12), (vI n13), (vI n14), (vI n15), (vI n16)]) ∧
 ((Go.Value.agg [(vI n10), (vI n11), (vI n12), (vI n13), (vI n14), (vI n15), (vI n16)].toArray) = (Go.Value.agg [(vI n3), (vI n4), (vI n5), (vI n6), (vI n7), (vI n8), (vI n9)].toArray)))))))))) ∧
 ((bcase (decide (0 ≤ i))
 (bcase (decide (i < (↑n : Int)))
 ((Go.Value.pointer (Option.some (Go.Addr.mk 500 (0 + Int.toNat i * 7) Option.none))) = (Go.Value.pointer (Option.some (Go.Addr.mk 500 (0 + Int.toNat i * 7) Option.none))))
 False)
 False) ∧
 (((vI i) = (vI i)) ∧
 (((Go.Value.slice (Option.some (Go.Addr.mk 500 0 Option.none)) (n) (cap)) = (Go.Value.slice (Option.some (Go.Addr.mk 500 0 Option.none)) (n) (cap))) ∧
 True))))))))) ∧
 (∃ r1 : Int,
 ((Says witC 0 [(D.val (vI n8)), (D.val (vI n9)), (D.val (vI (22 : Int))), (D.sl 2 1 [(vI n1), (vI n2)])] [(D.val (vI r1))]) ∧
 (bcase (r1 != 0)
 (((bcase (r1 != 0)
 ((Value.bool true) = (Value.bool true))
 ((Value.bool false) = (Value.bool true))) ∧
 (((vI n2) = (vI n2)) ∧
 (((Go.Value.pointer (Option.some (Go.Addr.mk 1000 1 Option.none))) = (Go.Value.pointer (Option.some (Go.Addr.mk 1000 1 Option.none)))) ∧
 (((vI n1) = (vI n1)) ∧
 (((Go.Value.pointer (Option.some (Go.Addr.mk 1000 0 Option.none))) = (Go.Value.pointer (Option.some (Go.Addr.mk 1000 0 Option.none)))) ∧
 ((bcase (decide (0 ≤ i))
 (bcase (decide (i < (↑n : Int)))
 ((Go.Value.pointer (Option.some (Go.Addr.mk 500 (0 + Int.toNat i * 7) Option.none))) = (Go.Value.pointer (Option.some (Go.Addr.mk 500 (0 + Int.toNat i * 7) Option.none))))
 False)
 False) ∧
 (((vI i) = (vI i)) ∧
 (((Go.Value.slice (Option.some (Go.Addr.mk 500 0 Option.none)) (n) (cap)) = (Go.Value.slice (Option.some (Go.Addr.mk 500 0 Option.none)) (n) (cap))) ∧
 True)))))))) ∧
 (k [(D.val (Value.bool false))]))
 (((bcase (r1 != 0)
 ((Value.bool true) = (Value.bool false))
 ((Value.bool false) = (Value.bool false))) ∧
 (((vI n2) = (vI n2)) ∧
 (((Go.Value.pointer (Option.some (Go.Addr.mk 1000 1 Option.none))) = (Go.Value.pointer (Option.some (Go.Addr.mk 1000 1 Option.none)))) ∧
 (((vI n1) = (vI n1)) ∧
 (((Go.Value.pointer (Option.some (Go.Addr.mk 1000 0 Option.none))) = (Go.Value.pointer (Option.some (Go.Addr.mk 1000 0 Option.none)))) ∧
 ((bcase (decide (0 ≤ i))
 (bcase (decide (i < (↑n : Int)))
 ((Go.Value.pointer (Option.some (Go.Addr.mk 500 (0 + Int.toNat i * 7) Option.none))) = (Go.Value.pointer (Option.some (Go.Addr.mk 500 (0 + Int.toNat i * 7) Option.none))))
 False)
 False) ∧
 (((vI i) = (vI i)) ∧
 (((Go.Value.slice (Option.some (Go.Addr.mk 500 0 Option.none)) (n) (cap)) = (Go.Value.slice (Option.some (Go.Addr.mk 500 0 Option.none)) (n) (cap))) ∧
 True)))))))) ∧
 (B [(Prod.mk 0 (Go.Value.slice (Option.some (Go.Addr.mk 500 0 Option.none)) (n) (cap))), (Prod.mk 7 (Go.Value.slice (Option.some (Go.Addr.mk 501 0 Option.none)) (m) (cap2))), (Prod.mk 8 (vI ((↑m : Int)))), (Prod.mk 9 (vI (IntKind.wrap .i64 (i + 1))))] [(Prod.mk 500 (AObj.sym (l) false 7)), (Prod.mk 501 (AObj.sym (l2) false 2))]))))))))))))))
 False)
 False))))
 False)
 False)
 (X 0 [] [])) := by kernel_rfl
def nIL (C : Ct) (L : AtLoop) (k : List D → Prop) : Prop := wpNext Try.prog (hK C) L 49 0 .normal [] [] (dataK k)
theorem nIL_text (C : Ct) (L : AtLoop) (k : List D → Prop) : nIL C L k =
 (k [(D.val (Value.bool true))]) := by kernel_rfl
def sCB (n cap m cap2 : Nat) (i : Int) : Slots := [(1, S501 m cap2), (6, S500 n cap), (32, S501 m cap2), (33, vI m), (34, vI i)]
def rCB (C : Ct) (L : AtLoop) (n cap : Nat) (l : List Value) (m cap2 : Nat) (l2 : List Value) (i : Int) (B : Bx) (X : Xx) (k : List D → Prop) : Prop := wpRound Try.prog (hK C) L 17 0 (sCB n cap m cap2 i) [T501 l2, L500 l] B X (dataK k)
theorem rCB_text (C : Ct) (L : AtLoop) (n : Nat) (cap : Nat) (l : List Go.Value) (m : Nat) (cap2 : Nat) (l2 : List Go.Value) (i : Int) (B : Bx) (X : Xx) (k : List D → Prop) : rCB C L n cap l m cap2 l2 i B X k =
 (bcase (decide (i < (↑m : Int)))
 (bcase (decide (0 ≤ i))
 (bcase (decide (i < (↑m : Int)))
 (∃ n1 : Int,
 (∃ n2 : Int,
 ((At (l2) (0 + Int.toNat i * 2) 2 [(vI n1), (vI n2)]) ∧
 (bcase (decide (0 ≤ i))
 (bcase (decide (i < (↑n : Int)))
 (∃ n3 : Int,
 (∃ n4 : Int,
 (∃ n5 : Int,
 (∃ n6 : Int,
 (∃ n7 : Int,
 (∃ n8 : Int,
 (∃ n9 : Int,
 ((At (l) (0 + Int.toNat i * 7) 7 [(vI n3), (vI n4), (vI n5), (vI n6), (vI n7), (vI n8), (vI n9)]) ∧
 (((((Go.Value.slice (Option.some (Go.Addr.mk 1002 0 Option.none)) 2 2) = (Go.Value.slice (Option.some (Go.Addr.mk 1002 0 Option.none)) 2 2)) ∧
 ((Option.some (AObj.cells [(vI n1), (vI n2)] 3 false 1)) = (Option.some (AObj.cells [(vI n1), (vI n2)] 3 false 1)))) ∧
 (((vI n2) = (vI n2)) ∧
 (((Go.Value.pointer (Option.some (Go.Addr.mk 1000 1 Option.none))) = (Go.Value.pointer (Option.some (Go.Addr.mk 1000 1 Option.none)))) ∧
 (((vI n1) = (vI n1)) ∧
 (((Go.Value.pointer (Option.some (Go.Addr.mk 1000 0 Option.none))) = (Go.Value.pointer (Option.some (Go.Addr.mk 1000 0 Option.none)))) ∧
 ((∃ n10 : Int,
 (∃ n11 : Int,
 (∃ n12 : Int,
 (∃ n13 : Int,
 (∃ n14 : Int,
 (∃ n15 : Int,
 (∃ n16 : Int,
 ((At (l) (0 + Int.toNat i * 7) 7 [(vI n10), (vI n11), (vI n12), (vI n13), (vI n14), (vI n15), (vI n16)]) ∧
 ((Go.Value.agg [(vI n10), (vI n11), (vI n12), (vI n13), (vI n14), (vI n15), (vI n16)].toArray) = (Go.Value.agg [(vI n3), (vI n4), (vI n5), (vI n6), (vI n7), (vI n8), (vI n9)].toArray)))))))))) ∧
 ((bcase (decide (0 ≤ i))
 (bcase (decide (i < (↑n : Int)))
 ((Go.Value.pointer (Option.some (Go.Addr.mk 500 (0 + Int.toNat i * 7) Option.none))) = (Go.Value.pointer (Option.some (Go.Addr.mk 500 (0 + Int.toNat i * 7) Option.none))))
 False)
 False) ∧
 (((vI i) = (vI i)) ∧
 (((Go.Value.slice (Option.some (Go.Addr.mk 500 0 Option.none)) (n) (cap)) = (Go.Value.slice (Option.some (Go.Addr.mk 500 0 Option.none)) (n) (cap))) ∧
 ((((Go.Value.slice (Option.some (Go.Addr.mk 1001 0 Option.none)) 1 1) = (Go.Value.slice (Option.some (Go.Addr.mk 1001 0 Option.none)) 1 1)) ∧
 ((Option.some (AObj.cells [(vI n1), (vI n2)] 56 false 2)) = (Option.some (AObj.cells [(vI n1), (vI n2)] 56 false 2)))) ∧
 (((Go.Value.agg [(vI n1), (vI n2)].toArray) = (Go.Value.agg [(vI n1), (vI n2)].toArray)) ∧
 True))))))))))) ∧
 (bcase (decide (n1 > n2))
 (((((Go.Value.slice (Option.some (Go.Addr.mk 1002 0 Option.none)) 2 2) = (Go.Value.slice (Option.some (Go.Addr.mk 1002 0 Option.none)) 2 2)) ∧
 ((Option.some (AObj.cells [(vI n1), (vI n2)] 3 false 1)) = (Option.some (AObj.cells [(vI n1), (vI n2)] 3 false 1)))) ∧
 (((vI n2) = (vI n2)) ∧
 (((Go.Value.pointer (Option.some (Go.Addr.mk 1000 1 Option.none))) = (Go.Value.pointer (Option.some (Go.Addr.mk 1000 1 Option.none)))) ∧
 (((vI n1) = (vI n1)) ∧
 (((Go.Value.pointer (Option.some (Go.Addr.mk 1000 0 Option.none))) = (Go.Value.pointer (Option.some (Go.Addr.mk 1000 0 Option.none)))) ∧
 ((∃ n10 : Int,
 (∃ n11 : Int,
 (∃ n12 : Int,
 (∃ n13 : Int,
 (∃ n14 : Int,
 (∃ n15 : Int,
 (∃ n16 : Int,
 ((At (l) (0 + Int.toNat i * 7) 7 [(vI n10), (vI n11), (vI n12), (vI n13), (vI n14), (vI n15), (vI n16)]) ∧
 ((Go.Value.agg [(vI n10), (vI n11), (vI n12), (vI n13), (vI n14), (vI n15), (vI n16)].toArray) = (Go.Value.agg [(vI n3), (vI n4), (vI n5), (vI n6), (vI n7), (vI n8), (vI n9)].toArray)))))))))) ∧
 ((bcase (decide (0 ≤ i))
 (bcase (decide (i < (↑n : Int)))
 ((Go.Value.pointer (Option.some (Go.Addr.mk 500 (0 + Int.toNat i * 7) Option.none))) = (Go.Value.pointer (Option.some (Go.Addr.mk 500 (0 + Int.toNat i * 7) Option.none))))
 False)
 False) ∧
 (((vI i) = (vI i)) ∧
 (((Go.Value.slice (Option.some (Go.Addr.mk 500 0 Option.none)) (n) (cap)) = (Go.Value.slice (Option.some (Go.Addr.mk 500 0 Option.none)) (n) (cap))) ∧
 (((Go.Value.agg [(vI n1), (vI n2)].toArray) = (Go.Value.agg [(vI n1), (vI n2)].toArray)) ∧
 True)))))))))) ∧
 (∃ r1 : Int,
 ((Says witC 0 [(D.val (vI n8)), (D.val (vI n9)), (D.val (vI (22 : Int))), (D.sl 2 1 [(vI n1), (vI n2)])] [(D.val (vI r1))]) ∧
 (((((Go.Value.slice (Option.some (Go.Addr.mk 1007 0 Option.none)) 2 2) = (Go.Value.slice (Option.some (Go.Addr.mk 1007 0 Option.none)) 2 2)) ∧
 ((Option.some (AObj.cells [(vI (9 : Int)), (vI r1)] 30 false 1)) = (Option.some (AObj.cells [(vI (9 : Int)), (vI r1)] 30 false 1)))) ∧
 (((vI n2) = (vI n2)) ∧
 (((Go.Value.pointer (Option.some (Go.Addr.mk 1000 1 Option.none))) = (Go.Value.pointer (Option.some (Go.Addr.mk 1000 1 Option.none)))) ∧
 (((vI n1) = (vI n1)) ∧
 (((Go.Value.pointer (Option.some (Go.Addr.mk 1000 0 Option.none))) = (Go.Value.pointer (Option.some (Go.Addr.mk 1000 0 Option.none)))) ∧
 ((bcase (decide (0 ≤ i))
 (bcase (decide (i < (↑n : Int)))
 ((Go.Value.pointer (Option.some (Go.Addr.mk 500 (0 + Int.toNat i * 7) Option.none))) = (Go.Value.pointer (Option.some (Go.Addr.mk 500 (0 + Int.toNat i * 7) Option.none))))
 False)
 False) ∧
 (((vI i) = (vI i)) ∧
 (((Go.Value.slice (Option.some (Go.Addr.mk 500 0 Option.none)) (n) (cap)) = (Go.Value.slice (Option.some (Go.Addr.mk 500 0 Option.none)) (n) (cap))) ∧
 (((Go.Value.agg [(vI n1), (vI n2)].toArray) = (Go.Value.agg [(vI n1), (vI n2)].toArray)) ∧
 True))))))))) ∧
 (∃ n10 : Int,
 ((Says C 37 [(D.sl 2 1 [(vI (9 : Int)), (vI r1)])] [(D.val (vI n10))]) ∧
 ((((vI n2) = (vI n2)) ∧
 (((Go.Value.pointer (Option.some (Go.Addr.mk 1000 1 Option.none))) = (Go.Value.pointer (Option.some (Go.Addr.mk 1000 1 Option.none)))) ∧
 (((vI n1) = (vI n1)) ∧
 (((Go.Value.pointer (Option.some (Go.Addr.mk 1000 0 Option.none))) = (Go.Value.pointer (Option.some (Go.Addr.mk 1000 0 Option.none)))) ∧
 ((bcase (decide (0 ≤ i))
 (bcase (decide (i < (↑n : Int)))
 ((Go.Value.pointer (Option.some (Go.Addr.mk 500 (0 + Int.toNat i * 7) Option.none))) = (Go.Value.pointer (Option.some (Go.Addr.mk 500 (0 + Int.toNat i * 7) Option.none))))
 False)
 False) ∧
 (((vI i) = (vI i)) ∧
 (((Go.Value.slice (Option.some (Go.Addr.mk 500 0 Option.none)) (n) (cap)) = (Go.Value.slice (Option.some (Go.Addr.mk 500 0 Option.none)) (n) (cap))) ∧
 (((Go.Value.agg [(vI n1), (vI n2)].toArray) = (Go.Value.agg [(vI n1), (vI n2)].toArray)) ∧
 True)))))))) ∧
 (True ∧
 (bcase (n10 != 0)
 (k [(D.val (vI i)), (D.val (vI n10))])
 (B [(Prod.mk 1 (Go.Value.slice (Option.some (Go.Addr.mk 501 0 Option.none)) (m) (cap2))), (Prod.mk 6 (Go.Value.slice (Option.some (Go.Addr.mk 500 0 Option.none)) (n) (cap))), (Prod.mk 32 (Go.Value.slice (Option.some (Go.Addr.mk 501 0 Option.none)) (m) (cap2))), (Prod.mk 33 (vI ((↑m : Int)))), (Prod.mk 34 (vI (IntKind.wrap .i64 (i + 1))))] [(Prod.mk 501 (AObj.sym (l2) false 2)), (Prod.mk 500 (AObj.sym (l) false 7))]))))))))))
 (((((Go.Value.slice (Option.some (Go.Addr.mk 1002 0 Option.none)) 2 2) = (Go.Value.slice (Option.some (Go.Addr.mk 1002 0 Option.none)) 2 2)) ∧
 ((Option.some (AObj.cells [(vI n1), (vI n2)] 3 false 1)) = (Option.some (AObj.cells [(vI n1), (vI n2)] 3 false 1)))) ∧
 (((vI n2) = (vI n2)) ∧
 (((Go.Value.pointer (Option.some (Go.Addr.mk 1000 1 Option.none))) = (Go.Value.pointer (Option.some (Go.Addr.mk 1000 1 Option.none)))) ∧
 (((vI n1) = (vI n1)) ∧
 (((Go.Value.pointer (Option.some (Go.Addr.mk 1000 0 Option.none))) = (Go.Value.pointer (Option.some (Go.Addr.mk 1000 0 Option.none)))) ∧
 ((∃ n10 : Int,
 (∃ n11 : Int,
 (∃ n12 : Int,
 (∃ n13 : Int,
 (∃ n14 : Int,
 (∃ n15 : Int,
 (∃ n16 : Int,
 ((At (l) (0 + Int.toNat i * 7) 7 [(vI n10), (vI n11), (vI n12), (vI n13), (vI n14), (vI n15), (vI n16)]) ∧
 ((Go.Value.agg [(vI n10), (vI n11), (vI n12), (vI n13), (vI n14), (vI n15), (vI n16)].toArray) = (Go.Value.agg [(vI n3), (vI n4), (vI n5), (vI n6), (vI n7), (vI n8), (vI n9)].toArray)))))))))) ∧
 ((bcase (decide (0 ≤ i))
 (bcase (decide (i < (↑n : Int)))
 ((Go.Value.pointer (Option.some (Go.Addr.mk 500 (0 + Int.toNat i * 7) Option.none))) = (Go.Value.pointer (Option.some (Go.Addr.mk 500 (0 + Int.toNat i * 7) Option.none))))
 False)
 False) ∧
 (((vI i) = (vI i)) ∧
 (((Go.Value.slice (Option.some (Go.Addr.mk 500 0 Option.none)) (n) (cap)) = (Go.Value.slice (Option.some (Go.Addr.mk 500 0 Option.none)) (n) (cap))) ∧
 (((Go.Value.agg [(vI n1), (vI n2)].toArray) = (Go.Value.agg [(vI n1), (vI n2)].toArray)) ∧
 True)))))))))) ∧
 (∃ r1 : Int,
 ((Says witC 0 [(D.val (vI n8)), (D.val (vI n9)), (D.val (vI (22 : Int))), (D.sl 2 1 [(vI n1), (vI n2)])] [(D.val (vI r1))]) ∧
 (((((Go.Value.slice (Option.some (Go.Addr.mk 1007 0 Option.none)) 2 2) = (Go.Value.slice (Option.some (Go.Addr.mk 1007 0 Option.none)) 2 2)) ∧
 ((Option.some (AObj.cells [(vI (0 : Int)), (vI r1)] 30 false 1)) = (Option.some (AObj.cells [(vI (0 : Int)), (vI r1)] 30 false 1)))) ∧
 (((vI n2) = (vI n2)) ∧
 (((Go.Value.pointer (Option.some (Go.Addr.mk 1000 1 Option.none))) = (Go.Value.pointer (Option.some (Go.Addr.mk 1000 1 Option.none)))) ∧
 (((vI n1) = (vI n1)) ∧
 (((Go.Value.pointer (Option.some (Go.Addr.mk 1000 0 Option.none))) = (Go.Value.pointer (Option.some (Go.Addr.mk 1000 0 Option.none)))) ∧
 ((bcase (decide (0 ≤ i))
 (bcase (decide (i < (↑n : Int)))
 ((Go.Value.pointer (Option.some (Go.Addr.mk 500 (0 + Int.toNat i * 7) Option.none))) = (Go.Value.pointer (Option.some (Go.Addr.mk 500 (0 + Int.toNat i * 7) Option.none))))
 False)
 False) ∧
 (((vI i) = (vI i)) ∧
 (((Go.Value.slice (Option.some (Go.Addr.mk 500 0 Option.none)) (n) (cap)) = (Go.Value.slice (Option.some (Go.Addr.mk 500 0 Option.none)) (n) (cap))) ∧
 (((Go.Value.agg [(vI n1), (vI n2)].toArray) = (Go.Value.agg [(vI n1), (vI n2)].toArray)) ∧
 True))))))))) ∧
 (∃ n10 : Int,
 ((Says C 37 [(D.sl 2 1 [(vI (0 : Int)), (vI r1)])] [(D.val (vI n10))]) ∧
 ((((vI n2) = (vI n2)) ∧
 (((Go.Value.pointer (Option.some (Go.Addr.mk 1000 1 Option.none))) = (Go.Value.pointer (Option.some (Go.Addr.mk 1000 1 Option.none)))) ∧
 (((vI n1) = (vI n1)) ∧
 (((Go.Value.pointer (Option.some (Go.Addr.mk 1000 0 Option.none))) = (Go.Value.pointer (Option.some (Go.Addr.mk 1000 0 Option.none)))) ∧
 ((bcase (decide (0 ≤ i))
 (bcase (decide (i < (↑n : Int)))
 ((Go.Value.pointer (Option.some (Go.Addr.mk 500 (0 + Int.toNat i * 7) Option.none))) = (Go.Value.pointer (Option.some (Go.Addr.mk 500 (0 + Int.toNat i * 7) Option.none))))
 False)
 False) ∧
 (((vI i) = (vI i)) ∧
 (((Go.Value.slice (Option.some (Go.Addr.mk 500 0 Option.none)) (n) (cap)) = (Go.Value.slice (Option.some (Go.Addr.mk 500 0 Option.none)) (n) (cap))) ∧
 (((Go.Value.agg [(vI n1), (vI n2)].toArray) = (Go.Value.agg [(vI n1), (vI n2)].toArray)) ∧
 True)))))))) ∧
 (True ∧
 (bcase (n10 != 0)
 (k [(D.val (vI i)), (D.val (vI n10))])
 (B [(Prod.mk 1 (Go.Value.slice (Option.some (Go.Addr.mk 501 0 Option.none)) (m) (cap2))), (Prod.mk 6 (Go.Value.slice (Option.some (Go.Addr.mk 500 0 Option.none)) (n) (cap))), (Prod.mk 32 (Go.Value.slice (Option.some (Go.Addr.mk 501 0 Option.none)) (m) (cap2))), (Prod.mk 33 (vI ((↑m : Int)))), (Prod.mk 34 (vI (IntKind.wrap .i64 (i + 1))))] [(Prod.mk 501 (AObj.sym (l2) false 2)), (Prod.mk 500 (AObj.sym (l) false 7))]))))))))))))))))))))
 False)
 False))))
 False)
 False)
 (X 0 [(Prod.mk 1 (Go.Value.slice (Option.some (Go.Addr.mk 501 0 Option.none)) (m) (cap2))), (Prod.mk 6 (Go.Value.slice (Option.some (Go.Addr.mk 500 0 Option.none)) (n) (cap)))] [(Prod.mk 501 (AObj.sym (l2) false 2)), (Prod.mk 500 (AObj.sym (l) false 7))])) := by kernel_rfl
def nCB (C : Ct) (L : AtLoop) (n cap : Nat) (l : List Value) (m cap2 : Nat) (l2 : List Value) (k : List D → Prop) : Prop := wpNext Try.prog (hK C) L 17 0 .normal [(1, S501 m cap2), (6, S500 n cap)] [T501 l2, L500 l] (dataK k)
theorem nCB_text (C : Ct) (L : AtLoop) (n : Nat) (cap : Nat) (l : List Go.Value) (m : Nat) (cap2 : Nat) (l2 : List Go.Value) (k : List D → Prop) : nCB C L n cap l m cap2 l2 k =
 (bcase (decide (0 + n * 7 ≤ List.length l))
 (bcase (decide (0 + m * 2 ≤ List.length l2))
 (((Says C 45 [(D.sl (n) 7 (List.take (n * 7) (List.drop 0 l))), (D.sl (m) 2 (List.take (m * 2) (List.drop 0 l2)))] [D.nil]) ∧
 (L 2 [(Prod.mk 1 (Go.Value.slice (Option.some (Go.Addr.mk 501 0 Option.none)) (m) (cap2))), (Prod.mk 61 (Go.Value.slice Option.none 0 0)), (Prod.mk 62 (vI (0 : Int))), (Prod.mk 63 (vI (0 : Int)))] [(Prod.mk 501 (AObj.sym (l2) false 2))])) ∨
 (∃ n1 : Nat,
 (∃ cs1 : List Go.Value,
 ((Says C 45 [(D.sl (n) 7 (List.take (n * 7) (List.drop 0 l))), (D.sl (m) 2 (List.take (m * 2) (List.drop 0 l2)))] [(D.sl (n1) 2 (cs1))]) ∧
 (L 2 [(Prod.mk 1 (Go.Value.slice (Option.some (Go.Addr.mk 501 0 Option.none)) (m) (cap2))), (Prod.mk 61 (Go.Value.slice (Option.some (Go.Addr.mk 1000 0 Option.none)) (n1) (n1))), (Prod.mk 62 (vI ((↑n1 : Int)))), (Prod.mk 63 (vI (0 : Int)))] [(Prod.mk 501 (AObj.sym (l2) false 2)), (Prod.mk 1000 (AObj.sym (cs1) true 2))])))))
 False)
 False) := by kernel_rfl
def sBF (n cap m cap2 : Nat) (i : Int) : Slots := [(1, S501 m cap2), (6, S500 n cap), (31, S501 m cap2), (32, vI m), (33, vI i)]
def rBF (C : Ct) (L : AtLoop) (n cap : Nat) (l : List Value) (m cap2 : Nat) (l2 : List Value) (i : Int) (B : Bx) (X : Xx) (k : List D → Prop) : Prop := wpRound Try.prog (hK C) L 19 0 (sBF n cap m cap2 i) [Q501 l2, L500 l] B X (dataK k)
theorem rBF_text (C : Ct) (L : AtLoop) (n : Nat) (cap : Nat) (l : List Go.Value) (m : Nat) (cap2 : Nat) (l2 : List Go.Value) (i : Int) (B : Bx) (X : Xx) (k : List D → Prop) : rBF C L n cap l m cap2 l2 i B X k =
 (bcase (decide (i < (↑m : Int)))
 (bcase (decide (0 ≤ i))
 (bcase (decide (i < (↑m : Int)))
 (∃ n1 : Int,
 ((At (l2) (0 + Int.toNat i * 1) 1 [(vI n1)]) ∧
 (bcase (decide (0 ≤ i))
 (bcase (decide (i < (↑n : Int)))
 (∃ n2 : Int,
 (∃ n3 : Int,
 (∃ n4 : Int,
 (∃ n5 : Int,
 (∃ n6 : Int,
 (∃ n7 : Int,
 (∃ n8 : Int,
 ((At (l) (0 + Int.toNat i * 7) 7 [(vI n2), (vI n3), (vI n4), (vI n5), (vI n6), (vI n7), (vI n8)]) ∧
 (∃ r1 : Int,
 ((Says witC 0 [(D.val (vI n7)), (D.val (vI n8)), (D.val (vI (22 : Int))), (D.sl 1 1 [(vI n1)])] [(D.val (vI r1))]) ∧
 (bcase (r1 != 0)
 (k [D.nil, (D.val (vI r1))])
 (B [(Prod.mk 1 (Go.Value.slice (Option.some (Go.Addr.mk 501 0 Option.none)) (m) (cap2))), (Prod.mk 6 (Go.Value.slice (Option.some (Go.Addr.mk 500 0 Option.none)) (n) (cap))), (Prod.mk 31 (Go.Value.slice (Option.some (Go.Addr.mk 501 0 Option.none)) (m) (cap2))), (Prod.mk 32 (vI ((↑m : Int)))), (Prod.mk 33 (vI (IntKind.wrap .i64 (i + 1))))] [(Prod.mk 501 (AObj.sym (l2) false 1)), (Prod.mk 500 (AObj.sym (l) false 7))]))))))))))))
 False)
 False)))
 False)
 False)
 (X 0 [(Prod.mk 1 (Go.Value.slice (Option.some (Go.Addr.mk 501 0 Option.none)) (m) (cap2))), (Prod.mk 6 (Go.Value.slice (Option.some (Go.Addr.mk 500 0 Option.none)) (n) (cap)))] [(Prod.mk 501 (AObj.sym (l2) false 1)), (Prod.mk 500 (AObj.sym (l) false 7))])) := by kernel_rfl
def nBF (C : Ct) (L : AtLoop) (n cap : Nat) (l : List Value) (m cap2 : Nat) (l2 : List Value) (k : List D → Prop) : Prop := wpNext Try.prog (hK C) L 19 0 .normal [(1, S501 m cap2), (6, S500 n cap)] [Q501 l2, L500 l] (dataK k)
theorem nBF_text (C : Ct) (L : AtLoop) (n : Nat) (cap : Nat) (l : List Go.Value) (m : Nat) (cap2 : Nat) (l2 : List Go.Value) (k : List D → Prop) : nBF C L n cap l m cap2 l2 k =
 (bcase (decide (0 + m * 1 ≤ List.length l2))
 (bcase (decide (0 + m * 1 ≤ List.length l2))
 (((Says C 46 [(D.sl (m) 1 (List.take (m * 1) (List.drop 0 l2))), (D.sl (m) 1 (List.take (m * 1) (List.drop 0 l2)))] [D.nil]) ∧
 (L 2 [(Prod.mk 6 (Go.Value.slice (Option.some (Go.Addr.mk 500 0 Option.none)) (n) (cap))), (Prod.mk 12 (Go.Value.slice Option.none 0 0))] [(Prod.mk 500 (AObj.sym (l) false 7))])) ∨
 (∃ n1 : Nat,
 (∃ cs1 : List Go.Value,
 ((Says C 46 [(D.sl (m) 1 (List.take (m * 1) (List.drop 0 l2))), (D.sl (m) 1 (List.take (m * 1) (List.drop 0 l2)))] [(D.sl (n1) 2 (cs1))]) ∧
 (L 2 [(Prod.mk 6 (Go.Value.slice (Option.some (Go.Addr.mk 500 0 Option.none)) (n) (cap))), (Prod.mk 12 (Go.Value.slice (Option.some (Go.Addr.mk 1000 0 Option.none)) (n1) (n1)))] [(Prod.mk 500 (AObj.sym (l) false 7)), (Prod.mk 1000 (AObj.sym (cs1) true 2))])))))
 False)
 False) := by kernel_rfl
def sRC (m cap2 : Nat) (i : Int) : Slots := [(1, S501 m cap2), (2, P1 1000 0), (6, vI i)]
def rRC (C : Ct) (L : AtLoop) (n cap : Nat) (l : List Value) (m cap2 : Nat) (l2 : List Value) (i : Int) (B : Bx) (X : Xx) (k : List D → Prop) : Prop := wpRound Try.prog (hK C) L 22 0 (sRC m cap2 i) [T501 l2, oCh 1000 n cap, L500 l] B X (dataK k)
theorem rRC_text (C : Ct) (L : AtLoop) (n : Nat) (cap : Nat) (l : List Go.Value) (m : Nat) (cap2 : Nat) (l2 : List Go.Value) (i : Int) (B : Bx) (X : Xx) (k : List D → Prop) : rRC C L n cap l m cap2 l2 i B X k =
 (bcase (decide (i < (↑m : Int)))
 (bcase (decide (0 ≤ i))
 (bcase (decide (i < (↑m : Int)))
 (∃ n1 : Int,
 ((At (l2) (0 + Int.toNat i * 2) 1 [(vI n1)]) ∧
 (bcase (decide (0 ≤ i))
 (bcase (decide (i < (↑m : Int)))
 (∃ n2 : Int,
 ((At (l2) (Go.Addr.off { block := 501, off := 0 + Int.toNat i * 2 } + 1) 1 [(vI n2)]) ∧
 (bcase (decide (n1 > n2))
 (((bcase (decide (n1 > n2))
 ((Value.bool true) = (Value.bool true))
 ((Value.bool false) = (Value.bool true))) ∧
 ((∃ n3 : Int,
 ((At (l2) (Go.Addr.off { block := 501, off := 0 + Int.toNat i * 2 } + 1) 1 [(vI n3)]) ∧
 ((vI n3) = (vI n2)))) ∧
 (((Go.Value.pointer (Option.some (Go.Addr.mk 501 (Go.Addr.off { block := 501, off := 0 + Int.toNat i * 2 } + 1) Option.none))) = (Go.Value.pointer (Option.some (Go.Addr.mk 501 (Go.Addr.off { block := 501, off := 0 + Int.toNat i * 2 } + 1) Option.none)))) ∧
 ((bcase (decide (0 ≤ i))
 (bcase (decide (i < (↑m : Int)))
 ((Go.Value.pointer (Option.some (Go.Addr.mk 501 (0 + Int.toNat i * 2) Option.none))) = (Go.Value.pointer (Option.some (Go.Addr.mk 501 (0 + Int.toNat i * 2) Option.none))))
 False)
 False) ∧
 (((vI i) = (vI i)) ∧
 (((Go.Value.slice (Option.some (Go.Addr.mk 501 0 Option.none)) (m) (cap2)) = (Go.Value.slice (Option.some (Go.Addr.mk 501 0 Option.none)) (m) (cap2))) ∧
 ((∃ n3 : Int,
 ((At (l2) (0 + Int.toNat i * 2) 1 [(vI n3)]) ∧
 ((vI n3) = (vI n1)))) ∧
 (((Go.Value.pointer (Option.some (Go.Addr.mk 501 (0 + Int.toNat i * 2) Option.none))) = (Go.Value.pointer (Option.some (Go.Addr.mk 501 (0 + Int.toNat i * 2) Option.none)))) ∧
 ((bcase (decide (0 ≤ i))
 (bcase (decide (i < (↑m : Int)))
 ((Go.Value.pointer (Option.some (Go.Addr.mk 501 (0 + Int.toNat i * 2) Option.none))) = (Go.Value.pointer (Option.some (Go.Addr.mk 501 (0 + Int.toNat i * 2) Option.none))))
 False)
 False) ∧
 (((vI i) = (vI i)) ∧
 (((Go.Value.slice (Option.some (Go.Addr.mk 501 0 Option.none)) (m) (cap2)) = (Go.Value.slice (Option.some (Go.Addr.mk 501 0 Option.none)) (m) (cap2))) ∧
 True))))))))))) ∧
 (k [(D.val (vI i)), (D.val (vI (9 : Int)))]))
 (((bcase (decide (n1 > n2))
 ((Value.bool true) = (Value.bool false))
 ((Value.bool false) = (Value.bool false))) ∧
 ((∃ n3 : Int,
 ((At (l2) (Go.Addr.off { block := 501, off := 0 + Int.toNat i * 2 } + 1) 1 [(vI n3)]) ∧
 ((vI n3) = (vI n2)))) ∧
 (((Go.Value.pointer (Option.some (Go.Addr.mk 501 (Go.Addr.off { block := 501, off := 0 + Int.toNat i * 2 } + 1) Option.none))) = (Go.Value.pointer (Option.some (Go.Addr.mk 501 (Go.Addr.off { block := 501, off := 0 + Int.toNat i * 2 } + 1) Option.none)))) ∧
 ((bcase (decide (0 ≤ i))
 (bcase (decide (i < (↑m : Int)))
 ((Go.Value.pointer (Option.some (Go.Addr.mk 501 (0 + Int.toNat i * 2) Option.none))) = (Go.Value.pointer (Option.some (Go.Addr.mk 501 (0 + Int.toNat i * 2) Option.none))))
 False)
 False) ∧
 (((vI i) = (vI i)) ∧
 (((Go.Value.slice (Option.some (Go.Addr.mk 501 0 Option.none)) (m) (cap2)) = (Go.Value.slice (Option.some (Go.Addr.mk 501 0 Option.none)) (m) (cap2))) ∧
 ((∃ n3 : Int,
 ((At (l2) (0 + Int.toNat i * 2) 1 [(vI n3)]) ∧
 ((vI n3) = (vI n1)))) ∧
 (((Go.Value.pointer (Option.some (Go.Addr.mk 501 (0 + Int.toNat i * 2) Option.none))) = (Go.Value.pointer (Option.some (Go.Addr.mk 501 (0 + Int.toNat i * 2) Option.none)))) ∧
 ((bcase (decide (0 ≤ i))
 (bcase (decide (i < (↑m : Int)))
 ((Go.Value.pointer (Option.some (Go.Addr.mk 501 (0 + Int.toNat i * 2) Option.none))) = (Go.Value.pointer (Option.some (Go.Addr.mk 501 (0 + Int.toNat i * 2) Option.none))))
 False)
 False) ∧
 (((vI i) = (vI i)) ∧
 (((Go.Value.slice (Option.some (Go.Addr.mk 501 0 Option.none)) (m) (cap2)) = (Go.Value.slice (Option.some (Go.Addr.mk 501 0 Option.none)) (m) (cap2))) ∧
 True))))))))))) ∧
 (bcase (decide (0 ≤ i))
 (bcase (decide (i < (↑n : Int)))
 (∃ n3 : Int,
 (∃ n4 : Int,
 ((At (l) (Go.Addr.off { block := 500, off := 0 + Int.toNat i * 7 } + 5) 2 [(vI n3), (vI n4)]) ∧
 (bcase (decide (0 ≤ i))
 (bcase (decide (i < (↑m : Int)))
 (∃ n5 : Int,
 ((At (l2) (0 + Int.toNat i * 2) 1 [(vI n5)]) ∧
 ((((vI n4) = (vI n4)) ∧
 (((Go.Value.pointer (Option.some (Go.Addr.mk 1001 1 Option.none))) = (Go.Value.pointer (Option.some (Go.Addr.mk 1001 1 Option.none)))) ∧
 (((vI n3) = (vI n3)) ∧
 (((Go.Value.pointer (Option.some (Go.Addr.mk 1001 0 Option.none))) = (Go.Value.pointer (Option.some (Go.Addr.mk 1001 0 Option.none)))) ∧
 ((∃ n6 : Int,
 ((At (l2) (0 + Int.toNat i * 2) 1 [(vI n6)]) ∧
 ((vI n6) = (vI n5)))) ∧
 (((Go.Value.pointer (Option.some (Go.Addr.mk 501 (0 + Int.toNat i * 2) Option.none))) = (Go.Value.pointer (Option.some (Go.Addr.mk 501 (0 + Int.toNat i * 2) Option.none)))) ∧
 ((bcase (decide (0 ≤ i))
 (bcase (decide (i < (↑m : Int)))
 ((Go.Value.pointer (Option.some (Go.Addr.mk 501 (0 + Int.toNat i * 2) Option.none))) = (Go.Value.pointer (Option.some (Go.Addr.mk 501 (0 + Int.toNat i * 2) Option.none))))
 False)
 False) ∧
 (((vI i) = (vI i)) ∧
 (((Go.Value.slice (Option.some (Go.Addr.mk 501 0 Option.none)) (m) (cap2)) = (Go.Value.slice (Option.some (Go.Addr.mk 501 0 Option.none)) (m) (cap2))) ∧
 True))))))))) ∧
 (((Says C 26 [(D.val (vI n5)), (D.val (vI n3)), (D.val (vI n4))] [(D.val (Value.bool true))]) ∧
 (bcase (decide (0 ≤ i))
 (bcase (decide (i < (↑m : Int)))
 (∃ n6 : Int,
 ((At (l2) (Go.Addr.off { block := 501, off := 0 + Int.toNat i * 2 } + 1) 1 [(vI n6)]) ∧
 ((((vI n4) = (vI n4)) ∧
 (((Go.Value.pointer (Option.some (Go.Addr.mk 1001 1 Option.none))) = (Go.Value.pointer (Option.some (Go.Addr.mk 1001 1 Option.none)))) ∧
 (((vI n3) = (vI n3)) ∧
 (((Go.Value.pointer (Option.some (Go.Addr.mk 1001 0 Option.none))) = (Go.Value.pointer (Option.some (Go.Addr.mk 1001 0 Option.none)))) ∧
 ((∃ n7 : Int,
 ((At (l2) (Go.Addr.off { block := 501, off := 0 + Int.toNat i * 2 } + 1) 1 [(vI n7)]) ∧
 ((vI n7) = (vI n6)))) ∧
 (((Go.Value.pointer (Option.some (Go.Addr.mk 501 (Go.Addr.off { block := 501, off := 0 + Int.toNat i * 2 } + 1) Option.none))) = (Go.Value.pointer (Option.some (Go.Addr.mk 501 (Go.Addr.off { block := 501, off := 0 + Int.toNat i * 2 } + 1) Option.none)))) ∧
 ((bcase (decide (0 ≤ i))
 (bcase (decide (i < (↑m : Int)))
 ((Go.Value.pointer (Option.some (Go.Addr.mk 501 (0 + Int.toNat i * 2) Option.none))) = (Go.Value.pointer (Option.some (Go.Addr.mk 501 (0 + Int.toNat i * 2) Option.none))))
 False)
 False) ∧
 (((vI i) = (vI i)) ∧
 (((Go.Value.slice (Option.some (Go.Addr.mk 501 0 Option.none)) (m) (cap2)) = (Go.Value.slice (Option.some (Go.Addr.mk 501 0 Option.none)) (m) (cap2))) ∧
 (((Value.bool false) = (Value.bool false)) ∧
 (((Value.bool false) = (Value.bool false)) ∧
 (((Go.Value.pointer (Option.some (Go.Addr.mk 1001 1 Option.none))) = (Go.Value.pointer (Option.some (Go.Addr.mk 1001 1 Option.none)))) ∧
 (((Go.Value.pointer (Option.some (Go.Addr.mk 1001 0 Option.none))) = (Go.Value.pointer (Option.some (Go.Addr.mk 1001 0 Option.none)))) ∧
 (((Go.Value.pointer (Option.some (Go.Addr.mk 501 (0 + Int.toNat i * 2) Option.none))) = (Go.Value.pointer (Option.some (Go.Addr.mk 501 (0 + Int.toNat i * 2) Option.none)))) ∧
 ((bcase (decide (0 ≤ i))
 (bcase (decide (i < (↑m : Int)))
 ((Go.Value.pointer (Option.some (Go.Addr.mk 501 (0 + Int.toNat i * 2) Option.none))) = (Go.Value.pointer (Option.some (Go.Addr.mk 501 (0 + Int.toNat i * 2) Option.none))))
 False)
 False) ∧
 (((vI i) = (vI i)) ∧
 (((Go.Value.slice (Option.some (Go.Addr.mk 501 0 Option.none)) (m) (cap2)) = (Go.Value.slice (Option.some (Go.Addr.mk 501 0 Option.none)) (m) (cap2))) ∧
 True))))))))))))))))) ∧
 (((Says C 26 [(D.val (vI n6)), (D.val (vI n3)), (D.val (vI n4))] [(D.val (Value.bool true))]) ∧
 ((((Value.bool false) = (Value.bool false)) ∧
 (((Value.bool false) = (Value.bool false)) ∧
 (((Go.Value.pointer (Option.some (Go.Addr.mk 1001 1 Option.none))) = (Go.Value.pointer (Option.some (Go.Addr.mk 1001 1 Option.none)))) ∧
 (((Go.Value.pointer (Option.some (Go.Addr.mk 1001 0 Option.none))) = (Go.Value.pointer (Option.some (Go.Addr.mk 1001 0 Option.none)))) ∧
 (((Go.Value.pointer (Option.some (Go.Addr.mk 501 (Go.Addr.off { block := 501, off := 0 + Int.toNat i * 2 } + 1) Option.none))) = (Go.Value.pointer (Option.some (Go.Addr.mk 501 (Go.Addr.off { block := 501, off := 0 + Int.toNat i * 2 } + 1) Option.none)))) ∧
 ((bcase (decide (0 ≤ i))
 (bcase (decide (i < (↑m : Int)))
 ((Go.Value.pointer (Option.some (Go.Addr.mk 501 (0 + Int.toNat i * 2) Option.none))) = (Go.Value.pointer (Option.some (Go.Addr.mk 501 (0 + Int.toNat i * 2) Option.none))))
 False)
 False) ∧
 (((vI i) = (vI i)) ∧
 (((Go.Value.slice (Option.some (Go.Addr.mk 501 0 Option.none)) (m) (cap2)) = (Go.Value.slice (Option.some (Go.Addr.mk 501 0 Option.none)) (m) (cap2))) ∧
 (((Value.bool false) = (Value.bool false)) ∧
 (((Go.Value.pointer (Option.some (Go.Addr.mk 1001 1 Option.none))) = (Go.Value.pointer (Option.some (Go.Addr.mk 1001 1 Option.none)))) ∧
 (((Go.Value.pointer (Option.some (Go.Addr.mk 1001 0 Option.none))) = (Go.Value.pointer (Option.some (Go.Addr.mk 1001 0 Option.none)))) ∧
 (((Go.Value.pointer (Option.some (Go.Addr.mk 501 (0 + Int.toNat i * 2) Option.none))) = (Go.Value.pointer (Option.some (Go.Addr.mk 501 (0 + Int.toNat i * 2) Option.none)))) ∧
 ((bcase (decide (0 ≤ i))
 (bcase (decide (i < (↑m : Int)))
 ((Go.Value.pointer (Option.some (Go.Addr.mk 501 (0 + Int.toNat i * 2) Option.none))) = (Go.Value.pointer (Option.some (Go.Addr.mk 501 (0 + Int.toNat i * 2) Option.none))))
 False)
 False) ∧
 (((vI i) = (vI i)) ∧
 (((Go.Value.slice (Option.some (Go.Addr.mk 501 0 Option.none)) (m) (cap2)) = (Go.Value.slice (Option.some (Go.Addr.mk 501 0 Option.none)) (m) (cap2))) ∧
 True))))))))))))))) ∧
 (B [(Prod.mk 1 (Go.Value.slice (Option.some (Go.Addr.mk 501 0 Option.none)) (m) (cap2))), (Prod.mk 2 (Go.Value.pointer (Option.some (Go.Addr.mk 1000 0 Option.none)))), (Prod.mk 6 (vI (IntKind.wrap .i64 (i + 1))))] [(Prod.mk 501 (AObj.sym (l2) false 2)), (Prod.mk 1000 (AObj.cells [(Go.Value.slice (Option.some (Go.Addr.mk 500 0 Option.none)) (n) (cap))] 24 false 1)), (Prod.mk 500 (AObj.sym (l) false 7))]))) ∨
 ((Says C 26 [(D.val (vI n6)), (D.val (vI n3)), (D.val (vI n4))] [(D.val (Value.bool false))]) ∧
 ((((Value.bool true) = (Value.bool true)) ∧
 (((Value.bool true) = (Value.bool true)) ∧
 (((Go.Value.pointer (Option.some (Go.Addr.mk 1001 1 Option.none))) = (Go.Value.pointer (Option.some (Go.Addr.mk 1001 1 Option.none)))) ∧
 (((Go.Value.pointer (Option.some (Go.Addr.mk 1001 0 Option.none))) = (Go.Value.pointer (Option.some (Go.Addr.mk 1001 0 Option.none)))) ∧
 (((Go.Value.pointer (Option.some (Go.Addr.mk 501 (Go.Addr.off { block := 501, off := 0 + Int.toNat i * 2 } + 1) Option.none))) = (Go.Value.pointer (Option.some (Go.Addr.mk 501 (Go.Addr.off { block := 501, off := 0 + Int.toNat i * 2 } + 1) Option.none)))) ∧
 ((bcase (decide (0 ≤ i))
 (bcase (decide (i < (↑m : Int)))
 ((Go.Value.pointer (Option.some (Go.Addr.mk 501 (0 + Int.toNat i * 2) Option.none))) = (Go.Value.pointer (Option.some (Go.Addr.mk 501 (0 + Int.toNat i * 2) Option.none))))
 False)
 False) ∧
 (((vI i) = (vI i)) ∧
 (((Go.Value.slice (Option.some (Go.Addr.mk 501 0 Option.none)) (m) (cap2)) = (Go.Value.slice (Option.some (Go.Addr.mk 501 0 Option.none)) (m) (cap2))) ∧
 (((Value.bool false) = (Value.bool false)) ∧
 (((Go.Value.pointer (Option.some (Go.Addr.mk 1001 1 Option.none))) = (Go.Value.pointer (Option.some (Go.Addr.mk 1001 1 Option.none)))) ∧
 (((Go.Value.pointer (Option.some (Go.Addr.mk 1001 0 Option.none))) = (Go.Value.pointer (Option.some (Go.Addr.mk 1001 0 Option.none)))) ∧
 (((Go.Value.pointer (Option.some (Go.Addr.mk 501 (0 + Int.toNat i * 2) Option.none))) = (Go.Value.pointer (Option.some (Go.Addr.mk 501 (0 + Int.toNat i * 2) Option.none)))) ∧
 ((bcase (decide (0 ≤ i))
 (bcase (decide (i < (↑m : Int)))
 ((Go.Value.pointer (Option.some (Go.Addr.mk 501 (0 + Int.toNat i * 2) Option.none))) = (Go.Value.pointer (Option.some (Go.Addr.mk 501 (0 + Int.toNat i * 2) Option.none))))
 False)
 False) ∧
 (((vI i) = (vI i)) ∧
 (((Go.Value.slice (Option.some (Go.Addr.mk 501 0 Option.none)) (m) (cap2)) = (Go.Value.slice (Option.some (Go.Addr.mk 501 0 Option.none)) (m) (cap2))) ∧
 True))))))))))))))) ∧
 (k [(D.val (vI i)), (D.val (vI (22 : Int)))])))))))
 False)
 False)) ∨
 ((Says C 26 [(D.val (vI n5)), (D.val (vI n3)), (D.val (vI n4))] [(D.val (Value.bool false))]) ∧
 ((((Go.Value.tuple [].toArray) = (Go.Value.tuple [].toArray)) ∧
 (((Go.Value.tuple [].toArray) = (Go.Value.tuple [].toArray)) ∧
 (((Go.Value.tuple [].toArray) = (Go.Value.tuple [].toArray)) ∧
 (((Go.Value.tuple [].toArray) = (Go.Value.tuple [].toArray)) ∧
 (((Go.Value.tuple [].toArray) = (Go.Value.tuple [].toArray)) ∧
 (((Go.Value.tuple [].toArray) = (Go.Value.tuple [].toArray)) ∧
 (((Go.Value.tuple [].toArray) = (Go.Value.tuple [].toArray)) ∧
 (((Go.Value.tuple [].toArray) = (Go.Value.tuple [].toArray)) ∧
 (((Go.Value.tuple [].toArray) = (Go.Value.tuple [].toArray)) ∧
 (((Value.bool true) = (Value.bool true)) ∧
 (((Value.bool true) = (Value.bool true)) ∧
 (((Go.Value.pointer (Option.some (Go.Addr.mk 1001 1 Option.none))) = (Go.Value.pointer (Option.some (Go.Addr.mk 1001 1 Option.none)))) ∧
 (((Go.Value.pointer (Option.some (Go.Addr.mk 1001 0 Option.none))) = (Go.Value.pointer (Option.some (Go.Addr.mk 1001 0 Option.none)))) ∧
 (((Go.Value.pointer (Option.some (Go.Addr.mk 501 (0 + Int.toNat i * 2) Option.none))) = (Go.Value.pointer (Option.some (Go.Addr.mk 501 (0 + Int.toNat i * 2) Option.none)))) ∧
 ((bcase (decide (0 ≤ i))
 (bcase (decide (i < (↑m : Int)))
 ((Go.Value.pointer (Option.some (Go.Addr.mk 501 (0 + Int.toNat i * 2) Option.none))) = (Go.Value.pointer (Option.some (Go.Addr.mk 501 (0 + Int.toNat i * 2) Option.none))))
 False)
 False) ∧
 (((vI i) = (vI i)) ∧
 (((Go.Value.slice (Option.some (Go.Addr.mk 501 0 Option.none)) (m) (cap2)) = (Go.Value.slice (Option.some (Go.Addr.mk 501 0 Option.none)) (m) (cap2))) ∧
 True))))))))))))))))) ∧
 ((((Value.bool true) = (Value.bool true)) ∧
 (((Go.Value.tuple [].toArray) = (Go.Value.tuple [].toArray)) ∧
 (((Go.Value.tuple [].toArray) = (Go.Value.tuple [].toArray)) ∧
 (((Go.Value.tuple [].toArray) = (Go.Value.tuple [].toArray)) ∧
 (((Go.Value.tuple [].toArray) = (Go.Value.tuple [].toArray)) ∧
 (((Go.Value.tuple [].toArray) = (Go.Value.tuple [].toArray)) ∧
 (((Go.Value.tuple [].toArray) = (Go.Value.tuple [].toArray)) ∧
 (((Go.Value.tuple [].toArray) = (Go.Value.tuple [].toArray)) ∧
 (((Value.bool true) = (Value.bool true)) ∧
 (((Go.Value.pointer (Option.some (Go.Addr.mk 1001 1 Option.none))) = (Go.Value.pointer (Option.some (Go.Addr.mk 1001 1 Option.none)))) ∧
 (((Go.Value.pointer (Option.some (Go.Addr.mk 1001 0 Option.none))) = (Go.Value.pointer (Option.some (Go.Addr.mk 1001 0 Option.none)))) ∧
 (((Go.Value.pointer (Option.some (Go.Addr.mk 501 (0 + Int.toNat i * 2) Option.none))) = (Go.Value.pointer (Option.some (Go.Addr.mk 501 (0 + Int.toNat i * 2) Option.none)))) ∧
 ((bcase (decide (0 ≤ i))
 (bcase (decide (i < (↑m : Int)))
 ((Go.Value.pointer (Option.some (Go.Addr.mk 501 (0 + Int.toNat i * 2) Option.none))) = (Go.Value.pointer (Option.some (Go.Addr.mk 501 (0 + Int.toNat i * 2) Option.none))))
 False)
 False) ∧
 (((vI i) = (vI i)) ∧
 (((Go.Value.slice (Option.some (Go.Addr.mk 501 0 Option.none)) (m) (cap2)) = (Go.Value.slice (Option.some (Go.Addr.mk 501 0 Option.none)) (m) (cap2))) ∧
 True))))))))))))))) ∧
 (k [(D.val (vI i)), (D.val (vI (22 : Int)))]))))))))
 False)
 False))))
 False)
 False)))))
 False)
 False)))
 False)
 False)
 (X 0 [(Prod.mk 1 (Go.Value.slice (Option.some (Go.Addr.mk 501 0 Option.none)) (m) (cap2))), (Prod.mk 2 (Go.Value.pointer (Option.some (Go.Addr.mk 1000 0 Option.none))))] [(Prod.mk 501 (AObj.sym (l2) false 2)), (Prod.mk 1000 (AObj.cells [(Go.Value.slice (Option.some (Go.Addr.mk 500 0 Option.none)) (n) (cap))] 24 false 1)), (Prod.mk 500 (AObj.sym (l) false 7))])) := by kernel_rfl
def nRC (C : Ct) (L : AtLoop) (n cap : Nat) (l : List Value) (m cap2 : Nat) (l2 : List Value) (k : List D → Prop) : Prop := wpNext Try.prog (hK C) L 22 0 .normal [(1, S501 m cap2), (2, P1 1000 0)] [T501 l2, oCh 1000 n cap, L500 l] (dataK k)
theorem nRC_text (C : Ct) (L : AtLoop) (n : Nat) (cap : Nat) (l : List Go.Value) (m : Nat) (cap2 : Nat) (l2 : List Go.Value) (k : List D → Prop) : nRC C L n cap l m cap2 l2 k =
 (bcase (decide (0 + n * 7 ≤ List.length l))
 (bcase (decide (0 + m * 2 ≤ List.length l2))
 (((Says C 50 [(D.agg [(D.sl (n) 7 (List.take (n * 7) (List.drop 0 l)))]), (D.sl (m) 2 (List.take (m * 2) (List.drop 0 l2)))] [D.nil]) ∧
 (L 2 [(Prod.mk 1 (Go.Value.slice (Option.some (Go.Addr.mk 501 0 Option.none)) (m) (cap2))), (Prod.mk 8 (Go.Value.slice Option.none 0 0)), (Prod.mk 9 (vI (0 : Int)))] [(Prod.mk 501 (AObj.sym (l2) false 2))])) ∨
 (∃ n1 : Nat,
 (∃ cs1 : List Go.Value,
 ((Says C 50 [(D.agg [(D.sl (n) 7 (List.take (n * 7) (List.drop 0 l)))]), (D.sl (m) 2 (List.take (m * 2) (List.drop 0 l2)))] [(D.sl (n1) 2 (cs1))]) ∧
 (L 2 [(Prod.mk 1 (Go.Value.slice (Option.some (Go.Addr.mk 501 0 Option.none)) (m) (cap2))), (Prod.mk 8 (Go.Value.slice (Option.some (Go.Addr.mk 1000 0 Option.none)) (n1) (n1))), (Prod.mk 9 (vI (0 : Int)))] [(Prod.mk 501 (AObj.sym (l2) false 2)), (Prod.mk 1000 (AObj.sym (cs1) true 2))])))))
 False)
 False) := by kernel_rfl
def sRg (n cap m cap2 : Nat) (i : Int) : Slots := [(0, S500 n cap), (1, S501 m cap2), (5, vI i)]
def rRg (C : Ct) (L : AtLoop) (n cap : Nat) (l : List Value) (m cap2 : Nat) (l2 : List Value) (i : Int) (B : Bx) (X : Xx) (k : List D → Prop) : Prop := wpRound Try.prog (hK C) L 24 0 (sRg n cap m cap2 i) [T500 l, T501 l2] B X (dataK k)
theorem rRg_text (C : Ct) (L : AtLoop) (n : Nat) (cap : Nat) (l : List Go.Value) (m : Nat) (cap2 : Nat) (l2 : List Go.Value) (i : Int) (B : Bx) (X : Xx) (k : List D → Prop) : rRg C L n cap l m cap2 l2 i B X k =
 (bcase (decide (i < (↑n : Int)))
 (bcase (decide (0 ≤ i))
 (bcase (decide (i < (↑n : Int)))
 (∃ n1 : Int,
 (∃ n2 : Int,
 ((At (l) (0 + Int.toNat i * 2) 2 [(vI n1), (vI n2)]) ∧
 (bcase (decide (0 ≤ i))
 (bcase (decide (i < (↑m : Int)))
 (∃ n3 : Int,
 (∃ n4 : Int,
 ((At (l2) (0 + Int.toNat i * 2) 2 [(vI n3), (vI n4)]) ∧
 (bcase (if Bool.true = Bool.true then !(n1 == n3 && (n2 == n4 && Bool.true)) else n1 == n3 && (n2 == n4 && Bool.true))
 (((bcase (if Bool.true = Bool.true then !(n1 == n3 && (n2 == n4 && Bool.true)) else n1 == n3 && (n2 == n4 && Bool.true))
 ((Value.bool true) = (Value.bool true))
 ((Value.bool false) = (Value.bool true))) ∧
 ((∃ n5 : Int,
 (∃ n6 : Int,
 ((At (l2) (0 + Int.toNat i * 2) 2 [(vI n5), (vI n6)]) ∧
 ((Go.Value.agg [(vI n5), (vI n6)].toArray) = (Go.Value.agg [(vI n3), (vI n4)].toArray))))) ∧
 ((bcase (decide (0 ≤ i))
 (bcase (decide (i < (↑m : Int)))
 ((Go.Value.pointer (Option.some (Go.Addr.mk 501 (0 + Int.toNat i * 2) Option.none))) = (Go.Value.pointer (Option.some (Go.Addr.mk 501 (0 + Int.toNat i * 2) Option.none))))
 False)
 False) ∧
 (((vI i) = (vI i)) ∧
 (((Go.Value.slice (Option.some (Go.Addr.mk 501 0 Option.none)) (m) (cap2)) = (Go.Value.slice (Option.some (Go.Addr.mk 501 0 Option.none)) (m) (cap2))) ∧
 ((∃ n5 : Int,
 (∃ n6 : Int,
 ((At (l) (0 + Int.toNat i * 2) 2 [(vI n5), (vI n6)]) ∧
 ((Go.Value.agg [(vI n5), (vI n6)].toArray) = (Go.Value.agg [(vI n1), (vI n2)].toArray))))) ∧
 ((bcase (decide (0 ≤ i))
 (bcase (decide (i < (↑n : Int)))
 ((Go.Value.pointer (Option.some (Go.Addr.mk 500 (0 + Int.toNat i * 2) Option.none))) = (Go.Value.pointer (Option.some (Go.Addr.mk 500 (0 + Int.toNat i * 2) Option.none))))
 False)
 False) ∧
 (((vI i) = (vI i)) ∧
 (((Go.Value.slice (Option.some (Go.Addr.mk 500 0 Option.none)) (n) (cap)) = (Go.Value.slice (Option.some (Go.Addr.mk 500 0 Option.none)) (n) (cap))) ∧
 True))))))))) ∧
 (k [(D.val (Value.bool false))]))
 (((bcase (if Bool.true = Bool.true then !(n1 == n3 && (n2 == n4 && Bool.true)) else n1 == n3 && (n2 == n4 && Bool.true))
 ((Value.bool true) = (Value.bool false))
 ((Value.bool false) = (Value.bool false))) ∧
 ((∃ n5 : Int,
 (∃ n6 : Int,
 ((At (l2) (0 + Int.toNat i * 2) 2 [(vI n5), (vI n6)]) ∧
 ((Go.Value.agg [(vI n5), (vI n6)].toArray) = (Go.Value.agg [(vI n3), (vI n4)].toArray))))) ∧
 ((bcase (decide (0 ≤ i))
 (bcase (decide (i < (↑m : Int)))
 ((Go.Value.pointer (Option.some (Go.Addr.mk 501 (0 + Int.toNat i * 2) Option.none))) = (Go.Value.pointer (Option.some (Go.Addr.mk 501 (0 + Int.toNat i * 2) Option.none))))
 False)
 False) ∧
 (((vI i) = (vI i)) ∧
 (((Go.Value.slice (Option.some (Go.Addr.mk 501 0 Option.none)) (m) (cap2)) = (Go.Value.slice (Option.some (Go.Addr.mk 501 0 Option.none)) (m) (cap2))) ∧
 ((∃ n5 : Int,
 (∃ n6 : Int,
 ((At (l) (0 + Int.toNat i * 2) 2 [(vI n5), (vI n6)]) ∧
 ((Go.Value.agg [(vI n5), (vI n6)].toArray) = (Go.Value.agg [(vI n1), (vI n2)].toArray))))) ∧
 ((bcase (decide (0 ≤ i))
 (bcase (decide (i < (↑n : Int)))
 ((Go.Value.pointer (Option.some (Go.Addr.mk 500 (0 + Int.toNat i * 2) Option.none))) = (Go.Value.pointer (Option.some (Go.Addr.mk 500 (0 + Int.toNat i * 2) Option.none))))
 False)
 False) ∧
 (((vI i) = (vI i)) ∧
 (((Go.Value.slice (Option.some (Go.Addr.mk 500 0 Option.none)) (n) (cap)) = (Go.Value.slice (Option.some (Go.Addr.mk 500 0 Option.none)) (n) (cap))) ∧
 True))))))))) ∧
 (B [(Prod.mk 0 (Go.Value.slice (Option.some (Go.Addr.mk 500 0 Option.none)) (n) (cap))), (Prod.mk 1 (Go.Value.slice (Option.some (Go.Addr.mk 501 0 Option.none)) (m) (cap2))), (Prod.mk 5 (vI (IntKind.wrap .i64 (i + 1))))] [(Prod.mk 500 (AObj.sym (l) false 2)), (Prod.mk 501 (AObj.sym (l2) false 2))]))))))
 False)
 False))))
 False)
 False)
 (X 0 [] [])) := by kernel_rfl
def nRg (C : Ct) (L : AtLoop) (k : List D → Prop) : Prop := wpNext Try.prog (hK C) L 24 0 .normal [] [] (dataK k)
theorem nRg_text (C : Ct) (L : AtLoop) (k : List D → Prop) : nRg C L k =
 (k [(D.val (Value.bool true))]) := by kernel_rfl
abbrev W1000 (l : List Value) : Nat × AObj := (1000, .sym l true 2)
def sCB2 (m cap2 j : Nat) (i : Int) : Slots := [(1, S501 m cap2), (61, S1000 j), (62, vI j), (63, vI i)]
def rCB2 (C : Ct) (L : AtLoop) (m cap2 : Nat) (l2 : List Value) (j : Nat) (r : List Value) (i : Int) (B : Bx) (X : Xx) (k : List D → Prop) : Prop := wpRound Try.prog (hK C) L 17 2 (sCB2 m cap2 j i) [T501 l2, W1000 r] B X (dataK k)
theorem rCB2_text (C : Ct) (L : AtLoop) (m : Nat) (cap2 : Nat) (l2 : List Go.Value) (j : Nat) (r : List Go.Value) (i : Int) (B : Bx) (X : Xx) (k : List D → Prop) : rCB2 C L m cap2 l2 j r i B X k =
 (bcase (decide (i < (↑j : Int)))
 (bcase (decide (0 ≤ i))
 (bcase (decide (i < (↑j : Int)))
 (∃ n1 : Int,
 (∃ n2 : Int,
 ((At (r) (0 + Int.toNat i * 2) 2 [(vI n1), (vI n2)]) ∧
 (bcase (decide (0 ≤ i))
 (bcase (decide (i < (↑m : Int)))
 (∃ n3 : Int,
 (∃ n4 : Int,
 ((At (l2) (0 + Int.toNat i * 2) 2 [(vI n3), (vI n4)]) ∧
 (((((Go.Value.slice (Option.some (Go.Addr.mk 1002 0 Option.none)) 2 2) = (Go.Value.slice (Option.some (Go.Addr.mk 1002 0 Option.none)) 2 2)) ∧
 ((Option.some (AObj.cells [(vI n1), (vI n2)] 3 false 1)) = (Option.some (AObj.cells [(vI n1), (vI n2)] 3 false 1)))) ∧
 (((vI n2) = (vI n2)) ∧
 (((Go.Value.pointer (Option.some (Go.Addr.mk 1001 1 Option.none))) = (Go.Value.pointer (Option.some (Go.Addr.mk 1001 1 Option.none)))) ∧
 (((vI n1) = (vI n1)) ∧
 (((Go.Value.pointer (Option.some (Go.Addr.mk 1001 0 Option.none))) = (Go.Value.pointer (Option.some (Go.Addr.mk 1001 0 Option.none)))) ∧
 ((∃ n5 : Int,
 (∃ n6 : Int,
 ((At (l2) (0 + Int.toNat i * 2) 2 [(vI n5), (vI n6)]) ∧
 ((Go.Value.agg [(vI n5), (vI n6)].toArray) = (Go.Value.agg [(vI n3), (vI n4)].toArray))))) ∧
 ((bcase (decide (0 ≤ i))
 (bcase (decide (i < (↑m : Int)))
 ((Go.Value.pointer (Option.some (Go.Addr.mk 501 (0 + Int.toNat i * 2) Option.none))) = (Go.Value.pointer (Option.some (Go.Addr.mk 501 (0 + Int.toNat i * 2) Option.none))))
 False)
 False) ∧
 (((vI i) = (vI i)) ∧
 (((Go.Value.slice (Option.some (Go.Addr.mk 501 0 Option.none)) (m) (cap2)) = (Go.Value.slice (Option.some (Go.Addr.mk 501 0 Option.none)) (m) (cap2))) ∧
 True))))))))) ∧
 (((((Go.Value.slice (Option.some (Go.Addr.mk 1002 0 Option.none)) 2 2) = (Go.Value.slice (Option.some (Go.Addr.mk 1002 0 Option.none)) 2 2)) ∧
 ((Option.some (AObj.cells [(vI n1), (vI n2)] 3 false 1)) = (Option.some (AObj.cells [(vI n1), (vI n2)] 3 false 1)))) ∧
 (((vI n2) = (vI n2)) ∧
 (((Go.Value.pointer (Option.some (Go.Addr.mk 1001 1 Option.none))) = (Go.Value.pointer (Option.some (Go.Addr.mk 1001 1 Option.none)))) ∧
 (((vI n1) = (vI n1)) ∧
 (((Go.Value.pointer (Option.some (Go.Addr.mk 1001 0 Option.none))) = (Go.Value.pointer (Option.some (Go.Addr.mk 1001 0 Option.none)))) ∧
 ((bcase (decide (0 ≤ i))
 (bcase (decide (i < (↑m : Int)))
 ((Go.Value.pointer (Option.some (Go.Addr.mk 501 (0 + Int.toNat i * 2) Option.none))) = (Go.Value.pointer (Option.some (Go.Addr.mk 501 (0 + Int.toNat i * 2) Option.none))))
 False)
 False) ∧
 (((vI i) = (vI i)) ∧
 (((Go.Value.slice (Option.some (Go.Addr.mk 501 0 Option.none)) (m) (cap2)) = (Go.Value.slice (Option.some (Go.Addr.mk 501 0 Option.none)) (m) (cap2))) ∧
 True)))))))) ∧
 (∃ r1 : Int,
 ((Says witC 0 [(D.val (vI n3)), (D.val (vI n4)), (D.val (vI (19 : Int))), (D.sl 2 1 [(vI n1), (vI n2)])] [(D.val (vI r1))]) ∧
 ((((vI n2) = (vI n2)) ∧
 (((Go.Value.pointer (Option.some (Go.Addr.mk 1001 1 Option.none))) = (Go.Value.pointer (Option.some (Go.Addr.mk 1001 1 Option.none)))) ∧
 (((vI n1) = (vI n1)) ∧
 (((Go.Value.pointer (Option.some (Go.Addr.mk 1001 0 Option.none))) = (Go.Value.pointer (Option.some (Go.Addr.mk 1001 0 Option.none)))) ∧
 ((bcase (decide (0 ≤ i))
 (bcase (decide (i < (↑m : Int)))
 ((Go.Value.pointer (Option.some (Go.Addr.mk 501 (0 + Int.toNat i * 2) Option.none))) = (Go.Value.pointer (Option.some (Go.Addr.mk 501 (0 + Int.toNat i * 2) Option.none))))
 False)
 False) ∧
 (((vI i) = (vI i)) ∧
 (((Go.Value.slice (Option.some (Go.Addr.mk 501 0 Option.none)) (m) (cap2)) = (Go.Value.slice (Option.some (Go.Addr.mk 501 0 Option.none)) (m) (cap2))) ∧
 True))))))) ∧
 (True ∧
 (bcase (r1 != 0)
 (k [(D.val (vI i)), (D.val (vI r1))])
 (B [(Prod.mk 1 (Go.Value.slice (Option.some (Go.Addr.mk 501 0 Option.none)) (m) (cap2))), (Prod.mk 61 (Go.Value.slice (Option.some (Go.Addr.mk 1000 0 Option.none)) (j) (j))), (Prod.mk 62 (vI ((↑j : Int)))), (Prod.mk 63 (vI (IntKind.wrap .i64 (i + 1))))] [(Prod.mk 501 (AObj.sym (l2) false 2)), (Prod.mk 1000 (AObj.sym (r) true 2))])))))))))))
 False)
 False))))
 False)
 False)
 (X 2 [] [])) := by kernel_rfl
def nCB2 (C : Ct) (L : AtLoop) (k : List D → Prop) : Prop := wpNext Try.prog (hK C) L 17 2 .normal [] [] (dataK k)
theorem nCB2_text (C : Ct) (L : AtLoop) (k : List D → Prop) : nCB2 C L k =
 (k [(D.val (vI (0 : Int))), (D.val (vI (0 : Int)))]) := by kernel_rfl
def sBF2 (n cap j : Nat) : Slots := [(6, S500 n cap), (12, S1000 j)]
def rBF2 (C : Ct) (L : AtLoop) (n cap : Nat) (l : List Value) (j : Nat) (r : List Value) (B : Bx) (X : Xx) (k : List D → Prop) : Prop := wpRound Try.prog (hK C) L 19 2 (sBF2 n cap j) [L500 l, W1000 r] B X (dataK k)
theorem rBF2_text (C : Ct) (L : AtLoop) (n : Nat) (cap : Nat) (l : List Go.Value) (j : Nat) (r : List Go.Value) (B : Bx) (X : Xx) (k : List D → Prop) : rBF2 C L n cap l j r B X k =
 (bcase (decide (0 + n * 7 ≤ List.length l))
 (bcase (decide (0 + j * 2 ≤ List.length r))
 (((Says C 45 [(D.sl (n) 7 (List.take (n * 7) (List.drop 0 l))), (D.sl (j) 2 (List.take (j * 2) (List.drop 0 r)))] [D.nil]) ∧
 (bcase (decide (0 + j * 2 ≤ List.length r))
 (((Says C 47 [(D.sl (j) 2 (List.take (j * 2) (List.drop 0 r))), D.nil] [D.nil]) ∧
 (bcase (decide (0 + j * 2 ≤ List.length r))
 (((Says C 48 [D.nil, (D.sl (j) 2 (List.take (j * 2) (List.drop 0 r)))] [(D.val (Value.bool true))]) ∧
 ((((j) = (j)) ∧
 ((List.length r) = (j * 2))) ∧
 (k [(D.sl (j) 2 (r)), (D.val (vI (0 : Int)))]))) ∨
 ((Says C 48 [D.nil, (D.sl (j) 2 (List.take (j * 2) (List.drop 0 r)))] [(D.val (Value.bool false))]) ∧
 (bcase (decide (0 + n * 7 ≤ List.length l))
 (((Says C 49 [(D.sl (n) 7 (List.take (n * 7) (List.drop 0 l))), D.nil] [(D.val (Value.bool true))]) ∧
 (B [(Prod.mk 6 (Go.Value.slice (Option.some (Go.Addr.mk 500 0 Option.none)) (n) (cap))), (Prod.mk 12 (Go.Value.slice Option.none 0 0))] [(Prod.mk 500 (AObj.sym (l) false 7))])) ∨
 ((Says C 49 [(D.sl (n) 7 (List.take (n * 7) (List.drop 0 l))), D.nil] [(D.val (Value.bool false))]) ∧
 (k [D.nil, (D.val (vI (12 : Int)))])))
 False)))
 False)) ∨
 (∃ n1 : Nat,
 (∃ cs1 : List Go.Value,
 ((Says C 47 [(D.sl (j) 2 (List.take (j * 2) (List.drop 0 r))), D.nil] [(D.sl (n1) 2 (cs1))]) ∧
 (bcase (decide (0 + n1 * 2 ≤ List.length cs1))
 (bcase (decide (0 + j * 2 ≤ List.length r))
 (((Says C 48 [(D.sl (n1) 2 (List.take (n1 * 2) (List.drop 0 cs1))), (D.sl (j) 2 (List.take (j * 2) (List.drop 0 r)))] [(D.val (Value.bool true))]) ∧
 ((((j) = (j)) ∧
 ((List.length r) = (j * 2))) ∧
 (k [(D.sl (j) 2 (r)), (D.val (vI (0 : Int)))]))) ∨
 ((Says C 48 [(D.sl (n1) 2 (List.take (n1 * 2) (List.drop 0 cs1))), (D.sl (j) 2 (List.take (j * 2) (List.drop 0 r)))] [(D.val (Value.bool false))]) ∧
 (bcase (decide (0 + n * 7 ≤ List.length l))
 (bcase (decide (0 + n1 * 2 ≤ List.length cs1))
 (((Says C 49 [(D.sl (n) 7 (List.take (n * 7) (List.drop 0 l))), (D.sl (n1) 2 (List.take (n1 * 2) (List.drop 0 cs1)))] [(D.val (Value.bool true))]) ∧
 (B [(Prod.mk 6 (Go.Value.slice (Option.some (Go.Addr.mk 500 0 Option.none)) (n) (cap))), (Prod.mk 12 (Go.Value.slice (Option.some (Go.Addr.mk 1000 0 Option.none)) (n1) (n1)))] [(Prod.mk 500 (AObj.sym (l) false 7)), (Prod.mk 1000 (AObj.sym (cs1) true 2))])) ∨
 ((Says C 49 [(D.sl (n) 7 (List.take (n * 7) (List.drop 0 l))), (D.sl (n1) 2 (List.take (n1 * 2) (List.drop 0 cs1)))] [(D.val (Value.bool false))]) ∧
 (k [D.nil, (D.val (vI (12 : Int)))])))
 False)
 False)))
 False)
 False)))))
 False)) ∨
 (∃ n1 : Nat,
 (∃ cs1 : List Go.Value,
 ((Says C 45 [(D.sl (n) 7 (List.take (n * 7) (List.drop 0 l))), (D.sl (j) 2 (List.take (j * 2) (List.drop 0 r)))] [(D.sl (n1) 2 (cs1))]) ∧
 (bcase (decide (0 + j * 2 ≤ List.length r))
 (bcase (decide (0 + n1 * 2 ≤ List.length cs1))
 (((Says C 47 [(D.sl (j) 2 (List.take (j * 2) (List.drop 0 r))), (D.sl (n1) 2 (List.take (n1 * 2) (List.drop 0 cs1)))] [D.nil]) ∧
 (bcase (decide (0 + j * 2 ≤ List.length r))
 (((Says C 48 [D.nil, (D.sl (j) 2 (List.take (j * 2) (List.drop 0 r)))] [(D.val (Value.bool true))]) ∧
 ((((j) = (j)) ∧
 ((List.length r) = (j * 2))) ∧
 (k [(D.sl (j) 2 (r)), (D.val (vI (0 : Int)))]))) ∨
 ((Says C 48 [D.nil, (D.sl (j) 2 (List.take (j * 2) (List.drop 0 r)))] [(D.val (Value.bool false))]) ∧
 (bcase (decide (0 + n * 7 ≤ List.length l))
 (((Says C 49 [(D.sl (n) 7 (List.take (n * 7) (List.drop 0 l))), D.nil] [(D.val (Value.bool true))]) ∧
 (B [(Prod.mk 6 (Go.Value.slice (Option.some (Go.Addr.mk 500 0 Option.none)) (n) (cap))), (Prod.mk 12 (Go.Value.slice Option.none 0 0))] [(Prod.mk 500 (AObj.sym (l) false 7))])) ∨
 ((Says C 49 [(D.sl (n) 7 (List.take (n * 7) (List.drop 0 l))), D.nil] [(D.val (Value.bool false))]) ∧
 (k [D.nil, (D.val (vI (12 : Int)))])))
 False)))
 False)) ∨
 (∃ n2 : Nat,
 (∃ cs2 : List Go.Value,
 ((Says C 47 [(D.sl (j) 2 (List.take (j * 2) (List.drop 0 r))), (D.sl (n1) 2 (List.take (n1 * 2) (List.drop 0 cs1)))] [(D.sl (n2) 2 (cs2))]) ∧
 (bcase (decide (0 + n2 * 2 ≤ List.length cs2))
 (bcase (decide (0 + j * 2 ≤ List.length r))
 (((Says C 48 [(D.sl (n2) 2 (List.take (n2 * 2) (List.drop 0 cs2))), (D.sl (j) 2 (List.take (j * 2) (List.drop 0 r)))] [(D.val (Value.bool true))]) ∧
 ((((j) = (j)) ∧
 ((List.length r) = (j * 2))) ∧
 (k [(D.sl (j) 2 (r)), (D.val (vI (0 : Int)))]))) ∨
 ((Says C 48 [(D.sl (n2) 2 (List.take (n2 * 2) (List.drop 0 cs2))), (D.sl (j) 2 (List.take (j * 2) (List.drop 0 r)))] [(D.val (Value.bool false))]) ∧
 (bcase (decide (0 + n * 7 ≤ List.length l))
 (bcase (decide (0 + n2 * 2 ≤ List.length cs2))
 (((Says C 49 [(D.sl (n) 7 (List.take (n * 7) (List.drop 0 l))), (D.sl (n2) 2 (List.take (n2 * 2) (List.drop 0 cs2)))] [(D.val (Value.bool true))]) ∧
 (B [(Prod.mk 6 (Go.Value.slice (Option.some (Go.Addr.mk 500 0 Option.none)) (n) (cap))), (Prod.mk 12 (Go.Value.slice (Option.some (Go.Addr.mk 1000 0 Option.none)) (n2) (n2)))] [(Prod.mk 500 (AObj.sym (l) false 7)), (Prod.mk 1000 (AObj.sym (cs2) true 2))])) ∨
 ((Says C 49 [(D.sl (n) 7 (List.take (n * 7) (List.drop 0 l))), (D.sl (n2) 2 (List.take (n2 * 2) (List.drop 0 cs2)))] [(D.val (Value.bool false))]) ∧
 (k [D.nil, (D.val (vI (12 : Int)))])))
 False)
 False)))
 False)
 False)))))
 False)
 False)))))
 False)
 False) := by kernel_rfl
def sRC2 (m cap2 j : Nat) (i : Int) : Slots := [(1, S501 m cap2), (8, S1000 j), (9, vI i)]
def rRC2 (C : Ct) (L : AtLoop) (m cap2 : Nat) (l2 : List Value) (j : Nat) (r : List Value) (i : Int) (B : Bx) (X : Xx) (k : List D → Prop) : Prop := wpRound Try.prog (hK C) L 22 2 (sRC2 m cap2 j i) [T501 l2, W1000 r] B X (dataK k)
theorem rRC2_text (C : Ct) (L : AtLoop) (m : Nat) (cap2 : Nat) (l2 : List Go.Value) (j : Nat) (r : List Go.Value) (i : Int) (B : Bx) (X : Xx) (k : List D → Prop) : rRC2 C L m cap2 l2 j r i B X k =
 (bcase (decide (i < (↑m : Int)))
 (bcase (decide (0 ≤ i))
 (bcase (decide (i < (↑j : Int)))
 (∃ n1 : Int,
 ((At (r) (0 + Int.toNat i * 2) 1 [(vI n1)]) ∧
 (bcase (decide (0 ≤ i))
 (bcase (decide (i < (↑m : Int)))
 (∃ n2 : Int,
 ((At (l2) (0 + Int.toNat i * 2) 1 [(vI n2)]) ∧
 (bcase (decide (n1 < n2))
 ((((Value.bool true) = (Value.bool true)) ∧
 (((Go.Value.tuple [].toArray) = (Go.Value.tuple [].toArray)) ∧
 (((Go.Value.tuple [].toArray) = (Go.Value.tuple [].toArray)) ∧
 (((Go.Value.tuple [].toArray) = (Go.Value.tuple [].toArray)) ∧
 (((Go.Value.tuple [].toArray) = (Go.Value.tuple [].toArray)) ∧
 (((Go.Value.tuple [].toArray) = (Go.Value.tuple [].toArray)) ∧
 (((Go.Value.tuple [].toArray) = (Go.Value.tuple [].toArray)) ∧
 (((Go.Value.tuple [].toArray) = (Go.Value.tuple [].toArray)) ∧
 (((Go.Value.tuple [].toArray) = (Go.Value.tuple [].toArray)) ∧
 (((Go.Value.tuple [].toArray) = (Go.Value.tuple [].toArray)) ∧
 (((Go.Value.tuple [].toArray) = (Go.Value.tuple [].toArray)) ∧
 (((Go.Value.tuple [].toArray) = (Go.Value.tuple [].toArray)) ∧
 (((Value.bool true) = (Value.bool true)) ∧
 ((bcase (decide (n1 < n2))
 ((Value.bool true) = (Value.bool true))
 ((Value.bool false) = (Value.bool true))) ∧
 ((∃ n3 : Int,
 ((At (l2) (0 + Int.toNat i * 2) 1 [(vI n3)]) ∧
 ((vI n3) = (vI n2)))) ∧
 (((Go.Value.pointer (Option.some (Go.Addr.mk 501 (0 + Int.toNat i * 2) Option.none))) = (Go.Value.pointer (Option.some (Go.Addr.mk 501 (0 + Int.toNat i * 2) Option.none)))) ∧
 ((bcase (decide (0 ≤ i))
 (bcase (decide (i < (↑m : Int)))
 ((Go.Value.pointer (Option.some (Go.Addr.mk 501 (0 + Int.toNat i * 2) Option.none))) = (Go.Value.pointer (Option.some (Go.Addr.mk 501 (0 + Int.toNat i * 2) Option.none))))
 False)
 False) ∧
 (((vI i) = (vI i)) ∧
 (((Go.Value.slice (Option.some (Go.Addr.mk 501 0 Option.none)) (m) (cap2)) = (Go.Value.slice (Option.some (Go.Addr.mk 501 0 Option.none)) (m) (cap2))) ∧
 ((∃ n3 : Int,
 ((At (r) (0 + Int.toNat i * 2) 1 [(vI n3)]) ∧
 ((vI n3) = (vI n1)))) ∧
 (((Go.Value.pointer (Option.some (Go.Addr.mk 1000 (0 + Int.toNat i * 2) Option.none))) = (Go.Value.pointer (Option.some (Go.Addr.mk 1000 (0 + Int.toNat i * 2) Option.none)))) ∧
 ((bcase (decide (0 ≤ i))
 (bcase (decide (i < (↑j : Int)))
 ((Go.Value.pointer (Option.some (Go.Addr.mk 1000 (0 + Int.toNat i * 2) Option.none))) = (Go.Value.pointer (Option.some (Go.Addr.mk 1000 (0 + Int.toNat i * 2) Option.none))))
 False)
 False) ∧
 (((vI i) = (vI i)) ∧
 (((Go.Value.slice (Option.some (Go.Addr.mk 1000 0 Option.none)) (j) (j)) = (Go.Value.slice (Option.some (Go.Addr.mk 1000 0 Option.none)) (j) (j))) ∧
 True)))))))))))))))))))))))) ∧
 (k [(D.val (vI i)), (D.val (vI (19 : Int)))]))
 (bcase (decide (0 ≤ i))
 (bcase (decide (i < (↑j : Int)))
 (∃ n3 : Int,
 ((At (r) (Go.Addr.off { block := 1000, off := 0 + Int.toNat i * 2 } + 1) 1 [(vI n3)]) ∧
 (bcase (decide (0 ≤ i))
 (bcase (decide (i < (↑m : Int)))
 (∃ n4 : Int,
 ((At (l2) (Go.Addr.off { block := 501, off := 0 + Int.toNat i * 2 } + 1) 1 [(vI n4)]) ∧
 (bcase (decide (n3 > n4))
 ((((Value.bool true) = (Value.bool true)) ∧
 ((bcase (decide (n3 > n4))
 ((Value.bool true) = (Value.bool true))
 ((Value.bool false) = (Value.bool true))) ∧
 ((∃ n5 : Int,
 ((At (l2) (Go.Addr.off { block := 501, off := 0 + Int.toNat i * 2 } + 1) 1 [(vI n5)]) ∧
 ((vI n5) = (vI n4)))) ∧
 (((Go.Value.pointer (Option.some (Go.Addr.mk 501 (Go.Addr.off { block := 501, off := 0 + Int.toNat i * 2 } + 1) Option.none))) = (Go.Value.pointer (Option.some (Go.Addr.mk 501 (Go.Addr.off { block := 501, off := 0 + Int.toNat i * 2 } + 1) Option.none)))) ∧
 ((bcase (decide (0 ≤ i))
 (bcase (decide (i < (↑m : Int)))
 ((Go.Value.pointer (Option.some (Go.Addr.mk 501 (0 + Int.toNat i * 2) Option.none))) = (Go.Value.pointer (Option.some (Go.Addr.mk 501 (0 + Int.toNat i * 2) Option.none))))
 False)
 False) ∧
 (((vI i) = (vI i)) ∧
 (((Go.Value.slice (Option.some (Go.Addr.mk 501 0 Option.none)) (m) (cap2)) = (Go.Value.slice (Option.some (Go.Addr.mk 501 0 Option.none)) (m) (cap2))) ∧
 ((∃ n5 : Int,
 ((At (r) (Go.Addr.off { block := 1000, off := 0 + Int.toNat i * 2 } + 1) 1 [(vI n5)]) ∧
 ((vI n5) = (vI n3)))) ∧
 (((Go.Value.pointer (Option.some (Go.Addr.mk 1000 (Go.Addr.off { block := 1000, off := 0 + Int.toNat i * 2 } + 1) Option.none))) = (Go.Value.pointer (Option.some (Go.Addr.mk 1000 (Go.Addr.off { block := 1000, off := 0 + Int.toNat i * 2 } + 1) Option.none)))) ∧
 ((bcase (decide (0 ≤ i))
 (bcase (decide (i < (↑j : Int)))
 ((Go.Value.pointer (Option.some (Go.Addr.mk 1000 (0 + Int.toNat i * 2) Option.none))) = (Go.Value.pointer (Option.some (Go.Addr.mk 1000 (0 + Int.toNat i * 2) Option.none))))
 False)
 False) ∧
 (((vI i) = (vI i)) ∧
 (((Go.Value.slice (Option.some (Go.Addr.mk 1000 0 Option.none)) (j) (j)) = (Go.Value.slice (Option.some (Go.Addr.mk 1000 0 Option.none)) (j) (j))) ∧
 (((Value.bool false) = (Value.bool false)) ∧
 ((bcase (decide (n1 < n2))
 ((Value.bool true) = (Value.bool false))
 ((Value.bool false) = (Value.bool false))) ∧
 ((∃ n5 : Int,
 ((At (l2) (0 + Int.toNat i * 2) 1 [(vI n5)]) ∧
 ((vI n5) = (vI n2)))) ∧
 (((Go.Value.pointer (Option.some (Go.Addr.mk 501 (0 + Int.toNat i * 2) Option.none))) = (Go.Value.pointer (Option.some (Go.Addr.mk 501 (0 + Int.toNat i * 2) Option.none)))) ∧
 ((bcase (decide (0 ≤ i))
 (bcase (decide (i < (↑m : Int)))
 ((Go.Value.pointer (Option.some (Go.Addr.mk 501 (0 + Int.toNat i * 2) Option.none))) = (Go.Value.pointer (Option.some (Go.Addr.mk 501 (0 + Int.toNat i * 2) Option.none))))
 False)
 False) ∧
 (((vI i) = (vI i)) ∧
 (((Go.Value.slice (Option.some (Go.Addr.mk 501 0 Option.none)) (m) (cap2)) = (Go.Value.slice (Option.some (Go.Addr.mk 501 0 Option.none)) (m) (cap2))) ∧
 ((∃ n5 : Int,
 ((At (r) (0 + Int.toNat i * 2) 1 [(vI n5)]) ∧
 ((vI n5) = (vI n1)))) ∧
 (((Go.Value.pointer (Option.some (Go.Addr.mk 1000 (0 + Int.toNat i * 2) Option.none))) = (Go.Value.pointer (Option.some (Go.Addr.mk 1000 (0 + Int.toNat i * 2) Option.none)))) ∧
 ((bcase (decide (0 ≤ i))
 (bcase (decide (i < (↑j : Int)))
 ((Go.Value.pointer (Option.some (Go.Addr.mk 1000 (0 + Int.toNat i * 2) Option.none))) = (Go.Value.pointer (Option.some (Go.Addr.mk 1000 (0 + Int.toNat i * 2) Option.none))))
 False)
 False) ∧
 (((vI i) = (vI i)) ∧
 (((Go.Value.slice (Option.some (Go.Addr.mk 1000 0 Option.none)) (j) (j)) = (Go.Value.slice (Option.some (Go.Addr.mk 1000 0 Option.none)) (j) (j))) ∧
 True)))))))))))))))))))))))) ∧
 (k [(D.val (vI i)), (D.val (vI (19 : Int)))]))
 ((((Value.bool false) = (Value.bool false)) ∧
 ((bcase (decide (n3 > n4))
 ((Value.bool true) = (Value.bool false))
 ((Value.bool false) = (Value.bool false))) ∧
 ((∃ n5 : Int,
 ((At (l2) (Go.Addr.off { block := 501, off := 0 + Int.toNat i * 2 } + 1) 1 [(vI n5)]) ∧
 ((vI n5) = (vI n4)))) ∧
 (((Go.Value.pointer (Option.some (Go.Addr.mk 501 (Go.Addr.off { block := 501, off := 0 + Int.toNat i * 2 } + 1) Option.none))) = (Go.Value.pointer (Option.some (Go.Addr.mk 501 (Go.Addr.off { block := 501, off := 0 + Int.toNat i * 2 } + 1) Option.none)))) ∧
 ((bcase (decide (0 ≤ i))
 (bcase (decide (i < (↑m : Int)))
 ((Go.Value.pointer (Option.some (Go.Addr.mk 501 (0 + Int.toNat i * 2) Option.none))) = (Go.Value.pointer (Option.some (Go.Addr.mk 501 (0 + Int.toNat i * 2) Option.none))))
 False)
 False) ∧
 (((vI i) = (vI i)) ∧
 (((Go.Value.slice (Option.some (Go.Addr.mk 501 0 Option.none)) (m) (cap2)) = (Go.Value.slice (Option.some (Go.Addr.mk 501 0 Option.none)) (m) (cap2))) ∧
 ((∃ n5 : Int,
 ((At (r) (Go.Addr.off { block := 1000, off := 0 + Int.toNat i * 2 } + 1) 1 [(vI n5)]) ∧
 ((vI n5) = (vI n3)))) ∧
 (((Go.Value.pointer (Option.some (Go.Addr.mk 1000 (Go.Addr.off { block := 1000, off := 0 + Int.toNat i * 2 } + 1) Option.none))) = (Go.Value.pointer (Option.some (Go.Addr.mk 1000 (Go.Addr.off { block := 1000, off := 0 + Int.toNat i * 2 } + 1) Option.none)))) ∧
 ((bcase (decide (0 ≤ i))
 (bcase (decide (i < (↑j : Int)))
 ((Go.Value.pointer (Option.some (Go.Addr.mk 1000 (0 + Int.toNat i * 2) Option.none))) = (Go.Value.pointer (Option.some (Go.Addr.mk 1000 (0 + Int.toNat i * 2) Option.none))))
 False)
 False) ∧
 (((vI i) = (vI i)) ∧
 (((Go.Value.slice (Option.some (Go.Addr.mk 1000 0 Option.none)) (j) (j)) = (Go.Value.slice (Option.some (Go.Addr.mk 1000 0 Option.none)) (j) (j))) ∧
 (((Value.bool false) = (Value.bool false)) ∧
 ((bcase (decide (n1 < n2))
 ((Value.bool true) = (Value.bool false))
 ((Value.bool false) = (Value.bool false))) ∧
 ((∃ n5 : Int,
 ((At (l2) (0 + Int.toNat i * 2) 1 [(vI n5)]) ∧
 ((vI n5) = (vI n2)))) ∧
 (((Go.Value.pointer (Option.some (Go.Addr.mk 501 (0 + Int.toNat i * 2) Option.none))) = (Go.Value.pointer (Option.some (Go.Addr.mk 501 (0 + Int.toNat i * 2) Option.none)))) ∧
 ((bcase (decide (0 ≤ i))
 (bcase (decide (i < (↑m : Int)))
 ((Go.Value.pointer (Option.some (Go.Addr.mk 501 (0 + Int.toNat i * 2) Option.none))) = (Go.Value.pointer (Option.some (Go.Addr.mk 501 (0 + Int.toNat i * 2) Option.none))))
 False)
 False) ∧
 (((vI i) = (vI i)) ∧
 (((Go.Value.slice (Option.some (Go.Addr.mk 501 0 Option.none)) (m) (cap2)) = (Go.Value.slice (Option.some (Go.Addr.mk 501 0 Option.none)) (m) (cap2))) ∧
 ((∃ n5 : Int,
 ((At (r) (0 + Int.toNat i * 2) 1 [(vI n5)]) ∧
 ((vI n5) = (vI n1)))) ∧
 (((Go.Value.pointer (Option.some (Go.Addr.mk 1000 (0 + Int.toNat i * 2) Option.none))) = (Go.Value.pointer (Option.some (Go.Addr.mk 1000 (0 + Int.toNat i * 2) Option.none)))) ∧
 ((bcase (decide (0 ≤ i))
 (bcase (decide (i < (↑j : Int)))
 ((Go.Value.pointer (Option.some (Go.Addr.mk 1000 (0 + Int.toNat i * 2) Option.none))) = (Go.Value.pointer (Option.some (Go.Addr.mk 1000 (0 + Int.toNat i * 2) Option.none))))
 False)
 False) ∧
 (((vI i) = (vI i)) ∧
 (((Go.Value.slice (Option.some (Go.Addr.mk 1000 0 Option.none)) (j) (j)) = (Go.Value.slice (Option.some (Go.Addr.mk 1000 0 Option.none)) (j) (j))) ∧
 True)))))))))))))))))))))))) ∧
 (B [(Prod.mk 1 (Go.Value.slice (Option.some (Go.Addr.mk 501 0 Option.none)) (m) (cap2))), (Prod.mk 8 (Go.Value.slice (Option.some (Go.Addr.mk 1000 0 Option.none)) (j) (j))), (Prod.mk 9 (vI (IntKind.wrap .i64 (i + 1))))] [(Prod.mk 501 (AObj.sym (l2) false 2)), (Prod.mk 1000 (AObj.sym (r) true 2))])))))
 False)
 False)))
 False)
 False))))
 False)
 False)))
 False)
 False)
 (X 2 [] [])) := by kernel_rfl
def nRC2 (C : Ct) (L : AtLoop) (k : List D → Prop) : Prop := wpNext Try.prog (hK C) L 22 2 .normal [] [] (dataK k)
theorem nRC2_text (C : Ct) (L : AtLoop) (k : List D → Prop) : nRC2 C L k =
 (k [(D.val (vI (0 : Int))), (D.val (vI (0 : Int)))]) := by kernel_rfl
end Go.Proofs.G5b

/- Chapter 5: boxes compared, looked through, in data. -/
namespace Go.Proofs.G5b
open Go Go.Abs Go.Proofs Go.Proofs.G5
set_option maxRecDepth 100000
theorem ne_pair {a b c d : Int} (h : (if true = true then !(a == c && (b == d && true)) else a == c && (b == d && true)) = true) : ((a, b) : Int × Int) ≠ (c, d) := by
  intro e
  simp only [Prod.mk.injEq] at e
  obtain ⟨rfl, rfl⟩ := e
  simp at h
theorem eq_pair {a b c d : Int} (h : (if true = true then !(a == c && (b == d && true)) else a == c && (b == d && true)) = false) : ((a, b) : Int × Int) = (c, d) := by
  simp at h
  rw [h.1, h.2]
theorem conEq (l m : Bxs) (hl : l.length < 1000000000) : C5 48 [.sl l.length 2 (vp l), .sl m.length 2 (vp m)] [.val (.bool (decide (l = m)))] := by
  let inv : Nat × Nat × Nat → Prop := fun x => x.1 ≤ l.length ∧ l.length = m.length ∧ (l = m ↔ l.drop x.1 = m.drop x.1)
  let st : Nat × Nat × Nat → Slots × Blocks := fun x => (sEq l.length x.2.1 m.length x.2.2 x.1, [T500 (vp l), T501 (vp m)])
  refine con_of (L := fun _ s b => ∃ x, inv x ∧ st x = (s, b)) hokK mixed Try.func48 rfl (by show 2 ≤ 400; omega) rfl (ids := [0]) (by kernel_rfl) rfl (fun caps => ?_) (fun id hid => ?_)
  · show gEq _ _ l.length (caps 500) (vp l) m.length (caps 501) (vp m) _
    rw [gEq_text]
    refine bc_bne (fun h => ?_) (fun h => ?_)
    · show _ = _
      rw [decide_eq_false (fun e => h (by rw [e]))]
    · exact ⟨(0, caps 500, caps 501), ⟨Nat.zero_le _, by show l.length = m.length; omega, Iff.rfl⟩, rfl⟩
  · obtain rfl := List.mem_singleton.1 hid
    refine ⟨_, st, inv, fun x => l.length - x.1, ⟨fun s b h => h, by kernel_rfl, ?_⟩⟩
    rintro ⟨i, c1, c2⟩ ⟨hi, hlm, hr⟩
    simp only at hi hr
    show rEq _ _ l.length c1 (vp l) m.length c2 (vp m) (i : Int) _ _ _
    rw [rEq_text]
    refine bc_dec (fun h => ?_) (fun h => ?_)
    · have h1 : i < l.length := by omega
      have h2 : i < m.length := by omega
      rw [List.drop_eq_getElem_cons h1, List.drop_eq_getElem_cons h2] at hr
      simp only [bc_t h, bc_t (show (i : Int) < (m.length : Int) by omega), bc_t (show (0 : Int) ≤ (i : Int) by omega), Int.toNat_natCast, at2 (vp_two l i h1), at2 (vp_two m i h2), true_and]
      refine bcase_intro (fun hc => ?_) (fun hc => ?_)
      · rw [hc]
        have hn : l[i] ≠ m[i] := ne_pair hc
        refine ⟨⟨trivial, trivial⟩, ?_⟩
        show _ = _
        rw [decide_eq_false (fun e => hn (List.cons.inj (hr.1 e)).1)]
      · rw [hc]
        have hn : l[i] = m[i] := eq_pair hc
        refine ⟨⟨trivial, trivial⟩, ⟨i + 1, c1, c2⟩, ⟨by show i + 1 ≤ l.length; omega, hlm, ?_⟩, by show l.length - (i + 1) < l.length - i; omega, ?_⟩
        · show l = m ↔ l.drop (i + 1) = m.drop (i + 1)
          refine hr.trans ?_
          rw [hn]
          exact ⟨fun e => (List.cons.inj e).2, fun e => by rw [e]⟩
        · rw [w64 (by omega) (by omega)]; rfl
    · show (if 0 = 0 then _ else _)
      rw [if_pos rfl]
      show nEq _ _ _
      rw [nEq_text]
      show _ = _
      have e : l = m := hr.2 (by rw [List.drop_eq_nil_of_le (by omega), List.drop_eq_nil_of_le (by omega)])
      rw [decide_eq_true e]
theorem conRg (l m : Bxs) (hl : l.length < 1000000000) : C5 24 [.sl l.length 2 (vp l), .sl m.length 2 (vp m)] [.val (.bool (decide (l = m)))] := by
  let inv : Nat × Nat × Nat → Prop := fun x => x.1 ≤ l.length ∧ l.length = m.length ∧ (l = m ↔ l.drop x.1 = m.drop x.1)
  let st : Nat × Nat × Nat → Slots × Blocks := fun x => (sRg l.length x.2.1 m.length x.2.2 x.1, [T500 (vp l), T501 (vp m)])
  refine con_of (L := fun _ s b => ∃ x, inv x ∧ st x = (s, b)) hokK mixed Try.func24 rfl (by show 2 ≤ 400; omega) rfl (ids := [0]) (by kernel_rfl) rfl (fun caps => ?_) (fun id hid => ?_)
  · show gRg _ _ l.length (caps 500) (vp l) m.length (caps 501) (vp m) _
    rw [gRg_text]
    refine bc_bne (fun h => ?_) (fun h => ?_)
    · show _ = _
      rw [decide_eq_false (fun e => h (by rw [e]))]
    · exact ⟨(0, caps 500, caps 501), ⟨Nat.zero_le _, by show l.length = m.length; omega, Iff.rfl⟩, rfl⟩
  · obtain rfl := List.mem_singleton.1 hid
    refine ⟨_, st, inv, fun x => l.length - x.1, ⟨fun s b h => h, by kernel_rfl, ?_⟩⟩
    rintro ⟨i, c1, c2⟩ ⟨hi, hlm, hr⟩
    simp only at hi hr
    show rRg _ _ l.length c1 (vp l) m.length c2 (vp m) (i : Int) _ _ _
    rw [rRg_text]
    refine bc_dec (fun h => ?_) (fun h => ?_)
    · have h1 : i < l.length := by omega
      have h2 : i < m.length := by omega
      rw [List.drop_eq_getElem_cons h1, List.drop_eq_getElem_cons h2] at hr
      simp only [bc_t h, bc_t (show (i : Int) < (m.length : Int) by omega), bc_t (show (0 : Int) ≤ (i : Int) by omega), Int.toNat_natCast, at2 (vp_two l i h1), at2 (vp_two m i h2), true_and]
      refine bcase_intro (fun hc => ?_) (fun hc => ?_)
      · rw [hc]
        have hn : l[i] ≠ m[i] := ne_pair hc
        refine ⟨⟨trivial, trivial⟩, ?_⟩
        show _ = _
        rw [decide_eq_false (fun e => hn (List.cons.inj (hr.1 e)).1)]
      · rw [hc]
        have hn : l[i] = m[i] := eq_pair hc
        refine ⟨⟨trivial, trivial⟩, ⟨i + 1, c1, c2⟩, ⟨by show i + 1 ≤ l.length; omega, hlm, ?_⟩, by show l.length - (i + 1) < l.length - i; omega, ?_⟩
        · show l = m ↔ l.drop (i + 1) = m.drop (i + 1)
          refine hr.trans ?_
          rw [hn]
          exact ⟨fun e => (List.cons.inj e).2, fun e => by rw [e]⟩
        · rw [w64 (by omega) (by omega)]; rfl
    · show (if 0 = 0 then _ else _)
      rw [if_pos rfl]
      show nRg _ _ _
      rw [nRg_text]
      show _ = _
      have e : l = m := hr.2 (by rw [List.drop_eq_nil_of_le (by omega), List.drop_eq_nil_of_le (by omega)])
      rw [decide_eq_true e]
theorem witE2 {lo hi e x y : Int} (he : e ≠ 0) : witE lo hi e [vI x, vI y] = if (lo ≤ x ∧ x ≤ hi) ∧ (lo ≤ y ∧ y ≤ hi) then 0 else e := by
  simp only [witE]
  repeat' split
  all_goals first | rfl | omega
theorem conIL {ps : List Sv} {b : Bxs} (hl : b.length = ps.length) (hn : ps.length ≤ 1000) : C5 49 [.sl ps.length 7 (vs7 ps), .sl b.length 2 (vp b)] [.val (.bool (ilB ps b))] := by
  let inv : Nat × Nat × Nat → Prop := fun x => x.1 ≤ b.length ∧ ilB ps b = ilB (ps.drop x.1) (b.drop x.1)
  let st : Nat × Nat × Nat → Slots × Blocks := fun x => (sIL ps.length x.2.1 b.length x.2.2 x.1, [L500 (vs7 ps), T501 (vp b)])
  refine con_of (L := fun _ s b => ∃ x, inv x ∧ st x = (s, b)) hokK mixed Try.func49 rfl (by show 2 ≤ 400; omega) rfl (ids := [0]) (by kernel_rfl) rfl (fun caps => ?_) (fun id hid => ?_)
  · show gIL _ _ ps.length (caps 500) (vs7 ps) b.length (caps 501) (vp b) _
    rw [gIL_text]
    exact ⟨(0, caps 500, caps 501), ⟨Nat.zero_le _, rfl⟩, rfl⟩
  · obtain rfl := List.mem_singleton.1 hid
    refine ⟨_, st, inv, fun x => b.length - x.1, ⟨fun s b h => h, by kernel_rfl, ?_⟩⟩
    rintro ⟨i, c1, c2⟩ ⟨hi, hr⟩
    simp only at hi hr
    show rIL _ _ ps.length c1 (vs7 ps) b.length c2 (vp b) (i : Int) _ _ _
    rw [rIL_text]
    refine bc_dec (fun h => ?_) (fun h => ?_)
    · have h1 : i < ps.length := by omega
      have h2 : i < b.length := by omega
      rw [ilB_at h1 h2] at hr
      simp only [bc_t h, bc_t (show (i : Int) < (ps.length : Int) by omega), bc_t (show (0 : Int) ≤ (i : Int) by omega), Int.toNat_natCast, at7 (vs7_all ps i h1), at2 (vp_two b i h2), eq_self, true_and, and_true]
      refine ⟨witE ps[i].f ps[i].g 22 [vI b[i].1, vI b[i].2], ⟨rfl⟩, ?_⟩
      rw [witE2 (by decide)]
      by_cases hq : (ps[i].f ≤ b[i].1 ∧ b[i].1 ≤ ps[i].g) ∧ (ps[i].f ≤ b[i].2 ∧ b[i].2 ≤ ps[i].g)
      · rw [if_pos hq] at hr ⊢
        refine bc_bne (fun h' => absurd rfl h') (fun _ => ?_)
        refine ⟨bc_bne (fun h' => absurd rfl h') (fun _ => trivial), (i + 1, c1, c2), ⟨h2, hr⟩, by show b.length - (i + 1) < b.length - i; omega, ?_⟩
        rw [w64 (by omega) (by omega)]; rfl
      · rw [if_neg hq] at hr ⊢
        refine bc_bne (fun _ => ?_) (fun h' => absurd h' (by decide))
        refine ⟨bc_bne (fun _ => trivial) (fun h' => absurd h' (by decide)), ?_⟩
        show _ = _
        rw [hr]
    · show (if 0 = 0 then _ else _)
      rw [if_pos rfl]
      show nIL _ _ _
      rw [nIL_text]
      rw [ilB_end (by omega)] at hr
      show _ = _
      rw [hr]
def cbD (ps : List Sv) (b : Bxs) : List D := [dI (cbP ps b).1, dI (cbP ps b).2]
theorem sameE1 (a b : Int) : sameE a [b] = if b ≠ a then 10 else 0 := by
  simp only [sameE]
  repeat' split
  all_goals first | rfl | omega
theorem conCB (ps : List Sv) (b : Bxs) (hn : ps.length ≤ 1000) : C5 17 [.agg [.sl ps.length 7 (vs7 ps)], .sl b.length 2 (vp b)] (cbD ps b) := by
  let inv0 : Nat × Nat × Nat → Prop := fun x => x.1 ≤ b.length ∧ (chE ps).2 = 0 ∧ b.length = ps.length ∧ cbGo 0 ps b = cbGo x.1 (ps.drop x.1) (b.drop x.1)
  let st0 : Nat × Nat × Nat → Slots × Blocks := fun x => (sCB ps.length x.2.1 b.length x.2.2 x.1, [T501 (vp b), L500 (vs7 ps)])
  let inv2 : Nat × Nat × Nat → Prop := fun x => x.1 ≤ b.length ∧ (chE ps).2 = 0 ∧ b.length = ps.length ∧ (cbGo 0 ps b).2 = 0 ∧ pfGo 0 b (img ps b) = pfGo x.1 (b.drop x.1) ((img ps b).drop x.1)
  let st2 : Nat × Nat × Nat → Slots × Blocks := fun x => (sCB2 b.length x.2.2 ps.length x.1, [T501 (vp b), W1000 (vp (img ps b))])
  refine con_of (L := fun id s b => match id with | 0 => ∃ x, inv0 x ∧ st0 x = (s, b) | _ => ∃ x, inv2 x ∧ st2 x = (s, b)) hokK mixed Try.func17 rfl (by show 2 ≤ 400; omega) rfl (ids := [0, 2]) (by kernel_rfl) rfl (fun caps => ?_) (fun id hid => ?_)
  · show gCB _ _ ps.length (caps 500) (vs7 ps) b.length (caps 501) (vp b) _
    rw [gCB_text]
    simp only [bc_t (v7le ps), vs7_whole, eq_self, true_and, and_true]
    refine ⟨_, _, ⟨conC9 ps (by omega)⟩, bc_bne (fun h => ?_) (fun h => ?_)⟩
    · refine ⟨_, ⟨conCS 0 [(b.length : Int)] (by simp)⟩, _, ⟨conFE [(chE ps).2, sameE 0 [(b.length : Int)]] (by simp)⟩, ?_⟩
      rw [fst0_two, if_neg h]
      refine bc_bne (fun _ => ?_) (fun h' => absurd h' h)
      show _ = _
      rw [cbD, cbP, if_pos h]
    · refine ⟨_, ⟨conCS (ps.length : Int) [(b.length : Int)] (by simp)⟩, _, ⟨conFE [0, sameE (ps.length : Int) [(b.length : Int)]] (by simp)⟩, ?_⟩
      rw [fst0_two, if_pos rfl, sameE1]
      by_cases hl : b.length ≠ ps.length
      · rw [if_pos (show (b.length : Int) ≠ (ps.length : Int) by omega)]
        refine bc_bne (fun _ => ?_) (fun h' => absurd h' (by decide))
        show _ = _
        rw [cbD, cbP, if_neg (fun x => x h), if_pos hl]
      · rw [if_neg (show ¬ ((b.length : Int) ≠ (ps.length : Int)) by omega)]
        refine bc_bne (fun h' => absurd rfl h') (fun _ => ?_)
        exact ⟨(0, caps 500, caps 501), ⟨Nat.zero_le _, h, by omega, rfl⟩, rfl⟩
  · have hid' : id = 0 ∨ id = 2 := by simpa using hid
    rcases hid' with rfl | rfl
    · refine ⟨_, st0, inv0, fun x => b.length - x.1, ⟨fun s b h => h, by kernel_rfl, ?_⟩⟩
      rintro ⟨i, c1, c2⟩ ⟨hi, hc, hl, hr⟩
      simp only at hi hr
      show rCB _ _ ps.length c1 (vs7 ps) b.length c2 (vp b) (i : Int) _ _ _
      rw [rCB_text]
      have fin : cbGo 0 ps b ≠ (0, 0) → (cbGo 0 ps b).2 ≠ 0 → cbD ps b = [dI (cbGo 0 ps b).1, dI (cbGo 0 ps b).2] := fun _ h2 => by
        rw [cbD, cbP, if_neg (fun x => x hc), if_neg (by omega), if_pos h2]
      refine bc_dec (fun h => ?_) (fun h => ?_)
      · have h1 : i < ps.length := by omega
        have h2 : i < b.length := by omega
        rw [cbGo_at h1 h2] at hr
        simp only [bc_t h, bc_t (show (i : Int) < (ps.length : Int) by omega), bc_t (show (0 : Int) ≤ (i : Int) by omega), Int.toNat_natCast, at7 (vs7_all ps i h1), at2 (vp_two b i h2), eq_self, true_and, and_true]
        refine bc_dec (fun h9 => ?_) (fun h9 => ?_)
        · rw [if_pos h9] at hr
          refine ⟨witE ps[i].f ps[i].g 22 [vI b[i].1, vI b[i].2], ⟨rfl⟩, _, ⟨conFE [9, witE ps[i].f ps[i].g 22 [vI b[i].1, vI b[i].2]] (by simp)⟩, ?_⟩
          rw [fst0_two, if_neg (by decide)]
          refine bc_bne (fun _ => ?_) (fun h' => absurd h' (by decide))
          show _ = _
          rw [fin (by rw [hr]; simp) (by rw [hr]; simp), hr]
        · rw [if_neg h9] at hr
          refine ⟨witE ps[i].f ps[i].g 22 [vI b[i].1, vI b[i].2], ⟨rfl⟩, _, ⟨conFE [0, witE ps[i].f ps[i].g 22 [vI b[i].1, vI b[i].2]] (by simp)⟩, ?_⟩
          rw [fst0_two, if_pos rfl, witE2 (by decide)]
          by_cases hq : (ps[i].f ≤ b[i].1 ∧ b[i].1 ≤ ps[i].g) ∧ (ps[i].f ≤ b[i].2 ∧ b[i].2 ≤ ps[i].g)
          · rw [if_pos hq] at hr ⊢
            refine bc_bne (fun h' => absurd rfl h') (fun _ => ?_)
            refine ⟨(i + 1, c1, c2), ⟨h2, hc, hl, hr⟩, by show b.length - (i + 1) < b.length - i; omega, ?_⟩
            rw [w64 (by omega) (by omega)]; rfl
          · rw [if_neg hq] at hr ⊢
            refine bc_bne (fun _ => ?_) (fun h' => absurd h' (by decide))
            show _ = _
            rw [fin (by rw [hr]; simp) (by rw [hr]; simp), hr]
      · show (if 0 = 0 then _ else _)
        rw [if_pos rfl]
        show nCB _ _ ps.length c1 (vs7 ps) b.length c2 (vp b) _
        rw [nCB_text]
        rw [cbGo_end (by omega)] at hr
        have hok := chE_ok hc
        have hcb := cbGo_ok (i := 0) hl (by rw [hr])
        have hh := ilB_hgt hok.2.2 hl hcb.1
        simp only [bc_t (v7le ps), bc_t (vple b), vs7_whole, vp_whole, eq_self, true_and, and_true]
        exact .inr ⟨_, _, ⟨conBa hok.2.2 hl hh.1 hh.2 hok.1 hn⟩, ⟨(0, c1, c2), ⟨Nat.zero_le _, hc, hl, by rw [hr], rfl⟩, rfl⟩⟩
    · refine ⟨_, st2, inv2, fun x => b.length - x.1, ⟨fun s b h => h, by kernel_rfl, ?_⟩⟩
      rintro ⟨i, c1, c2⟩ ⟨hi, hc, hl, h0, hr⟩
      simp only at hi hr
      show rCB2 _ _ b.length c2 (vp b) ps.length (vp (img ps b)) (i : Int) _ _ _
      rw [rCB2_text]
      refine bc_dec (fun h => ?_) (fun h => ?_)
      · have h1 : i < b.length := by omega
        have h2 : i < (img ps b).length := by rw [img_length]; omega
        rw [pfGo_at h1 h2] at hr
        simp only [bc_t h, bc_t (show (i : Int) < (b.length : Int) by omega), bc_t (show (0 : Int) ≤ (i : Int) by omega), Int.toNat_natCast, at2 (vp_two b i h1), at2 (vp_two (img ps b) i h2), eq_self, true_and, and_true]
        refine ⟨witE b[i].1 b[i].2 19 [vI (img ps b)[i].1, vI (img ps b)[i].2], ⟨rfl⟩, ?_⟩
        rw [witE2 (by decide)]
        by_cases hq : (img ps b)[i].1 < b[i].1 ∨ (img ps b)[i].1 > b[i].2 ∨ (img ps b)[i].2 < b[i].1 ∨ (img ps b)[i].2 > b[i].2
        · rw [if_pos hq] at hr
          rw [if_neg (by omega)]
          refine bc_bne (fun _ => ?_) (fun h' => absurd h' (by decide))
          show _ = _
          rw [cbD, cbP, if_neg (fun x => x hc), if_neg (by omega), if_neg (fun x => x h0), hr]
        · rw [if_neg hq] at hr
          rw [if_pos (by omega)]
          refine bc_bne (fun h' => absurd rfl h') (fun _ => ?_)
          refine ⟨(i + 1, c1, c2), ⟨h1, hc, hl, h0, hr⟩, by show b.length - (i + 1) < b.length - i; omega, ?_⟩
          rw [w64 (by omega) (by omega)]; rfl
      · show (if 2 = 2 then _ else _)
        rw [if_pos rfl]
        show nCB2 _ _ _
        rw [nCB2_text]
        rw [pfGo_end (by omega)] at hr
        show _ = _
        rw [cbD, cbP, if_neg (fun x => x hc), if_neg (by omega), if_neg (fun x => x h0), hr]
end Go.Proofs.G5b

/- Chapter 5: the smallest box that is kept, in data. -/
namespace Go.Proofs.G5b
open Go Go.Abs Go.Proofs Go.Proofs.G5
set_option maxRecDepth 100000
def bfOf : Option Bxs → List D
  | some b => [.sl b.length 2 (vp b), dI 0]
  | none => [.nil, dI 12]
inductive BfR (ps : List Sv) (hs : List Int) : List D → Prop
  | bad (h : (chE ps).2 ≠ 0) : BfR ps hs [.nil, dI (chE ps).2]
  | len (h : (chE ps).2 = 0) (h2 : hs.length ≠ ps.length) : BfR ps hs [.nil, dI 10]
  | start (h : (chE ps).2 = 0) (h2 : hs.length = ps.length) (h3 : stGo ps hs ≠ 0) : BfR ps hs [.nil, dI 22]
  | grow (h : (chE ps).2 = 0) (h2 : hs.length = ps.length) (h3 : stGo ps hs = 0) (r : Option Bxs) (hg : Grow ps (bxOf hs hs) r) : BfR ps hs (bfOf r)
theorem conBF {ps : List Sv} {hs : List Int} {rs : List D} (hR : BfR ps hs rs) (hn : ps.length ≤ 1000) : C5 19 [.agg [.sl ps.length 7 (vs7 ps)], .sl hs.length 1 (vi hs)] rs := by
  let inv0 : Nat × Nat × Nat → Prop := fun x => x.1 ≤ hs.length ∧ (chE ps).2 = 0 ∧ hs.length = ps.length ∧ stGo ps hs = stGo (ps.drop x.1) (hs.drop x.1)
  let st0 : Nat × Nat × Nat → Slots × Blocks := fun x => (sBF ps.length x.2.1 hs.length x.2.2 x.1, [Q501 (vi hs), L500 (vs7 ps)])
  let inv2 : Bxs × Nat → Prop := fun x => (chE ps).2 = 0 ∧ x.1.length = ps.length ∧ ilB ps x.1 = true ∧ ∃ r, Grow ps x.1 r ∧ rs = bfOf r
  let st2 : Bxs × Nat → Slots × Blocks := fun x => (sBF2 ps.length x.2 ps.length, [L500 (vs7 ps), W1000 (vp x.1)])
  refine con_of (L := fun id s b => match id with | 0 => ∃ x, inv0 x ∧ st0 x = (s, b) | _ => ∃ x, inv2 x ∧ st2 x = (s, b)) hokK mixed Try.func19 rfl (by show 2 ≤ 400; omega) rfl (ids := [0, 2]) (by kernel_rfl) rfl (fun caps => ?_) (fun id hid => ?_)
  · show gBF _ _ ps.length (caps 500) (vs7 ps) hs.length (caps 501) (vi hs) _
    rw [gBF_text]
    simp only [bc_t (v7le ps), vs7_whole, true_and]
    refine ⟨_, _, ⟨conC9 ps (by omega)⟩, bc_bne (fun h => ?_) (fun h => ?_)⟩
    · refine ⟨_, ⟨conCS 0 [(hs.length : Int)] (by simp)⟩, _, ⟨conFE [(chE ps).2, sameE 0 [(hs.length : Int)]] (by simp)⟩, ?_⟩
      rw [fst0_two, if_neg h]
      refine bc_bne (fun _ => ?_) (fun h' => absurd h' h)
      show _ = _
      cases hR with
      | bad _ => rfl
      | _ => contradiction
    · refine ⟨_, ⟨conCS (ps.length : Int) [(hs.length : Int)] (by simp)⟩, _, ⟨conFE [0, sameE (ps.length : Int) [(hs.length : Int)]] (by simp)⟩, ?_⟩
      rw [fst0_two, if_pos rfl, sameE1]
      by_cases hl : hs.length ≠ ps.length
      · rw [if_pos (show (hs.length : Int) ≠ (ps.length : Int) by omega)]
        refine bc_bne (fun _ => ?_) (fun h' => absurd h' (by decide))
        show _ = _
        cases hR with
        | bad _ => contradiction
        | len _ _ => rfl
        | start _ _ _ => contradiction
        | grow _ _ _ _ _ => contradiction
      · rw [if_neg (show ¬ ((hs.length : Int) ≠ (ps.length : Int)) by omega)]
        refine bc_bne (fun h' => absurd rfl h') (fun _ => ?_)
        exact ⟨(0, caps 500, caps 501), ⟨Nat.zero_le _, h, by omega, rfl⟩, rfl⟩
  · have hid' : id = 0 ∨ id = 2 := by simpa using hid
    rcases hid' with rfl | rfl
    · refine ⟨_, st0, inv0, fun x => hs.length - x.1, ⟨fun s b h => h, by kernel_rfl, ?_⟩⟩
      rintro ⟨i, c1, c2⟩ ⟨hi, hc, hl, hr⟩
      simp only at hi hr
      show rBF _ _ ps.length c1 (vs7 ps) hs.length c2 (vi hs) (i : Int) _ _ _
      rw [rBF_text]
      refine bc_dec (fun h => ?_) (fun h => ?_)
      · have h1 : i < ps.length := by omega
        have h2 : i < hs.length := by omega
        rw [stGo_at h1 h2] at hr
        simp only [bc_t h, bc_t (show (i : Int) < (ps.length : Int) by omega), bc_t (show (0 : Int) ≤ (i : Int) by omega), Int.toNat_natCast, at7 (vs7_all ps i h1), at1 (vi_at hs i h2), eq_self, true_and, and_true]
        refine ⟨_, wit_rng, ?_⟩
        by_cases hq : ps[i].f ≤ hs[i] ∧ hs[i] ≤ ps[i].g
        · rw [if_pos hq] at hr
          rw [rngE, if_pos hq]
          refine bc_bne (fun h' => absurd rfl h') (fun _ => ?_)
          refine ⟨(i + 1, c1, c2), ⟨h2, hc, hl, hr⟩, by show hs.length - (i + 1) < hs.length - i; omega, ?_⟩
          rw [w64 (by omega) (by omega)]; rfl
        · rw [if_neg hq] at hr
          rw [rngE, if_neg hq]
          refine bc_bne (fun _ => ?_) (fun h' => absurd h' (by decide))
          show _ = _
          cases hR with
          | bad _ => contradiction
          | len _ _ => contradiction
          | start _ _ _ => rfl
          | grow _ _ h3 _ _ => omega
      · show (if 0 = 0 then _ else _)
        rw [if_pos rfl]
        show nBF _ _ ps.length c1 (vs7 ps) hs.length c2 (vi hs) _
        rw [nBF_text]
        rw [stGo_end (by omega)] at hr
        have hok := chE_ok hc
        simp only [bc_t (v1le hs), vi_whole, eq_self, true_and, and_true]
        refine .inr ⟨_, _, ⟨conBo (a := hs) (b := hs) rfl (by omega) (by omega)⟩, ⟨(bxOf hs hs, c1), ⟨hc, by simp [hl], stGo_ok hl hr, ?_⟩, by rw [hl]; rfl⟩⟩
        cases hR with
        | bad _ => contradiction
        | len _ _ => contradiction
        | start _ _ _ => contradiction
        | grow _ _ _ r hg => exact ⟨r, hg, rfl⟩
    · refine ⟨_, st2, inv2, fun x => slack ps x.1, ⟨fun s b h => h, by kernel_rfl, ?_⟩⟩
      rintro ⟨b, c1⟩ ⟨hc, hl, hil, r, hg, hrs⟩
      simp only at hl hil hg
      show rBF2 _ _ ps.length c1 (vs7 ps) ps.length (vp b) _ _ _
      rw [rBF2_text]
      have hok := chE_ok hc
      have hh := ilB_hgt hok.2.2 hl hil
      have a1 := conBa hok.2.2 hl hh.1 hh.2 hok.1 hn
      have a2 := conBb (a := b) (b := img ps b) (by simp [hl]) (by omega) (by omega)
      have a3 := conEq (bth b (img ps b)) b (by simp; omega)
      have a4 := conIL (ps := ps) (b := bth b (img ps b)) (by simp [hl]) hn
      simp only [bth_length, img_length, hl] at a1 a2 a3 a4
      have w1 : List.take (ps.length * 2) (List.drop 0 (vp b)) = vp b := by rw [List.drop_zero, List.take_of_length_le (by simp [hl])]
      have w2 : List.take (ps.length * 2) (List.drop 0 (vp (img ps b))) = vp (img ps b) := by rw [List.drop_zero, List.take_of_length_le (by simp)]
      have w3 : List.take (ps.length * 2) (List.drop 0 (vp (bth b (img ps b)))) = vp (bth b (img ps b)) := by rw [List.drop_zero, List.take_of_length_le (by simp [hl])]
      have l1 : 0 + ps.length * 2 ≤ (vp b).length := by simp [hl]
      have l2 : 0 + ps.length * 2 ≤ (vp (img ps b)).length := by simp
      have l3 : 0 + ps.length * 2 ≤ (vp (bth b (img ps b))).length := by simp [hl]
      simp only [bc_t (v7le ps), bc_t l1, vs7_whole, w1, true_and]
      refine .inr ⟨_, _, ⟨a1⟩, ?_⟩
      simp only [bc_t l2, w2, true_and]
      refine .inr ⟨_, _, ⟨a2⟩, ?_⟩
      simp only [bc_t l3, w3, true_and]
      cases hg with
      | stop h =>
        rw [decide_eq_true h] at a3
        refine .inl ⟨⟨a3⟩, ?_⟩
        subst hrs
        simp [bfOf, hl]
      | out h h2 =>
        rw [decide_eq_false h] at a3
        rw [h2] at a4
        refine .inr ⟨⟨a3⟩, .inr ⟨⟨a4⟩, ?_⟩⟩
        subst hrs
        rfl
      | step h h2 h3 =>
        rw [decide_eq_false h] at a3
        rw [h2] at a4
        refine .inr ⟨⟨a3⟩, .inl ⟨⟨a4⟩, ?_⟩⟩
        exact ⟨(bth b (img ps b), c1), ⟨hc, by rw [bth_length]; exact hl, h2, r, h3, hrs⟩, slack_lt hl (img_length ps b) h2 h, rfl⟩
end Go.Proofs.G5b

/- Chapter 5: the box after a tick by the definition, in data. -/
namespace Go.Proofs.G5b
open Go Go.Abs Go.Proofs Go.Proofs.G5
set_option maxRecDepth 100000
abbrev imS (ps : List Sv) (b : Bxs) (c1 c2 : Nat) : Nat → Slots × Blocks
  | 0 => zIm1 b.length c2 0 (vp b) ps.length c1 (vs7 ps)
  | i + 1 => zIm2 b.length c2 (i + 1) (i + 1) (i + 1) (i + 1) ((i + 1 : Nat) : Int) (vp b) ps.length c1 (vg (los b) (i + 1)) (vg (his b) (i + 1)) (vg (dls ps) (i + 1)) (vg (dhs ps) (i + 1)) (vs7 ps)
abbrev imT (ps : List Sv) (b : Bxs) (c2 : Nat) : Nat → Slots × Blocks
  | 0 => zIm8 b.length c2 ps.length ps.length 0 (vp b) (vi (aft ps (los b) (dls ps))) (vi (aft ps (his b) (dhs ps)))
  | i + 1 => zIm10 b.length c2 ps.length ps.length (i + 1) ((i + 1 : Nat) : Int) (vp b) (vi (aft ps (los b) (dls ps))) (vi (aft ps (his b) (dhs ps))) (vp ((List.range (i + 1)).map (boF (aft ps (los b) (dls ps)) (aft ps (his b) (dhs ps)))))
theorem addr_add3 (b o : Nat) : Addr.add ⟨b, o, none⟩ 3 = ⟨b, o + 3, none⟩ := rfl
theorem conIm {ps : List Sv} {b : Bxs} (hv : ∀ p ∈ ps, LpV p) (hl : b.length = ps.length) (h1 : ∀ h ∈ los b, hgt h) (h2 : ∀ h ∈ his b, hgt h) (h0 : 0 < ps.length) (hn : ps.length ≤ 1000) :
    C5 50 [.agg [.sl ps.length 7 (vs7 ps)], .sl b.length 2 (vp b)] [.sl ps.length 2 (vp (img ps b))] := by
  let inv0 : Nat × Nat × Nat → Prop := fun y => y.1 ≤ b.length
  let st0 : Nat × Nat × Nat → Slots × Blocks := fun y => imS ps b y.2.1 y.2.2 y.1
  let inv2 : Nat × Nat → Prop := fun y => y.1 ≤ b.length
  let st2 : Nat × Nat → Slots × Blocks := fun y => imT ps b y.2 y.1
  refine con_of (L := fun id s b => match id with | 0 => ∃ x, inv0 x ∧ st0 x = (s, b) | _ => ∃ x, inv2 x ∧ st2 x = (s, b)) hokK mixed Try.func50 rfl (by show 2 ≤ 400; omega) rfl (ids := [0, 2]) (by kernel_rfl) rfl (fun caps => ?_) (fun id hid => ?_)
  · show gIm _ _ ps.length (caps 500) (vs7 ps) b.length (caps 501) (vp b) _
    rw [gIm_text]
    exact ⟨(0, caps 500, caps 501), Nat.zero_le _, rfl⟩
  · have hid' : id = 0 ∨ id = 2 := by simpa using hid
    rcases hid' with rfl | rfl
    · refine ⟨_, st0, inv0, fun y => b.length - y.1, ⟨fun s b h => h, by kernel_rfl, ?_⟩⟩
      rintro ⟨i, c1, c2⟩ hi
      have hi : i ≤ b.length := hi
      have wi : i < b.length → IntKind.wrap .i64 ((i : Int) + 1) = ((i + 1 : Nat) : Int) := fun h => by rw [w64 (by omega) (by omega)]; rfl
      have hlb : i < b.length → ((i : Int) < (b.length : Int) ∧ (i : Int) < (ps.length : Int)) := fun h => ⟨by omega, by omega⟩
      cases i with
      | zero =>
        show rIm1 _ _ b.length c2 ((0 : Nat) : Int) (vp b) ps.length c1 (vs7 ps) _ _ _
        rw [rIm1_text]
        have hb0 : 0 < b.length := by omega
        have e3 : At (vs7 ps) (0 + 0 * 7 + 3) 1 [vI ps[0].d] := vs7_one ps 0 h0 3 _ rfl
        have e4 : At (vs7 ps) (0 + 0 * 7 + 3 + 1) 1 [vI ps[0].e] := vs7_one ps 0 h0 4 _ rfl
        have e5 : At (vp b) (0 + 0 * 2 + 1) 1 [vI b[0].2] := vp_snd b 0 hb0
        simp only [bc_t (hlb hb0).1, bc_t (hlb hb0).2, bc_t (show (0 : Int) ≤ ((0 : Nat) : Int) by omega), Int.toNat_natCast, addr_add3, at1 (vp_one b 0 hb0), at1 e3, at1 e4, at1 e5, wi hb0, eq_self, true_and, and_true]
        refine ⟨(1, c1, c2), hb0, by show b.length - 1 < b.length - 0; omega, ?_⟩
        rw [← los_at hb0, ← his_at hb0, ← dls_at h0, ← dhs_at h0]
        rfl
      | succ i =>
        show rIm2 _ _ b.length c2 (i + 1) (i + 1) (i + 1) (i + 1) ((i + 1 : Nat) : Int) (vp b) ps.length c1 (vg (los b) (i + 1)) (vg (his b) (i + 1)) (vg (dls ps) (i + 1)) (vg (dhs ps) (i + 1)) (vs7 ps) _ _ _
        rw [rIm2_text]
        refine bc_dec (fun h => ?_) (fun h => ?_)
        · have hb1 : i + 1 < b.length := by omega
          have hp1 : i + 1 < ps.length := by omega
          have e3 : At (vs7 ps) (0 + (i + 1) * 7 + 3) 1 [vI ps[i + 1].d] := vs7_one ps (i + 1) hp1 3 _ rfl
          have e4 : At (vs7 ps) (0 + (i + 1) * 7 + 3 + 1) 1 [vI ps[i + 1].e] := vs7_one ps (i + 1) hp1 4 _ rfl
          have e5 : At (vp b) (0 + (i + 1) * 2 + 1) 1 [vI b[i + 1].2] := vp_snd b (i + 1) hb1
          have q1 : ∀ l : List Int, 0 + (i + 1) * 1 ≤ (vg l (i + 1)).length := fun l => by simp
          have q2 : ∀ l : List Int, 0 + (i + 1) * 1 = (vg l (i + 1)).length := fun l => by simp
          simp only [bc_t (hlb hb1).1, bc_t (hlb hb1).2, bc_t (show (0 : Int) ≤ ((i + 1 : Nat) : Int) by omega), Int.toNat_natCast, addr_add3, at1 (vp_one b (i + 1) hb1), at1 e3, at1 e4, at1 e5, wi hb1, rg_take, bc_t (show i + 1 < i + 1 + 1 by omega), bc_t (show (2 * (i + 1 + 1) + 768) * 8 ≤ 281474976710656 by omega), bc_t (show i + 1 + 1 ≤ 1099511627776 by omega), bc_t (q1 (los b)), bc_t (q1 (his b)), bc_t (q1 (dls ps)), bc_t (q1 (dhs ps)), bc_t (q2 (los b)), bc_t (q2 (his b)), bc_t (q2 (dls ps)), bc_t (q2 (dhs ps)), eq_self, true_and, and_true]
          refine ⟨(i + 2, c1, c2), hb1, by show b.length - (i + 2) < b.length - (i + 1); omega, ?_⟩
          rw [← los_at hb1, ← his_at hb1, ← dls_at hp1, ← dhs_at hp1]
          have g : ∀ l : List Int, vi ((List.range (i + 1)).map (gt l)) ++ [vI (l.getD (i + 1) 0)] = vg l (i + 2) := fun l => rg_snoc (gt l) (i + 1)
          rw [g, g, g, g]
        · show (if 0 = 0 then _ else _)
          rw [if_pos rfl]
          show nIm4 _ _ b.length c2 (i + 1) (i + 1) (i + 1) (i + 1) (vp b) ps.length c1 (vg (los b) (i + 1)) (vg (his b) (i + 1)) (vg (dls ps) (i + 1)) (vg (dhs ps) (i + 1)) (vs7 ps) _
          rw [nIm4_text]
          have hib : i + 1 = b.length := by omega
          have g1 : vg (los b) (i + 1) = vi (los b) := by rw [hib, ← los_length b, vg, gt_all]
          have g2 : vg (dls ps) (i + 1) = vi (dls ps) := by rw [hib, hl, ← dls_length ps, vg, gt_all]
          have g3 : vg (his b) (i + 1) = vi (his b) := by rw [hib, ← his_length b, vg, gt_all]
          have g4 : vg (dhs ps) (i + 1) = vi (dhs ps) := by rw [hib, hl, ← dhs_length ps, vg, gt_all]
          rw [g1, g2, g3, g4]
          have d1 : ∀ h ∈ dls ps, hgt h := by
            intro h hh; obtain ⟨p, hp, rfl⟩ := List.mem_map.1 hh; exact (hv p hp).d
          have d2 : ∀ h ∈ dhs ps, hgt h := by
            intro h hh; obtain ⟨p, hp, rfl⟩ := List.mem_map.1 hh; exact (hv p hp).e
          have a1 := conRAf hv h1 d1 h0 (by simp [hl]) (by simp) hn
          have a2 := conRAf hv h2 d2 h0 (by simp [hl]) (by simp) hn
          have hip : i + 1 = ps.length := by omega
          simp only [los_length, his_length, dls_length, dhs_length, hl] at a1 a2
          rw [hip]
          have w1 : List.take (ps.length * 1) (List.drop 0 (vi (los b))) = vi (los b) := by rw [List.drop_zero, List.take_of_length_le (by simp [hl])]
          have w2 : List.take (ps.length * 1) (List.drop 0 (vi (dls ps))) = vi (dls ps) := by rw [List.drop_zero, List.take_of_length_le (by simp)]
          have w3 : List.take (ps.length * 1) (List.drop 0 (vi (his b))) = vi (his b) := by rw [List.drop_zero, List.take_of_length_le (by simp [hl])]
          have w4 : List.take (ps.length * 1) (List.drop 0 (vi (dhs ps))) = vi (dhs ps) := by rw [List.drop_zero, List.take_of_length_le (by simp)]
          have l1 : ∀ x : List Int, x.length = ps.length → 0 + ps.length * 1 ≤ (vi x).length := fun x hx => by rw [vi_length, hx]; omega
          simp only [vs7_whole, bc_t (v7le ps), bc_t (l1 (los b) (by simp [hl])), bc_t (l1 (his b) (by simp [hl])), bc_t (l1 (dls ps) (by simp)), bc_t (l1 (dhs ps) (by simp)), w1, w2, w3, w4, true_and]
          exact .inr ⟨_, _, ⟨a1⟩, .inr ⟨_, _, ⟨a2⟩, ⟨(0, c2), Nat.zero_le _, rfl⟩⟩⟩
    · refine ⟨_, st2, inv2, fun y => b.length - y.1, ⟨fun s b h => h, by kernel_rfl, ?_⟩⟩
      rintro ⟨i, c2⟩ hi
      have hi : i ≤ b.length := hi
      have wi : i < b.length → IntKind.wrap .i64 ((i : Int) + 1) = ((i + 1 : Nat) : Int) := fun h => by rw [w64 (by omega) (by omega)]; rfl
      have hlb : i < b.length → ((i : Int) < (b.length : Int) ∧ (i : Int) < (ps.length : Int)) := fun h => ⟨by omega, by omega⟩
      have la := aft_length ps (los b) (dls ps)
      have lb := aft_length ps (his b) (dhs ps)
      cases i with
      | zero =>
        show rIm8 _ _ b.length c2 ps.length ps.length ((0 : Nat) : Int) (vp b) (vi (aft ps (los b) (dls ps))) (vi (aft ps (his b) (dhs ps))) _ _ _
        rw [rIm8_text]
        have hb0 : 0 < b.length := by omega
        simp only [bc_t (hlb hb0).1, bc_t (hlb hb0).2, bc_t (show (0 : Int) ≤ ((0 : Nat) : Int) by omega), Int.toNat_natCast, at1 (vi_at (aft ps (los b) (dls ps)) 0 (by omega)), at1 (vi_at (aft ps (his b) (dhs ps)) 0 (by omega)), wi hb0, eq_self, true_and, and_true]
        refine ⟨(1, c2), hb0, by show b.length - 1 < b.length - 0; omega, ?_⟩
        rw [← gd_at (d := 0) (show 0 < (aft ps (los b) (dls ps)).length by omega), ← gd_at (d := 0) (show 0 < (aft ps (his b) (dhs ps)).length by omega)]
        rfl
      | succ i =>
        show rIm10 _ _ b.length c2 ps.length ps.length (i + 1) ((i + 1 : Nat) : Int) (vp b) (vi (aft ps (los b) (dls ps))) (vi (aft ps (his b) (dhs ps))) (vp ((List.range (i + 1)).map (boF (aft ps (los b) (dls ps)) (aft ps (his b) (dhs ps))))) _ _ _
        rw [rIm10_text]
        refine bc_dec (fun h => ?_) (fun h => ?_)
        · have hb1 : i + 1 < b.length := by omega
          simp only [bc_t (hlb hb1).1, bc_t (hlb hb1).2, bc_t (show (0 : Int) ≤ ((i + 1 : Nat) : Int) by omega), Int.toNat_natCast, at1 (vi_at (aft ps (los b) (dls ps)) (i + 1) (by omega)), at1 (vi_at (aft ps (his b) (dhs ps)) (i + 1) (by omega)), wi hb1, rp_take, eq_self, true_and, and_true]
          refine bc_yes (by omega) (bc_yes (by omega) (bc_yes (by omega) (bc_yes (by simp) (bc_yes (by simp) ⟨(i + 2, c2), hb1, by show b.length - (i + 2) < b.length - (i + 1); omega, ?_⟩))))
          have e := rp_snoc (boF (aft ps (los b) (dls ps)) (aft ps (his b) (dhs ps))) (i + 1)
          rw [← gd_at (d := 0) (show i + 1 < (aft ps (los b) (dls ps)).length by omega), ← gd_at (d := 0) (show i + 1 < (aft ps (his b) (dhs ps)).length by omega)]
          show (_, [(501, AObj.sym (vp b) false 2), (1000, AObj.sym (vi (aft ps (los b) (dls ps))) true 1), (1001, AObj.sym (vi (aft ps (his b) (dhs ps))) true 1), (1002, AObj.sym (vp ((List.range (i + 1 + 1)).map (boF (aft ps (los b) (dls ps)) (aft ps (his b) (dhs ps))))) true 2)]) = _
          rw [← e]
        · show (if 2 = 2 then _ else _)
          rw [if_pos rfl]
          show nIm11 _ _ (i + 1) (vp ((List.range (i + 1)).map (boF (aft ps (los b) (dls ps)) (aft ps (his b) (dhs ps))))) _
          rw [nIm11_text]
          refine ⟨⟨rfl, by simp⟩, ?_⟩
          have : i + 1 = ps.length := by omega
          show _ = _
          rw [img, bxOf, la, ← this]
end Go.Proofs.G5b

/- Chapter 5: the smallest box that is kept: it is kept, contains what it grew from, and lies in every other one. -/
namespace Go.Abs
abbrev p0 : Int × Int := (0, 0)
theorem losD (b : Bxs) (i : Nat) : (los b).getD i 0 = (b.getD i p0).1 := by
  simp only [los, List.getD, List.getElem?_map]
  cases b[i]? <;> rfl
theorem hisD (b : Bxs) (i : Nat) : (his b).getD i 0 = (b.getD i p0).2 := by
  simp only [his, List.getD, List.getElem?_map]
  cases b[i]? <;> rfl
theorem dlsD (ps : List Sv) (i : Nat) : (dls ps).getD i 0 = (ps.getD i sv0).d := by
  simp only [dls, List.getD, List.getElem?_map]
  cases ps[i]? <;> rfl
theorem dhsD (ps : List Sv) (i : Nat) : (dhs ps).getD i 0 = (ps.getD i sv0).e := by
  simp only [dhs, List.getD, List.getElem?_map]
  cases ps[i]? <;> rfl
theorem aft_at {ps : List Sv} {hs ds : List Int} {i : Nat} (h : i < ps.length) : (aft ps hs ds).getD i 0 = aftV ps hs ds i := rg_getI h
theorem img_at {ps : List Sv} {b : Bxs} {i : Nat} (h : i < ps.length) : (img ps b).getD i p0 = (aftV ps (los b) (dls ps) i, aftV ps (his b) (dhs ps) i) := by
  unfold img bxOf
  rw [rg_get (by rw [aft_length]; exact h), aft_at h, aft_at h]
theorem bth_at {b c : Bxs} {i : Nat} (h : i < b.length) : (bth b c).getD i p0 = (mnI (b.getD i p0).1 (c.getD i p0).1, mxI (b.getD i p0).2 (c.getD i p0).2) := by
  unfold bth
  rw [rg_get h]
theorem bxOf_at {a c : List Int} {i : Nat} (h : i < a.length) : (bxOf a c).getD i p0 = (a.getD i 0, c.getD i 0) := by
  unfold bxOf
  rw [rg_get h]
theorem aftV_mono {ps : List Sv} {hs ds hs' ds' : List Int} {i : Nat} (hv : ∀ p ∈ ps, LpV p) (hi : i < ps.length) (h1 : ∀ j, j < ps.length → hs.getD j 0 ≤ hs'.getD j 0) (h2 : ds.getD i 0 ≤ ds'.getD i 0) : aftV ps hs ds i ≤ aftV ps hs' ds' i := by
  simp only [aftV, cA, if_neg (show ¬ i = ps.length by omega)]
  have a1 := corr_step (hv _ (gd_mem (d := sv0) hi)) (h1 i hi)
  by_cases he : i + 1 = ps.length
  · simp only [if_pos he]; omega
  · simp only [if_neg he]
    have a2 := corr_mono (hv _ (gd_mem (d := sv0) (show i + 1 < ps.length by omega))) (h1 (i + 1) (by omega))
    omega
def lim1 (ps : List Sv) (b : Bxs) (i : Nat) : Prop := ((ps.getD i sv0).f ≤ (b.getD i p0).1 ∧ (b.getD i p0).1 ≤ (ps.getD i sv0).g) ∧ ((ps.getD i sv0).f ≤ (b.getD i p0).2 ∧ (b.getD i p0).2 ≤ (ps.getD i sv0).g)
theorem ilB_iff : ∀ {ps : List Sv} {b : Bxs}, b.length = ps.length → (ilB ps b = true ↔ ∀ i, i < ps.length → lim1 ps b i)
  | [], [], _ => by simp [ilB]
  | p :: ps, r :: rs, h1 => by
    simp only [List.length_cons, Nat.add_right_cancel_iff] at h1
    have ih := ilB_iff h1
    unfold ilB
    constructor
    · intro h i hi
      split at h
      · rename_i hc
        cases i with
        | zero => exact hc
        | succ i => exact ih.1 h i (by simpa using hi)
      · cases h
    · intro h
      have h0 := h 0 (by simp)
      rw [if_pos (show (p.f ≤ r.1 ∧ r.1 ≤ p.g) ∧ (p.f ≤ r.2 ∧ r.2 ≤ p.g) from h0)]
      exact ih.2 (fun i hi => h (i + 1) (by simpa using hi))
  | [], _ :: _, h1 => by simp at h1
  | _ :: _, [], h1 => by simp at h1
/-- lower ends do not lie above upper ones -/
def ordB (ps : List Sv) (b : Bxs) : Prop := ∀ i, i < ps.length → (b.getD i p0).1 ≤ (b.getD i p0).2
/-- a box lies in another one -/
def subB (ps : List Sv) (b c : Bxs) : Prop := ∀ i, i < ps.length → (c.getD i p0).1 ≤ (b.getD i p0).1 ∧ (b.getD i p0).2 ≤ (c.getD i p0).2
theorem img_ord {ps : List Sv} {b : Bxs} (hv : ∀ p ∈ ps, LpV p) (h : ordB ps b) : ordB ps (img ps b) := by
  intro i hi
  rw [img_at hi]
  refine aftV_mono hv hi (fun j hj => by rw [losD, hisD]; exact h j hj) ?_
  rw [dlsD, dhsD]
  exact (hv _ (gd_mem (d := sv0) hi)).de
theorem grow_facts {ps : List Sv} {b : Bxs} {r : Option Bxs} (hg : Grow ps b r) (hl : b.length = ps.length) (hil : ilB ps b = true) (ho : ordB ps b) :
    ∀ b', r = some b' → b'.length = ps.length ∧ ilB ps b' = true ∧ ordB ps b' ∧ subB ps b b' ∧ bth b' (img ps b') = b' := by
  induction hg with
  | stop h =>
    intro b' e
    cases e
    exact ⟨hl, hil, ho, fun i _ => ⟨by omega, by omega⟩, h⟩
  | out _ _ => intro b' e; cases e
  | @step b r h h2 h3 ih =>
    intro b' e
    have hl2 : (bth b (img ps b)).length = ps.length := by rw [bth_length]; exact hl
    have hat : ∀ i, i < ps.length → (bth b (img ps b)).getD i p0 = (mnI (b.getD i p0).1 ((img ps b).getD i p0).1, mxI (b.getD i p0).2 ((img ps b).getD i p0).2) := fun i hi => bth_at (by omega)
    have ho2 : ordB ps (bth b (img ps b)) := by
      intro i hi
      rw [hat i hi]
      have := ho i hi
      have a1 := mnI_le (b.getD i p0).1 ((img ps b).getD i p0).1
      have a2 := mxI_le (b.getD i p0).2 ((img ps b).getD i p0).2
      show mnI _ _ ≤ mxI _ _
      omega
    obtain ⟨q1, q2, q3, q4, q5⟩ := ih hl2 h2 ho2 b' e
    refine ⟨q1, q2, q3, fun i hi => ?_, q5⟩
    have := q4 i hi
    rw [hat i hi] at this
    have a1 := mnI_le (b.getD i p0).1 ((img ps b).getD i p0).1
    have a2 := mxI_le (b.getD i p0).2 ((img ps b).getD i p0).2
    simp only at this
    omega
end Go.Abs

/- Chapter 5: which boxes are accepted by the definition, in data. -/
namespace Go.Proofs.G5b
open Go Go.Abs Go.Proofs Go.Proofs.G5
set_option maxRecDepth 100000
theorem conRC {ps : List Sv} (b : Bxs) (hc : (chE ps).2 = 0) : C5 22 [.agg [.sl ps.length 7 (vs7 ps)], .sl b.length 2 (vp b)] (cbD ps b) := by
  have hok := chE_ok hc
  let inv0 : Nat × Nat × Nat → Prop := fun x => x.1 ≤ b.length ∧ b.length = ps.length ∧ cbGo 0 ps b = cbGo x.1 (ps.drop x.1) (b.drop x.1)
  let st0 : Nat × Nat × Nat → Slots × Blocks := fun x => (sRC b.length x.2.2 x.1, [T501 (vp b), oCh 1000 ps.length x.2.1, L500 (vs7 ps)])
  let inv2 : Nat × Nat × Nat → Prop := fun x => x.1 ≤ b.length ∧ b.length = ps.length ∧ (cbGo 0 ps b).2 = 0 ∧ pfGo 0 b (img ps b) = pfGo x.1 (b.drop x.1) ((img ps b).drop x.1)
  let st2 : Nat × Nat × Nat → Slots × Blocks := fun x => (sRC2 b.length x.2.2 ps.length x.1, [T501 (vp b), W1000 (vp (img ps b))])
  refine con_of (L := fun id s b => match id with | 0 => ∃ x, inv0 x ∧ st0 x = (s, b) | _ => ∃ x, inv2 x ∧ st2 x = (s, b)) hokK mixed Try.func22 rfl (by show 2 ≤ 400; omega) rfl (ids := [0, 2]) (by kernel_rfl) rfl (fun caps => ?_) (fun id hid => ?_)
  · show gRC _ _ ps.length (caps 500) (vs7 ps) b.length (caps 501) (vp b) _
    rw [gRC_text]
    refine bc_bne (fun h => ?_) (fun h => ?_)
    · show _ = _
      rw [cbD, cbP, if_neg (fun x => x hc), if_pos (by omega)]
    · exact ⟨(0, caps 500, caps 501), ⟨Nat.zero_le _, by omega, rfl⟩, rfl⟩
  · have hid' : id = 0 ∨ id = 2 := by simpa using hid
    rcases hid' with rfl | rfl
    · refine ⟨_, st0, inv0, fun x => b.length - x.1, ⟨fun s b h => h, by kernel_rfl, ?_⟩⟩
      rintro ⟨i, c1, c2⟩ ⟨hi, hl, hr⟩
      simp only at hi hr
      show rRC _ _ ps.length c1 (vs7 ps) b.length c2 (vp b) (i : Int) _ _ _
      rw [rRC_text]
      have fin : (cbGo 0 ps b).2 ≠ 0 → cbD ps b = [dI (cbGo 0 ps b).1, dI (cbGo 0 ps b).2] := fun h2 => by
        rw [cbD, cbP, if_neg (fun x => x hc), if_neg (by omega), if_pos h2]
      refine bc_dec (fun h => ?_) (fun h => ?_)
      · have h1 : i < ps.length := by omega
        have h2 : i < b.length := by omega
        rw [cbGo_at h1 h2] at hr
        simp only [bc_t h, bc_t (show (i : Int) < (ps.length : Int) by omega), bc_t (show (0 : Int) ≤ (i : Int) by omega), Int.toNat_natCast, at2 (vs7_fg ps i h1 500), at1 (vp_one b i h2), at1 (vp_sndA b i h2 501), eq_self, true_and, and_true]
        by_cases h9 : b[i].1 > b[i].2
        · rw [if_pos h9] at hr
          simp only [bc_t h9, true_and]
          show _ = _
          rw [fin (by rw [hr]; simp), hr]
        · rw [if_neg h9] at hr
          simp only [bc_f h9, true_and]
          by_cases q1 : ps[i].f ≤ b[i].1 ∧ b[i].1 ≤ ps[i].g
          · refine .inl ⟨sayWt q1, ?_⟩
            by_cases q2 : ps[i].f ≤ b[i].2 ∧ b[i].2 ≤ ps[i].g
            · rw [if_pos ⟨q1, q2⟩] at hr
              refine .inl ⟨sayWt q2, ?_⟩
              refine ⟨(i + 1, c1, c2), ⟨h2, hl, hr⟩, by show b.length - (i + 1) < b.length - i; omega, ?_⟩
              rw [w64 (by omega) (by omega)]; rfl
            · rw [if_neg (fun x => q2 x.2)] at hr
              refine .inr ⟨sayWf q2, ?_⟩
              show _ = _
              rw [fin (by rw [hr]; simp), hr]
          · rw [if_neg (fun x => q1 x.1)] at hr
            refine .inr ⟨sayWf q1, ?_⟩
            show _ = _
            rw [fin (by rw [hr]; simp), hr]
      · show (if 0 = 0 then _ else _)
        rw [if_pos rfl]
        show nRC _ _ ps.length c1 (vs7 ps) b.length c2 (vp b) _
        rw [nRC_text]
        rw [cbGo_end (by omega)] at hr
        have hcb := cbGo_ok (i := 0) hl (by rw [hr])
        have hh := ilB_hgt hok.2.2 hl hcb.1
        simp only [bc_t (v7le ps), bc_t (vple b), vs7_whole, vp_whole, eq_self, true_and, and_true]
        exact .inr ⟨_, _, ⟨conIm hok.2.2 hl hh.1 hh.2 hok.1 (by omega)⟩, ⟨(0, c1, c2), ⟨Nat.zero_le _, hl, by rw [hr], rfl⟩, rfl⟩⟩
    · refine ⟨_, st2, inv2, fun x => b.length - x.1, ⟨fun s b h => h, by kernel_rfl, ?_⟩⟩
      rintro ⟨i, c1, c2⟩ ⟨hi, hl, h0, hr⟩
      simp only at hi hr
      show rRC2 _ _ b.length c2 (vp b) ps.length (vp (img ps b)) (i : Int) _ _ _
      rw [rRC2_text]
      refine bc_dec (fun h => ?_) (fun h => ?_)
      · have h1 : i < b.length := by omega
        have h2 : i < (img ps b).length := by rw [img_length]; omega
        have hcb := cbGo_ok (i := 0) hl h0
        have ho : ordB ps b := fun j hj => hcb.2 _ (gd_mem (by omega))
        have o1 := ho i (by omega)
        have o2 := img_ord hok.2.2 ho i (by omega)
        rw [gd_at h1] at o1
        rw [gd_at h2] at o2
        rw [pfGo_at h1 h2] at hr
        simp only [bc_t h, bc_t (show (i : Int) < (b.length : Int) by omega), bc_t (show (i : Int) < (ps.length : Int) by omega), bc_t (show (0 : Int) ≤ (i : Int) by omega), Int.toNat_natCast, at1 (vp_one b i h1), at1 (vp_sndA b i h1 501), at1 (vp_one (img ps b) i h2), at1 (vp_sndA (img ps b) i h2 1000), eq_self, true_and, and_true]
        have fin : pfGo 0 b (img ps b) = ((i : Int), 19) → cbD ps b = [dI (i : Int), dI 19] := fun e => by
          rw [cbD, cbP, if_neg (fun x => x hc), if_neg (by omega), if_neg (fun x => x h0), e]
        by_cases q1 : (img ps b)[i].1 < b[i].1
        · rw [if_pos (.inl q1)] at hr
          simp only [bc_t q1, true_and]
          show _ = _
          rw [fin hr]
        · simp only [bc_f q1, true_and]
          by_cases q2 : (img ps b)[i].2 > b[i].2
          · rw [if_pos (.inr (.inr (.inr q2)))] at hr
            simp only [bc_t q2, true_and]
            show _ = _
            rw [fin hr]
          · simp only [bc_f q2, true_and]
            rw [if_neg (by omega)] at hr
            refine ⟨(i + 1, c1, c2), ⟨h1, hl, h0, hr⟩, by show b.length - (i + 1) < b.length - i; omega, ?_⟩
            rw [w64 (by omega) (by omega)]; rfl
      · show (if 2 = 2 then _ else _)
        rw [if_pos rfl]
        show nRC2 _ _ _
        rw [nRC2_text]
        rw [pfGo_end (by omega)] at hr
        show _ = _
        rw [cbD, cbP, if_neg (fun x => x hc), if_neg (by omega), if_neg (fun x => x h0), hr]
end Go.Proofs.G5b

/- Chapter 5: small functions of the laws on boxes, in data. -/
namespace Go.Proofs.G5b
open Go Go.Abs Go.Proofs Go.Proofs.G5
set_option maxRecDepth 100000
theorem conCR (l : Bxs) (hl : l.length ≤ 1000000) : C5 18 [.sl l.length 2 (vp l)] [.sl l.length 2 (vp l)] := by
  refine con_flat hokE' mixed Try.func18 rfl (by show 1 ≤ 400; omega) rfl (by kernel_rfl) (fun caps => ?_)
  show gCR _ _ l.length (caps 500) (vp l) _
  rw [gCR_text]
  refine bc_yes (by simp) (bc_beq (fun h0 => ⟨⟨rfl, rfl⟩, ?_⟩) (fun h0 => bc_yes (by omega) (bc_yes (by omega) (bc_yes (by omega) ⟨⟨rfl, by simp⟩, ?_⟩))))
  · obtain rfl : l = [] := List.length_eq_zero_iff.1 h0
    rfl
  · rw [vp_whole, Nat.zero_add, List.nil_append]
theorem conCRn : C5 18 [.nil] [.sl 0 2 []] := by
  refine con_flat hokE' mixed Try.func18 rfl (by show 0 ≤ 400; omega) rfl (by kernel_rfl) (fun caps => ?_)
  show gCRn _ _ _
  rw [gCRn_text]
  exact ⟨⟨rfl, rfl⟩, rfl⟩
theorem conCE (l : List Sv) (hl : l.length < 1000000) : C5 21 [.agg [.sl l.length 7 (vs7 l)]] [dI (chE l).2] := by
  refine con_flat hokB mixed Try.func21 rfl (by show 1 ≤ 400; omega) rfl (by kernel_rfl) (fun caps => ?_)
  show gCE _ _ l.length (caps 500) (vs7 l) _
  rw [gCE_text]
  refine bc_yes (by simp) ?_
  rw [vs7_whole]
  exact ⟨_, _, ⟨conR9 l hl⟩, rfl⟩
theorem conCEn : C5 21 [.agg [.nil]] [dI 10] := by
  refine con_flat hokB mixed Try.func21 rfl (by show 0 ≤ 400; omega) rfl (by kernel_rfl) (fun caps => ?_)
  show gCEn _ _ _
  rw [gCEn_text]
  exact ⟨_, _, ⟨conR9n⟩, rfl⟩
end Go.Proofs.G5b
