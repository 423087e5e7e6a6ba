/- What is left to show of each function, written out; the kernel reckons it. -/
import Derived.Test.YthgcicagmdlnmaaGreatP5
namespace Go.Proofs.G5z
open Go Go.Abs Go.Proofs
set_option maxRecDepth 100000
set_option linter.unusedVariables false
abbrev vB (a b : Int) : Value := .agg #[vI a, vI b]
abbrev vC (a b c : Int) : Value := .agg #[vI a, vI b, vI c]
def preS (C : Ct) : FuncId → Option Handler := fun g => if g == 177 then some (stateH (witAll 3 23 33)) else if [12, 78, 145, 82, 87, 147, 93, 28, 26, 24, 18, 90, 89, 20, 19, 17, 16, 22, 13, 14, 15, 21, 23, 29, 81, 25].contains g then some (saidH Tryz.prog C) else none
abbrev hS (C : Ct) : Handler := handlerX Tryz.prog (preS C) 12 6
def gGc (C : Ct) (L : AtLoop) (n d : Int) (k : List D → Prop) : Prop := wpFn Tryz.prog (hS C) L 0 93 #[vI n, vI d] (heapOf []) (dataK k)
theorem gGc_text (C : Ct) (L : AtLoop) (n : Int) (d : Int) (k : List D → Prop) : gGc C L n d k =
 (L 0 [(Prod.mk 0 (Go.Value.int Go.IntKind.i64 (n))), (Prod.mk 1 (Go.Value.int Go.IntKind.i64 (d)))] []) := by kernel_rfl
def gLo (C : Ct) (L : AtLoop) (n d : Int) (k : List D → Prop) : Prop := wpFn Tryz.prog (hS C) L 0 28 #[vI n, vI d] (heapOf []) (dataK k)
theorem gLo_text (C : Ct) (L : AtLoop) (n : Int) (d : Int) (k : List D → Prop) : gLo C L n d k =
 (∃ n1 : Int,
 ((Says C 93 [(D.val (Go.Value.int Go.IntKind.i64 (n))), (D.val (Go.Value.int Go.IntKind.i64 (d)))] [(D.val (Go.Value.int Go.IntKind.i64 (n1)))]) ∧
 (bcase (decide (d < 0))
 (bcase (Go.IntKind.wrap Go.IntKind.i64 (0 - n1) != 0)
 (bcase (Go.IntKind.wrap Go.IntKind.i64 (0 - n1) != 0)
 ((((Go.Value.agg [(Go.Value.int Go.IntKind.i64 (Go.IntKind.wrap Go.IntKind.i64 (Int.tdiv n (Go.IntKind.wrap Go.IntKind.i64 (0 - n1))))), (Go.Value.int Go.IntKind.i64 (Go.IntKind.wrap Go.IntKind.i64 (Int.tdiv d (Go.IntKind.wrap Go.IntKind.i64 (0 - n1)))))].toArray) = (Go.Value.agg [(Go.Value.int Go.IntKind.i64 (Go.IntKind.wrap Go.IntKind.i64 (Int.tdiv n (Go.IntKind.wrap Go.IntKind.i64 (0 - n1))))), (Go.Value.int Go.IntKind.i64 (Go.IntKind.wrap Go.IntKind.i64 (Int.tdiv d (Go.IntKind.wrap Go.IntKind.i64 (0 - n1)))))].toArray)) ∧
 ((bcase (Go.IntKind.wrap Go.IntKind.i64 (0 - n1) != 0)
 ((Go.Value.int Go.IntKind.i64 (Go.IntKind.wrap Go.IntKind.i64 (Int.tdiv d (Go.IntKind.wrap Go.IntKind.i64 (0 - n1))))) = (Go.Value.int Go.IntKind.i64 (Go.IntKind.wrap Go.IntKind.i64 (Int.tdiv d (Go.IntKind.wrap Go.IntKind.i64 (0 - n1))))))
 False) ∧
 (((Go.Value.int Go.IntKind.i64 (Go.IntKind.wrap Go.IntKind.i64 (0 - n1))) = (Go.Value.int Go.IntKind.i64 (Go.IntKind.wrap Go.IntKind.i64 (0 - n1)))) ∧
 (((Go.Value.int Go.IntKind.i64 (d)) = (Go.Value.int Go.IntKind.i64 (d))) ∧
 ((bcase (Go.IntKind.wrap Go.IntKind.i64 (0 - n1) != 0)
 ((Go.Value.int Go.IntKind.i64 (Go.IntKind.wrap Go.IntKind.i64 (Int.tdiv n (Go.IntKind.wrap Go.IntKind.i64 (0 - n1))))) = (Go.Value.int Go.IntKind.i64 (Go.IntKind.wrap Go.IntKind.i64 (Int.tdiv n (Go.IntKind.wrap Go.IntKind.i64 (0 - n1))))))
 False) ∧
 (((Go.Value.int Go.IntKind.i64 (Go.IntKind.wrap Go.IntKind.i64 (0 - n1))) = (Go.Value.int Go.IntKind.i64 (Go.IntKind.wrap Go.IntKind.i64 (0 - n1)))) ∧
 (((Go.Value.int Go.IntKind.i64 (n)) = (Go.Value.int Go.IntKind.i64 (n))) ∧
 True))))))) ∧
 (True ∧
 (k [(D.agg [(D.val (Go.Value.int Go.IntKind.i64 (Go.IntKind.wrap Go.IntKind.i64 (Int.tdiv n (Go.IntKind.wrap Go.IntKind.i64 (0 - n1)))))), (D.val (Go.Value.int Go.IntKind.i64 (Go.IntKind.wrap Go.IntKind.i64 (Int.tdiv d (Go.IntKind.wrap Go.IntKind.i64 (0 - n1))))))])])))
 False)
 False)
 (bcase (n1 != 0)
 (bcase (n1 != 0)
 ((((Go.Value.agg [(Go.Value.int Go.IntKind.i64 (Go.IntKind.wrap Go.IntKind.i64 (Int.tdiv n n1))), (Go.Value.int Go.IntKind.i64 (Go.IntKind.wrap Go.IntKind.i64 (Int.tdiv d n1)))].toArray) = (Go.Value.agg [(Go.Value.int Go.IntKind.i64 (Go.IntKind.wrap Go.IntKind.i64 (Int.tdiv n n1))), (Go.Value.int Go.IntKind.i64 (Go.IntKind.wrap Go.IntKind.i64 (Int.tdiv d n1)))].toArray)) ∧
 ((bcase (n1 != 0)
 ((Go.Value.int Go.IntKind.i64 (Go.IntKind.wrap Go.IntKind.i64 (Int.tdiv d n1))) = (Go.Value.int Go.IntKind.i64 (Go.IntKind.wrap Go.IntKind.i64 (Int.tdiv d n1))))
 False) ∧
 (((Go.Value.int Go.IntKind.i64 (n1)) = (Go.Value.int Go.IntKind.i64 (n1))) ∧
 (((Go.Value.int Go.IntKind.i64 (d)) = (Go.Value.int Go.IntKind.i64 (d))) ∧
 ((bcase (n1 != 0)
 ((Go.Value.int Go.IntKind.i64 (Go.IntKind.wrap Go.IntKind.i64 (Int.tdiv n n1))) = (Go.Value.int Go.IntKind.i64 (Go.IntKind.wrap Go.IntKind.i64 (Int.tdiv n n1))))
 False) ∧
 (((Go.Value.int Go.IntKind.i64 (n1)) = (Go.Value.int Go.IntKind.i64 (n1))) ∧
 (((Go.Value.int Go.IntKind.i64 (n)) = (Go.Value.int Go.IntKind.i64 (n))) ∧
 True))))))) ∧
 (True ∧
 (k [(D.agg [(D.val (Go.Value.int Go.IntKind.i64 (Go.IntKind.wrap Go.IntKind.i64 (Int.tdiv n n1)))), (D.val (Go.Value.int Go.IntKind.i64 (Go.IntKind.wrap Go.IntKind.i64 (Int.tdiv d n1))))])])))
 False)
 False)))) := by kernel_rfl
def gEx (C : Ct) (L : AtLoop) (m q g e : Int) (k : List D → Prop) : Prop := wpFn Tryz.prog (hS C) L 0 82 #[vI m, vI q, vB g e] (heapOf []) (dataK k)
theorem gEx_text (C : Ct) (L : AtLoop) (m : Int) (q : Int) (g : Int) (e : Int) (k : List D → Prop) : gEx C L m q g e k =
 (∃ n1 : Int,
 (∃ n2 : Int,
 ((Says C 145 [(D.val (Go.Value.int Go.IntKind.i64 (Go.IntKind.wrap Go.IntKind.i64 (Go.IntKind.wrap Go.IntKind.i64 (m * g) + Go.IntKind.wrap Go.IntKind.i64 (q * e))))), (D.val (Go.Value.int Go.IntKind.i64 (Go.IntKind.wrap Go.IntKind.i64 (m + q))))] [(D.agg [(D.val (Go.Value.int Go.IntKind.i64 (n1))), (D.val (Go.Value.int Go.IntKind.i64 (n2)))])]) ∧
 (k [(D.agg [(D.val (Go.Value.int Go.IntKind.i64 (n1))), (D.val (Go.Value.int Go.IntKind.i64 (n2)))])])))) := by kernel_rfl
def gGa (C : Ct) (L : AtLoop) (m q e x : Int) (k : List D → Prop) : Prop := wpFn Tryz.prog (hS C) L 0 87 #[vI m, vI q, vI e, vI x] (heapOf []) (dataK k)
theorem gGa_text (C : Ct) (L : AtLoop) (m : Int) (q : Int) (e : Int) (x : Int) (k : List D → Prop) : gGa C L m q e x k =
 (∃ n1 : Int,
 (∃ n2 : Int,
 ((Says C 145 [(D.val (Go.Value.int Go.IntKind.i64 (Go.IntKind.wrap Go.IntKind.i64 (Go.IntKind.wrap Go.IntKind.i64 (x * m) - Go.IntKind.wrap Go.IntKind.i64 (q * Go.IntKind.wrap Go.IntKind.i64 (e - x)))))), (D.val (Go.Value.int Go.IntKind.i64 (m)))] [(D.agg [(D.val (Go.Value.int Go.IntKind.i64 (n1))), (D.val (Go.Value.int Go.IntKind.i64 (n2)))])]) ∧
 (k [(D.agg [(D.val (Go.Value.int Go.IntKind.i64 (n1))), (D.val (Go.Value.int Go.IntKind.i64 (n2)))])])))) := by kernel_rfl
def gRX (C : Ct) (L : AtLoop) (m q g e : Int) (k : List D → Prop) : Prop := wpFn Tryz.prog (hS C) L 0 18 #[vI m, vI q, vB g e] (heapOf []) (dataK k)
theorem gRX_text (C : Ct) (L : AtLoop) (m : Int) (q : Int) (g : Int) (e : Int) (k : List D → Prop) : gRX C L m q g e k =
 (∃ n1 : Int,
 (∃ n2 : Int,
 ((Says C 28 [(D.val (Go.Value.int Go.IntKind.i64 (Go.IntKind.wrap Go.IntKind.i64 (Go.IntKind.wrap Go.IntKind.i64 (m * g) + Go.IntKind.wrap Go.IntKind.i64 (q * e))))), (D.val (Go.Value.int Go.IntKind.i64 (Go.IntKind.wrap Go.IntKind.i64 (m + q))))] [(D.agg [(D.val (Go.Value.int Go.IntKind.i64 (n1))), (D.val (Go.Value.int Go.IntKind.i64 (n2)))])]) ∧
 (k [(D.agg [(D.val (Go.Value.int Go.IntKind.i64 (n1))), (D.val (Go.Value.int Go.IntKind.i64 (n2)))])])))) := by kernel_rfl
def gRG (C : Ct) (L : AtLoop) (m q e x : Int) (k : List D → Prop) : Prop := wpFn Tryz.prog (hS C) L 0 90 #[vI m, vI q, vI e, vI x] (heapOf []) (dataK k)
theorem gRG_text (C : Ct) (L : AtLoop) (m : Int) (q : Int) (e : Int) (x : Int) (k : List D → Prop) : gRG C L m q e x k =
 (∃ n1 : Int,
 (∃ n2 : Int,
 ((Says C 28 [(D.val (Go.Value.int Go.IntKind.i64 (Go.IntKind.wrap Go.IntKind.i64 (Go.IntKind.wrap Go.IntKind.i64 (x * m) - Go.IntKind.wrap Go.IntKind.i64 (q * Go.IntKind.wrap Go.IntKind.i64 (e - x)))))), (D.val (Go.Value.int Go.IntKind.i64 (m)))] [(D.agg [(D.val (Go.Value.int Go.IntKind.i64 (n1))), (D.val (Go.Value.int Go.IntKind.i64 (n2)))])]) ∧
 (k [(D.agg [(D.val (Go.Value.int Go.IntKind.i64 (n1))), (D.val (Go.Value.int Go.IntKind.i64 (n2)))])])))) := by kernel_rfl
def gIL (C : Ct) (L : AtLoop) (a b c d : Int) (k : List D → Prop) : Prop := wpFn Tryz.prog (hS C) L 0 147 #[vB a b, vB c d] (heapOf []) (dataK k)
theorem gIL_text (C : Ct) (L : AtLoop) (a : Int) (b : Int) (c : Int) (d : Int) (k : List D → Prop) : gIL C L a b c d k =
 (bcase (decide (Go.IntKind.wrap Go.IntKind.i64 (a * d) < Go.IntKind.wrap Go.IntKind.i64 (c * b)))
 (k [(D.val (Go.Value.bool true))])
 (k [(D.val (Go.Value.bool false))])) := by kernel_rfl
def gCp (C : Ct) (L : AtLoop) (a b c d : Int) (k : List D → Prop) : Prop := wpFn Tryz.prog (hS C) L 0 26 #[vB a b, vB c d] (heapOf []) (dataK k)
theorem gCp_text (C : Ct) (L : AtLoop) (a : Int) (b : Int) (c : Int) (d : Int) (k : List D → Prop) : gCp C L a b c d k =
 ((((Go.Value.int Go.IntKind.i64 (Go.IntKind.wrap Go.IntKind.i64 (c * b))) = (Go.Value.int Go.IntKind.i64 (Go.IntKind.wrap Go.IntKind.i64 (c * b)))) ∧
 (((Go.Value.int Go.IntKind.i64 (b)) = (Go.Value.int Go.IntKind.i64 (b))) ∧
 (((Go.Value.pointer (Option.some (Go.Addr.mk 1000 1 Option.none))) = (Go.Value.pointer (Option.some (Go.Addr.mk 1000 1 Option.none)))) ∧
 (((Go.Value.int Go.IntKind.i64 (c)) = (Go.Value.int Go.IntKind.i64 (c))) ∧
 (((Go.Value.pointer (Option.some (Go.Addr.mk 1001 0 Option.none))) = (Go.Value.pointer (Option.some (Go.Addr.mk 1001 0 Option.none)))) ∧
 (((Go.Value.int Go.IntKind.i64 (Go.IntKind.wrap Go.IntKind.i64 (a * d))) = (Go.Value.int Go.IntKind.i64 (Go.IntKind.wrap Go.IntKind.i64 (a * d)))) ∧
 (((Go.Value.int Go.IntKind.i64 (d)) = (Go.Value.int Go.IntKind.i64 (d))) ∧
 (((Go.Value.pointer (Option.some (Go.Addr.mk 1001 1 Option.none))) = (Go.Value.pointer (Option.some (Go.Addr.mk 1001 1 Option.none)))) ∧
 (((Go.Value.int Go.IntKind.i64 (a)) = (Go.Value.int Go.IntKind.i64 (a))) ∧
 (((Go.Value.pointer (Option.some (Go.Addr.mk 1000 0 Option.none))) = (Go.Value.pointer (Option.some (Go.Addr.mk 1000 0 Option.none)))) ∧
 True)))))))))) ∧
 ((((Go.Value.int Go.IntKind.i64 (Go.IntKind.wrap Go.IntKind.i64 (c * b))) = (Go.Value.int Go.IntKind.i64 (Go.IntKind.wrap Go.IntKind.i64 (c * b)))) ∧
 (((Go.Value.int Go.IntKind.i64 (b)) = (Go.Value.int Go.IntKind.i64 (b))) ∧
 (((Go.Value.pointer (Option.some (Go.Addr.mk 1000 1 Option.none))) = (Go.Value.pointer (Option.some (Go.Addr.mk 1000 1 Option.none)))) ∧
 (((Go.Value.int Go.IntKind.i64 (c)) = (Go.Value.int Go.IntKind.i64 (c))) ∧
 (((Go.Value.pointer (Option.some (Go.Addr.mk 1001 0 Option.none))) = (Go.Value.pointer (Option.some (Go.Addr.mk 1001 0 Option.none)))) ∧
 True))))) ∧
 (True ∧
 (bcase (decide (Go.IntKind.wrap Go.IntKind.i64 (a * d) < Go.IntKind.wrap Go.IntKind.i64 (c * b)))
 (k [(D.val (Go.Value.int Go.IntKind.i64 (-(0 + 1) : Int)))])
 (bcase (decide (Go.IntKind.wrap Go.IntKind.i64 (a * d) > Go.IntKind.wrap Go.IntKind.i64 (c * b)))
 (k [(D.val (Go.Value.int Go.IntKind.i64 (1 : Int)))])
 (k [(D.val (Go.Value.int Go.IntKind.i64 (0 : Int)))])))))) := by kernel_rfl
def gHu (C : Ct) (L : AtLoop) (n cap : Nat) (l : List Value) (k : List D → Prop) : Prop := wpFn Tryz.prog (hS C) L 0 89 #[S500 n cap] (heapOf [T500 l]) (dataK k)
theorem gHu_text (C : Ct) (L : AtLoop) (n : Nat) (cap : Nat) (l : List Go.Value) (k : List D → Prop) : gHu C L n cap l k =
 (bcase (decide (0 < (↑n : Int)))
 (∃ n1 : Int,
 (∃ n2 : Int,
 ((At (l) 0 2 [(Go.Value.int Go.IntKind.i64 (n1)), (Go.Value.int Go.IntKind.i64 (n2))]) ∧
 (bcase (decide (0 < (↑n : Int)))
 (∃ n3 : Int,
 (∃ n4 : Int,
 ((At (l) 0 2 [(Go.Value.int Go.IntKind.i64 (n3)), (Go.Value.int Go.IntKind.i64 (n4))]) ∧
 (((((Go.Value.pointer (Option.some (Go.Addr.mk 1001 0 Option.none))) = (Go.Value.pointer (Option.some (Go.Addr.mk 1001 0 Option.none)))) ∧
 ((Option.some (AObj.cells [(Go.Value.int Go.IntKind.i64 (0 : Int)), (Go.Value.int Go.IntKind.i64 (0 : Int)), (Go.Value.int Go.IntKind.i64 (0 : Int)), (Go.Value.int Go.IntKind.i64 (0 : Int))] 37 false 4)) = (Option.some (AObj.cells [(Go.Value.int Go.IntKind.i64 (0 : Int)), (Go.Value.int Go.IntKind.i64 (0 : Int)), (Go.Value.int Go.IntKind.i64 (0 : Int)), (Go.Value.int Go.IntKind.i64 (0 : Int))] 37 false 4)))) ∧
 (((Go.Value.agg [(Go.Value.int Go.IntKind.i64 (n1)), (Go.Value.int Go.IntKind.i64 (n2)), (Go.Value.int Go.IntKind.i64 (n3)), (Go.Value.int Go.IntKind.i64 (n4))].toArray) = (Go.Value.agg [(Go.Value.int Go.IntKind.i64 (n1)), (Go.Value.int Go.IntKind.i64 (n2)), (Go.Value.int Go.IntKind.i64 (n3)), (Go.Value.int Go.IntKind.i64 (n4))].toArray)) ∧
 ((∃ n5 : Int,
 (∃ n6 : Int,
 ((At (l) 0 2 [(Go.Value.int Go.IntKind.i64 (n5)), (Go.Value.int Go.IntKind.i64 (n6))]) ∧
 ((Go.Value.agg [(Go.Value.int Go.IntKind.i64 (n5)), (Go.Value.int Go.IntKind.i64 (n6))].toArray) = (Go.Value.agg [(Go.Value.int Go.IntKind.i64 (n3)), (Go.Value.int Go.IntKind.i64 (n4))].toArray))))) ∧
 ((bcase (decide (0 < (↑n : Int)))
 ((Go.Value.pointer (Option.some (Go.Addr.mk 500 0 Option.none))) = (Go.Value.pointer (Option.some (Go.Addr.mk 500 0 Option.none))))
 False) ∧
 (((Go.Value.slice (Option.some (Go.Addr.mk 500 0 Option.none)) (n) (cap)) = (Go.Value.slice (Option.some (Go.Addr.mk 500 0 Option.none)) (n) (cap))) ∧
 ((∃ n5 : Int,
 (∃ n6 : Int,
 ((At (l) 0 2 [(Go.Value.int Go.IntKind.i64 (n5)), (Go.Value.int Go.IntKind.i64 (n6))]) ∧
 ((Go.Value.agg [(Go.Value.int Go.IntKind.i64 (n5)), (Go.Value.int Go.IntKind.i64 (n6))].toArray) = (Go.Value.agg [(Go.Value.int Go.IntKind.i64 (n1)), (Go.Value.int Go.IntKind.i64 (n2))].toArray))))) ∧
 ((bcase (decide (0 < (↑n : Int)))
 ((Go.Value.pointer (Option.some (Go.Addr.mk 500 0 Option.none))) = (Go.Value.pointer (Option.some (Go.Addr.mk 500 0 Option.none))))
 False) ∧
 (((Go.Value.slice (Option.some (Go.Addr.mk 500 0 Option.none)) (n) (cap)) = (Go.Value.slice (Option.some (Go.Addr.mk 500 0 Option.none)) (n) (cap))) ∧
 True)))))))) ∧
 (True ∧
 (L 0 [(Prod.mk 0 (Go.Value.slice (Option.some (Go.Addr.mk 500 0 Option.none)) (n) (cap))), (Prod.mk 2 (Go.Value.pointer (Option.some (Go.Addr.mk 1000 0 Option.none)))), (Prod.mk 3 (Go.Value.pointer (Option.some (Go.Addr.mk 1001 0 Option.none)))), (Prod.mk 4 (Go.Value.int Go.IntKind.i64 (1 : Int)))] [(Prod.mk 500 (AObj.sym (l) false 2)), (Prod.mk 1000 (AObj.cells [(Go.Value.int Go.IntKind.i64 (0 : Int)), (Go.Value.int Go.IntKind.i64 (0 : Int)), (Go.Value.int Go.IntKind.i64 (0 : Int)), (Go.Value.int Go.IntKind.i64 (0 : Int))] 37 false 4)), (Prod.mk 1001 (AObj.cells [(Go.Value.int Go.IntKind.i64 (n1)), (Go.Value.int Go.IntKind.i64 (n2)), (Go.Value.int Go.IntKind.i64 (n3)), (Go.Value.int Go.IntKind.i64 (n4))] 37 false 4))]))))))
 False))))
 False) := by kernel_rfl
def gCk (C : Ct) (L : AtLoop) (a b c d : Int) (k : List D → Prop) : Prop := wpFn Tryz.prog (hS C) L 0 20 #[vA a b c d] (heapOf []) (dataK k)
theorem gCk_text (C : Ct) (L : AtLoop) (a : Int) (b : Int) (c : Int) (d : Int) (k : List D → Prop) : gCk C L a b c d k =
 (((((Go.Value.slice (Option.some (Go.Addr.mk 1003 0 Option.none)) 2 2) = (Go.Value.slice (Option.some (Go.Addr.mk 1003 0 Option.none)) 2 2)) ∧
 ((Option.some (AObj.cells [(Go.Value.int Go.IntKind.i64 (a)), (Go.Value.int Go.IntKind.i64 (b)), (Go.Value.int Go.IntKind.i64 (c)), (Go.Value.int Go.IntKind.i64 (d))] 23 false 2)) = (Option.some (AObj.cells [(Go.Value.int Go.IntKind.i64 (a)), (Go.Value.int Go.IntKind.i64 (b)), (Go.Value.int Go.IntKind.i64 (c)), (Go.Value.int Go.IntKind.i64 (d))] 23 false 2)))) ∧
 (((Go.Value.agg [(Go.Value.int Go.IntKind.i64 (c)), (Go.Value.int Go.IntKind.i64 (d))].toArray) = (Go.Value.agg [(Go.Value.int Go.IntKind.i64 (c)), (Go.Value.int Go.IntKind.i64 (d))].toArray)) ∧
 (((Go.Value.pointer (Option.some (Go.Addr.mk 1000 2 Option.none))) = (Go.Value.pointer (Option.some (Go.Addr.mk 1000 2 Option.none)))) ∧
 (((Go.Value.agg [(Go.Value.int Go.IntKind.i64 (a)), (Go.Value.int Go.IntKind.i64 (b))].toArray) = (Go.Value.agg [(Go.Value.int Go.IntKind.i64 (a)), (Go.Value.int Go.IntKind.i64 (b))].toArray)) ∧
 (((Go.Value.pointer (Option.some (Go.Addr.mk 1000 0 Option.none))) = (Go.Value.pointer (Option.some (Go.Addr.mk 1000 0 Option.none)))) ∧
 ((((Go.Value.slice (Option.some (Go.Addr.mk 1002 0 Option.none)) 2 2) = (Go.Value.slice (Option.some (Go.Addr.mk 1002 0 Option.none)) 2 2)) ∧
 ((Option.some (AObj.cells [(Go.Value.int Go.IntKind.i64 (c)), (Go.Value.int Go.IntKind.i64 (d))] 3 false 1)) = (Option.some (AObj.cells [(Go.Value.int Go.IntKind.i64 (c)), (Go.Value.int Go.IntKind.i64 (d))] 3 false 1)))) ∧
 (((Go.Value.int Go.IntKind.i64 (d)) = (Go.Value.int Go.IntKind.i64 (d))) ∧
 (((Go.Value.pointer (Option.some (Go.Addr.mk 1000 3 Option.none))) = (Go.Value.pointer (Option.some (Go.Addr.mk 1000 3 Option.none)))) ∧
 (((Go.Value.pointer (Option.some (Go.Addr.mk 1000 2 Option.none))) = (Go.Value.pointer (Option.some (Go.Addr.mk 1000 2 Option.none)))) ∧
 (((Go.Value.int Go.IntKind.i64 (c)) = (Go.Value.int Go.IntKind.i64 (c))) ∧
 (((Go.Value.pointer (Option.some (Go.Addr.mk 1000 2 Option.none))) = (Go.Value.pointer (Option.some (Go.Addr.mk 1000 2 Option.none)))) ∧
 (((Go.Value.pointer (Option.some (Go.Addr.mk 1000 2 Option.none))) = (Go.Value.pointer (Option.some (Go.Addr.mk 1000 2 Option.none)))) ∧
 ((((Go.Value.slice (Option.some (Go.Addr.mk 1001 0 Option.none)) 2 2) = (Go.Value.slice (Option.some (Go.Addr.mk 1001 0 Option.none)) 2 2)) ∧
 ((Option.some (AObj.cells [(Go.Value.int Go.IntKind.i64 (a)), (Go.Value.int Go.IntKind.i64 (b))] 3 false 1)) = (Option.some (AObj.cells [(Go.Value.int Go.IntKind.i64 (a)), (Go.Value.int Go.IntKind.i64 (b))] 3 false 1)))) ∧
 (((Go.Value.int Go.IntKind.i64 (b)) = (Go.Value.int Go.IntKind.i64 (b))) ∧
 (((Go.Value.pointer (Option.some (Go.Addr.mk 1000 1 Option.none))) = (Go.Value.pointer (Option.some (Go.Addr.mk 1000 1 Option.none)))) ∧
 (((Go.Value.pointer (Option.some (Go.Addr.mk 1000 0 Option.none))) = (Go.Value.pointer (Option.some (Go.Addr.mk 1000 0 Option.none)))) ∧
 (((Go.Value.int Go.IntKind.i64 (a)) = (Go.Value.int Go.IntKind.i64 (a))) ∧
 (((Go.Value.pointer (Option.some (Go.Addr.mk 1000 0 Option.none))) = (Go.Value.pointer (Option.some (Go.Addr.mk 1000 0 Option.none)))) ∧
 (((Go.Value.pointer (Option.some (Go.Addr.mk 1000 0 Option.none))) = (Go.Value.pointer (Option.some (Go.Addr.mk 1000 0 Option.none)))) ∧
 True))))))))))))))))))) ∧
 (∃ r1 : Int,
 ((Says witC 0 [(D.val (Go.Value.int Go.IntKind.i64 (1 : Int))), (D.val (Go.Value.int Go.IntKind.i64 (1000 : Int))), (D.val (Go.Value.int Go.IntKind.i64 (2 : Int))), (D.sl 2 1 [(Go.Value.int Go.IntKind.i64 (a)), (Go.Value.int Go.IntKind.i64 (b))])] [(D.val (Go.Value.int Go.IntKind.i64 (r1)))]) ∧
 (((((Go.Value.slice (Option.some (Go.Addr.mk 1003 0 Option.none)) 2 2) = (Go.Value.slice (Option.some (Go.Addr.mk 1003 0 Option.none)) 2 2)) ∧
 ((Option.some (AObj.cells [(Go.Value.int Go.IntKind.i64 (a)), (Go.Value.int Go.IntKind.i64 (b)), (Go.Value.int Go.IntKind.i64 (c)), (Go.Value.int Go.IntKind.i64 (d))] 23 false 2)) = (Option.some (AObj.cells [(Go.Value.int Go.IntKind.i64 (a)), (Go.Value.int Go.IntKind.i64 (b)), (Go.Value.int Go.IntKind.i64 (c)), (Go.Value.int Go.IntKind.i64 (d))] 23 false 2)))) ∧
 (((Go.Value.agg [(Go.Value.int Go.IntKind.i64 (c)), (Go.Value.int Go.IntKind.i64 (d))].toArray) = (Go.Value.agg [(Go.Value.int Go.IntKind.i64 (c)), (Go.Value.int Go.IntKind.i64 (d))].toArray)) ∧
 (((Go.Value.pointer (Option.some (Go.Addr.mk 1000 2 Option.none))) = (Go.Value.pointer (Option.some (Go.Addr.mk 1000 2 Option.none)))) ∧
 (((Go.Value.agg [(Go.Value.int Go.IntKind.i64 (a)), (Go.Value.int Go.IntKind.i64 (b))].toArray) = (Go.Value.agg [(Go.Value.int Go.IntKind.i64 (a)), (Go.Value.int Go.IntKind.i64 (b))].toArray)) ∧
 (((Go.Value.pointer (Option.some (Go.Addr.mk 1000 0 Option.none))) = (Go.Value.pointer (Option.some (Go.Addr.mk 1000 0 Option.none)))) ∧
 ((((Go.Value.slice (Option.some (Go.Addr.mk 1002 0 Option.none)) 2 2) = (Go.Value.slice (Option.some (Go.Addr.mk 1002 0 Option.none)) 2 2)) ∧
 ((Option.some (AObj.cells [(Go.Value.int Go.IntKind.i64 (c)), (Go.Value.int Go.IntKind.i64 (d))] 3 false 1)) = (Option.some (AObj.cells [(Go.Value.int Go.IntKind.i64 (c)), (Go.Value.int Go.IntKind.i64 (d))] 3 false 1)))) ∧
 (((Go.Value.int Go.IntKind.i64 (d)) = (Go.Value.int Go.IntKind.i64 (d))) ∧
 (((Go.Value.pointer (Option.some (Go.Addr.mk 1000 3 Option.none))) = (Go.Value.pointer (Option.some (Go.Addr.mk 1000 3 Option.none)))) ∧
 (((Go.Value.pointer (Option.some (Go.Addr.mk 1000 2 Option.none))) = (Go.Value.pointer (Option.some (Go.Addr.mk 1000 2 Option.none)))) ∧
 (((Go.Value.int Go.IntKind.i64 (c)) = (Go.Value.int Go.IntKind.i64 (c))) ∧
 (((Go.Value.pointer (Option.some (Go.Addr.mk 1000 2 Option.none))) = (Go.Value.pointer (Option.some (Go.Addr.mk 1000 2 Option.none)))) ∧
 (((Go.Value.pointer (Option.some (Go.Addr.mk 1000 2 Option.none))) = (Go.Value.pointer (Option.some (Go.Addr.mk 1000 2 Option.none)))) ∧
 (((Go.Value.int Go.IntKind.i64 (b)) = (Go.Value.int Go.IntKind.i64 (b))) ∧
 (((Go.Value.pointer (Option.some (Go.Addr.mk 1000 1 Option.none))) = (Go.Value.pointer (Option.some (Go.Addr.mk 1000 1 Option.none)))) ∧
 (((Go.Value.pointer (Option.some (Go.Addr.mk 1000 0 Option.none))) = (Go.Value.pointer (Option.some (Go.Addr.mk 1000 0 Option.none)))) ∧
 (((Go.Value.int Go.IntKind.i64 (a)) = (Go.Value.int Go.IntKind.i64 (a))) ∧
 (((Go.Value.pointer (Option.some (Go.Addr.mk 1000 0 Option.none))) = (Go.Value.pointer (Option.some (Go.Addr.mk 1000 0 Option.none)))) ∧
 (((Go.Value.pointer (Option.some (Go.Addr.mk 1000 0 Option.none))) = (Go.Value.pointer (Option.some (Go.Addr.mk 1000 0 Option.none)))) ∧
 True)))))))))))))))))) ∧
 (∃ r2 : Int,
 ((Says witC 0 [(D.val (Go.Value.int Go.IntKind.i64 (0 : Int))), (D.val (Go.Value.int Go.IntKind.i64 (1000 : Int))), (D.val (Go.Value.int Go.IntKind.i64 (2 : Int))), (D.sl 2 1 [(Go.Value.int Go.IntKind.i64 (c)), (Go.Value.int Go.IntKind.i64 (d))])] [(D.val (Go.Value.int Go.IntKind.i64 (r2)))]) ∧
 (((((Go.Value.slice (Option.some (Go.Addr.mk 1003 0 Option.none)) 2 2) = (Go.Value.slice (Option.some (Go.Addr.mk 1003 0 Option.none)) 2 2)) ∧
 ((Option.some (AObj.cells [(Go.Value.int Go.IntKind.i64 (a)), (Go.Value.int Go.IntKind.i64 (b)), (Go.Value.int Go.IntKind.i64 (c)), (Go.Value.int Go.IntKind.i64 (d))] 23 false 2)) = (Option.some (AObj.cells [(Go.Value.int Go.IntKind.i64 (a)), (Go.Value.int Go.IntKind.i64 (b)), (Go.Value.int Go.IntKind.i64 (c)), (Go.Value.int Go.IntKind.i64 (d))] 23 false 2)))) ∧
 (((Go.Value.agg [(Go.Value.int Go.IntKind.i64 (c)), (Go.Value.int Go.IntKind.i64 (d))].toArray) = (Go.Value.agg [(Go.Value.int Go.IntKind.i64 (c)), (Go.Value.int Go.IntKind.i64 (d))].toArray)) ∧
 (((Go.Value.pointer (Option.some (Go.Addr.mk 1000 2 Option.none))) = (Go.Value.pointer (Option.some (Go.Addr.mk 1000 2 Option.none)))) ∧
 (((Go.Value.agg [(Go.Value.int Go.IntKind.i64 (a)), (Go.Value.int Go.IntKind.i64 (b))].toArray) = (Go.Value.agg [(Go.Value.int Go.IntKind.i64 (a)), (Go.Value.int Go.IntKind.i64 (b))].toArray)) ∧
 (((Go.Value.pointer (Option.some (Go.Addr.mk 1000 0 Option.none))) = (Go.Value.pointer (Option.some (Go.Addr.mk 1000 0 Option.none)))) ∧
 (((Go.Value.int Go.IntKind.i64 (d)) = (Go.Value.int Go.IntKind.i64 (d))) ∧
 (((Go.Value.pointer (Option.some (Go.Addr.mk 1000 3 Option.none))) = (Go.Value.pointer (Option.some (Go.Addr.mk 1000 3 Option.none)))) ∧
 (((Go.Value.pointer (Option.some (Go.Addr.mk 1000 2 Option.none))) = (Go.Value.pointer (Option.some (Go.Addr.mk 1000 2 Option.none)))) ∧
 (((Go.Value.int Go.IntKind.i64 (c)) = (Go.Value.int Go.IntKind.i64 (c))) ∧
 (((Go.Value.pointer (Option.some (Go.Addr.mk 1000 2 Option.none))) = (Go.Value.pointer (Option.some (Go.Addr.mk 1000 2 Option.none)))) ∧
 (((Go.Value.pointer (Option.some (Go.Addr.mk 1000 2 Option.none))) = (Go.Value.pointer (Option.some (Go.Addr.mk 1000 2 Option.none)))) ∧
 (((Go.Value.int Go.IntKind.i64 (b)) = (Go.Value.int Go.IntKind.i64 (b))) ∧
 (((Go.Value.pointer (Option.some (Go.Addr.mk 1000 1 Option.none))) = (Go.Value.pointer (Option.some (Go.Addr.mk 1000 1 Option.none)))) ∧
 (((Go.Value.pointer (Option.some (Go.Addr.mk 1000 0 Option.none))) = (Go.Value.pointer (Option.some (Go.Addr.mk 1000 0 Option.none)))) ∧
 (((Go.Value.int Go.IntKind.i64 (a)) = (Go.Value.int Go.IntKind.i64 (a))) ∧
 (((Go.Value.pointer (Option.some (Go.Addr.mk 1000 0 Option.none))) = (Go.Value.pointer (Option.some (Go.Addr.mk 1000 0 Option.none)))) ∧
 (((Go.Value.pointer (Option.some (Go.Addr.mk 1000 0 Option.none))) = (Go.Value.pointer (Option.some (Go.Addr.mk 1000 0 Option.none)))) ∧
 True))))))))))))))))) ∧
 (bcase (decide (a > b))
 (((((Go.Value.slice (Option.some (Go.Addr.mk 1009 0 Option.none)) 3 3) = (Go.Value.slice (Option.some (Go.Addr.mk 1009 0 Option.none)) 3 3)) ∧
 ((Option.some (AObj.cells [(Go.Value.int Go.IntKind.i64 (r1)), (Go.Value.int Go.IntKind.i64 (r2)), (Go.Value.int Go.IntKind.i64 (9 : Int))] 33 false 1)) = (Option.some (AObj.cells [(Go.Value.int Go.IntKind.i64 (r1)), (Go.Value.int Go.IntKind.i64 (r2)), (Go.Value.int Go.IntKind.i64 (9 : Int))] 33 false 1)))) ∧
 (((Go.Value.agg [(Go.Value.int Go.IntKind.i64 (c)), (Go.Value.int Go.IntKind.i64 (d))].toArray) = (Go.Value.agg [(Go.Value.int Go.IntKind.i64 (c)), (Go.Value.int Go.IntKind.i64 (d))].toArray)) ∧
 (((Go.Value.pointer (Option.some (Go.Addr.mk 1000 2 Option.none))) = (Go.Value.pointer (Option.some (Go.Addr.mk 1000 2 Option.none)))) ∧
 (((Go.Value.agg [(Go.Value.int Go.IntKind.i64 (a)), (Go.Value.int Go.IntKind.i64 (b))].toArray) = (Go.Value.agg [(Go.Value.int Go.IntKind.i64 (a)), (Go.Value.int Go.IntKind.i64 (b))].toArray)) ∧
 (((Go.Value.pointer (Option.some (Go.Addr.mk 1000 0 Option.none))) = (Go.Value.pointer (Option.some (Go.Addr.mk 1000 0 Option.none)))) ∧
 (((Go.Value.int Go.IntKind.i64 (d)) = (Go.Value.int Go.IntKind.i64 (d))) ∧
 (((Go.Value.pointer (Option.some (Go.Addr.mk 1000 3 Option.none))) = (Go.Value.pointer (Option.some (Go.Addr.mk 1000 3 Option.none)))) ∧
 (((Go.Value.pointer (Option.some (Go.Addr.mk 1000 2 Option.none))) = (Go.Value.pointer (Option.some (Go.Addr.mk 1000 2 Option.none)))) ∧
 (((Go.Value.int Go.IntKind.i64 (c)) = (Go.Value.int Go.IntKind.i64 (c))) ∧
 (((Go.Value.pointer (Option.some (Go.Addr.mk 1000 2 Option.none))) = (Go.Value.pointer (Option.some (Go.Addr.mk 1000 2 Option.none)))) ∧
 (((Go.Value.pointer (Option.some (Go.Addr.mk 1000 2 Option.none))) = (Go.Value.pointer (Option.some (Go.Addr.mk 1000 2 Option.none)))) ∧
 (((Go.Value.int Go.IntKind.i64 (b)) = (Go.Value.int Go.IntKind.i64 (b))) ∧
 (((Go.Value.pointer (Option.some (Go.Addr.mk 1000 1 Option.none))) = (Go.Value.pointer (Option.some (Go.Addr.mk 1000 1 Option.none)))) ∧
 (((Go.Value.pointer (Option.some (Go.Addr.mk 1000 0 Option.none))) = (Go.Value.pointer (Option.some (Go.Addr.mk 1000 0 Option.none)))) ∧
 (((Go.Value.int Go.IntKind.i64 (a)) = (Go.Value.int Go.IntKind.i64 (a))) ∧
 (((Go.Value.pointer (Option.some (Go.Addr.mk 1000 0 Option.none))) = (Go.Value.pointer (Option.some (Go.Addr.mk 1000 0 Option.none)))) ∧
 (((Go.Value.pointer (Option.some (Go.Addr.mk 1000 0 Option.none))) = (Go.Value.pointer (Option.some (Go.Addr.mk 1000 0 Option.none)))) ∧
 True))))))))))))))))) ∧
 (∃ n1 : Int,
 ((Says C 78 [(D.sl 3 1 [(Go.Value.int Go.IntKind.i64 (r1)), (Go.Value.int Go.IntKind.i64 (r2)), (Go.Value.int Go.IntKind.i64 (9 : Int))])] [(D.val (Go.Value.int Go.IntKind.i64 (n1)))]) ∧
 ((((Go.Value.agg [(Go.Value.int Go.IntKind.i64 (c)), (Go.Value.int Go.IntKind.i64 (d))].toArray) = (Go.Value.agg [(Go.Value.int Go.IntKind.i64 (c)), (Go.Value.int Go.IntKind.i64 (d))].toArray)) ∧
 (((Go.Value.pointer (Option.some (Go.Addr.mk 1000 2 Option.none))) = (Go.Value.pointer (Option.some (Go.Addr.mk 1000 2 Option.none)))) ∧
 (((Go.Value.agg [(Go.Value.int Go.IntKind.i64 (a)), (Go.Value.int Go.IntKind.i64 (b))].toArray) = (Go.Value.agg [(Go.Value.int Go.IntKind.i64 (a)), (Go.Value.int Go.IntKind.i64 (b))].toArray)) ∧
 (((Go.Value.pointer (Option.some (Go.Addr.mk 1000 0 Option.none))) = (Go.Value.pointer (Option.some (Go.Addr.mk 1000 0 Option.none)))) ∧
 (((Go.Value.int Go.IntKind.i64 (d)) = (Go.Value.int Go.IntKind.i64 (d))) ∧
 (((Go.Value.pointer (Option.some (Go.Addr.mk 1000 3 Option.none))) = (Go.Value.pointer (Option.some (Go.Addr.mk 1000 3 Option.none)))) ∧
 (((Go.Value.pointer (Option.some (Go.Addr.mk 1000 2 Option.none))) = (Go.Value.pointer (Option.some (Go.Addr.mk 1000 2 Option.none)))) ∧
 (((Go.Value.int Go.IntKind.i64 (c)) = (Go.Value.int Go.IntKind.i64 (c))) ∧
 (((Go.Value.pointer (Option.some (Go.Addr.mk 1000 2 Option.none))) = (Go.Value.pointer (Option.some (Go.Addr.mk 1000 2 Option.none)))) ∧
 (((Go.Value.pointer (Option.some (Go.Addr.mk 1000 2 Option.none))) = (Go.Value.pointer (Option.some (Go.Addr.mk 1000 2 Option.none)))) ∧
 (((Go.Value.int Go.IntKind.i64 (b)) = (Go.Value.int Go.IntKind.i64 (b))) ∧
 (((Go.Value.pointer (Option.some (Go.Addr.mk 1000 1 Option.none))) = (Go.Value.pointer (Option.some (Go.Addr.mk 1000 1 Option.none)))) ∧
 (((Go.Value.pointer (Option.some (Go.Addr.mk 1000 0 Option.none))) = (Go.Value.pointer (Option.some (Go.Addr.mk 1000 0 Option.none)))) ∧
 (((Go.Value.int Go.IntKind.i64 (a)) = (Go.Value.int Go.IntKind.i64 (a))) ∧
 (((Go.Value.pointer (Option.some (Go.Addr.mk 1000 0 Option.none))) = (Go.Value.pointer (Option.some (Go.Addr.mk 1000 0 Option.none)))) ∧
 (((Go.Value.pointer (Option.some (Go.Addr.mk 1000 0 Option.none))) = (Go.Value.pointer (Option.some (Go.Addr.mk 1000 0 Option.none)))) ∧
 True)))))))))))))))) ∧
 (True ∧
 (k [(D.val (Go.Value.int Go.IntKind.i64 (n1)))]))))))
 (bcase (decide (c > d))
 (((((Go.Value.slice (Option.some (Go.Addr.mk 1010 0 Option.none)) 3 3) = (Go.Value.slice (Option.some (Go.Addr.mk 1010 0 Option.none)) 3 3)) ∧
 ((Option.some (AObj.cells [(Go.Value.int Go.IntKind.i64 (r1)), (Go.Value.int Go.IntKind.i64 (r2)), (Go.Value.int Go.IntKind.i64 (9 : Int))] 33 false 1)) = (Option.some (AObj.cells [(Go.Value.int Go.IntKind.i64 (r1)), (Go.Value.int Go.IntKind.i64 (r2)), (Go.Value.int Go.IntKind.i64 (9 : Int))] 33 false 1)))) ∧
 (((Go.Value.agg [(Go.Value.int Go.IntKind.i64 (c)), (Go.Value.int Go.IntKind.i64 (d))].toArray) = (Go.Value.agg [(Go.Value.int Go.IntKind.i64 (c)), (Go.Value.int Go.IntKind.i64 (d))].toArray)) ∧
 (((Go.Value.pointer (Option.some (Go.Addr.mk 1000 2 Option.none))) = (Go.Value.pointer (Option.some (Go.Addr.mk 1000 2 Option.none)))) ∧
 (((Go.Value.agg [(Go.Value.int Go.IntKind.i64 (a)), (Go.Value.int Go.IntKind.i64 (b))].toArray) = (Go.Value.agg [(Go.Value.int Go.IntKind.i64 (a)), (Go.Value.int Go.IntKind.i64 (b))].toArray)) ∧
 (((Go.Value.pointer (Option.some (Go.Addr.mk 1000 0 Option.none))) = (Go.Value.pointer (Option.some (Go.Addr.mk 1000 0 Option.none)))) ∧
 (((Go.Value.int Go.IntKind.i64 (d)) = (Go.Value.int Go.IntKind.i64 (d))) ∧
 (((Go.Value.pointer (Option.some (Go.Addr.mk 1000 3 Option.none))) = (Go.Value.pointer (Option.some (Go.Addr.mk 1000 3 Option.none)))) ∧
 (((Go.Value.pointer (Option.some (Go.Addr.mk 1000 2 Option.none))) = (Go.Value.pointer (Option.some (Go.Addr.mk 1000 2 Option.none)))) ∧
 (((Go.Value.int Go.IntKind.i64 (c)) = (Go.Value.int Go.IntKind.i64 (c))) ∧
 (((Go.Value.pointer (Option.some (Go.Addr.mk 1000 2 Option.none))) = (Go.Value.pointer (Option.some (Go.Addr.mk 1000 2 Option.none)))) ∧
 (((Go.Value.pointer (Option.some (Go.Addr.mk 1000 2 Option.none))) = (Go.Value.pointer (Option.some (Go.Addr.mk 1000 2 Option.none)))) ∧
 (((Go.Value.int Go.IntKind.i64 (b)) = (Go.Value.int Go.IntKind.i64 (b))) ∧
 (((Go.Value.pointer (Option.some (Go.Addr.mk 1000 1 Option.none))) = (Go.Value.pointer (Option.some (Go.Addr.mk 1000 1 Option.none)))) ∧
 (((Go.Value.pointer (Option.some (Go.Addr.mk 1000 0 Option.none))) = (Go.Value.pointer (Option.some (Go.Addr.mk 1000 0 Option.none)))) ∧
 (((Go.Value.int Go.IntKind.i64 (a)) = (Go.Value.int Go.IntKind.i64 (a))) ∧
 (((Go.Value.pointer (Option.some (Go.Addr.mk 1000 0 Option.none))) = (Go.Value.pointer (Option.some (Go.Addr.mk 1000 0 Option.none)))) ∧
 (((Go.Value.pointer (Option.some (Go.Addr.mk 1000 0 Option.none))) = (Go.Value.pointer (Option.some (Go.Addr.mk 1000 0 Option.none)))) ∧
 True))))))))))))))))) ∧
 (∃ n1 : Int,
 ((Says C 78 [(D.sl 3 1 [(Go.Value.int Go.IntKind.i64 (r1)), (Go.Value.int Go.IntKind.i64 (r2)), (Go.Value.int Go.IntKind.i64 (9 : Int))])] [(D.val (Go.Value.int Go.IntKind.i64 (n1)))]) ∧
 ((((Go.Value.agg [(Go.Value.int Go.IntKind.i64 (c)), (Go.Value.int Go.IntKind.i64 (d))].toArray) = (Go.Value.agg [(Go.Value.int Go.IntKind.i64 (c)), (Go.Value.int Go.IntKind.i64 (d))].toArray)) ∧
 (((Go.Value.pointer (Option.some (Go.Addr.mk 1000 2 Option.none))) = (Go.Value.pointer (Option.some (Go.Addr.mk 1000 2 Option.none)))) ∧
 (((Go.Value.agg [(Go.Value.int Go.IntKind.i64 (a)), (Go.Value.int Go.IntKind.i64 (b))].toArray) = (Go.Value.agg [(Go.Value.int Go.IntKind.i64 (a)), (Go.Value.int Go.IntKind.i64 (b))].toArray)) ∧
 (((Go.Value.pointer (Option.some (Go.Addr.mk 1000 0 Option.none))) = (Go.Value.pointer (Option.some (Go.Addr.mk 1000 0 Option.none)))) ∧
 (((Go.Value.int Go.IntKind.i64 (d)) = (Go.Value.int Go.IntKind.i64 (d))) ∧
 (((Go.Value.pointer (Option.some (Go.Addr.mk 1000 3 Option.none))) = (Go.Value.pointer (Option.some (Go.Addr.mk 1000 3 Option.none)))) ∧
 (((Go.Value.pointer (Option.some (Go.Addr.mk 1000 2 Option.none))) = (Go.Value.pointer (Option.some (Go.Addr.mk 1000 2 Option.none)))) ∧
 (((Go.Value.int Go.IntKind.i64 (c)) = (Go.Value.int Go.IntKind.i64 (c))) ∧
 (((Go.Value.pointer (Option.some (Go.Addr.mk 1000 2 Option.none))) = (Go.Value.pointer (Option.some (Go.Addr.mk 1000 2 Option.none)))) ∧
 (((Go.Value.pointer (Option.some (Go.Addr.mk 1000 2 Option.none))) = (Go.Value.pointer (Option.some (Go.Addr.mk 1000 2 Option.none)))) ∧
 (((Go.Value.int Go.IntKind.i64 (b)) = (Go.Value.int Go.IntKind.i64 (b))) ∧
 (((Go.Value.pointer (Option.some (Go.Addr.mk 1000 1 Option.none))) = (Go.Value.pointer (Option.some (Go.Addr.mk 1000 1 Option.none)))) ∧
 (((Go.Value.pointer (Option.some (Go.Addr.mk 1000 0 Option.none))) = (Go.Value.pointer (Option.some (Go.Addr.mk 1000 0 Option.none)))) ∧
 (((Go.Value.int Go.IntKind.i64 (a)) = (Go.Value.int Go.IntKind.i64 (a))) ∧
 (((Go.Value.pointer (Option.some (Go.Addr.mk 1000 0 Option.none))) = (Go.Value.pointer (Option.some (Go.Addr.mk 1000 0 Option.none)))) ∧
 (((Go.Value.pointer (Option.some (Go.Addr.mk 1000 0 Option.none))) = (Go.Value.pointer (Option.some (Go.Addr.mk 1000 0 Option.none)))) ∧
 True)))))))))))))))) ∧
 (True ∧
 (k [(D.val (Go.Value.int Go.IntKind.i64 (n1)))]))))))
 (((((Go.Value.slice (Option.some (Go.Addr.mk 1010 0 Option.none)) 3 3) = (Go.Value.slice (Option.some (Go.Addr.mk 1010 0 Option.none)) 3 3)) ∧
 ((Option.some (AObj.cells [(Go.Value.int Go.IntKind.i64 (r1)), (Go.Value.int Go.IntKind.i64 (r2)), (Go.Value.int Go.IntKind.i64 (0 : Int))] 33 false 1)) = (Option.some (AObj.cells [(Go.Value.int Go.IntKind.i64 (r1)), (Go.Value.int Go.IntKind.i64 (r2)), (Go.Value.int Go.IntKind.i64 (0 : Int))] 33 false 1)))) ∧
 (((Go.Value.agg [(Go.Value.int Go.IntKind.i64 (c)), (Go.Value.int Go.IntKind.i64 (d))].toArray) = (Go.Value.agg [(Go.Value.int Go.IntKind.i64 (c)), (Go.Value.int Go.IntKind.i64 (d))].toArray)) ∧
 (((Go.Value.pointer (Option.some (Go.Addr.mk 1000 2 Option.none))) = (Go.Value.pointer (Option.some (Go.Addr.mk 1000 2 Option.none)))) ∧
 (((Go.Value.agg [(Go.Value.int Go.IntKind.i64 (a)), (Go.Value.int Go.IntKind.i64 (b))].toArray) = (Go.Value.agg [(Go.Value.int Go.IntKind.i64 (a)), (Go.Value.int Go.IntKind.i64 (b))].toArray)) ∧
 (((Go.Value.pointer (Option.some (Go.Addr.mk 1000 0 Option.none))) = (Go.Value.pointer (Option.some (Go.Addr.mk 1000 0 Option.none)))) ∧
 (((Go.Value.int Go.IntKind.i64 (d)) = (Go.Value.int Go.IntKind.i64 (d))) ∧
 (((Go.Value.pointer (Option.some (Go.Addr.mk 1000 3 Option.none))) = (Go.Value.pointer (Option.some (Go.Addr.mk 1000 3 Option.none)))) ∧
 (((Go.Value.pointer (Option.some (Go.Addr.mk 1000 2 Option.none))) = (Go.Value.pointer (Option.some (Go.Addr.mk 1000 2 Option.none)))) ∧
 (((Go.Value.int Go.IntKind.i64 (c)) = (Go.Value.int Go.IntKind.i64 (c))) ∧
 (((Go.Value.pointer (Option.some (Go.Addr.mk 1000 2 Option.none))) = (Go.Value.pointer (Option.some (Go.Addr.mk 1000 2 Option.none)))) ∧
 (((Go.Value.pointer (Option.some (Go.Addr.mk 1000 2 Option.none))) = (Go.Value.pointer (Option.some (Go.Addr.mk 1000 2 Option.none)))) ∧
 (((Go.Value.int Go.IntKind.i64 (b)) = (Go.Value.int Go.IntKind.i64 (b))) ∧
 (((Go.Value.pointer (Option.some (Go.Addr.mk 1000 1 Option.none))) = (Go.Value.pointer (Option.some (Go.Addr.mk 1000 1 Option.none)))) ∧
 (((Go.Value.pointer (Option.some (Go.Addr.mk 1000 0 Option.none))) = (Go.Value.pointer (Option.some (Go.Addr.mk 1000 0 Option.none)))) ∧
 (((Go.Value.int Go.IntKind.i64 (a)) = (Go.Value.int Go.IntKind.i64 (a))) ∧
 (((Go.Value.pointer (Option.some (Go.Addr.mk 1000 0 Option.none))) = (Go.Value.pointer (Option.some (Go.Addr.mk 1000 0 Option.none)))) ∧
 (((Go.Value.pointer (Option.some (Go.Addr.mk 1000 0 Option.none))) = (Go.Value.pointer (Option.some (Go.Addr.mk 1000 0 Option.none)))) ∧
 True))))))))))))))))) ∧
 (∃ n1 : Int,
 ((Says C 78 [(D.sl 3 1 [(Go.Value.int Go.IntKind.i64 (r1)), (Go.Value.int Go.IntKind.i64 (r2)), (Go.Value.int Go.IntKind.i64 (0 : Int))])] [(D.val (Go.Value.int Go.IntKind.i64 (n1)))]) ∧
 ((((Go.Value.agg [(Go.Value.int Go.IntKind.i64 (c)), (Go.Value.int Go.IntKind.i64 (d))].toArray) = (Go.Value.agg [(Go.Value.int Go.IntKind.i64 (c)), (Go.Value.int Go.IntKind.i64 (d))].toArray)) ∧
 (((Go.Value.pointer (Option.some (Go.Addr.mk 1000 2 Option.none))) = (Go.Value.pointer (Option.some (Go.Addr.mk 1000 2 Option.none)))) ∧
 (((Go.Value.agg [(Go.Value.int Go.IntKind.i64 (a)), (Go.Value.int Go.IntKind.i64 (b))].toArray) = (Go.Value.agg [(Go.Value.int Go.IntKind.i64 (a)), (Go.Value.int Go.IntKind.i64 (b))].toArray)) ∧
 (((Go.Value.pointer (Option.some (Go.Addr.mk 1000 0 Option.none))) = (Go.Value.pointer (Option.some (Go.Addr.mk 1000 0 Option.none)))) ∧
 (((Go.Value.int Go.IntKind.i64 (d)) = (Go.Value.int Go.IntKind.i64 (d))) ∧
 (((Go.Value.pointer (Option.some (Go.Addr.mk 1000 3 Option.none))) = (Go.Value.pointer (Option.some (Go.Addr.mk 1000 3 Option.none)))) ∧
 (((Go.Value.pointer (Option.some (Go.Addr.mk 1000 2 Option.none))) = (Go.Value.pointer (Option.some (Go.Addr.mk 1000 2 Option.none)))) ∧
 (((Go.Value.int Go.IntKind.i64 (c)) = (Go.Value.int Go.IntKind.i64 (c))) ∧
 (((Go.Value.pointer (Option.some (Go.Addr.mk 1000 2 Option.none))) = (Go.Value.pointer (Option.some (Go.Addr.mk 1000 2 Option.none)))) ∧
 (((Go.Value.pointer (Option.some (Go.Addr.mk 1000 2 Option.none))) = (Go.Value.pointer (Option.some (Go.Addr.mk 1000 2 Option.none)))) ∧
 (((Go.Value.int Go.IntKind.i64 (b)) = (Go.Value.int Go.IntKind.i64 (b))) ∧
 (((Go.Value.pointer (Option.some (Go.Addr.mk 1000 1 Option.none))) = (Go.Value.pointer (Option.some (Go.Addr.mk 1000 1 Option.none)))) ∧
 (((Go.Value.pointer (Option.some (Go.Addr.mk 1000 0 Option.none))) = (Go.Value.pointer (Option.some (Go.Addr.mk 1000 0 Option.none)))) ∧
 (((Go.Value.int Go.IntKind.i64 (a)) = (Go.Value.int Go.IntKind.i64 (a))) ∧
 (((Go.Value.pointer (Option.some (Go.Addr.mk 1000 0 Option.none))) = (Go.Value.pointer (Option.some (Go.Addr.mk 1000 0 Option.none)))) ∧
 (((Go.Value.pointer (Option.some (Go.Addr.mk 1000 0 Option.none))) = (Go.Value.pointer (Option.some (Go.Addr.mk 1000 0 Option.none)))) ∧
 True)))))))))))))))) ∧
 (True ∧
 (k [(D.val (Go.Value.int Go.IntKind.i64 (n1)))]))))))))))))))) := by kernel_rfl
def gSE (C : Ct) (L : AtLoop) (a b c d : Int) (k : List D → Prop) : Prop := wpFn Tryz.prog (hS C) L 0 19 #[vA a b c d] (heapOf []) (dataK k)
theorem gSE_text (C : Ct) (L : AtLoop) (a : Int) (b : Int) (c : Int) (d : Int) (k : List D → Prop) : gSE C L a b c d k =
 (((Says C 29 [(D.val (Go.Value.int Go.IntKind.i64 (a))), (D.val (Go.Value.int Go.IntKind.i64 (1 : Int))), (D.val (Go.Value.int Go.IntKind.i64 (1000 : Int)))] [(D.val (Go.Value.bool true))]) ∧
 (((Says C 29 [(D.val (Go.Value.int Go.IntKind.i64 (b))), (D.val (Go.Value.int Go.IntKind.i64 (1 : Int))), (D.val (Go.Value.int Go.IntKind.i64 (1000 : Int)))] [(D.val (Go.Value.bool true))]) ∧
 (((Says C 29 [(D.val (Go.Value.int Go.IntKind.i64 (c))), (D.val (Go.Value.int Go.IntKind.i64 (0 : Int))), (D.val (Go.Value.int Go.IntKind.i64 (1000 : Int)))] [(D.val (Go.Value.bool true))]) ∧
 (((Says C 29 [(D.val (Go.Value.int Go.IntKind.i64 (d))), (D.val (Go.Value.int Go.IntKind.i64 (0 : Int))), (D.val (Go.Value.int Go.IntKind.i64 (1000 : Int)))] [(D.val (Go.Value.bool true))]) ∧
 (bcase (decide (a > b))
 (k [(D.val (Go.Value.int Go.IntKind.i64 (9 : Int)))])
 (bcase (decide (c > d))
 (k [(D.val (Go.Value.int Go.IntKind.i64 (9 : Int)))])
 (k [(D.val (Go.Value.int Go.IntKind.i64 (0 : Int)))])))) ∨
 ((Says C 29 [(D.val (Go.Value.int Go.IntKind.i64 (d))), (D.val (Go.Value.int Go.IntKind.i64 (0 : Int))), (D.val (Go.Value.int Go.IntKind.i64 (1000 : Int)))] [(D.val (Go.Value.bool false))]) ∧
 (k [(D.val (Go.Value.int Go.IntKind.i64 (2 : Int)))])))) ∨
 ((Says C 29 [(D.val (Go.Value.int Go.IntKind.i64 (c))), (D.val (Go.Value.int Go.IntKind.i64 (0 : Int))), (D.val (Go.Value.int Go.IntKind.i64 (1000 : Int)))] [(D.val (Go.Value.bool false))]) ∧
 (k [(D.val (Go.Value.int Go.IntKind.i64 (2 : Int)))])))) ∨
 ((Says C 29 [(D.val (Go.Value.int Go.IntKind.i64 (b))), (D.val (Go.Value.int Go.IntKind.i64 (1 : Int))), (D.val (Go.Value.int Go.IntKind.i64 (1000 : Int)))] [(D.val (Go.Value.bool false))]) ∧
 (k [(D.val (Go.Value.int Go.IntKind.i64 (2 : Int)))])))) ∨
 ((Says C 29 [(D.val (Go.Value.int Go.IntKind.i64 (a))), (D.val (Go.Value.int Go.IntKind.i64 (1 : Int))), (D.val (Go.Value.int Go.IntKind.i64 (1000 : Int)))] [(D.val (Go.Value.bool false))]) ∧
 (k [(D.val (Go.Value.int Go.IntKind.i64 (2 : Int)))]))) := by kernel_rfl
def gPE (C : Ct) (L : AtLoop) (a b : Int) (k : List D → Prop) : Prop := wpFn Tryz.prog (hS C) L 0 17 #[vB a b] (heapOf []) (dataK k)
theorem gPE_text (C : Ct) (L : AtLoop) (a : Int) (b : Int) (k : List D → Prop) : gPE C L a b k =
 (((Says C 29 [(D.val (Go.Value.int Go.IntKind.i64 (a))), (D.val (Go.Value.int Go.IntKind.i64 (0 : Int))), (D.val (Go.Value.int Go.IntKind.i64 (100000 : Int)))] [(D.val (Go.Value.bool true))]) ∧
 (∃ n1 : Int,
 ((Says C 22 [(D.val (Go.Value.int Go.IntKind.i64 (b)))] [(D.val (Go.Value.int Go.IntKind.i64 (n1)))]) ∧
 (k [(D.val (Go.Value.int Go.IntKind.i64 (n1)))])))) ∨
 ((Says C 29 [(D.val (Go.Value.int Go.IntKind.i64 (a))), (D.val (Go.Value.int Go.IntKind.i64 (0 : Int))), (D.val (Go.Value.int Go.IntKind.i64 (100000 : Int)))] [(D.val (Go.Value.bool false))]) ∧
 (k [(D.val (Go.Value.int Go.IntKind.i64 (2 : Int)))]))) := by kernel_rfl
def gMa (C : Ct) (L : AtLoop) (a b : Int) (k : List D → Prop) : Prop := wpFn Tryz.prog (hS C) L 0 16 #[vI a, vI b] (heapOf []) (dataK k)
theorem gMa_text (C : Ct) (L : AtLoop) (a : Int) (b : Int) (k : List D → Prop) : gMa C L a b k =
 (((Says C 29 [(D.val (Go.Value.int Go.IntKind.i64 (a))), (D.val (Go.Value.int Go.IntKind.i64 (1 : Int))), (D.val (Go.Value.int Go.IntKind.i64 (1000 : Int)))] [(D.val (Go.Value.bool true))]) ∧
 (((Says C 29 [(D.val (Go.Value.int Go.IntKind.i64 (b))), (D.val (Go.Value.int Go.IntKind.i64 (0 : Int))), (D.val (Go.Value.int Go.IntKind.i64 (1000 : Int)))] [(D.val (Go.Value.bool true))]) ∧
 (k [(D.val (Go.Value.int Go.IntKind.i64 (0 : Int)))])) ∨
 ((Says C 29 [(D.val (Go.Value.int Go.IntKind.i64 (b))), (D.val (Go.Value.int Go.IntKind.i64 (0 : Int))), (D.val (Go.Value.int Go.IntKind.i64 (1000 : Int)))] [(D.val (Go.Value.bool false))]) ∧
 (k [(D.val (Go.Value.int Go.IntKind.i64 (2 : Int)))])))) ∨
 ((Says C 29 [(D.val (Go.Value.int Go.IntKind.i64 (a))), (D.val (Go.Value.int Go.IntKind.i64 (1 : Int))), (D.val (Go.Value.int Go.IntKind.i64 (1000 : Int)))] [(D.val (Go.Value.bool false))]) ∧
 (k [(D.val (Go.Value.int Go.IntKind.i64 (2 : Int)))]))) := by kernel_rfl
def gTE (C : Ct) (L : AtLoop) (a : Int) (k : List D → Prop) : Prop := wpFn Tryz.prog (hS C) L 0 22 #[vI a] (heapOf []) (dataK k)
theorem gTE_text (C : Ct) (L : AtLoop) (a : Int) (k : List D → Prop) : gTE C L a k =
 (((Says C 29 [(D.val (Go.Value.int Go.IntKind.i64 (a))), (D.val (Go.Value.int Go.IntKind.i64 (1 : Int))), (D.val (Go.Value.int Go.IntKind.i64 (100000 : Int)))] [(D.val (Go.Value.bool true))]) ∧
 (k [(D.val (Go.Value.int Go.IntKind.i64 (0 : Int)))])) ∨
 ((Says C 29 [(D.val (Go.Value.int Go.IntKind.i64 (a))), (D.val (Go.Value.int Go.IntKind.i64 (1 : Int))), (D.val (Go.Value.int Go.IntKind.i64 (100000 : Int)))] [(D.val (Go.Value.bool false))]) ∧
 (k [(D.val (Go.Value.int Go.IntKind.i64 (2 : Int)))]))) := by kernel_rfl
def gCP (C : Ct) (L : AtLoop) (a b : Int) (k : List D → Prop) : Prop := wpFn Tryz.prog (hS C) L 0 81 #[vB a b] (heapOf []) (dataK k)
theorem gCP_text (C : Ct) (L : AtLoop) (a : Int) (b : Int) (k : List D → Prop) : gCP C L a b k =
 (((((Go.Value.slice (Option.some (Go.Addr.mk 1002 0 Option.none)) 1 1) = (Go.Value.slice (Option.some (Go.Addr.mk 1002 0 Option.none)) 1 1)) ∧
 ((Option.some (AObj.cells [(Go.Value.int Go.IntKind.i64 (b))] 3 false 1)) = (Option.some (AObj.cells [(Go.Value.int Go.IntKind.i64 (b))] 3 false 1)))) ∧
 (((Go.Value.int Go.IntKind.i64 (b)) = (Go.Value.int Go.IntKind.i64 (b))) ∧
 (((Go.Value.pointer (Option.some (Go.Addr.mk 1000 1 Option.none))) = (Go.Value.pointer (Option.some (Go.Addr.mk 1000 1 Option.none)))) ∧
 ((((Go.Value.slice (Option.some (Go.Addr.mk 1001 0 Option.none)) 1 1) = (Go.Value.slice (Option.some (Go.Addr.mk 1001 0 Option.none)) 1 1)) ∧
 ((Option.some (AObj.cells [(Go.Value.int Go.IntKind.i64 (a))] 3 false 1)) = (Option.some (AObj.cells [(Go.Value.int Go.IntKind.i64 (a))] 3 false 1)))) ∧
 (((Go.Value.int Go.IntKind.i64 (a)) = (Go.Value.int Go.IntKind.i64 (a))) ∧
 (((Go.Value.pointer (Option.some (Go.Addr.mk 1000 0 Option.none))) = (Go.Value.pointer (Option.some (Go.Addr.mk 1000 0 Option.none)))) ∧
 True)))))) ∧
 (((((Go.Value.slice (Option.some (Go.Addr.mk 1002 0 Option.none)) 1 1) = (Go.Value.slice (Option.some (Go.Addr.mk 1002 0 Option.none)) 1 1)) ∧
 ((Option.some (AObj.cells [(Go.Value.int Go.IntKind.i64 (b))] 3 false 1)) = (Option.some (AObj.cells [(Go.Value.int Go.IntKind.i64 (b))] 3 false 1)))) ∧
 (((Go.Value.int Go.IntKind.i64 (b)) = (Go.Value.int Go.IntKind.i64 (b))) ∧
 (((Go.Value.pointer (Option.some (Go.Addr.mk 1000 1 Option.none))) = (Go.Value.pointer (Option.some (Go.Addr.mk 1000 1 Option.none)))) ∧
 ((((Go.Value.slice (Option.some (Go.Addr.mk 1001 0 Option.none)) 1 1) = (Go.Value.slice (Option.some (Go.Addr.mk 1001 0 Option.none)) 1 1)) ∧
 ((Option.some (AObj.cells [(Go.Value.int Go.IntKind.i64 (a))] 3 false 1)) = (Option.some (AObj.cells [(Go.Value.int Go.IntKind.i64 (a))] 3 false 1)))) ∧
 (((Go.Value.int Go.IntKind.i64 (a)) = (Go.Value.int Go.IntKind.i64 (a))) ∧
 (((Go.Value.pointer (Option.some (Go.Addr.mk 1000 0 Option.none))) = (Go.Value.pointer (Option.some (Go.Addr.mk 1000 0 Option.none)))) ∧
 True)))))) ∧
 (∃ r1 : Int,
 ((Says witC 0 [(D.val (Go.Value.int Go.IntKind.i64 (0 : Int))), (D.val (Go.Value.int Go.IntKind.i64 (100000 : Int))), (D.val (Go.Value.int Go.IntKind.i64 (2 : Int))), (D.sl 1 1 [(Go.Value.int Go.IntKind.i64 (a))])] [(D.val (Go.Value.int Go.IntKind.i64 (r1)))]) ∧
 (((((Go.Value.slice (Option.some (Go.Addr.mk 1002 0 Option.none)) 1 1) = (Go.Value.slice (Option.some (Go.Addr.mk 1002 0 Option.none)) 1 1)) ∧
 ((Option.some (AObj.cells [(Go.Value.int Go.IntKind.i64 (b))] 3 false 1)) = (Option.some (AObj.cells [(Go.Value.int Go.IntKind.i64 (b))] 3 false 1)))) ∧
 (((Go.Value.int Go.IntKind.i64 (b)) = (Go.Value.int Go.IntKind.i64 (b))) ∧
 (((Go.Value.pointer (Option.some (Go.Addr.mk 1000 1 Option.none))) = (Go.Value.pointer (Option.some (Go.Addr.mk 1000 1 Option.none)))) ∧
 (((Go.Value.int Go.IntKind.i64 (a)) = (Go.Value.int Go.IntKind.i64 (a))) ∧
 (((Go.Value.pointer (Option.some (Go.Addr.mk 1000 0 Option.none))) = (Go.Value.pointer (Option.some (Go.Addr.mk 1000 0 Option.none)))) ∧
 True))))) ∧
 (∃ r2 : Int,
 ((Says witC 0 [(D.val (Go.Value.int Go.IntKind.i64 (1 : Int))), (D.val (Go.Value.int Go.IntKind.i64 (100000 : Int))), (D.val (Go.Value.int Go.IntKind.i64 (2 : Int))), (D.sl 1 1 [(Go.Value.int Go.IntKind.i64 (b))])] [(D.val (Go.Value.int Go.IntKind.i64 (r2)))]) ∧
 (((((Go.Value.slice (Option.some (Go.Addr.mk 1007 0 Option.none)) 2 2) = (Go.Value.slice (Option.some (Go.Addr.mk 1007 0 Option.none)) 2 2)) ∧
 ((Option.some (AObj.cells [(Go.Value.int Go.IntKind.i64 (r1)), (Go.Value.int Go.IntKind.i64 (r2))] 33 false 1)) = (Option.some (AObj.cells [(Go.Value.int Go.IntKind.i64 (r1)), (Go.Value.int Go.IntKind.i64 (r2))] 33 false 1)))) ∧
 (((Go.Value.int Go.IntKind.i64 (b)) = (Go.Value.int Go.IntKind.i64 (b))) ∧
 (((Go.Value.pointer (Option.some (Go.Addr.mk 1000 1 Option.none))) = (Go.Value.pointer (Option.some (Go.Addr.mk 1000 1 Option.none)))) ∧
 (((Go.Value.int Go.IntKind.i64 (a)) = (Go.Value.int Go.IntKind.i64 (a))) ∧
 (((Go.Value.pointer (Option.some (Go.Addr.mk 1000 0 Option.none))) = (Go.Value.pointer (Option.some (Go.Addr.mk 1000 0 Option.none)))) ∧
 True))))) ∧
 (∃ n1 : Int,
 ((Says C 78 [(D.sl 2 1 [(Go.Value.int Go.IntKind.i64 (r1)), (Go.Value.int Go.IntKind.i64 (r2))])] [(D.val (Go.Value.int Go.IntKind.i64 (n1)))]) ∧
 ((((Go.Value.int Go.IntKind.i64 (b)) = (Go.Value.int Go.IntKind.i64 (b))) ∧
 (((Go.Value.pointer (Option.some (Go.Addr.mk 1000 1 Option.none))) = (Go.Value.pointer (Option.some (Go.Addr.mk 1000 1 Option.none)))) ∧
 (((Go.Value.int Go.IntKind.i64 (a)) = (Go.Value.int Go.IntKind.i64 (a))) ∧
 (((Go.Value.pointer (Option.some (Go.Addr.mk 1000 0 Option.none))) = (Go.Value.pointer (Option.some (Go.Addr.mk 1000 0 Option.none)))) ∧
 True)))) ∧
 (True ∧
 (k [(D.val (Go.Value.int Go.IntKind.i64 (n1)))]))))))))))))) := by kernel_rfl
def gMd (C : Ct) (L : AtLoop) (a b : Int) (k : List D → Prop) : Prop := wpFn Tryz.prog (hS C) L 0 24 #[vI a, vI b] (heapOf []) (dataK k)
theorem gMd_text (C : Ct) (L : AtLoop) (a : Int) (b : Int) (k : List D → Prop) : gMd C L a b k =
 (bcase (b != 0)
 (bcase (decide (Int.tmod a b < 0))
 (k [(D.val (Go.Value.int Go.IntKind.i64 (Go.IntKind.wrap Go.IntKind.i64 (Int.tmod a b + b))))])
 (k [(D.val (Go.Value.int Go.IntKind.i64 (Int.tmod a b)))]))
 False) := by kernel_rfl
def gSm (C : Ct) (L : AtLoop) (a b : Int) (k : List D → Prop) : Prop := wpFn Tryz.prog (hS C) L 0 25 #[vB a b] (heapOf []) (dataK k)
theorem gSm_text (C : Ct) (L : AtLoop) (a : Int) (b : Int) (k : List D → Prop) : gSm C L a b k =
 (bcase (decide (b > 0))
 (∃ n1 : Int,
 ((Says C 93 [(D.val (Go.Value.int Go.IntKind.i64 (a))), (D.val (Go.Value.int Go.IntKind.i64 (b)))] [(D.val (Go.Value.int Go.IntKind.i64 (n1)))]) ∧
 (bcase (n1 == 1)
 (((Says C 29 [(D.val (Go.Value.int Go.IntKind.i64 (a))), (D.val (Go.Value.int Go.IntKind.i64 (-(999999999 + 1) : Int))), (D.val (Go.Value.int Go.IntKind.i64 (1000000000 : Int)))] [(D.val (Go.Value.bool true))]) ∧
 (((Says C 29 [(D.val (Go.Value.int Go.IntKind.i64 (b))), (D.val (Go.Value.int Go.IntKind.i64 (1 : Int))), (D.val (Go.Value.int Go.IntKind.i64 (1000000000 : Int)))] [(D.val (Go.Value.bool true))]) ∧
 (k [(D.val (Go.Value.bool true))])) ∨
 ((Says C 29 [(D.val (Go.Value.int Go.IntKind.i64 (b))), (D.val (Go.Value.int Go.IntKind.i64 (1 : Int))), (D.val (Go.Value.int Go.IntKind.i64 (1000000000 : Int)))] [(D.val (Go.Value.bool false))]) ∧
 (k [(D.val (Go.Value.bool false))])))) ∨
 ((Says C 29 [(D.val (Go.Value.int Go.IntKind.i64 (a))), (D.val (Go.Value.int Go.IntKind.i64 (-(999999999 + 1) : Int))), (D.val (Go.Value.int Go.IntKind.i64 (1000000000 : Int)))] [(D.val (Go.Value.bool false))]) ∧
 (k [(D.val (Go.Value.bool false))])))
 (k [(D.val (Go.Value.bool false))]))))
 (k [(D.val (Go.Value.bool false))])) := by kernel_rfl
def gXO (C : Ct) (L : AtLoop) (m q g e : Int) (k : List D → Prop) : Prop := wpFn Tryz.prog (hS C) L 0 13 #[vI m, vI q, vB g e] (heapOf []) (dataK k)
theorem gXO_text (C : Ct) (L : AtLoop) (m : Int) (q : Int) (g : Int) (e : Int) (k : List D → Prop) : gXO C L m q g e k =
 ((((Go.Value.agg [(Go.Value.int Go.IntKind.i64 (g)), (Go.Value.int Go.IntKind.i64 (e))].toArray) = (Go.Value.agg [(Go.Value.int Go.IntKind.i64 (g)), (Go.Value.int Go.IntKind.i64 (e))].toArray)) ∧
 ((((Go.Value.slice (Option.some (Go.Addr.mk 1003 0 Option.none)) 1 1) = (Go.Value.slice (Option.some (Go.Addr.mk 1003 0 Option.none)) 1 1)) ∧
 ((Option.some (AObj.cells [(Go.Value.int Go.IntKind.i64 (q))] 3 false 1)) = (Option.some (AObj.cells [(Go.Value.int Go.IntKind.i64 (q))] 3 false 1)))) ∧
 (((Go.Value.int Go.IntKind.i64 (q)) = (Go.Value.int Go.IntKind.i64 (q))) ∧
 ((((Go.Value.slice (Option.some (Go.Addr.mk 1002 0 Option.none)) 1 1) = (Go.Value.slice (Option.some (Go.Addr.mk 1002 0 Option.none)) 1 1)) ∧
 ((Option.some (AObj.cells [(Go.Value.int Go.IntKind.i64 (m))] 3 false 1)) = (Option.some (AObj.cells [(Go.Value.int Go.IntKind.i64 (m))] 3 false 1)))) ∧
 (((Go.Value.int Go.IntKind.i64 (m)) = (Go.Value.int Go.IntKind.i64 (m))) ∧
 True))))) ∧
 (∃ r1 : Int,
 ((Says witC 0 [(D.val (Go.Value.int Go.IntKind.i64 (1 : Int))), (D.val (Go.Value.int Go.IntKind.i64 (1000 : Int))), (D.val (Go.Value.int Go.IntKind.i64 (2 : Int))), (D.sl 1 1 [(Go.Value.int Go.IntKind.i64 (m))])] [(D.val (Go.Value.int Go.IntKind.i64 (r1)))]) ∧
 ((((Go.Value.agg [(Go.Value.int Go.IntKind.i64 (g)), (Go.Value.int Go.IntKind.i64 (e))].toArray) = (Go.Value.agg [(Go.Value.int Go.IntKind.i64 (g)), (Go.Value.int Go.IntKind.i64 (e))].toArray)) ∧
 ((((Go.Value.slice (Option.some (Go.Addr.mk 1003 0 Option.none)) 1 1) = (Go.Value.slice (Option.some (Go.Addr.mk 1003 0 Option.none)) 1 1)) ∧
 ((Option.some (AObj.cells [(Go.Value.int Go.IntKind.i64 (q))] 3 false 1)) = (Option.some (AObj.cells [(Go.Value.int Go.IntKind.i64 (q))] 3 false 1)))) ∧
 (((Go.Value.int Go.IntKind.i64 (q)) = (Go.Value.int Go.IntKind.i64 (q))) ∧
 (((Go.Value.int Go.IntKind.i64 (m)) = (Go.Value.int Go.IntKind.i64 (m))) ∧
 True)))) ∧
 (∃ r2 : Int,
 ((Says witC 0 [(D.val (Go.Value.int Go.IntKind.i64 (0 : Int))), (D.val (Go.Value.int Go.IntKind.i64 (1000 : Int))), (D.val (Go.Value.int Go.IntKind.i64 (2 : Int))), (D.sl 1 1 [(Go.Value.int Go.IntKind.i64 (q))])] [(D.val (Go.Value.int Go.IntKind.i64 (r2)))]) ∧
 ((((Go.Value.agg [(Go.Value.int Go.IntKind.i64 (g)), (Go.Value.int Go.IntKind.i64 (e))].toArray) = (Go.Value.agg [(Go.Value.int Go.IntKind.i64 (g)), (Go.Value.int Go.IntKind.i64 (e))].toArray)) ∧
 (((Go.Value.int Go.IntKind.i64 (q)) = (Go.Value.int Go.IntKind.i64 (q))) ∧
 (((Go.Value.int Go.IntKind.i64 (m)) = (Go.Value.int Go.IntKind.i64 (m))) ∧
 True))) ∧
 (∃ n1 : Int,
 ((Says C 81 [(D.agg [(D.val (Go.Value.int Go.IntKind.i64 (g))), (D.val (Go.Value.int Go.IntKind.i64 (e)))])] [(D.val (Go.Value.int Go.IntKind.i64 (n1)))]) ∧
 (((((Go.Value.slice (Option.some (Go.Addr.mk 1008 0 Option.none)) 3 3) = (Go.Value.slice (Option.some (Go.Addr.mk 1008 0 Option.none)) 3 3)) ∧
 ((Option.some (AObj.cells [(Go.Value.int Go.IntKind.i64 (r1)), (Go.Value.int Go.IntKind.i64 (r2)), (Go.Value.int Go.IntKind.i64 (n1))] 33 false 1)) = (Option.some (AObj.cells [(Go.Value.int Go.IntKind.i64 (r1)), (Go.Value.int Go.IntKind.i64 (r2)), (Go.Value.int Go.IntKind.i64 (n1))] 33 false 1)))) ∧
 (((Go.Value.int Go.IntKind.i64 (q)) = (Go.Value.int Go.IntKind.i64 (q))) ∧
 (((Go.Value.int Go.IntKind.i64 (m)) = (Go.Value.int Go.IntKind.i64 (m))) ∧
 True))) ∧
 (∃ n2 : Int,
 ((Says C 78 [(D.sl 3 1 [(Go.Value.int Go.IntKind.i64 (r1)), (Go.Value.int Go.IntKind.i64 (r2)), (Go.Value.int Go.IntKind.i64 (n1))])] [(D.val (Go.Value.int Go.IntKind.i64 (n2)))]) ∧
 ((((Go.Value.int Go.IntKind.i64 (q)) = (Go.Value.int Go.IntKind.i64 (q))) ∧
 (((Go.Value.int Go.IntKind.i64 (m)) = (Go.Value.int Go.IntKind.i64 (m))) ∧
 True)) ∧
 (True ∧
 (bcase (n2 != 0)
 (k [(D.agg [(D.val (Go.Value.int Go.IntKind.i64 (0 : Int))), (D.val (Go.Value.int Go.IntKind.i64 (0 : Int)))]), (D.val (Go.Value.int Go.IntKind.i64 (n2)))])
 (∃ n3 : Int,
 (∃ n4 : Int,
 ((Says C 82 [(D.val (Go.Value.int Go.IntKind.i64 (m))), (D.val (Go.Value.int Go.IntKind.i64 (q))), (D.agg [(D.val (Go.Value.int Go.IntKind.i64 (g))), (D.val (Go.Value.int Go.IntKind.i64 (e)))])] [(D.agg [(D.val (Go.Value.int Go.IntKind.i64 (n3))), (D.val (Go.Value.int Go.IntKind.i64 (n4)))])]) ∧
 (k [(D.agg [(D.val (Go.Value.int Go.IntKind.i64 (n3))), (D.val (Go.Value.int Go.IntKind.i64 (n4)))]), (D.val (Go.Value.int Go.IntKind.i64 (0 : Int)))]))))))))))))))))))) := by kernel_rfl
abbrev oG (i : Nat) (n d m e : Int) : Nat × AObj := (i, .cells [vI n, vI d, vI m, vI e] 37 false 4)
def sHu (n cap : Nat) (i : Int) : Slots := [(0, S500 n cap), (2, P1 1000 0), (3, P1 1001 0), (4, vI i)]
def rHu (C : Ct) (L : AtLoop) (n cap : Nat) (l : List Value) (a b c d i : Int) (B : Bx) (X : Xx) (k : List D → Prop) : Prop := wpRound Tryz.prog (hS C) L 89 0 (sHu n cap i) [T500 l, oG 1000 0 0 0 0, oG 1001 a b c d] B X (dataK k)
theorem rHu_text (C : Ct) (L : AtLoop) (n : Nat) (cap : Nat) (l : List Go.Value) (a : Int) (b : Int) (c : Int) (d : Int) (i : Int) (B : Bx) (X : Xx) (k : List D → Prop) : rHu C L n cap l a b c d i B X k =
 (bcase (decide (i < (↑n : Int)))
 (bcase (decide (0 ≤ i))
 (bcase (decide (i < (↑n : Int)))
 (∃ n1 : Int,
 (∃ n2 : Int,
 ((At (l) (0 + Int.toNat i * 2) 2 [(Go.Value.int Go.IntKind.i64 (n1)), (Go.Value.int Go.IntKind.i64 (n2))]) ∧
 ((((Go.Value.agg [(Go.Value.int Go.IntKind.i64 (a)), (Go.Value.int Go.IntKind.i64 (b))].toArray) = (Go.Value.agg [(Go.Value.int Go.IntKind.i64 (a)), (Go.Value.int Go.IntKind.i64 (b))].toArray)) ∧
 (((Go.Value.pointer (Option.some (Go.Addr.mk 1001 0 Option.none))) = (Go.Value.pointer (Option.some (Go.Addr.mk 1001 0 Option.none)))) ∧
 ((∃ n3 : Int,
 (∃ n4 : Int,
 ((At (l) (0 + Int.toNat i * 2) 2 [(Go.Value.int Go.IntKind.i64 (n3)), (Go.Value.int Go.IntKind.i64 (n4))]) ∧
 ((Go.Value.agg [(Go.Value.int Go.IntKind.i64 (n3)), (Go.Value.int Go.IntKind.i64 (n4))].toArray) = (Go.Value.agg [(Go.Value.int Go.IntKind.i64 (n1)), (Go.Value.int Go.IntKind.i64 (n2))].toArray))))) ∧
 ((bcase (decide (0 ≤ i))
 (bcase (decide (i < (↑n : Int)))
 ((Go.Value.pointer (Option.some (Go.Addr.mk 500 (0 + Int.toNat i * 2) Option.none))) = (Go.Value.pointer (Option.some (Go.Addr.mk 500 (0 + Int.toNat i * 2) Option.none))))
 False)
 False) ∧
 (((Go.Value.int Go.IntKind.i64 (i)) = (Go.Value.int Go.IntKind.i64 (i))) ∧
 (((Go.Value.slice (Option.some (Go.Addr.mk 500 0 Option.none)) (n) (cap)) = (Go.Value.slice (Option.some (Go.Addr.mk 500 0 Option.none)) (n) (cap))) ∧
 True)))))) ∧
 (∃ n3 : Int,
 ((Says C 26 [(D.agg [(D.val (Go.Value.int Go.IntKind.i64 (n1))), (D.val (Go.Value.int Go.IntKind.i64 (n2)))]), (D.agg [(D.val (Go.Value.int Go.IntKind.i64 (a))), (D.val (Go.Value.int Go.IntKind.i64 (b)))])] [(D.val (Go.Value.int Go.IntKind.i64 (n3)))]) ∧
 (bcase (decide (n3 < 0))
 (((bcase (decide (n3 < 0))
 ((Go.Value.bool true) = (Go.Value.bool true))
 ((Go.Value.bool false) = (Go.Value.bool true))) ∧
 (((Go.Value.pointer (Option.some (Go.Addr.mk 1001 0 Option.none))) = (Go.Value.pointer (Option.some (Go.Addr.mk 1001 0 Option.none)))) ∧
 ((bcase (decide (0 ≤ i))
 (bcase (decide (i < (↑n : Int)))
 ((Go.Value.pointer (Option.some (Go.Addr.mk 500 (0 + Int.toNat i * 2) Option.none))) = (Go.Value.pointer (Option.some (Go.Addr.mk 500 (0 + Int.toNat i * 2) Option.none))))
 False)
 False) ∧
 (((Go.Value.int Go.IntKind.i64 (i)) = (Go.Value.int Go.IntKind.i64 (i))) ∧
 (((Go.Value.slice (Option.some (Go.Addr.mk 500 0 Option.none)) (n) (cap)) = (Go.Value.slice (Option.some (Go.Addr.mk 500 0 Option.none)) (n) (cap))) ∧
 True))))) ∧
 (bcase (decide (0 ≤ i))
 (bcase (decide (i < (↑n : Int)))
 (∃ n4 : Int,
 (∃ n5 : Int,
 ((At (l) (0 + Int.toNat i * 2) 2 [(Go.Value.int Go.IntKind.i64 (n4)), (Go.Value.int Go.IntKind.i64 (n5))]) ∧
 (bcase (decide (0 ≤ i))
 (bcase (decide (i < (↑n : Int)))
 (∃ n6 : Int,
 (∃ n7 : Int,
 ((At (l) (0 + Int.toNat i * 2) 2 [(Go.Value.int Go.IntKind.i64 (n6)), (Go.Value.int Go.IntKind.i64 (n7))]) ∧
 ((((Go.Value.agg [(Go.Value.int Go.IntKind.i64 (c)), (Go.Value.int Go.IntKind.i64 (d))].toArray) = (Go.Value.agg [(Go.Value.int Go.IntKind.i64 (c)), (Go.Value.int Go.IntKind.i64 (d))].toArray)) ∧
 (((Go.Value.pointer (Option.some (Go.Addr.mk 1001 2 Option.none))) = (Go.Value.pointer (Option.some (Go.Addr.mk 1001 2 Option.none)))) ∧
 ((∃ n8 : Int,
 (∃ n9 : Int,
 ((At (l) (0 + Int.toNat i * 2) 2 [(Go.Value.int Go.IntKind.i64 (n8)), (Go.Value.int Go.IntKind.i64 (n9))]) ∧
 ((Go.Value.agg [(Go.Value.int Go.IntKind.i64 (n8)), (Go.Value.int Go.IntKind.i64 (n9))].toArray) = (Go.Value.agg [(Go.Value.int Go.IntKind.i64 (n6)), (Go.Value.int Go.IntKind.i64 (n7))].toArray))))) ∧
 ((bcase (decide (0 ≤ i))
 (bcase (decide (i < (↑n : Int)))
 ((Go.Value.pointer (Option.some (Go.Addr.mk 500 (0 + Int.toNat i * 2) Option.none))) = (Go.Value.pointer (Option.some (Go.Addr.mk 500 (0 + Int.toNat i * 2) Option.none))))
 False)
 False) ∧
 (((Go.Value.int Go.IntKind.i64 (i)) = (Go.Value.int Go.IntKind.i64 (i))) ∧
 (((Go.Value.slice (Option.some (Go.Addr.mk 500 0 Option.none)) (n) (cap)) = (Go.Value.slice (Option.some (Go.Addr.mk 500 0 Option.none)) (n) (cap))) ∧
 True)))))) ∧
 (∃ n8 : Int,
 ((Says C 26 [(D.agg [(D.val (Go.Value.int Go.IntKind.i64 (n6))), (D.val (Go.Value.int Go.IntKind.i64 (n7)))]), (D.agg [(D.val (Go.Value.int Go.IntKind.i64 (c))), (D.val (Go.Value.int Go.IntKind.i64 (d)))])] [(D.val (Go.Value.int Go.IntKind.i64 (n8)))]) ∧
 (bcase (decide (n8 > 0))
 (((bcase (decide (n8 > 0))
 ((Go.Value.bool true) = (Go.Value.bool true))
 ((Go.Value.bool false) = (Go.Value.bool true))) ∧
 (((Go.Value.pointer (Option.some (Go.Addr.mk 1001 2 Option.none))) = (Go.Value.pointer (Option.some (Go.Addr.mk 1001 2 Option.none)))) ∧
 ((bcase (decide (0 ≤ i))
 (bcase (decide (i < (↑n : Int)))
 ((Go.Value.pointer (Option.some (Go.Addr.mk 500 (0 + Int.toNat i * 2) Option.none))) = (Go.Value.pointer (Option.some (Go.Addr.mk 500 (0 + Int.toNat i * 2) Option.none))))
 False)
 False) ∧
 (((Go.Value.int Go.IntKind.i64 (i)) = (Go.Value.int Go.IntKind.i64 (i))) ∧
 (((Go.Value.slice (Option.some (Go.Addr.mk 500 0 Option.none)) (n) (cap)) = (Go.Value.slice (Option.some (Go.Addr.mk 500 0 Option.none)) (n) (cap))) ∧
 True))))) ∧
 (bcase (decide (0 ≤ i))
 (bcase (decide (i < (↑n : Int)))
 (∃ n9 : Int,
 (∃ n10 : Int,
 ((At (l) (0 + Int.toNat i * 2) 2 [(Go.Value.int Go.IntKind.i64 (n9)), (Go.Value.int Go.IntKind.i64 (n10))]) ∧
 (B [(Prod.mk 0 (Go.Value.slice (Option.some (Go.Addr.mk 500 0 Option.none)) (n) (cap))), (Prod.mk 2 (Go.Value.pointer (Option.some (Go.Addr.mk 1000 0 Option.none)))), (Prod.mk 3 (Go.Value.pointer (Option.some (Go.Addr.mk 1001 0 Option.none)))), (Prod.mk 4 (Go.Value.int Go.IntKind.i64 (Go.IntKind.wrap Go.IntKind.i64 (i + 1))))] [(Prod.mk 500 (AObj.sym (l) false 2)), (Prod.mk 1000 (AObj.cells [(Go.Value.int Go.IntKind.i64 (0 : Int)), (Go.Value.int Go.IntKind.i64 (0 : Int)), (Go.Value.int Go.IntKind.i64 (0 : Int)), (Go.Value.int Go.IntKind.i64 (0 : Int))] 37 false 4)), (Prod.mk 1001 (AObj.cells [(Go.Value.int Go.IntKind.i64 (n4)), (Go.Value.int Go.IntKind.i64 (n5)), (Go.Value.int Go.IntKind.i64 (n9)), (Go.Value.int Go.IntKind.i64 (n10))] 37 false 4))]))))
 False)
 False))
 (((bcase (decide (n8 > 0))
 ((Go.Value.bool true) = (Go.Value.bool false))
 ((Go.Value.bool false) = (Go.Value.bool false))) ∧
 (((Go.Value.pointer (Option.some (Go.Addr.mk 1001 2 Option.none))) = (Go.Value.pointer (Option.some (Go.Addr.mk 1001 2 Option.none)))) ∧
 ((bcase (decide (0 ≤ i))
 (bcase (decide (i < (↑n : Int)))
 ((Go.Value.pointer (Option.some (Go.Addr.mk 500 (0 + Int.toNat i * 2) Option.none))) = (Go.Value.pointer (Option.some (Go.Addr.mk 500 (0 + Int.toNat i * 2) Option.none))))
 False)
 False) ∧
 (((Go.Value.int Go.IntKind.i64 (i)) = (Go.Value.int Go.IntKind.i64 (i))) ∧
 (((Go.Value.slice (Option.some (Go.Addr.mk 500 0 Option.none)) (n) (cap)) = (Go.Value.slice (Option.some (Go.Addr.mk 500 0 Option.none)) (n) (cap))) ∧
 True))))) ∧
 (B [(Prod.mk 0 (Go.Value.slice (Option.some (Go.Addr.mk 500 0 Option.none)) (n) (cap))), (Prod.mk 2 (Go.Value.pointer (Option.some (Go.Addr.mk 1000 0 Option.none)))), (Prod.mk 3 (Go.Value.pointer (Option.some (Go.Addr.mk 1001 0 Option.none)))), (Prod.mk 4 (Go.Value.int Go.IntKind.i64 (Go.IntKind.wrap Go.IntKind.i64 (i + 1))))] [(Prod.mk 500 (AObj.sym (l) false 2)), (Prod.mk 1000 (AObj.cells [(Go.Value.int Go.IntKind.i64 (0 : Int)), (Go.Value.int Go.IntKind.i64 (0 : Int)), (Go.Value.int Go.IntKind.i64 (0 : Int)), (Go.Value.int Go.IntKind.i64 (0 : Int))] 37 false 4)), (Prod.mk 1001 (AObj.cells [(Go.Value.int Go.IntKind.i64 (n4)), (Go.Value.int Go.IntKind.i64 (n5)), (Go.Value.int Go.IntKind.i64 (c)), (Go.Value.int Go.IntKind.i64 (d))] 37 false 4))])))))))))
 False)
 False))))
 False)
 False))
 (((bcase (decide (n3 < 0))
 ((Go.Value.bool true) = (Go.Value.bool false))
 ((Go.Value.bool false) = (Go.Value.bool false))) ∧
 (((Go.Value.pointer (Option.some (Go.Addr.mk 1001 0 Option.none))) = (Go.Value.pointer (Option.some (Go.Addr.mk 1001 0 Option.none)))) ∧
 ((bcase (decide (0 ≤ i))
 (bcase (decide (i < (↑n : Int)))
 ((Go.Value.pointer (Option.some (Go.Addr.mk 500 (0 + Int.toNat i * 2) Option.none))) = (Go.Value.pointer (Option.some (Go.Addr.mk 500 (0 + Int.toNat i * 2) Option.none))))
 False)
 False) ∧
 (((Go.Value.int Go.IntKind.i64 (i)) = (Go.Value.int Go.IntKind.i64 (i))) ∧
 (((Go.Value.slice (Option.some (Go.Addr.mk 500 0 Option.none)) (n) (cap)) = (Go.Value.slice (Option.some (Go.Addr.mk 500 0 Option.none)) (n) (cap))) ∧
 True))))) ∧
 (bcase (decide (0 ≤ i))
 (bcase (decide (i < (↑n : Int)))
 (∃ n4 : Int,
 (∃ n5 : Int,
 ((At (l) (0 + Int.toNat i * 2) 2 [(Go.Value.int Go.IntKind.i64 (n4)), (Go.Value.int Go.IntKind.i64 (n5))]) ∧
 ((((Go.Value.agg [(Go.Value.int Go.IntKind.i64 (c)), (Go.Value.int Go.IntKind.i64 (d))].toArray) = (Go.Value.agg [(Go.Value.int Go.IntKind.i64 (c)), (Go.Value.int Go.IntKind.i64 (d))].toArray)) ∧
 (((Go.Value.pointer (Option.some (Go.Addr.mk 1001 2 Option.none))) = (Go.Value.pointer (Option.some (Go.Addr.mk 1001 2 Option.none)))) ∧
 ((∃ n6 : Int,
 (∃ n7 : Int,
 ((At (l) (0 + Int.toNat i * 2) 2 [(Go.Value.int Go.IntKind.i64 (n6)), (Go.Value.int Go.IntKind.i64 (n7))]) ∧
 ((Go.Value.agg [(Go.Value.int Go.IntKind.i64 (n6)), (Go.Value.int Go.IntKind.i64 (n7))].toArray) = (Go.Value.agg [(Go.Value.int Go.IntKind.i64 (n4)), (Go.Value.int Go.IntKind.i64 (n5))].toArray))))) ∧
 ((bcase (decide (0 ≤ i))
 (bcase (decide (i < (↑n : Int)))
 ((Go.Value.pointer (Option.some (Go.Addr.mk 500 (0 + Int.toNat i * 2) Option.none))) = (Go.Value.pointer (Option.some (Go.Addr.mk 500 (0 + Int.toNat i * 2) Option.none))))
 False)
 False) ∧
 (((Go.Value.int Go.IntKind.i64 (i)) = (Go.Value.int Go.IntKind.i64 (i))) ∧
 (((Go.Value.slice (Option.some (Go.Addr.mk 500 0 Option.none)) (n) (cap)) = (Go.Value.slice (Option.some (Go.Addr.mk 500 0 Option.none)) (n) (cap))) ∧
 True)))))) ∧
 (∃ n6 : Int,
 ((Says C 26 [(D.agg [(D.val (Go.Value.int Go.IntKind.i64 (n4))), (D.val (Go.Value.int Go.IntKind.i64 (n5)))]), (D.agg [(D.val (Go.Value.int Go.IntKind.i64 (c))), (D.val (Go.Value.int Go.IntKind.i64 (d)))])] [(D.val (Go.Value.int Go.IntKind.i64 (n6)))]) ∧
 (bcase (decide (n6 > 0))
 (((bcase (decide (n6 > 0))
 ((Go.Value.bool true) = (Go.Value.bool true))
 ((Go.Value.bool false) = (Go.Value.bool true))) ∧
 (((Go.Value.pointer (Option.some (Go.Addr.mk 1001 2 Option.none))) = (Go.Value.pointer (Option.some (Go.Addr.mk 1001 2 Option.none)))) ∧
 ((bcase (decide (0 ≤ i))
 (bcase (decide (i < (↑n : Int)))
 ((Go.Value.pointer (Option.some (Go.Addr.mk 500 (0 + Int.toNat i * 2) Option.none))) = (Go.Value.pointer (Option.some (Go.Addr.mk 500 (0 + Int.toNat i * 2) Option.none))))
 False)
 False) ∧
 (((Go.Value.int Go.IntKind.i64 (i)) = (Go.Value.int Go.IntKind.i64 (i))) ∧
 (((Go.Value.slice (Option.some (Go.Addr.mk 500 0 Option.none)) (n) (cap)) = (Go.Value.slice (Option.some (Go.Addr.mk 500 0 Option.none)) (n) (cap))) ∧
 True))))) ∧
 (bcase (decide (0 ≤ i))
 (bcase (decide (i < (↑n : Int)))
 (∃ n7 : Int,
 (∃ n8 : Int,
 ((At (l) (0 + Int.toNat i * 2) 2 [(Go.Value.int Go.IntKind.i64 (n7)), (Go.Value.int Go.IntKind.i64 (n8))]) ∧
 (B [(Prod.mk 0 (Go.Value.slice (Option.some (Go.Addr.mk 500 0 Option.none)) (n) (cap))), (Prod.mk 2 (Go.Value.pointer (Option.some (Go.Addr.mk 1000 0 Option.none)))), (Prod.mk 3 (Go.Value.pointer (Option.some (Go.Addr.mk 1001 0 Option.none)))), (Prod.mk 4 (Go.Value.int Go.IntKind.i64 (Go.IntKind.wrap Go.IntKind.i64 (i + 1))))] [(Prod.mk 500 (AObj.sym (l) false 2)), (Prod.mk 1000 (AObj.cells [(Go.Value.int Go.IntKind.i64 (0 : Int)), (Go.Value.int Go.IntKind.i64 (0 : Int)), (Go.Value.int Go.IntKind.i64 (0 : Int)), (Go.Value.int Go.IntKind.i64 (0 : Int))] 37 false 4)), (Prod.mk 1001 (AObj.cells [(Go.Value.int Go.IntKind.i64 (a)), (Go.Value.int Go.IntKind.i64 (b)), (Go.Value.int Go.IntKind.i64 (n7)), (Go.Value.int Go.IntKind.i64 (n8))] 37 false 4))]))))
 False)
 False))
 (((bcase (decide (n6 > 0))
 ((Go.Value.bool true) = (Go.Value.bool false))
 ((Go.Value.bool false) = (Go.Value.bool false))) ∧
 (((Go.Value.pointer (Option.some (Go.Addr.mk 1001 2 Option.none))) = (Go.Value.pointer (Option.some (Go.Addr.mk 1001 2 Option.none)))) ∧
 ((bcase (decide (0 ≤ i))
 (bcase (decide (i < (↑n : Int)))
 ((Go.Value.pointer (Option.some (Go.Addr.mk 500 (0 + Int.toNat i * 2) Option.none))) = (Go.Value.pointer (Option.some (Go.Addr.mk 500 (0 + Int.toNat i * 2) Option.none))))
 False)
 False) ∧
 (((Go.Value.int Go.IntKind.i64 (i)) = (Go.Value.int Go.IntKind.i64 (i))) ∧
 (((Go.Value.slice (Option.some (Go.Addr.mk 500 0 Option.none)) (n) (cap)) = (Go.Value.slice (Option.some (Go.Addr.mk 500 0 Option.none)) (n) (cap))) ∧
 True))))) ∧
 (B [(Prod.mk 0 (Go.Value.slice (Option.some (Go.Addr.mk 500 0 Option.none)) (n) (cap))), (Prod.mk 2 (Go.Value.pointer (Option.some (Go.Addr.mk 1000 0 Option.none)))), (Prod.mk 3 (Go.Value.pointer (Option.some (Go.Addr.mk 1001 0 Option.none)))), (Prod.mk 4 (Go.Value.int Go.IntKind.i64 (Go.IntKind.wrap Go.IntKind.i64 (i + 1))))] [(Prod.mk 500 (AObj.sym (l) false 2)), (Prod.mk 1000 (AObj.cells [(Go.Value.int Go.IntKind.i64 (0 : Int)), (Go.Value.int Go.IntKind.i64 (0 : Int)), (Go.Value.int Go.IntKind.i64 (0 : Int)), (Go.Value.int Go.IntKind.i64 (0 : Int))] 37 false 4)), (Prod.mk 1001 (AObj.cells [(Go.Value.int Go.IntKind.i64 (a)), (Go.Value.int Go.IntKind.i64 (b)), (Go.Value.int Go.IntKind.i64 (c)), (Go.Value.int Go.IntKind.i64 (d))] 37 false 4))])))))))))
 False)
 False)))))))))
 False)
 False)
 (X 0 [(Prod.mk 2 (Go.Value.pointer (Option.some (Go.Addr.mk 1000 0 Option.none)))), (Prod.mk 3 (Go.Value.pointer (Option.some (Go.Addr.mk 1001 0 Option.none))))] [(Prod.mk 1000 (AObj.cells [(Go.Value.int Go.IntKind.i64 (0 : Int)), (Go.Value.int Go.IntKind.i64 (0 : Int)), (Go.Value.int Go.IntKind.i64 (0 : Int)), (Go.Value.int Go.IntKind.i64 (0 : Int))] 37 false 4)), (Prod.mk 1001 (AObj.cells [(Go.Value.int Go.IntKind.i64 (a)), (Go.Value.int Go.IntKind.i64 (b)), (Go.Value.int Go.IntKind.i64 (c)), (Go.Value.int Go.IntKind.i64 (d))] 37 false 4))])) := by kernel_rfl
def nHu (C : Ct) (L : AtLoop) (a b c d : Int) (k : List D → Prop) : Prop := wpNext Tryz.prog (hS C) L 89 0 .normal [(2, P1 1000 0), (3, P1 1001 0)] [oG 1000 0 0 0 0, oG 1001 a b c d] (dataK k)
theorem nHu_text (C : Ct) (L : AtLoop) (a : Int) (b : Int) (c : Int) (d : Int) (k : List D → Prop) : nHu C L a b c d k =
 (k [(D.agg [(D.val (Go.Value.int Go.IntKind.i64 (a))), (D.val (Go.Value.int Go.IntKind.i64 (b))), (D.val (Go.Value.int Go.IntKind.i64 (c))), (D.val (Go.Value.int Go.IntKind.i64 (d)))])]) := by kernel_rfl
def rGc (C : Ct) (L : AtLoop) (n d : Int) (B : Bx) (X : Xx) (k : List D → Prop) : Prop := wpRound Tryz.prog (hS C) L 93 0 [(0, vI n), (1, vI d)] [] B X (dataK k)
theorem rGc_text (C : Ct) (L : AtLoop) (n : Int) (d : Int) (B : Bx) (X : Xx) (k : List D → Prop) : rGc C L n d B X k =
 (bcase (d != 0)
 (bcase (d != 0)
 (((bcase (d != 0)
 ((Go.Value.int Go.IntKind.i64 (Int.tmod n d)) = (Go.Value.int Go.IntKind.i64 (Int.tmod n d)))
 False) ∧
 (((Go.Value.int Go.IntKind.i64 (d)) = (Go.Value.int Go.IntKind.i64 (d))) ∧
 (((Go.Value.int Go.IntKind.i64 (n)) = (Go.Value.int Go.IntKind.i64 (n))) ∧
 (((Go.Value.int Go.IntKind.i64 (d)) = (Go.Value.int Go.IntKind.i64 (d))) ∧
 True)))) ∧
 (((bcase (d != 0)
 ((Go.Value.int Go.IntKind.i64 (Int.tmod n d)) = (Go.Value.int Go.IntKind.i64 (Int.tmod n d)))
 False) ∧
 (((Go.Value.int Go.IntKind.i64 (d)) = (Go.Value.int Go.IntKind.i64 (d))) ∧
 True)) ∧
 (True ∧
 (B [(Prod.mk 0 (Go.Value.int Go.IntKind.i64 (d))), (Prod.mk 1 (Go.Value.int Go.IntKind.i64 (Int.tmod n d)))] []))))
 False)
 (X 0 [(Prod.mk 0 (Go.Value.int Go.IntKind.i64 (n)))] [])) := by kernel_rfl
def nGc (C : Ct) (L : AtLoop) (n : Int) (k : List D → Prop) : Prop := wpNext Tryz.prog (hS C) L 93 0 .normal [(0, vI n)] [] (dataK k)
theorem nGc_text (C : Ct) (L : AtLoop) (n : Int) (k : List D → Prop) : nGc C L n k =
 (k [(D.val (Go.Value.int Go.IntKind.i64 (if Go.IntKind.wrap Go.IntKind.i64 (0 - n) > n then Go.IntKind.wrap Go.IntKind.i64 (0 - n) else n)))]) := by kernel_rfl
end Go.Proofs.G5z
